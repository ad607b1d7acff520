import Derived.Test.YtmlkhhhjdpbhfaaGreatDoorPa47
namespace Go.Proofs.YtmlkhhhjdpbhfaaGreatDoor
open Go.RowKit
theorem blk_new' {w : World} {b : Nat} (h : w.heap.size = b) (cs : Array Value) (t : TypeId) : Blk (w.alloc (.cells cs t)) b cs t := by subst h; exact Blk.new w cs t
def ag (bs : ByteArray) (a b : Nat) : Value := .agg #[.int .i64 0, .int .i64 bs.size, .slice (some ⟨a, 0, none⟩) bs.size bs.size, .slice (some ⟨b, 0, none⟩) 8 8, .int .i64 0]
structure PRd (W : World) (gb fb b2 : Nat) : Prop where
 g1 : W.cell? ⟨gb, 1, none⟩ = some (.slice (some ⟨fb, 0, none⟩) 8 8)
 f : W.cell? ⟨fb, 0, none⟩ = some (.int .i64 b2)
structure PAt (c : Rx) (w : World) (o : PO) (vb : Nat) (st' : PS) (rb' db' fu' fa' : Nat) (t' : List UInt8) (wc : World) : Prop where
 bel : Below w.heap.size w wc
 pg : PgAt wc c.pb c.gb c.bs fu' c.N fa' o.e
 vk : Blk wc vb (rsC st' rb' c.bs.size db') 140
 fe : o.e = 0 → fu' = o.fuel ∧ fa' = o.far
 ok : o.ok = true → st' = o.st ∧ t' = o.t ∧ StAt c wc o.st rb' db'
theorem st0_inv (bs : ByteArray) (N : Nat) : PInv bs N (st0 bs) := ⟨Nat.zero_le _, Nat.le_refl _, by simp [st0], Nat.zero_le _, fun d => ⟨by simp [st0], by simp [st0]⟩⟩
theorem below_fr {c : Rx} {w W w5 : World} (hpb : c.pb = w.heap.size) (hb : Below w.heap.size w W) (hf : Fr W.heap.size c.pb W w5) : Below w.heap.size w w5 :=
 hb.trans ⟨hf.os, hf.tape, hf.output, hf.size, fun k hk => hf.block k (by have := hb.size; omega) (by omega)⟩
theorem pat_a {c : Rx} {w W w5 : World} {o : PO} {e : Ending} (hpb : c.pb = w.heap.size) (hb : Below w.heap.size w W) {vb : Nat} (hz : Blk W vb zero5 140) (hv : w.heap.size < vb) (h : RPost c W o e w5) :
 ∃ (st' : PS) (rb' db' fu' fa' : Nat) (t' : List UInt8), e = rsR st' rb' c.bs.size db' t' o.ok ∧ Below w.heap.size w w5 ∧ Blk w5 vb zero5 140 ∧ PAt c w o vb st' rb' db' fu' fa' t' (st5 w5 vb (.int .i64 st'.pl) (.int .i64 st'.en) (.slice (some ⟨rb', 0, none⟩) c.bs.size c.bs.size) (.slice (some ⟨db', 0, none⟩) 8 8) (.int .i64 st'.vals)) ∧ Below w.heap.size w (st5 w5 vb (.int .i64 st'.pl) (.int .i64 st'.en) (.slice (some ⟨rb', 0, none⟩) c.bs.size c.bs.size) (.slice (some ⟨db', 0, none⟩) 8 8) (.int .i64 st'.vals)) := by
 obtain ⟨hf, st', rb', db', fu', fa', t', rfl, hp, hfe, hok⟩ := h
 have hb5 := below_fr hpb hb hf
 have hz5 := hf.blk hz hz.lt (by omega)
 have hb6 : Below w.heap.size w (st5 w5 vb (.int .i64 st'.pl) (.int .i64 st'.en) (.slice (some ⟨rb', 0, none⟩) c.bs.size c.bs.size) (.slice (some ⟨db', 0, none⟩) 8 8) (.int .i64 st'.vals)) := below_set5 hb5 (by omega) _ _ _ _ _
 refine ⟨st', rb', db', fu', fa', t', rfl, hb5, hz5, ⟨hb6, Blk.other5 hp (by omega) _ _ _ _ _, Blk.set5 hz5 _ _ _ _ _, hfe, fun h => ?_⟩, hb6⟩
 obtain ⟨e1, e2, hs⟩ := hok h
 exact ⟨e1, e2, hs.set5 hz5 _ _ _ _ _⟩
theorem pat_b {c : Rx} {w W w5 : World} {o : PO} {e : Ending} (hpb : c.pb = w.heap.size) (hb : Below w.heap.size w W) (hlt : w.heap.size < W.heap.size) (h : RPost c W o e w5) :
 ∃ (st' : PS) (rb' db' fu' fa' : Nat) (t' : List UInt8), e = rsR st' rb' c.bs.size db' t' o.ok ∧ Below w.heap.size w w5 ∧ Below w.heap.size w (w5.alloc (.cells zero5 140)) ∧ PAt c w o w5.heap.size st' rb' db' fu' fa' t' (st5 (w5.alloc (.cells zero5 140)) w5.heap.size (.int .i64 st'.pl) (.int .i64 st'.en) (.slice (some ⟨rb', 0, none⟩) c.bs.size c.bs.size) (.slice (some ⟨db', 0, none⟩) 8 8) (.int .i64 st'.vals)) ∧ Below w.heap.size w (st5 (w5.alloc (.cells zero5 140)) w5.heap.size (.int .i64 st'.pl) (.int .i64 st'.en) (.slice (some ⟨rb', 0, none⟩) c.bs.size c.bs.size) (.slice (some ⟨db', 0, none⟩) 8 8) (.int .i64 st'.vals)) := by
 obtain ⟨hf, st', rb', db', fu', fa', t', rfl, hp, hfe, hok⟩ := h
 have hb5 := below_fr hpb hb hf
 have hs5 := hf.size
 have hbA : Below w.heap.size w (w5.alloc (.cells zero5 140)) := hb5.alloc (by omega) _
 have hz5 := Blk.new w5 zero5 140
 have hb6 : Below w.heap.size w (st5 (w5.alloc (.cells zero5 140)) w5.heap.size (.int .i64 st'.pl) (.int .i64 st'.en) (.slice (some ⟨rb', 0, none⟩) c.bs.size c.bs.size) (.slice (some ⟨db', 0, none⟩) 8 8) (.int .i64 st'.vals)) := below_set5 hbA (by omega) _ _ _ _ _
 refine ⟨st', rb', db', fu', fa', t', rfl, hb5, hbA, ⟨hb6, Blk.other5 (Blk.alloc hp _) (by omega) _ _ _ _ _, Blk.set5 hz5 _ _ _ _ _, hfe, fun h => ?_⟩, hb6⟩
 obtain ⟨e1, e2, hs⟩ := hok h
 exact ⟨e1, e2, (hs.below ((Below.refl _ _).alloc (Nat.le_refl _) _)).set5 hz5 _ _ _ _ _⟩
set_option maxRecDepth 100000 in
set_option maxHeartbeats 4000000 in
theorem rparse_calls (w : World) (gb g cap fb : Nat) (tw : Value) (its : List It) (fl : List Int) (bs : ByteArray) (fuel N : Nat) (G : Nat → List It) (R : Nat → Bool) (hc : RxOk ⟨w, gb, g, cap, fb, w.heap.size, tw, its, fl, bs, N, G, R⟩) (h0 : R 0 = true) (hfu : fuel ≤ 100000) :
 Calls Tryz.prog 32 #[.pointer (some ⟨gb, 0, none⟩), .string bs, .int .i64 fuel, .int .i64 N] w fun e w' => e = .returned (.tuple #[.string ⟨(endT (tryT G bs N (fuel + 1) fuel 0 false (G 0) (st0 bs))).1.toArray⟩, .int .i64 ((endT (tryT G bs N (fuel + 1) fuel 0 false (G 0) (st0 bs))).2.1 : Int), .int .i64 ((endT (tryT G bs N (fuel + 1) fuel 0 false (G 0) (st0 bs))).2.2 : Int)]) ∧ Below w.heap.size w w' := by
 have hbs : bs.size ≤ 4000 := hc.bs
 have hN : N ≤ 10000 := hc.N
 obtain ⟨_, b2, hb2, hat, f2, htr⟩ := hc.rule 0 h0
 have hgl : gb < w.heap.size := hc.grm.blk.lt
 have hfl : fb < w.heap.size := hc.fst.lt
 have HRd : Hid (∀ W, Below w.heap.size w W → PRd W gb fb b2) := fun W hb => ⟨(hc.grm.blk.below hb hgl).cell 1, by
  have h := (hc.fst.below hb hfl).cell 0
  have h8 : fl.length = 8 := hc.fl
  rw [h]
  simp only at hb2
  simp [intsI, ← hb2, List.getD, show 0 < fl.length by omega]⟩
 have HCall : Hid (∀ W rb0 db0, RPre ⟨w, gb, g, cap, fb, w.heap.size, tw, its, fl, bs, N, G, R⟩ W (st0 bs) rb0 db0 fuel 0 → Calls Tryz.prog 56 #[.pointer (some ⟨w.heap.size, 0, none⟩), .int .i64 b2, .agg #[.int .i64 0, .int .i64 bs.size, .slice (some ⟨rb0, 0, none⟩) bs.size bs.size, .slice (some ⟨db0, 0, none⟩) 8 8, .int .i64 0], .bool false] W fun e w' => RPost ⟨w, gb, g, cap, fb, w.heap.size, tw, its, fl, bs, N, G, R⟩ W (tryT G bs N (fuel + 1) fuel 0 false (G 0) (st0 bs)) e w') := fun W rb0 db0 h => rtry_all _ hc (fuel + 1) W (st0 bs) rb0 db0 fuel 0 (G 0) b2 f2 false false false h hat htr (hc.trw 0 h0) hfu (by omega)
 have HOk : Hid ((tryT G bs N (fuel + 1) fuel 0 false (G 0) (st0 bs)).ok = true → Keeps bs N (st0 bs) (hidV (G 0)) (tryT G bs N (fuel + 1) fuel 0 false (G 0) (st0 bs)) ∧ (tryT G bs N (fuel + 1) fuel 0 false (G 0) (st0 bs)).e = 0) := fun hok => (tryT_ok (R := R) G hc.trw (fuel + 1)).fit fuel 0 false false false (G 0) _ (hc.trw 0 h0) (st0_inv bs N) hok
 have HDeadE : Hid ((tryT G bs N (fuel + 1) fuel 0 false (G 0) (st0 bs)).e = 0 → (tryT G bs N (fuel + 1) fuel 0 false (G 0) (st0 bs)).e = 0) := fun h => h
 generalize tryT G bs N (fuel + 1) fuel 0 false (G 0) (st0 bs) = o at *
 have hmk1 := mk_read bs.size hbs
 have HRep : Hid (rdC (st0 bs).rd = Array.replicate bs.size (.bool false)) := by
  have : rdC (st0 bs).rd = Array.replicate bs.size (.bool false) := by simp [rdC, st0]
  exact this
 have hmk2 := mk_deps
 have HCx := hide' hc
 clear hc hat htr HDeadE hb2
 go_enter Tryz.func32, Tryz.ntmps32
 go_wp2_with fail
 have HP1 : Hid (PgAt (w.alloc (.cells #[.pointer (some ⟨gb, 0, none⟩), .string bs, .int .i64 fuel, .int .i64 N, .int .i64 0, .int .i64 0] 136)) w.heap.size gb bs fuel N 0 0) := Blk.new w _ _
 have HB1 : Hid (Below w.heap.size w (w.alloc (.cells #[.pointer (some ⟨gb, 0, none⟩), .string bs, .int .i64 fuel, .int .i64 N, .int .i64 0, .int .i64 0] 136))) := (Below.refl _ _).alloc (Nat.le_refl _) _
 have hs1 : (w.alloc (.cells #[.pointer (some ⟨gb, 0, none⟩), .string bs, .int .i64 fuel, .int .i64 N, .int .i64 0, .int .i64 0] 136)).heap.size = w.heap.size + 1 := by simp
 generalize w.alloc (.cells #[.pointer (some ⟨gb, 0, none⟩), .string bs, .int .i64 fuel, .int .i64 N, .int .i64 0, .int .i64 0] 136) = W1 at *
 go_cut [12, 13, 14] (fun v12 v13 v14 wc => ∃ (vb : Nat) (st' : PS) (rb' db' fu' fa' : Nat) (t' : List UInt8), v12 = .pointer (some ⟨vb, 0, none⟩) ∧ v13 = .string ⟨t'.toArray⟩ ∧ v14 = .bool o.ok ∧ Hid (PAt ⟨w, gb, g, cap, fb, w.heap.size, tw, its, fl, bs, N, G, R⟩ w o vb st' rb' db' fu' fa' t' wc))
 case first =>
  refine wp_region_tree (fun W => PRd W gb fb b2) [0, 1, 2, 3, 4, 5, 6, 7, 8, 9, 10] [13] 11 12 14 19 [([15, 16, 17, 18], 19), ([], 20), ([], 21), ([], 22)] [([], 14), ([15, 16, 17, 18], 20), ([], 21), ([], 22)] [([], 11), ([13], 14), ([15, 16, 17, 18], 20), ([], 21), ([], 22)] [([], 12), ([13], 14), ([15, 16, 17, 18], 20), ([], 21), ([], 22)] rfl (by kernel_rfl) (fun _ _ d _ _ h => by cases d <;> exact h) (HRd.out _ HB1.out.drew) ?_
  simp only [wpFork, wpSeg, List.filterMap_cons, List.filterMap_nil, List.getElem?_toArray, List.getElem?_cons_zero, List.getElem?_cons_succ]
  refine wpX_step _ rfl (fun W hW => rfl) ?_
  refine wpX_step _ rfl (fun W hW => rfl) ?_
  refine wpX_step (.pointer (some ⟨gb, 0, none⟩)) rfl (fun W hW => by go_simp) ?_
  refine wpX_step (.pointer (some ⟨gb, 1, none⟩)) rfl (fun W hW => by go_simp) ?_
  refine wpX_step (.slice (some ⟨fb, 0, none⟩) 8 8) rfl (fun W hW => by have h1 := hW.g1; go_simp) ?_
  refine wpX_step (.pointer (some ⟨fb, 0, none⟩)) rfl (fun W hW => by go_simp) ?_
  refine wpX_step (.int .i64 b2) rfl (fun W hW => by have h1 := hW.f; go_simp) ?_
  refine wpX_step _ rfl (fun W hW => rfl) ?_
  refine wpX_step (.int .i64 bs.size) rfl (fun W hW => by go_simp) ?_
  refine wpX_step _ rfl (fun W hW => rfl) ?_
  refine wpX_step (.int .i64 bs.size) rfl (fun W hW => by go_simp) ?_
  refine wpX_nil ⟨⟨_, rfl, rfl, ?_⟩, ⟨_, rfl, rfl, ?_⟩, ⟨_, rfl, rfl, ?_⟩⟩
  all_goals
   unfold Oper.wp
   go_simp
   refine ⟨HRd.out _ (by first | exact (HB1.out.alloc (by omega) _).drew | exact ((HB1.out.alloc (by omega) _).alloc (by simp; omega) _).drew | exact (((HB1.out.alloc (by omega) _).alloc (by simp; omega) _).alloc (by simp; omega) _).drew), ⟨_, rfl, rfl, ?_⟩, ⟨_, rfl, rfl, ?_⟩⟩
  all_goals
   unfold Oper.wp
   go_simp
   refine ⟨HRd.out _ (by first | exact (HB1.out.alloc (by omega) _).drew | exact ((HB1.out.alloc (by omega) _).alloc (by simp; omega) _).drew | exact (((HB1.out.alloc (by omega) _).alloc (by simp; omega) _).alloc (by simp; omega) _).drew), ?_⟩
  any_goals (refine wpX_nil ⟨_, rfl, rfl, ?_⟩; unfold Oper.wp; go_simp; refine ⟨HRd.out _ (by first | exact (HB1.out.alloc (by omega) _).drew | exact ((HB1.out.alloc (by omega) _).alloc (by simp; omega) _).drew | exact (((HB1.out.alloc (by omega) _).alloc (by simp; omega) _).alloc (by simp; omega) _).drew), ?_⟩)
  all_goals
   first
   | (refine wpX_step (ag bs (w.heap.size + 1) (w.heap.size + 1 + 1)) rfl ?sideag ?_; case sideag => (intro W hW; unfold ag; go_simp; done))
   | (refine wpX_step (ag bs (w.heap.size + 1) (w.heap.size + 1 + 1 + 1)) rfl ?sideag ?_; case sideag => (intro W hW; unfold ag; go_simp; done))
   | (refine wpX_step (ag bs (w.heap.size + 1 + 1) (w.heap.size + 1)) rfl ?sideag ?_; case sideag => (intro W hW; unfold ag; go_simp; done))
   | (refine wpX_step (ag bs (w.heap.size + 1 + 1 + 1) (w.heap.size + 1)) rfl ?sideag ?_; case sideag => (intro W hW; unfold ag; go_simp; done))
   | (refine wpX_step (ag bs (w.heap.size + 1 + 1) (w.heap.size + 1 + 1 + 1)) rfl ?sideag ?_; case sideag => (intro W hW; unfold ag; go_simp; done))
   | (refine wpX_step (ag bs (w.heap.size + 1 + 1 + 1) (w.heap.size + 1 + 1)) rfl ?sideag ?_; case sideag => (intro W hW; unfold ag; go_simp; done))
   unfold ag
  any_goals refine wpX_nil ⟨⟨_, rfl, rfl, ?_⟩, ⟨_, rfl, rfl, ?_⟩⟩
  any_goals refine wpX_nil ⟨_, rfl, rfl, ?_⟩
  all_goals
   unfold Oper.wp
   go_simp
  any_goals (refine ⟨HRd.out _ (by first | exact (HB1.out.alloc (by omega) _).drew | exact ((HB1.out.alloc (by omega) _).alloc (by simp; omega) _).drew | exact (((HB1.out.alloc (by omega) _).alloc (by simp; omega) _).alloc (by simp; omega) _).drew), ?_⟩; refine wpX_nil ⟨_, rfl, rfl, ?_⟩; unfold Oper.wp; go_simp)
  all_goals
   refine (HCall.out _ _ _ ⟨by first | exact Blk.alloc (Blk.alloc HP1.out _) _ | exact Blk.alloc (Blk.alloc (Blk.alloc HP1.out _) _) _, by first | exact (HB1.out.alloc (by omega) _).drew | exact ((HB1.out.alloc (by omega) _).alloc (by simp; omega) _).drew | exact (((HB1.out.alloc (by omega) _).alloc (by simp; omega) _).alloc (by simp; omega) _).drew, by (unfold RdAt; rw [HRep.out]; first | exact blk_new' (by first | omega | (simp <;> omega)) _ _ | exact Blk.alloc (blk_new' (by first | omega | (simp <;> omega)) _ _) _ | exact Blk.alloc (Blk.alloc (blk_new' (by first | omega | (simp <;> omega)) _ _) _) _), by first | exact blk_new' (by first | omega | (simp <;> omega)) _ _ | exact Blk.alloc (blk_new' (by first | omega | (simp <;> omega)) _ _) _ | exact Blk.alloc (Blk.alloc (blk_new' (by first | omega | (simp <;> omega)) _ _) _) _, st0_inv bs N⟩).mono ?_
   intro e w5 hpo
   have hbw := HB1.out
   first
   | (have hk := pat_a (vb := w.heap.size + 1 + 1 + 1) rfl (by first | exact (HB1.out.alloc (by omega) _).drew | exact ((HB1.out.alloc (by omega) _).alloc (by simp; omega) _).drew | exact (((HB1.out.alloc (by omega) _).alloc (by simp; omega) _).alloc (by simp; omega) _).drew) ?sidehz (by omega) hpo; case sidehz => (first | (refine blk_new' ?_ _ _; first | omega | (simp <;> omega)) | (refine Blk.alloc (blk_new' ?_ _ _) _; first | omega | (simp <;> omega)) | (refine Blk.alloc (Blk.alloc (blk_new' ?_ _ _) _) _; first | omega | (simp <;> omega))))
   | (have hk := pat_a (vb := w.heap.size + 1 + 1) rfl (by first | exact (HB1.out.alloc (by omega) _).drew | exact ((HB1.out.alloc (by omega) _).alloc (by simp; omega) _).drew | exact (((HB1.out.alloc (by omega) _).alloc (by simp; omega) _).alloc (by simp; omega) _).drew) ?sidehz (by omega) hpo; case sidehz => (first | (refine blk_new' ?_ _ _; first | omega | (simp <;> omega)) | (refine Blk.alloc (blk_new' ?_ _ _) _; first | omega | (simp <;> omega)) | (refine Blk.alloc (Blk.alloc (blk_new' ?_ _ _) _) _; first | omega | (simp <;> omega))))
   | (have hk := pat_a (vb := w.heap.size + 1) rfl (by first | exact (HB1.out.alloc (by omega) _).drew | exact ((HB1.out.alloc (by omega) _).alloc (by simp; omega) _).drew | exact (((HB1.out.alloc (by omega) _).alloc (by simp; omega) _).alloc (by simp; omega) _).drew) ?sidehz (by omega) hpo; case sidehz => (first | (refine blk_new' ?_ _ _; first | omega | (simp <;> omega)) | (refine Blk.alloc (blk_new' ?_ _ _) _; first | omega | (simp <;> omega)) | (refine Blk.alloc (Blk.alloc (blk_new' ?_ _ _) _) _; first | omega | (simp <;> omega))))
   | have hk := pat_b rfl (by first | exact (HB1.out.alloc (by omega) _).drew | exact ((HB1.out.alloc (by omega) _).alloc (by simp; omega) _).drew | exact (((HB1.out.alloc (by omega) _).alloc (by simp; omega) _).alloc (by simp; omega) _).drew) (by first | omega | (simp <;> omega)) hpo
   obtain ⟨st', rb', db', fu', fa', t', he, hb5, hz5, hpat, hb6⟩ := hk
   subst he
   have HPat := hide' hpat
   first
   | (have z0 : w5.cell? _ = some (.int .i64 0) := hz5.cell 0
      have z1 : w5.cell? _ = some (.int .i64 0) := hz5.cell 1
      have z2 : w5.cell? _ = some (.slice none 0 0) := hz5.cell 2
      have z3 : w5.cell? _ = some (.slice none 0 0) := hz5.cell 3
      have z4 : w5.cell? _ = some (.int .i64 0) := hz5.cell 4
      have zf := fun j => hz5.frozen j
      clear hz5)
   | (have HZ := hide' (Blk.new w5 zero5 140)
      have hbA := hz5
      clear hz5
      unfold zero5 at HPat hbA hb6 HZ)
   clear hpat hpo hbw
   unfold rsR rsC
   simp only
   refine ⟨HRd.out _ hb5, ?_⟩
   refine wpX_step _ rfl (fun W hW => rfl) ?_
   refine wpX_step (.agg #[.int .i64 st'.pl, .int .i64 st'.en, .slice (some ⟨rb', 0, none⟩) bs.size bs.size, .slice (some ⟨db', 0, none⟩) 8 8, .int .i64 st'.vals]) rfl (fun W hW => by go_simp) ?_
   refine wpX_step (.string ⟨t'.toArray⟩) rfl (fun W hW => by go_simp) ?_
   refine wpX_step (.bool o.ok) rfl (fun W hW => by go_simp) ?_
   refine wpX_nil ⟨_, rfl, rfl, ?_⟩
   unfold Oper.wp
   go_simp
  any_goals
   refine ⟨HRd.out _ hbA, ?_⟩
   have z0 := HZ.out.cell 0
   have z1 := HZ.out.cell 1
   have z2 := HZ.out.cell 2
   have z3 := HZ.out.cell 3
   have z4 := HZ.out.cell 4
   have zf := fun j => HZ.out.frozen j
   generalize w5.alloc (.cells #[.int .i64 0, .int .i64 0, .slice none 0 0, .slice none 0 0, .int .i64 0] 140) = W6 at *
   simp only [List.getElem?_toArray, List.getElem?_cons_zero, List.getElem?_cons_succ] at z0 z1 z2 z3 z4
   refine wpX_nil ⟨_, rfl, rfl, ?_⟩
   unfold Oper.wp
   go_simp
  all_goals
   refine ⟨HRd.out _ hb6, ?_⟩
   refine wpX_nil ⟨_, rfl, rfl, ?_⟩
   unfold Oper.wp
   go_simp
   refine ⟨HRd.out _ hb6, ?_⟩
   refine wpX_nil ⟨_, rfl, rfl, ?_⟩
   unfold Oper.wp
   go_simp
   refine ⟨HRd.out _ hb6, ?_⟩
   go_wp2_with fail
   go_meet
   case rel => exact ⟨_, st', rb', db', fu', fa', t', rfl, rfl, rfl, HPat⟩
 case rest =>
  obtain ⟨vb, st', rb', db', fu', fa', t', rfl, rfl, rfl, hcat⟩ := hcut
  have HCt := hcat
  have p5 : wc.cell? ⟨w.heap.size, 5, none⟩ = some (.int .i64 o.e) := hcat.out.pg.cell 5
  have p4 : wc.cell? ⟨w.heap.size, 4, none⟩ = some (.int .i64 fa') := hcat.out.pg.cell 4
  clear hcat
  by_cases hde : o.e ≠ 0
  · have hde' : ¬ (o.e : Int) = 0 := by omega
    have HE : Hid (endT o = ([], o.e, 0)) := by
     have : endT o = ([], o.e, 0) := by unfold endT; rw [if_pos hde]
     exact this
    go_wp2_with fail
    go_quiet (fail)
    go_wp2_with fail
    refine bodyPost_ret (v := .tuple #[.string ⟨#[]⟩, .int .i64 o.e, .int .i64 0]) (by simp [results, Tryz.results32, go_sem]) rfl ?_
    rw [HE.out]
    exact ⟨rfl, below_drewN HCt.out.bel _⟩
  · have hde0 : o.e = 0 := by omega
    rw [hde0] at p5
    cases hok : o.ok
    · obtain ⟨e3, e4⟩ := HCt.out.fe hde0
      have HE : Hid (endT o = ([], 8, o.far)) := by
       have : endT o = ([], 8, o.far) := by unfold endT; rw [if_neg hde, if_pos hok]
       exact this
      rw [e4] at p4
      go_wp2_with fail
      go_quiet (fail)
      go_wp2_with fail
      refine bodyPost_ret (v := .tuple #[.string ⟨#[]⟩, .int .i64 8, .int .i64 o.far]) (by simp [results, Tryz.results32, go_sem]) rfl ?_
      rw [HE.out]
      exact ⟨rfl, below_drewN HCt.out.bel _⟩
    · obtain ⟨e1, e2, hsa⟩ := HCt.out.ok hok
      subst e1
      subst e2
      have hrd : o.st.rd.length = bs.size := (HOk.out hok).1.inv.rd
      have hE : endT o = match o.st.rd.findIdx? (fun b => !b) with | some i => ([], 8, i) | none => (o.t, 0, 0) := by
       unfold endT; rw [if_neg hde, if_neg (by rw [hok]; simp)]; rfl
      have HE := hide' hE
      have HSa := hide' hsa
      have HRl := hide' hrd
      have v2 : wc.cell? ⟨vb, 2, none⟩ = some (.slice (some ⟨rb', 0, none⟩) bs.size bs.size) := HCt.out.vk.cell 2
      clear hE hsa hrd p4
      go_wp2_with fail
      clear p5
      go_loopw [15] (fun v15 wr => ∃ i : Nat, v15 = .int .i64 i ∧ i ≤ bs.size ∧ wr = wc ∧ Hid (∀ j, j < i → o.st.rd.getD j false = true)) (fun v15 _ => bs.size - (intOf v15).toNat)
      case atStart => exact ⟨0, rfl, Nat.zero_le _, rfl, fun j hj => by omega⟩
      case round =>
       obtain ⟨i, rfl, hi, rfl, hall⟩ := hrel
       by_cases hlt : i < bs.size
       · have hlt' : (i : Int) < (bs.size : Int) := by omega
         have ri : wr.cell? ⟨rb', i, none⟩ = some (.bool (o.st.rd.getD i false)) := by
          have h := HSa.out.rd.cell i
          rw [rdC_get _ _ (by rw [HRl.out]; exact hlt)] at h
          exact h
         cases hb : o.st.rd.getD i false
         · rw [hb] at ri
           have HE2 : Hid (endT o = ([], 8, i)) := by
            have hf : o.st.rd.findIdx? (fun b => !b) = some i := by
             rw [List.findIdx?_eq_some_iff_getElem]
             refine ⟨by rw [HRl.out]; exact hlt, ?_, fun j hj => ?_⟩
             · rw [← getD_lt _ _ false (by rw [HRl.out]; exact hlt), hb]; rfl
             · rw [← getD_lt _ _ false (by rw [HRl.out]; omega), hall.out j hj]; simp
            have : endT o = ([], 8, i) := by rw [HE.out, hf]
            exact this
           clear hb hall
           go_wp2_with fail
           refine bodyPost_ret (v := .tuple #[.string ⟨#[]⟩, .int .i64 8, .int .i64 i]) (by simp [results, Tryz.results32, go_sem]) rfl ?_
           rw [HE2.out]
           exact ⟨rfl, HCt.out.bel⟩
         · rw [hb] at ri
           have HA2 : Hid (∀ j, j < i + 1 → o.st.rd.getD j false = true) := fun j hj => by
            by_cases h : j < i
            · exact hall.out j h
            · rw [show j = i by omega]; exact hb
           clear hb hall
           go_wp2_with fail
           go_roundw
           case rel => exact ⟨i + 1, by go_num, by omega, (by first | rfl | trivial), HA2⟩
           case measure => simp [intOf]; omega
       · have hlt' : ¬ (i : Int) < (bs.size : Int) := by omega
         have hie : i = bs.size := by omega
         subst hie
         have HE2 : Hid (endT o = (o.t, 0, 0)) := by
          have hf : o.st.rd.findIdx? (fun b => !b) = none := by
           rw [List.findIdx?_eq_none_iff]
           intro x hx
           obtain ⟨j, hj, rfl⟩ := List.getElem_of_mem hx
           have := hall.out j (by rw [← HRl.out]; exact hj)
           rw [getD_lt _ _ false hj] at this
           simp [this]
          have : endT o = (o.t, 0, 0) := by rw [HE.out, hf]
          exact this
         clear hall
         go_wp2_with fail
         refine bodyPost_ret (v := .tuple #[.string ⟨o.t.toArray⟩, .int .i64 0, .int .i64 0]) (by simp [results, Tryz.results32, go_sem]) rfl ?_
         rw [HE2.out]
         exact ⟨rfl, HCt.out.bel⟩
end Go.Proofs.YtmlkhhhjdpbhfaaGreatDoor
