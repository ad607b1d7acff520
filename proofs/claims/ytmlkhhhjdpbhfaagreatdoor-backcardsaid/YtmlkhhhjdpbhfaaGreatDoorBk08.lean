import Derived.Test.YtmlkhhhjdpbhfaaGreatDoorBk06
import Derived.Test.YtmlkhhhjdpbhfaaGreatDoorBk07
import Derived.Test.YtmlkhhhjdpbhfaaGreatDoorBk01
namespace Go.Proofs.YtmlkhhhjdpbhfaaGreatDoor
open Go.RowKit
theorem tail_calls (s : ByteArray) (rule : Int) (hs : s.size ≤ 400) (f : Nat) (ih : PartS s rule f) (j : Nat) (hj : j < 15)
 (w : World) (rb pb i : Nat) (p : Pt) (hr : Rd w rb s i) (hS : Shp w) (h0 : 0 < rb) (hrp : rb < pb) (hi : i ≤ s.size) (hf : s.size + 1 - i ≤ f) (hM : Mk f w pb false p []) (hnil : p.v = .slice none 0 0) :
 Calls Tryz.prog 172 #[.pointer (some ⟨rb, 0, none⟩), .pointer (some ⟨pb, 0, none⟩), .agg (sh j).row] w fun e w' => TailPost s f rb pb w (tailH (sh j) s i p).p (sh j).n (tailR (prs s rule f) s f (sh j).n (tailH (sh j) s i p)) e w' := by
 have hb := sh_bd j hj
 have h15 : j = 0 ∨ j = 1 ∨ j = 2 ∨ j = 3 ∨ j = 4 ∨ j = 5 ∨ j = 6 ∨ j = 7 ∨ j = 8 ∨ j = 9 ∨ j = 10 ∨ j = 11 ∨ j = 12 ∨ j = 13 ∨ j = 14 := by omega
 rcases h15 with rfl | rfl | rfl | rfl | rfl | rfl | rfl | rfl | rfl | rfl | rfl | rfl | rfl | rfl | rfl
 · exact tail_w s rule hs f ih (sh 0) hb.1 hb.2 rfl rfl rfl w rb pb i p hr hS h0 hrp hi hf hM hnil
 · exact tail_w s rule hs f ih (sh 1) hb.1 hb.2 rfl rfl rfl w rb pb i p hr hS h0 hrp hi hf hM hnil
 · exact tail_v s rule hs f ih (sh 2) hb.1 hb.2 rfl rfl rfl w rb pb i p hr hS h0 hrp hi hf hM hnil
 · exact tail_n s rule hs f ih (sh 3) hb.1 hb.2 rfl rfl rfl w rb pb i p hr hS h0 hrp hi hf hM hnil
 · exact tail_n s rule hs f ih (sh 4) hb.1 hb.2 rfl rfl rfl w rb pb i p hr hS h0 hrp hi hf hM hnil
 · exact tail_n s rule hs f ih (sh 5) hb.1 hb.2 rfl rfl rfl w rb pb i p hr hS h0 hrp hi hf hM hnil
 · exact tail_n s rule hs f ih (sh 6) hb.1 hb.2 rfl rfl rfl w rb pb i p hr hS h0 hrp hi hf hM hnil
 · exact tail_wd s rule hs f ih (sh 7) hb.1 hb.2 rfl rfl rfl w rb pb i p hr hS h0 hrp hi hf hM hnil
 · exact tail_wd s rule hs f ih (sh 8) hb.1 hb.2 rfl rfl rfl w rb pb i p hr hS h0 hrp hi hf hM hnil
 · exact tail_d s rule hs f ih (sh 9) hb.1 hb.2 rfl rfl rfl w rb pb i p hr hS h0 hrp hi hf hM hnil
 · exact tail_d s rule hs f ih (sh 10) hb.1 hb.2 rfl rfl rfl w rb pb i p hr hS h0 hrp hi hf hM hnil
 · exact tail_d s rule hs f ih (sh 11) hb.1 hb.2 rfl rfl rfl w rb pb i p hr hS h0 hrp hi hf hM hnil
 · exact tail_d s rule hs f ih (sh 12) hb.1 hb.2 rfl rfl rfl w rb pb i p hr hS h0 hrp hi hf hM hnil
 · exact tail_d s rule hs f ih (sh 13) hb.1 hb.2 rfl rfl rfl w rb pb i p hr hS h0 hrp hi hf hM hnil
 · exact tail_n s rule hs f ih (sh 14) hb.1 hb.2 rfl rfl rfl w rb pb i p hr hS h0 hrp hi hf hM hnil
theorem Shp.row {w : World} (h : Shp w) (j : Nat) (hj : j < 15) : w.cell? ⟨0, j * 6, none⟩ = some (.int .u8 (sh j).a) ∧ w.cell? ⟨0, j * 6 + 1, none⟩ = some (.int .u8 (sh j).b) ∧ w.cell? ⟨0, j * 6 + 2, none⟩ = some (.bool (sh j).w) ∧
 w.cell? ⟨0, j * 6 + 3, none⟩ = some (.bool (sh j).d) ∧ w.cell? ⟨0, j * 6 + 4, none⟩ = some (.bool (sh j).v) ∧ w.cell? ⟨0, j * 6 + 5, none⟩ = some (.int .i64 (sh j).n) := by
 have h2 : ∀ q v, shpL[q]? = some v → w.cell? ⟨0, q, none⟩ = some v := fun q v hq => by have := h.1 q v hq; simpa using this
 have h15 : j = 0 ∨ j = 1 ∨ j = 2 ∨ j = 3 ∨ j = 4 ∨ j = 5 ∨ j = 6 ∨ j = 7 ∨ j = 8 ∨ j = 9 ∨ j = 10 ∨ j = 11 ∨ j = 12 ∨ j = 13 ∨ j = 14 := by omega
 rcases h15 with rfl | rfl | rfl | rfl | rfl | rfl | rfl | rfl | rfl | rfl | rfl | rfl | rfl | rfl | rfl <;>
  exact ⟨h2 _ _ rfl, h2 _ _ rfl, h2 _ _ rfl, h2 _ _ rfl, h2 _ _ rfl, h2 _ _ rfl⟩
def PartPostS (s : ByteArray) (f : Nat) (rb : Nat) (w : World) (r : Res) (e : Ending) (w' : World) : Prop :=
 ∃ o, e = .returned (.tuple #[.pointer o, .bool r.ok]) ∧ Rd w' rb s r.i ∧ Fr w.heap.size rb w w' ∧ (r.ok = true → ∃ pb, o = some ⟨pb, 0, none⟩ ∧ RepS f w' w.heap.size w'.heap.size pb false r.its)
theorem prs_match (s : ByteArray) (rule : Int) (f a j : Nat) (h : kindV (bt s a) = j) (hj : j < 15) :
 (prs s rule (f + 1) a).ok = (tailR (prs s rule f) s f (sh j).n (tailH (sh j) s (a + 1) (pt0 j (bt s a) a))).ok ∧
 (prs s rule (f + 1) a).i = (tailR (prs s rule f) s f (sh j).n (tailH (sh j) s (a + 1) (pt0 j (bt s a) a))).i ∧
 ((prs s rule (f + 1) a).ok = true → ∃ x : It, ItPt x (tailH (sh j) s (a + 1) (pt0 j (bt s a) a)).p ∧
   x.nx = 1 + ((tailR (prs s rule f) s f (sh j).n (tailH (sh j) s (a + 1) (pt0 j (bt s a) a))).its.length : Int) ∧
   (prs s rule (f + 1) a).its = x :: (tailR (prs s rule f) s f (sh j).n (tailH (sh j) s (a + 1) (pt0 j (bt s a) a))).its) := by
 obtain ⟨m1, m2, m3⟩ := match_all s a j h hj
 rw [prs]
 cases hok : (headV s a).ok
 · rw [hok] at m1
   rw [if_neg (by simp)]
   have e : tailR (prs s rule f) s f (sh j).n (tailH (sh j) s (a + 1) (pt0 j (bt s a) a)) = ⟨false, (tailH (sh j) s (a + 1) (pt0 j (bt s a) a)).i, []⟩ := by unfold tailR; rw [← m1]; simp
   rw [e]
   exact ⟨rfl, m2, fun h => by cases h⟩
 · rw [hok] at m1
   obtain ⟨m3, m4⟩ := m3 hok
   rw [if_pos rfl]
   have e : tailR (prs s rule f) s f (sh j).n (tailH (sh j) s (a + 1) (pt0 j (bt s a) a)) = inner (prs s rule f) s f (headV s a) := by
    unfold tailR inner; rw [← m1, if_pos rfl, m3, m2]
   rw [e]
   refine ⟨rfl, rfl, fun _ => ⟨_, ?_, ?_, rfl⟩⟩
   · exact ⟨m4.k, m4.wd, m4.vl, m4.ru, m4.dp⟩
   · rfl
theorem Fr.less {B C g : Nat} {a b : World} (h : Fr B g a b) (hC : C ≤ B) : Fr C g a b := ⟨h.os, h.tape, h.output, h.size, fun k hk hne => h.block k (by omega) hne⟩
structure W3ok (s : ByteArray) (f : Nat) (rb j : Nat) (c : Int) (i : Nat) (w w2 W : World) : Prop where
 rd : Rd W rb s (i + 1)
 fr : Fr w.heap.size rb w W
 made : Mk f W w2.heap.size false (pt0 j c i) []
 sz : w2.heap.size < W.heap.size
theorem w3ok_of (s : ByteArray) (f : Nat) (rb j : Nat) (c : Int) (i : Nat) (w w2 : World) (hr : Rd w2 rb s i) (hf : Fr w.heap.size rb w w2) (hsz : w.heap.size ≤ w2.heap.size) (ru : Int) (hru : pt0 j c i = { k := j, pl := i, ru := ru }) :
 W3ok s f rb j c i w w2 ((w2.setCell ⟨rb, 1, none⟩ (.int .i64 ((i : Int) + 1))).alloc (.cells #[.int .i64 j, .int .i64 i, .int .i64 0, .int .i64 0, .int .i64 0, .int .u8 0, .int .i64 ru, .bool false, .slice none 0 0] 185)) := by
 have hs : (w2.setCell ⟨rb, 1, none⟩ (.int .i64 ((i : Int) + 1))).heap.size = w2.heap.size := by simp [World.setCell]
 refine ⟨?_, ?_, ?_, by simp [World.setCell]⟩
 · have h : Rd (w2.setCell ⟨rb, 1, none⟩ (.int .i64 ((i + 1 : Nat) : Int))) rb s (i + 1) := Blk.set hr 1 _
   rw [show ((i + 1 : Nat) : Int) = (i : Int) + 1 by omega] at h
   exact Blk.alloc h _
 · exact (hf.setCell (Or.inl rfl) _).alloc (by rw [hs]; exact hsz) _
 · rw [hru]
   refine ⟨?_, World.ownsRow_nil _ _ _ _, fun q hq => by simp at hq⟩
   have := Blk.new (w2.setCell ⟨rb, 1, none⟩ (.int .i64 ((i : Int) + 1))) #[.int .i64 j, .int .i64 i, .int .i64 0, .int .i64 0, .int .i64 0, .int .u8 0, .int .i64 ru, .bool false, .slice none 0 0] 185
   rw [hs] at this
   exact this
theorem kOf_brack (c : Int) (j : Nat) (h : kOf c = j) (hj : j < 15) : decide ((sh j).n < 0) = decide (c = 40) := by
 unfold kOf at h
 split at h
 · rename_i h82
   have : j = 6 := by omega
   subst this h82
   rfl
 · have hk : kindV c = j := by omega
   by_cases h40 : c = 40
   · subst h40
     have : kindV 40 = 3 := by decide
     have : j = 3 := by omega
     subst this
     rfl
   · have h3 : j ≠ 3 := by
      rintro rfl
      have := kindV_in c 3 hk (by omega)
      simp [sh, shapesL] at this
      omega
     rw [decide_eq_false h40]
     have h15 : j = 0 ∨ j = 1 ∨ j = 2 ∨ j = 4 ∨ j = 5 ∨ j = 6 ∨ j = 7 ∨ j = 8 ∨ j = 9 ∨ j = 10 ∨ j = 11 ∨ j = 12 ∨ j = 13 ∨ j = 14 := by omega
     rcases h15 with rfl | rfl | rfl | rfl | rfl | rfl | rfl | rfl | rfl | rfl | rfl | rfl | rfl | rfl <;> rfl
theorem tailH_k (x : Sh) (s : ByteArray) (i : Nat) (p : Pt) : (tailH x s i p).p.k = p.k := by
 unfold tailH tailX tailD tailW
 repeat' split
 all_goals rfl
theorem pt0_k (j : Nat) (c : Int) (i : Nat) : (pt0 j c i).k = j ∧ (pt0 j c i).sl = false := ⟨rfl, rfl⟩
theorem part_fin2 {s : ByteArray} {f rb j : Nat} {c : Int} {i : Nat} {w w2 W w5 : World} {r R : Res} {q : Pt} (hm : r.ok = R.ok ∧ r.i = R.i ∧ (r.ok = true → ∃ x : It, ItPt x q ∧ x.nx = 1 + (R.its.length : Int) ∧ r.its = x :: R.its))
 (hW : W3ok s f rb j c i w w2 W) (d1 : Rd w5 rb s R.i) (d2 : Fr w2.heap.size rb W w5) (_ : W.heap.size ≤ w5.heap.size) (hq : q.sl = false) (hqk : q.k = j) (hj : j < 15) (d4 : R.ok = true → ∃ kids v', Mk f w5 w2.heap.size (decide ((sh j).n < 0)) { q with v := v' } kids ∧ kids.flatMap Prod.snd = R.its) (hsz : w.heap.size ≤ w2.heap.size) :
 PartPostS s (f + 1) rb w r (.returned (.tuple #[.pointer (some ⟨w2.heap.size, 0, none⟩), .bool R.ok])) w5 := by
 obtain ⟨m1, m2, m3⟩ := hm
 refine ⟨_, by rw [m1], by rw [m2]; exact d1, hW.fr.trans (d2.less hsz), fun hok => ⟨_, rfl, ?_⟩⟩
 obtain ⟨x, hx, hn, hits⟩ := m3 hok
 obtain ⟨kids, v', hmk, hk⟩ := d4 (m1 ▸ hok)
 rw [hits, ← hk]
 exact hmk.rep ⟨hx.k, hx.wd, hx.vl, hx.ru, hx.dp⟩ hq (Or.inr (kOf_brack x.c j (by rw [← hx.k, hqk]) hj)) (by rw [hn, hk]) hsz
set_option maxRecDepth 100000 in
set_option maxHeartbeats 4000000 in
theorem part_callsS (s : ByteArray) (rule : Int) (hs : s.size ≤ 400) (f : Nat) (ih : PartS s rule f) (w : World) (rb i : Nat) (hr : Rd w rb s i) (hS : Shp w) (h0 : 0 < rb) (hi : i ≤ s.size) (hf : s.size + 1 - i ≤ f + 1) :
 Calls Tryz.prog 98 #[.pointer (some ⟨rb, 0, none⟩)] w fun e w' => PartPostS s (f + 1) rb w (prs s rule (f + 1) i) e w' := by
 have HR : Hid (Rd w rb s i) := hr
 have HS : Hid (Shp w) := hS
 have HI : Hid (PartS s rule f) := ih
 have hrl := hr.lt
 clear hr hS ih
 by_cases hend : i = s.size
 · have HP : Hid (prs s rule (f + 1) i = ⟨false, i, []⟩) := by
    have : prs s rule (f + 1) i = ⟨false, i, []⟩ := by
     have hh : headV s i = { ok := false, i := i } := by
      have hb : bt s i = 0 := bt_out s i (by omega)
      simp [headV, hb, kAny, inB]
     rw [prs, hh, if_neg (by simp)]
    exact this
   have HE := hide' hend
   clear hend
   go_enter Tryz.func98, Tryz.ntmps98
   go_wp2_with fail
   refine (atEnd_calls w rb s i HR.out hs hi).mono ?_
   rintro e w1 ⟨rfl, hsm, hr1⟩
   rw [decide_eq_true HE.out]
   simp only
   go_wp2_with fail
   go_ret2
   rw [HP.out]
   exact ⟨none, rfl, hr1, hsm.fr _, fun h => by cases h⟩
 · have hlt : i < s.size := by omega
   have hlt' : (i : Int) < (s.size : Int) := by omega
   have hbt : bt s i = (s[i].toNat : Int) := bt_in s i hlt
   have HBt := hide' hbt
   clear hbt
   go_enter Tryz.func98, Tryz.ntmps98
   go_wp2_with fail
   refine (atEnd_calls w rb s i HR.out hs hi).mono ?_
   rintro e w1 ⟨rfl, hsm, hr1⟩
   rw [decide_eq_false hend]
   simp only
   have c0 : w1.cell? ⟨rb, 0, none⟩ = some (.string s) := hr1.cell 0
   have c1 : w1.cell? ⟨rb, 1, none⟩ = some (.int .i64 i) := hr1.cell 1
   have HR1 : Hid (Rd w1 rb s i) := hr1
   have HF1 : Hid (Fr w.heap.size rb w w1) := hsm.fr _
   have hs1 := hsm.size
   have HS1 : Hid (Shp w1) := HS.out.fr HF1.out h0 (by omega)
   clear hr1 hend hsm
   go_wp2_with fail
   go_quiet (fail)
   go_wp2_with fail
   rw [← HBt.out]
   clear HBt
   refine (kindOf_calls (w1.drewN nq) (bt s i) ⟨HS1.out.1, HS1.out.2⟩).mono ?_
   rintro e w2 ⟨rfl, hb2⟩
   have hb2s := hb2.size
   have hd2 : (w1.drewN nq).heap.size = w1.heap.size := rfl
   rw [hd2] at hb2s
   have HR2 : Hid (Rd w2 rb s i) := Blk.below (HR1.out.drewN nq) hb2 (by rw [hd2]; omega)
   have HF2 : Hid (Fr w.heap.size rb w w2) := (HF1.out.drewN nq).below hb2 (by rw [hd2]; omega)
   have HS2 : Hid (Shp w2) := HS.out.fr HF2.out h0 (by omega)
   clear c0 c1 hb2
   by_cases hk : kindV (bt s i) < 15
   rotate_left
   · have hk15 : kindV (bt s i) = 15 := by
      have : kindV (bt s i) ≤ shapesL.length := List.findIdx_le_length
      have hl : shapesL.length = 15 := rfl
      omega
     have HP : Hid (prs s rule (f + 1) i = ⟨false, i, []⟩) := by
      have : prs s rule (f + 1) i = ⟨false, i, []⟩ := by rw [prs, match_none s i hk15, if_neg (by simp)]
      exact this
     have e2 : kindB (bt s i) = false := by unfold kindB; simpa using hk
     rw [e2]
     clear e2 hk hk15
     simp only
     go_wp2_with fail
     go_ret2
     rw [HP.out]
     exact ⟨none, rfl, HR2.out, HF2.out, fun h => by cases h⟩
   · have HPM := hide' (prs_match s rule f i (kindV (bt s i)) rfl hk)
     have e1 : kindK (bt s i) = (kindV (bt s i) : Int) := by unfold kindK; rw [if_pos hk]
     have e2 : kindB (bt s i) = true := by unfold kindB; simpa using hk
     have hin := kindV_in (bt s i) _ rfl hk
     rw [e1, e2]
     clear e1 e2
     generalize hj : kindV (bt s i) = j at *
     clear hj
     have hj15 : (j : Int) < 15 := by omega
     have blo := bt_lo s i
     have bhi := bt_hi s i
     have c1 : w2.cell? ⟨rb, 1, none⟩ = some (.int .i64 i) := HR2.out.cell 1
     have c1a : ∀ o, (w2.alloc o).cell? ⟨rb, 1, none⟩ = some (.int .i64 i) := fun o => (Blk.alloc HR2.out o).cell 1
     have f1a : ∀ o, (w2.alloc o).frozen? ⟨rb, 1, none⟩ = false := fun o => (Blk.alloc HR2.out o).frozen 1
     have hrb2 : rb < w2.heap.size := by omega
     have hne1 : ¬ w2.heap.size = rb := by omega
     have hne2 : ¬ rb = w2.heap.size := by omega
     have rows := fun (W : World) (h : Shp W) => Shp.row h j hk
     have HRows := hide' rows
     clear rows
     simp only
     by_cases hj6 : j = 6
     · have HJ6 := hide' hj6
       have hj6' : ((j : Int) == 6) = true := by simp; omega
       have hb65 : 65 ≤ bt s i := by rw [hj6] at hin; exact hin.1
       have hb72 : bt s i ≤ 72 := by rw [hj6] at hin; exact hin.2
       clear hj6 hin
       go_upto_region 11 with fail
       have HW3 : Hid (W3ok s f rb j (bt s i) i w w2 ((w2.setCell ⟨rb, 1, none⟩ (.int .i64 ((i : Int) + 1))).alloc (.cells #[.int .i64 j, .int .i64 i, .int .i64 0, .int .i64 0, .int .i64 0, .int .u8 0, .int .i64 (bt s i - 65), .bool false, .slice none 0 0] 185))) :=
        w3ok_of s f rb j (bt s i) i w w2 HR2.out HF2.out (by omega) (bt s i - 65) (by unfold pt0; rw [if_pos HJ6.out])
       generalize hW : ((w2.setCell ⟨rb, 1, none⟩ (.int .i64 ((i : Int) + 1))).alloc (.cells #[.int .i64 j, .int .i64 i, .int .i64 0, .int .i64 0, .int .i64 0, .int .u8 0, .int .i64 (bt s i - 65), .bool false, .slice none 0 0] 185)) = W3 at *
       clear hW
       have HS3 : Hid (Shp W3) := HS.out.fr HW3.out.fr h0 (by omega)
       obtain ⟨r0, r1, r2, r3, r4, r5⟩ := HRows.out W3 HS3.out
       clear c1 c1a f1a HRows
       go_wp2_with fail
       have ht := tail_calls s rule hs f HI.out j hk W3 rb w2.heap.size (i + 1) (pt0 j (bt s i) i) HW3.out.rd HS3.out h0 hrb2 (by omega) (by omega) HW3.out.made rfl
       simp only [Sh.row] at ht
       refine ht.mono ?_
       rintro e w5 ⟨rfl, d1, d2, d3, d4⟩
       clear ht r0 r1 r2 r3 r4 r5
       simp only
       go_wp2_with fail
       go_ret2
       exact part_fin2 HPM.out HW3.out d1 d2 d3 (by rw [tailH_sl]; exact (pt0_k _ _ _).2) (by rw [tailH_k]; exact (pt0_k _ _ _).1) hk d4 (by omega)
     · have HJ6 := hide' hj6
       have hj6' : ((j : Int) == 6) = false := by simp; omega
       clear hj6 hin
       go_upto_region 11 with fail
       have HW3 : Hid (W3ok s f rb j (bt s i) i w w2 ((w2.setCell ⟨rb, 1, none⟩ (.int .i64 ((i : Int) + 1))).alloc (.cells #[.int .i64 j, .int .i64 i, .int .i64 0, .int .i64 0, .int .i64 0, .int .u8 0, .int .i64 (0), .bool false, .slice none 0 0] 185))) :=
        w3ok_of s f rb j (bt s i) i w w2 HR2.out HF2.out (by omega) (0) (by unfold pt0; rw [if_neg HJ6.out])
       generalize hW : ((w2.setCell ⟨rb, 1, none⟩ (.int .i64 ((i : Int) + 1))).alloc (.cells #[.int .i64 j, .int .i64 i, .int .i64 0, .int .i64 0, .int .i64 0, .int .u8 0, .int .i64 (0), .bool false, .slice none 0 0] 185)) = W3 at *
       clear hW
       have HS3 : Hid (Shp W3) := HS.out.fr HW3.out.fr h0 (by omega)
       obtain ⟨r0, r1, r2, r3, r4, r5⟩ := HRows.out W3 HS3.out
       clear c1 c1a f1a HRows
       go_wp2_with fail
       have ht := tail_calls s rule hs f HI.out j hk W3 rb w2.heap.size (i + 1) (pt0 j (bt s i) i) HW3.out.rd HS3.out h0 hrb2 (by omega) (by omega) HW3.out.made rfl
       simp only [Sh.row] at ht
       refine ht.mono ?_
       rintro e w5 ⟨rfl, d1, d2, d3, d4⟩
       clear ht r0 r1 r2 r3 r4 r5
       simp only
       go_wp2_with fail
       go_ret2
       exact part_fin2 HPM.out HW3.out d1 d2 d3 (by rw [tailH_sl]; exact (pt0_k _ _ _).2) (by rw [tailH_k]; exact (pt0_k _ _ _).1) hk d4 (by omega)
theorem part_allS (s : ByteArray) (rule : Int) (hs : s.size ≤ 400) (f : Nat) : PartS s rule f := by
 induction f with
 | zero => intro w rb i _ _ _ h1 h2; omega
 | succ f ih => intro w rb i hr hS h0 hi hf; exact part_callsS s rule hs f ih w rb i hr hS h0 hi hf
structure Rl where
 r : Int
 pl : Nat
 its : List It
structure RRes where
 ok : Bool
 i : Nat
 rls : List Rl
def RRes.pre (l : List Rl) (q : RRes) : RRes := ⟨q.ok, q.i, l ++ q.rls⟩
def rulesV (s : ByteArray) : Nat → Int → Nat → RRes
 | 0, _, a => ⟨false, a, []⟩
 | k + 1, top, a =>
  if ¬ (65 ≤ bt s a ∧ bt s a ≤ top) then ⟨false, a, []⟩
  else if bt s (a + 1) ≠ 61 then ⟨false, a + 1, []⟩
  else if ¬ (prs s (bt s a - 65) (s.size + 1) (a + 2)).ok = true then ⟨false, (prs s (bt s a - 65) (s.size + 1) (a + 2)).i, []⟩
  else if (prs s (bt s a - 65) (s.size + 1) (a + 2)).i = s.size then ⟨true, s.size, [⟨bt s a - 65, a, (prs s (bt s a - 65) (s.size + 1) (a + 2)).its⟩]⟩
  else if k = 0 ∨ bt s (prs s (bt s a - 65) (s.size + 1) (a + 2)).i ≠ 59 then ⟨false, (prs s (bt s a - 65) (s.size + 1) (a + 2)).i, []⟩
  else (rulesV s k 72 ((prs s (bt s a - 65) (s.size + 1) (a + 2)).i + 1)).pre [⟨bt s a - 65, a, (prs s (bt s a - 65) (s.size + 1) (a + 2)).its⟩]
def formV (s : ByteArray) : RRes := rulesV s 8 65 0
def allIts (rls : List Rl) : List It := rls.flatMap Rl.its
def hasR (rls : List Rl) (r : Int) : Bool := rls.any fun x => x.r == r
theorem hasR_snoc (l : List Rl) (x : Rl) (r : Int) : hasR (l ++ [x]) r = (hasR l r || x.r == r) := by simp [hasR]
def EqR (x y : RRes) : Prop := x.ok = y.ok ∧ x.i = y.i ∧ (y.ok = true → x.rls = y.rls)
theorem EqR.refl (x : RRes) : EqR x x := ⟨rfl, rfl, fun _ => rfl⟩
theorem EqR.trans {x y z : RRes} (h : EqR x y) (k : EqR y z) : EqR x z := ⟨h.1.trans k.1, h.2.1.trans k.2.1, fun hz => (h.2.2 (k.1.trans hz)).trans (k.2.2 hz)⟩
def restF (s : ByteArray) (n a : Nat) (rls : List Rl) : RRes :=
 if a = s.size then ⟨true, s.size, rls⟩ else if n = 8 ∨ bt s a ≠ 59 then ⟨false, a, rls⟩ else (rulesV s (8 - n) 72 (a + 1)).pre rls
theorem rules_step (s : ByteArray) (k : Nat) (top : Int) (a : Nat) (rls : List Rl) (n : Nat) (hk : k + 1 + n = 8) (h1 : 65 ≤ bt s a ∧ bt s a ≤ top) (h2 : bt s (a + 1) = 61)
 (h3 : (prs s (bt s a - 65) (s.size + 1) (a + 2)).ok = true) :
 EqR ((rulesV s (k + 1) top a).pre rls) (restF s (n + 1) (prs s (bt s a - 65) (s.size + 1) (a + 2)).i (rls ++ [⟨bt s a - 65, a, (prs s (bt s a - 65) (s.size + 1) (a + 2)).its⟩])) := by
 rw [rulesV, if_neg (by simpa using h1), if_neg (by simpa using h2), if_neg (by simpa using h3)]
 unfold restF
 split
 · exact ⟨rfl, rfl, fun _ => by simp [RRes.pre]⟩
 · rename_i hne
   by_cases hc : k = 0 ∨ bt s (prs s (bt s a - 65) (s.size + 1) (a + 2)).i ≠ 59
   · rw [if_pos hc, if_pos (by rcases hc with h | h; exact Or.inl (by omega); exact Or.inr h)]
     exact ⟨rfl, rfl, fun h => by cases h⟩
   · rw [if_neg hc, if_neg (by intro h; apply hc; rcases h with h | h; exact Or.inl (by omega); exact Or.inr h), show 8 - (n + 1) = k by omega]
     exact ⟨rfl, rfl, fun _ => by simp [RRes.pre]⟩
theorem rules_fail1 (s : ByteArray) (k : Nat) (top : Int) (a : Nat) (rls : List Rl) (h : ¬ (65 ≤ bt s a ∧ bt s a ≤ top)) : (rulesV s (k + 1) top a).pre rls = ⟨false, a, rls⟩ := by
 rw [rulesV, if_pos h]; simp [RRes.pre]
theorem rules_fail2 (s : ByteArray) (k : Nat) (top : Int) (a : Nat) (rls : List Rl) (h : 65 ≤ bt s a ∧ bt s a ≤ top) (h2 : bt s (a + 1) ≠ 61) : (rulesV s (k + 1) top a).pre rls = ⟨false, a + 1, rls⟩ := by
 rw [rulesV, if_neg (by simpa using h), if_pos h2]; simp [RRes.pre]
theorem rules_fail3 (s : ByteArray) (k : Nat) (top : Int) (a : Nat) (rls : List Rl) (h : 65 ≤ bt s a ∧ bt s a ≤ top) (h2 : bt s (a + 1) = 61) (h3 : (prs s (bt s a - 65) (s.size + 1) (a + 2)).ok = false) :
 (rulesV s (k + 1) top a).pre rls = ⟨false, (prs s (bt s a - 65) (s.size + 1) (a + 2)).i, rls⟩ := by
 rw [rulesV, if_neg (by simpa using h), if_neg (by simpa using h2), if_pos (by simp [h3])]; simp [RRes.pre]
end Go.Proofs.YtmlkhhhjdpbhfaaGreatDoor
