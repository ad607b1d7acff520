import Derived.Test.YtmlkhhhjdpbhfaaGreatDoorPa31
namespace Go.Proofs.YtmlkhhhjdpbhfaaGreatDoor
open Go.RowKit
theorem Tryz.infoInt : (Tryz.prog.info? 3).map (fun i => (i.zero, i.size, i.bytes)) = some (some (.int .i64 0), 1, 8) := by kernel_rfl
def intsL (l : List Nat) : List Value := l.map fun x => .int .i64 (x : Nat)
theorem Ints.of_own {w : World} {B : Nat} {v : Value} {l : List Nat} (h : w.ownsRow B 3 1 v l.length (intsL l)) : Ints w v l := by
 rcases h.2 with ⟨rfl, h0⟩ | ⟨g, cap, cur, rfl, hb, hg, hn, hm, hs, ht⟩
 · exact Or.inl ⟨rfl, List.eq_nil_of_length_eq_zero h0⟩
 · refine Or.inr ⟨g, cap, rfl, (Array.getElem?_eq_some_iff.1 hg).1, hn, hm, fun j hj => ?_⟩
   rw [h.cellAt j (by omega)]
   simp [intsL, hj]
set_option maxRecDepth 100000 in
set_option maxHeartbeats 2000000 in
theorem kids_calls (w : World) (gb g c : Nat) (fi tw : Value) (its : List It) (hG : Grm w gb g c fi tw its) (hwf : Wf its) (hlen : its.length ≤ 1000) (k : Nat) (hk : k < its.length) :
 Calls Tryz.prog 88 #[.pointer (some ⟨gb, 0, none⟩), .int .i64 k] w fun e w' => ∃ v, e = .returned v ∧ Ints w' v (kidsV its k) ∧ Below w.heap.size w w' := by
 obtain ⟨i0, hi0, hz0, hz1, hz2⟩ := info_parts Tryz.infoInt
 have hp := hwf.pos k hk
 have hnk : nxt its k ≤ its.length := by unfold nxt; omega
 have HG : Hid (Grm w gb g c fi tw its) := hG
 have HW : Hid (Wf its) := hwf
 have hgl := hG.lt
 have hgbl := hG.blk.lt
 clear hG hwf
 go_enter Tryz.func88, Tryz.ntmps88
 go_wp2_with fail
 go_loopw [5, 6] (fun vl vi wr => ∃ (i f : Nat) (acc : List Nat) (v : Value), vi = .int .i64 i ∧ v = vl ∧ i ≤ its.length ∧ its.length + 1 ≤ f + i ∧ acc.length ≤ i ∧ Hid (wr.ownsRow w.heap.size 3 1 v acc.length (intsL acc)) ∧ Hid (Below w.heap.size w wr) ∧ Hid (kidsV its k = acc ++ stepsV its (nxt its k) f i)) (fun _ vi _ => its.length - (intOf vi).toNat)
 case atStart =>
  exact ⟨k + 1, its.length, [], _, by go_num, rfl, by omega, by omega, by simp, World.ownsRow_nil _ _ _ _, Below.refl _ _, (by simp [kidsV] : kidsV its k = [] ++ stepsV its (nxt its k) its.length (k + 1))⟩
 case round =>
  obtain ⟨i, f, acc, vl, rfl, rfl, hi, hf, hacc, hown, hbel, heq⟩ := hrel
  have hGr := HG.out.below hbel.out
  have hsz := hbel.out.size
  have c0 : wr.cell? ⟨gb, 0, none⟩ = some (.slice (some ⟨g, 0, none⟩) its.length c) := hGr.top
  have cN : wr.cell? ⟨g, k * 9 + 6, none⟩ = some (.int .i64 (nxt its k : Nat)) := hGr.nx HW.out k hk
  have HGr : Hid (Grm wr gb g c fi tw its) := hGr
  clear hGr
  generalize nxt its k = lim at *
  by_cases hlt : i < lim
  · have hil : i < its.length := by omega
    have hpi := HW.out.pos i hil
    have hni : i < nxt its i := by unfold nxt; omega
    have hni2 : nxt its i ≤ its.length := by unfold nxt; omega
    have HS : Hid (kidsV its k = (acc ++ [i]) ++ stepsV its lim (f - 1) (nxt its i)) := by
     have : kidsV its k = (acc ++ [i]) ++ stepsV its lim (f - 1) (nxt its i) := by
      rw [heq.out, show f = (f - 1) + 1 by omega, stepsV, if_pos hlt]; simp
     exact this
    clear heq hpi
    go_wp2_with
     (at_builtin
      refine wpList_append_lies _ rfl _ _ _ rfl w.heap.size 3 i0 _ 1 8 Tryz.underlying24 hi0 hz0 hz1 hz2 rfl (by omega) vl acc.length (intsL acc) rfl (hown.out.alloc _) ⟨wr.heap.size, 0, none⟩ 1 1 [.int .i64 i] rfl rfl (World.news_of_block (cs := #[.int .i64 i]) (t := 3) (fr := (0, 0)) (heap_alloc_new wr _)) (by simp [Value.oneCell']) (by omega) (by unfold maxLen; omega) (by omega) (by simp; omega) (wr.heap.size + 1) (by simp) ?_
      intro g1 cap1 w1 hown1 hgrow hat hlt1
      have hb1 : Below w.heap.size w w1 := (hbel.out.alloc (by omega) _).grown hgrow (by simp; omega) (fun q e => (hown.out.lt q e).1)
      have c1 : w1.cell? ⟨gb, 0, none⟩ = some (.slice (some ⟨g, 0, none⟩) its.length c) := (HG.out.below hb1).top
      have cN1 : w1.cell? ⟨g, i * 9 + 6, none⟩ = some (.int .i64 (nxt its i : Nat)) := (HG.out.below hb1).nx HW.out i hil)
    go_roundw
    case rel =>
     exact ⟨nxt its i, f - 1, acc ++ [i], _, rfl, rfl, hni2, by omega, by simp; omega, by simpa [intsL, Hid] using hown1, hb1, HS⟩
    case measure => simp [intOf]; omega
  · have HS : Hid (kidsV its k = acc) := by
     have : kidsV its k = acc := by
      rw [heq.out]
      cases f with
      | zero => simp [stepsV]
      | succ f => rw [stepsV, if_neg hlt]; simp
     exact this
    clear heq
    go_wp2_with fail
    go_ret
    exact ⟨vl, rfl, by rw [HS.out]; exact Ints.of_own hown.out, hbel.out⟩
theorem stepsV_mem (its : List It) (lim : Nat) (f i x : Nat) (hn : ∀ j, j < its.length → j < nxt its j) (hl : lim ≤ its.length) (h : x ∈ stepsV its lim f i) : i ≤ x ∧ x < lim := by
 induction f generalizing i with
 | zero => simp [stepsV] at h
 | succ f ih =>
  rw [stepsV] at h
  split at h
  · rename_i hlt
    rcases List.mem_cons.1 h with rfl | h
    · omega
    · have := ih _ h; have := hn i (by omega); omega
  · simp at h
theorem Wf.next {its : List It} (h : Wf its) (k : Nat) (hk : k < its.length) : k < nxt its k ∧ nxt its k ≤ its.length := by
 have := h.pos k hk; unfold nxt; omega
theorem kidsV_mem (its : List It) (h : Wf its) (k x : Nat) (hk : k < its.length) (hx : x ∈ kidsV its k) : k < x ∧ x < its.length := by
 have h1 := h.next k hk
 have := stepsV_mem its (nxt its k) _ _ x (fun j hj => (h.next j hj).1) h1.2 hx
 omega
theorem stepsV_length (its : List It) (lim : Nat) (f i : Nat) : (stepsV its lim f i).length ≤ f := by
 induction f generalizing i with
 | zero => simp [stepsV]
 | succ f ih => rw [stepsV]; split; simp [ih]; simp
theorem kidsV_length (its : List It) (k : Nat) : (kidsV its k).length ≤ its.length := stepsV_length _ _ _ _
theorem chainV_length (its : List It) (f i : Nat) : (chainV its f i).length ≤ f := by
 induction f generalizing i with
 | zero => simp [chainV]
 | succ f ih => rw [chainV]; split; split; simp [ih]; exact Nat.le_succ_of_le (ih _); simp
theorem flat_length (its : List It) (l : List Nat) : (l.flatMap fun i => i :: chainV its its.length i).length ≤ l.length * (its.length + 1) := by
 induction l with
 | nil => simp
 | cons x r ih =>
  simp only [List.flatMap_cons, List.length_append, List.length_cons]
  have := chainV_length its its.length x
  rw [Nat.add_mul]; omega
set_option maxRecDepth 100000 in
set_option maxHeartbeats 4000000 in
theorem standing_calls (w : World) (gb g c : Nat) (fi tw : Value) (its : List It) (hG : Grm w gb g c fi tw its) (hwf : Wf its) (hlen : its.length ≤ 1000) (k : Nat) (hk : k < its.length) :
 Calls Tryz.prog 87 #[.pointer (some ⟨gb, 0, none⟩), .int .i64 k] w fun e w' => ∃ v, e = .returned v ∧ Ints w' v (standingV its k) ∧ Below w.heap.size w w' := by
 obtain ⟨i0, hi0, hz0, hz1, hz2⟩ := info_parts Tryz.infoInt
 have HG : Hid (Grm w gb g c fi tw its) := hG
 have HW : Hid (Wf its) := hwf
 have HKm : Hid (∀ x, x ∈ kidsV its k → x < its.length) := fun x hx => (kidsV_mem its hwf k x hk hx).2
 have HKl : Hid ((kidsV its k).length ≤ its.length) := kidsV_length its k
 have hgl := hG.lt
 have hgbl := hG.blk.lt
 have HE : Hid (standingV its k = (kidsV its k).flatMap fun i => i :: chainV its its.length i) := rfl
 clear hG hwf
 go_enter Tryz.func87, Tryz.ntmps87
 go_wp2_with fail
 refine (kids_calls w gb g c fi tw its HG.out HW.out hlen k hk).mono ?_
 rintro e w1 ⟨vK, rfl, hKI, hbK⟩
 generalize kidsV its k = K at *
 have hKl := HKl.out
 obtain ⟨ao, cap, rfl, hcell⟩ : ∃ ao cap, vK = .slice ao K.length cap ∧ (∀ j, j < K.length → ∃ gk, ao = some ⟨gk, 0, none⟩ ∧ gk < w1.heap.size ∧ w1.cell? ⟨gk, j, none⟩ = some (.int .i64 (K.getD j 0 : Nat))) := by
  rcases hKI with ⟨rfl, rfl⟩ | ⟨gk, cap, rfl, hgk, _, _, h⟩
  · exact ⟨none, 0, rfl, fun j hj => by simp at hj⟩
  · exact ⟨_, _, rfl, fun j hj => ⟨gk, rfl, hgk, h j hj⟩⟩
 have HC : Hid (∀ j, j < K.length → ∃ gk, ao = some ⟨gk, 0, none⟩ ∧ gk < w1.heap.size ∧ w1.cell? ⟨gk, j, none⟩ = some (.int .i64 (K.getD j 0 : Nat))) := hcell
 have HG1 : Hid (Grm w1 gb g c fi tw its) := HG.out.below hbK
 have HbK : Hid (Below w.heap.size w w1) := hbK
 have hszK := hbK.size
 clear hcell hKI hbK HG HKl
 simp only
 go_wp2_with fail
 go_loopw [5, 7, 8] (fun vl vn _ wr => ∃ (n : Nat) (acc : List Nat) (v : Value), vn = .int .i64 n ∧ v = vl ∧ n ≤ K.length ∧ Hid (wr.ownsRow w1.heap.size 3 1 v acc.length (intsL acc)) ∧ Hid (Below w1.heap.size w1 wr) ∧ Hid (acc = (K.take n).flatMap fun i => i :: chainV its its.length i)) (fun _ vn _ _ => K.length - (intOf vn).toNat)
 case atStart =>
  exact ⟨0, [], _, rfl, rfl, by omega, World.ownsRow_nil _ _ _ _, Below.refl _ _, (by simp : ([] : List Nat) = _)⟩
 case round =>
  obtain ⟨n, acc, vl, rfl, rfl, hn, hown, hbel, hacc⟩ := hrel
  have hsz := hbel.out.size
  by_cases hlt : n < K.length
  · obtain ⟨gk, rfl, hgk, hck⟩ := HC.out n hlt
    have hKn : wr.cell? ⟨gk, n, none⟩ = some (.int .i64 (K.getD n 0 : Nat)) := by rw [hbel.out.cell (p := ⟨gk, n, none⟩) hgk]; exact hck
    have hx : K.getD n 0 < its.length := HKm.out _ (by rw [getD_lt _ _ _ hlt]; exact List.getElem_mem hlt)
    have hal : acc.length ≤ n * (its.length + 1) := by
     have h1 := flat_length its (K.take n)
     rw [hacc.out]
     have h2 : (K.take n).length ≤ n := List.length_take_le _ _
     exact Nat.le_trans h1 (Nat.mul_le_mul_right _ h2)
    have hal2 : acc.length ≤ 1001000 := Nat.le_trans hal (Nat.le_trans (Nat.mul_le_mul_right _ (show n ≤ 1000 by omega)) (by omega))
    have HT : Hid ((K.take (n + 1)).flatMap (fun i => i :: chainV its its.length i) = acc ++ (K.getD n 0 :: chainV its its.length (K.getD n 0))) := by
     have : (K.take (n + 1)).flatMap (fun i => i :: chainV its its.length i) = acc ++ (K.getD n 0 :: chainV its its.length (K.getD n 0)) := by
      rw [List.take_succ_eq_append_getElem hlt, List.flatMap_append, ← hacc.out, getD_lt _ _ _ hlt]; simp
     exact this
    clear hck hal hacc
    generalize K.getD n 0 = x at *
    go_wp2_with
     (at_builtin
      refine wpList_append_lies _ rfl _ _ _ rfl w1.heap.size 3 i0 _ 1 8 Tryz.underlying24 hi0 hz0 hz1 hz2 rfl (by omega) vl acc.length (intsL acc) rfl (hown.out.alloc _) ⟨wr.heap.size, 0, none⟩ 1 1 [.int .i64 x] rfl rfl (World.news_of_block (cs := #[.int .i64 x]) (t := 3) (fr := (0, 0)) (heap_alloc_new wr _)) (by simp [Value.oneCell']) (by omega) (by unfold maxLen; omega) (by omega) (by simp; omega) (wr.heap.size + 1) (by simp) ?_
      intro g1 cap1 w2 hown1 hgrow hat hlt1
      have hb2 : Hid (Below w1.heap.size w1 w2) := (hbel.out.alloc (by omega) _).grown hgrow (by simp; omega) (fun q e => (hown.out.lt q e).1))
    have hown2 : Hid (w2.ownsRow w1.heap.size 3 1 (.slice (some ⟨g1, 0, none⟩) (acc.length + 1) cap1) (acc ++ [x]).length (intsL (acc ++ [x]))) := by
     have : w2.ownsRow w1.heap.size 3 1 (.slice (some ⟨g1, 0, none⟩) (acc.length + 1) cap1) (acc ++ [x]).length (intsL (acc ++ [x])) := by simpa [intsL] using hown1
     exact this
    clear hown1 hgrow hat hlt1 hKn hown hbel hsz
    go_loopw [5, 8] (fun vl vi wi => ∃ (i f : Nat) (acc2 : List Nat) (v : Value), vi = .int .i64 i ∧ v = vl ∧ i < its.length ∧ its.length ≤ f + i ∧ x ≤ i ∧ acc2.length + x ≤ acc.length + 1 + i ∧ Hid (wi.ownsRow w1.heap.size 3 1 v acc2.length (intsL acc2)) ∧ Hid (Below w1.heap.size w1 wi) ∧ Hid (acc ++ (x :: chainV its its.length x) = acc2 ++ chainV its f i)) (fun _ vi _ => its.length - (intOf vi).toNat)
    case atStart =>
     exact ⟨x, its.length, acc ++ [x], _, rfl, rfl, hx, by omega, by omega, by simp, hown2, hb2, (by simp : acc ++ (x :: chainV its its.length x) = acc ++ [x] ++ chainV its its.length x)⟩
    case round =>
     clear hown2 hb2
     obtain ⟨i, f, acc2, vl, rfl, rfl, hi, hf, hxi, hal3, hown, hbel, heq⟩ := hrel
     have hGi := HG1.out.below hbel.out
     have hsz := hbel.out.size
     have c0 : wr.cell? ⟨gb, 0, none⟩ = some (.slice (some ⟨g, 0, none⟩) its.length c) := hGi.top
     have cC : wr.cell? ⟨g, i * 9, none⟩ = some (.int .u8 (itd its i).c) := hGi.c i hi
     have HGi : Hid (Grm wr gb g c fi tw its) := hGi
     clear hGi
     cases hin : inB [119, 64, 115] (itd its i).c
     · have HS : Hid (acc ++ (x :: chainV its its.length x) = acc2) := by
        have : acc ++ (x :: chainV its its.length x) = acc2 := by
         rw [heq.out]
         cases f with
         | zero => simp [chainV]
         | succ f => rw [chainV, if_neg (by simp [hin])]; simp
        exact this
       clear heq
       go_wp2_with (go_at_call 118; refine (in_calls _ _ _ (by simp [maxLen, ByteArray.size])).mono ?_; rintro e w9 ⟨rfl, h9⟩; have h9 := h9.symm; subst h9)
       exact ⟨⟨n + 1, acc2, vl, by go_num, rfl, by omega, hown, hbel, (by rw [HT.out, HS.out] : acc2 = _)⟩, by simp [intOf]; omega⟩
     · have hi1 := HW.out.one i hi hin
       have cC1 : wr.cell? ⟨g, (i + 1) * 9, none⟩ = some (.int .u8 (itd its (i + 1)).c) := HGi.out.c (i + 1) hi1
       cases hu : inB [114, 116, 119, 64, 115] (itd its (i + 1)).c
       · have HS : Hid (acc ++ (x :: chainV its its.length x) = acc2 ++ chainV its (f - 1) (i + 1)) := by
          have : acc ++ (x :: chainV its its.length x) = acc2 ++ chainV its (f - 1) (i + 1) := by
           rw [heq.out, show f = (f - 1) + 1 by omega, chainV, if_pos hin, if_neg (by simp [usesB, hu])]; rfl
          exact this
         clear heq
         go_wp2_with (first
          | (go_at_call 118; refine (in_calls _ _ _ (by simp [maxLen, ByteArray.size])).mono ?_; rintro e w9 ⟨rfl, h9⟩; have h9 := h9.symm; subst h9)
          | (go_at_call 86; refine (uses_calls _ _).mono ?_; rintro e w9 ⟨rfl, h9⟩; have h9 := h9.symm; subst h9))
         exact ⟨⟨i + 1, f - 1, acc2, vl, by go_num, rfl, hi1, by omega, by omega, by omega, hown, hbel, HS⟩, by simp [intOf]; omega⟩
       · have HS : Hid (acc ++ (x :: chainV its its.length x) = (acc2 ++ [i + 1]) ++ chainV its (f - 1) (i + 1)) := by
          have : acc ++ (x :: chainV its its.length x) = (acc2 ++ [i + 1]) ++ chainV its (f - 1) (i + 1) := by
           rw [heq.out, show f = (f - 1) + 1 by omega, chainV, if_pos hin, if_pos (by simpa [usesB] using hu)]; simp
          exact this
         clear heq
         go_wp2_with (first
          | (go_at_call 118; refine (in_calls _ _ _ (by simp [maxLen, ByteArray.size])).mono ?_; rintro e w9 ⟨rfl, h9⟩; have h9 := h9.symm; subst h9)
          | (go_at_call 86; refine (uses_calls _ _).mono ?_; rintro e w9 ⟨rfl, h9⟩; have h9 := h9.symm; subst h9)
          | (at_builtin
             refine wpList_append_lies _ rfl _ _ _ rfl w1.heap.size 3 i0 _ 1 8 Tryz.underlying24 hi0 hz0 hz1 hz2 rfl (by omega) vl acc2.length (intsL acc2) rfl (hown.out.alloc _) ⟨wr.heap.size, 0, none⟩ 1 1 [.int .i64 ((i : Int) + 1)] rfl rfl (World.news_of_block (cs := #[.int .i64 ((i : Int) + 1)]) (t := 3) (fr := (0, 0)) (heap_alloc_new wr _)) (by simp [Value.oneCell']) (by omega) (by unfold maxLen; omega) (by omega) (by simp; omega) (wr.heap.size + 1) (by simp) ?_
             intro g3 cap3 w3 hown3 hgrow3 hat3 hlt3
             have hb3 : Hid (Below w1.heap.size w1 w3) := (hbel.out.alloc (by omega) _).grown hgrow3 (by simp; omega) (fun q e => (hown.out.lt q e).1)))
         exact ⟨⟨i + 1, f - 1, acc2 ++ [i + 1], _, by go_num, rfl, hi1, by omega, by omega, by simp; omega, by simpa [intsL, Hid] using hown3, hb3, HS⟩, by simp [intOf]; omega⟩
  · have HF : Hid (standingV its k = acc) := by
     have : standingV its k = acc := by rw [HE.out, hacc.out, List.take_of_length_le (by omega)]
     exact this
    clear hacc
    go_wp2_with fail
    go_ret
    exact ⟨vl, rfl, by rw [HF.out]; exact Ints.of_own hown.out, HbK.out.trans (hbel.out.mono (by omega))⟩
theorem hide {p : Prop} (h : p) : Hid p := h
theorem unhide {p : Prop} (h : Hid p) : p := h
theorem hidesB_calls (c : Int) (w : World) : Calls Tryz.prog 85 #[.int .u8 c] w fun e w' => e = .returned (.bool (hidesB c)) ∧ w' = w := hides_calls c w
theorem usesB_calls (c : Int) (w : World) : Calls Tryz.prog 86 #[.int .u8 c] w fun e w' => e = .returned (.bool (usesB c)) ∧ w' = w := uses_calls c w
set_option maxRecDepth 100000 in
set_option maxHeartbeats 4000000 in
theorem often_calls (w : World) (gb g c : Nat) (fi tw : Value) (its : List It) (hG : Grm w gb g c fi tw its) (_hlen : its.length ≤ 1000) (v : Value) (l : List Nat) (d : Int) (hidden : Bool) (hl : Ints w v l) (hll : l.length ≤ 2000000) (hlm : ∀ x, x ∈ l → x < its.length) :
 Calls Tryz.prog 90 #[.pointer (some ⟨gb, 0, none⟩), v, .int .i64 d, .bool hidden] w fun e w' => e = .returned (.int .i64 (oftenV its l d hidden : Nat)) ∧ Below w.heap.size w w' := by
 obtain ⟨ao, cap, rfl, hcell⟩ : ∃ ao cap, v = .slice ao l.length cap ∧ (∀ j, j < l.length → ∃ gk, ao = some ⟨gk, 0, none⟩ ∧ gk < w.heap.size ∧ w.cell? ⟨gk, j, none⟩ = some (.int .i64 (l.getD j 0 : Nat))) := by
  rcases hl with ⟨rfl, rfl⟩ | ⟨gk, cap, rfl, hgk, _, _, h⟩
  · exact ⟨none, 0, rfl, fun j hj => by simp at hj⟩
  · exact ⟨_, _, rfl, fun j hj => ⟨gk, rfl, hgk, h j hj⟩⟩
 have HC : Hid (∀ j, j < l.length → ∃ gk, ao = some ⟨gk, 0, none⟩ ∧ gk < w.heap.size ∧ w.cell? ⟨gk, j, none⟩ = some (.int .i64 (l.getD j 0 : Nat))) := hcell
 have HG : Hid (Grm w gb g c fi tw its) := hG
 have HM : Hid (∀ x, x ∈ l → x < its.length) := hlm
 clear hcell hl hG hlm
 go_enter Tryz.func90, Tryz.ntmps90
 go_wp2_with fail
 go_loopw [9, 10] (fun vn vi wr => ∃ (j cnt : Nat), vi = .int .i64 j ∧ vn = .int .i64 cnt ∧ j ≤ l.length ∧ cnt ≤ j ∧ Hid (Below w.heap.size w wr) ∧ Hid (cnt = oftenV its (l.take j) d hidden)) (fun _ vi _ => l.length - (intOf vi).toNat)
 case atStart => exact ⟨0, 0, rfl, rfl, by omega, by omega, Below.refl _ _, (by simp [oftenV] : 0 = oftenV its (l.take 0) d hidden)⟩
 case round =>
  obtain ⟨j, cnt, rfl, rfl, hj, hcnt, hbel, heq⟩ := hrel
  have hsz := hbel.out.size
  by_cases hlt : j < l.length
  · obtain ⟨gk, rfl, hgk, hck⟩ := HC.out j hlt
    have hGr := HG.out.below hbel.out
    have hKn : wr.cell? ⟨gk, j, none⟩ = some (.int .i64 (l.getD j 0 : Nat)) := by rw [hbel.out.cell (p := ⟨gk, j, none⟩) hgk]; exact hck
    have hx : l.getD j 0 < its.length := HM.out _ (by rw [getD_lt _ _ _ hlt]; exact List.getElem_mem hlt)
    have HT : Hid (oftenV its (l.take (j + 1)) d hidden = cnt + if oftenP its d hidden (l.getD j 0) then 1 else 0) := by
     have : oftenV its (l.take (j + 1)) d hidden = cnt + if oftenP its d hidden (l.getD j 0) then 1 else 0 := by
      rw [heq.out, oftenV, oftenV, List.take_succ_eq_append_getElem hlt, List.filter_append, List.length_append, getD_lt _ _ _ hlt]
      cases hq : oftenP its d hidden l[j] <;> simp [hq]
     exact this
    clear hck heq
    generalize l.getD j 0 = x at *
    have c0 : wr.cell? ⟨gb, 0, none⟩ = some (.slice (some ⟨g, 0, none⟩) its.length c) := hGr.top
    have q0 : wr.cell? ⟨g, x * 9, none⟩ = some (.int .u8 (itd its x).c) := by simpa [It.cells, It.off] using hGr.cell x 0 hx (by omega)
    have q1 : wr.cell? ⟨g, x * 9 + 1, none⟩ = some (.int .i64 (itd its x).w) := by simpa [It.cells, It.off] using hGr.cell x 1 hx (by omega)
    have q2 : wr.cell? ⟨g, x * 9 + 2, none⟩ = some (.int .i64 (itd its x).b) := by simpa [It.cells, It.off] using hGr.cell x 2 hx (by omega)
    have q3 : wr.cell? ⟨g, x * 9 + 3, none⟩ = some (.int .i64 (itd its x).r) := by simpa [It.cells, It.off] using hGr.cell x 3 hx (by omega)
    have q4 : wr.cell? ⟨g, x * 9 + 4, none⟩ = some (.int .i64 (itd its x).d) := by simpa [It.cells, It.off] using hGr.cell x 4 hx (by omega)
    have q5 : wr.cell? ⟨g, x * 9 + 5, none⟩ = some (.int .i64 (itd its x).pl) := by simpa [It.cells, It.off] using hGr.cell x 5 hx (by omega)
    have q6 : wr.cell? ⟨g, x * 9 + 6, none⟩ = some (.int .i64 (x + (itd its x).nx)) := by simpa [It.cells, It.off] using hGr.cell x 6 hx (by omega)
    have q7 : wr.cell? ⟨g, x * 9 + 7, none⟩ = some (.int .i64 (itd its x).rl) := by simpa [It.cells, It.off] using hGr.cell x 7 hx (by omega)
    have q8 : wr.cell? ⟨g, x * 9 + 8, none⟩ = some (.int .i64 0) := by simpa [It.cells, It.off] using hGr.cell x 8 hx (by omega)
    have HP : Hid (oftenP its d hidden x = ((itd its x).d == d && ((hidden && hidesB (itd its x).c) || (!hidden && usesB (itd its x).c)))) := rfl
    have hxi : (x : Int) < (its.length : Int) := by omega
    have hxj : (j : Int) < (l.length : Int) := by omega
    have hgl := hGr.lt
    have hgbl := hGr.blk.lt
    have hgkl : gk < wr.heap.size := by omega
    clear hGr
    generalize itd its x = p at *
    go_wp2_with fail
    have n0 := World.new_ne wr _ c0
    have n1 := World.new_ne wr _ hKn
    have n2 := World.new_ne wr _ q0
    go_region_held3 (fun w' => w'.cell? ⟨gb, 0, none⟩ = some (.slice (some ⟨g, 0, none⟩) its.length c) ∧ w'.cell? ⟨gk, j, none⟩ = some (.int .i64 (x : Nat)) ∧
     w'.cell? ⟨g, x * 9, none⟩ = some (.int .u8 p.c) ∧ w'.cell? ⟨g, x * 9 + 1, none⟩ = some (.int .i64 p.w) ∧ w'.cell? ⟨g, x * 9 + 2, none⟩ = some (.int .i64 p.b) ∧ w'.cell? ⟨g, x * 9 + 3, none⟩ = some (.int .i64 p.r) ∧
     w'.cell? ⟨g, x * 9 + 4, none⟩ = some (.int .i64 p.d) ∧ w'.cell? ⟨g, x * 9 + 5, none⟩ = some (.int .i64 p.pl) ∧ w'.cell? ⟨g, x * 9 + 6, none⟩ = some (.int .i64 (x + p.nx)) ∧ w'.cell? ⟨g, x * 9 + 7, none⟩ = some (.int .i64 p.rl) ∧ w'.cell? ⟨g, x * 9 + 8, none⟩ = some (.int .i64 0))
     (go_keep) (fail)
    clear c0 hKn q0 q1 q2 q3 q4 q5 q6 q7 q8 n0 n1 n2
    have hnb : Hid (Below w.heap.size w (wr.alloc (Obj.cells #[Value.int IntKind.u8 p.c, Value.int IntKind.i64 p.w, Value.int IntKind.i64 p.b, Value.int IntKind.i64 p.r, Value.int IntKind.i64 p.d, Value.int IntKind.i64 p.pl, Value.int IntKind.i64 (↑x + p.nx), Value.int IntKind.i64 p.rl, Value.int IntKind.i64 0] 132)).drew) := (hbel.out.alloc hsz _).drew
    cases hb1 : hidesB p.c <;> cases hb2 : usesB p.c <;> cases hidden <;> cases hb3 : (p.d == d)
    all_goals
     have HN := HT.out
     rw [HP.out, hb1, hb2, hb3] at HN
     have HN2 := hide HN
     clear HN HT HP
     go_wp2_with (first
      | (go_at_call 85; refine (hidesB_calls _ _).mono ?_; rintro e w9 ⟨rfl, rfl⟩)
      | (go_at_call 86; refine (usesB_calls _ _).mono ?_; rintro e w9 ⟨rfl, rfl⟩))
     first
      | exact ⟨⟨j + 1, cnt, by go_num, rfl, by omega, by omega, hnb, (unhide HN2).symm⟩, by simp [intOf]; omega⟩
      | exact ⟨⟨j + 1, cnt + 1, by go_num, by go_num, by omega, by omega, hnb, (unhide HN2).symm⟩, by simp [intOf]; omega⟩
  · have HF : Hid (oftenV its l d hidden = cnt) := by
     have : oftenV its l d hidden = cnt := by rw [heq.out, List.take_of_length_le (by omega)]
     exact this
    clear heq
    go_wp2_with fail
    go_ret
    exact ⟨by rw [HF.out]; rfl, hbel.out⟩
end Go.Proofs.YtmlkhhhjdpbhfaaGreatDoor
