/- Contracts of the book's holds and unpack, and of the law Unpacks. -/
import Derived.Test.YtmlkhhhjdpbhfaaUnLaw
import Derived.Test.YtmlkhhhjdpbhfaaUnRef2
namespace Go.Proofs.Ytmlkhhhjdpbhfaa
open Go.RowKit

theorem add0 (g j : Nat) : (⟨g, 0, none⟩ : Addr).add j = ⟨g, j, none⟩ := by unfold Addr.add; split <;> simp_all

/-- what holds reads -/
theorem BookV.reads {w : World} {bb : Nat} {lv mv : Value} {ls : List (Value × ByteArray)} (h : BookV w bb lv mv (ls.map Prod.fst) (ls.map Prod.snd) ls) (k : Nat) (hk : k < ls.length) :
    ∃ gl lc gm mc, lv = .slice (some ⟨gl, 0, none⟩) ls.length lc ∧ mv = .slice (some ⟨gm, 0, none⟩) ls.length mc ∧ w.cell? ⟨gl, k, none⟩ = some ls[k].1 ∧ w.cell? ⟨gm, k, none⟩ = some (.string ls[k].2) := by
  have hl := h.rl
  have hm := h.rm
  rw [List.length_map] at hl hm
  obtain ⟨gl, lc, e1, _, _⟩ := hl.form (by omega)
  obtain ⟨gm, mc, e2, _, _⟩ := hm.form (by omega)
  subst e1 e2
  refine ⟨gl, lc, gm, mc, rfl, rfl, ?_, ?_⟩
  · have := World.ownsRow.cells hl (g := gl) rfl k ls[k].1 (by simp [hk])
    rwa [add0] at this
  · have := World.ownsRow.cells hm (g := gm) rfl k (.string ls[k].2) (by simp [strC, hk])
    rwa [add0] at this

set_option maxRecDepth 100000 in
set_option maxHeartbeats 4000000 in
theorem holds_calls (w : World) (bb : Nat) (lv mv : Value) (ls : List (Value × ByteArray)) (hB : BookV w bb lv mv (ls.map Prod.fst) (ls.map Prod.snd) ls) (hl : ls.length ≤ 1000) :
    Calls Try.prog 5 #[.pointer (some ⟨bb, 0, none⟩)] w fun e w' => e = .returned (.bool true) ∧ ∃ n, w' = w.drewN n := by
  have c0 : w.cell? ⟨bb, 0, none⟩ = some lv := hB.blk.cell 0
  have c1 : w.cell? ⟨bb, 1, none⟩ = some mv := hB.blk.cell 1
  obtain ⟨lp, lcap, hlv⟩ := owns_slice hB.rl
  subst hlv
  rw [List.length_map] at *
  have HB := hid_of hB
  clear hB
  go_enter Try.func5, Try.ntmps5
  go_wp2_with fail
  go_loopw [3, 4] (fun v3 _ wr => ∃ (k n : Nat), v3 = .int .i64 k ∧ k ≤ ls.length ∧ wr = w.drewN n) (fun v3 _ _ => ls.length - (intOf v3).toNat)
  case atStart => exact ⟨0, 0, rfl, by omega, rfl⟩
  case round =>
    obtain ⟨k, n, rfl, hk, rfl⟩ := hrel
    by_cases hlt : k < ls.length
    · have hlt' : (k : Int) < (ls.length : Int) := by omega
      obtain ⟨gl, lc, gm, mc, e1, e2, cl, cm⟩ := HB.out.reads k hlt
      injection e1 with e1 _ e3
      subst e1 e2 e3
      have hmark := (HB.out.ok ls[k] (List.getElem_mem hlt)).1
      generalize hq : ls[k] = q at *
      obtain ⟨qv, qm⟩ := q
      clear hq
      simp only at cl cm hmark
      have HM := hid_of hmark.2
      rcases hmark.1 with ⟨qc, rfl⟩ | ⟨g, qn, qc, rfl, hln⟩
      · clear hmark
        go_wp2_with fail
        go_loopw [4] (fun v4 wr => ∃ n, v4 = .int .i64 0 ∧ wr = w.drewN n) (fun _ _ => 0)
        case atStart => exact ⟨n, rfl, rfl⟩
        case round =>
          obtain ⟨n2, rfl, rfl⟩ := hrel
          go_wp2_with fail
          go_roundw
          case rel => exact ⟨k + 1, n2, by go_num, by omega, rfl⟩
          case measure => simp [intOf]; omega
      · clear hmark
        unfold maxLen at hln
        go_wp2_with fail
        go_loopw [4] (fun v4 wr => ∃ (i n : Nat), v4 = .int .i64 i ∧ i ≤ qn ∧ wr = w.drewN n) (fun v4 _ => qn - (intOf v4).toNat)
        case atStart => exact ⟨0, n, rfl, by omega, rfl⟩
        case round =>
          obtain ⟨i, n2, rfl, hi, rfl⟩ := hrel
          by_cases hin : i < qn
          · have hin' : (i : Int) < (qn : Int) := by omega
            have ci := HM.out g rfl i hin
            go_wp2_with fail
            go_quiet (fail)
            go_wp2_with fail
            go_roundw
            case rel => exact ⟨i + 1, _, by go_num, by omega, rfl⟩
            case measure => simp [intOf]; omega
          · have hin' : ¬ (i : Int) < (qn : Int) := by omega
            go_wp2_with fail
            go_roundw
            case rel => exact ⟨k + 1, n2, by go_num, by omega, rfl⟩
            case measure => simp [intOf]; omega
    · have hlt' : ¬ (k : Int) < (ls.length : Int) := by omega
      go_wp2_with fail
      go_ret
      exact ⟨rfl, _, rfl⟩

theorem numT_calls (n : Int) (w : World) : Calls Try.prog 10 #[.int .i64 n] w fun e w' => e = .returned (.int .i64 n) ∧ w' = w := by
  go_enter Try.func10, Try.ntmps10
  go_wp2
  go_ret
  exact ⟨rfl, rfl⟩

theorem low_of {B C : Nat} {a b : World} (h : Below C a b) (k : B ≤ C) : Below B a b := ⟨h.os, h.tape, h.output, h.size, fun j hj => h.block j (Nat.lt_of_lt_of_le hj k)⟩

theorem unp_len (s : ByteArray) : (unpV s).1.length ≤ 40 := by
  have key : ∀ n a k, s.size - a ≤ n → k ≤ 40 → ∀ l, namesF s a k = .inl l → l.length + k ≤ 40 := by
    intro n
    induction n with
    | zero => intro a k h hk l hl; rw [namesF_end (by omega)] at hl; cases hl; simpa using hk
    | succ n ih =>
      intro a k h hk l hl
      by_cases ha : a < s.size
      · by_cases h40 : k = 40
        · subst h40; rw [namesF_full ha] at hl; cases hl
        · cases hn : nameT s a with
          | none => rw [namesF_none ha hn] at hl; cases hl
          | some r =>
            obtain ⟨t, e⟩ := r
            have hok := nameT_ok s a _ hn
            simp only at hok
            rw [namesF_some ha hn h40] at hl
            cases hn2 : namesF s e (k + 1) with
            | inl l2 => rw [hn2] at hl; simp only [preS, Sum.inl.injEq] at hl; subst hl; have := ih e (k + 1) (by omega) (by omega) l2 hn2; simp; omega
            | inr p => rw [hn2] at hl; cases hl
      · rw [namesF_end ha] at hl; cases hl; simpa using hk
  unfold unpV
  split
  · simp
  · split
    · rename_i l hl; have := key s.size 0 0 (by omega) (by omega) l hl; simpa using this
    · simp

set_option maxRecDepth 100000 in
set_option maxHeartbeats 4000000 in
theorem bunpack_calls (s : ByteArray) (hs : s.size ≤ maxLen) (w : World) (bb : Nat) (lv mv : Value) (ls : List (Value × ByteArray)) (hB : BookV w bb lv mv (ls.map Prod.fst) (ls.map Prod.snd) ls) (hl : ls.length ≤ 100) :
    Calls Try.prog 4 #[.pointer (some ⟨bb, 0, none⟩), .string s] w fun e w' => e = .returned (.bool true) ∧ Below bb w w' ∧ ∃ lv mv ls', BookV w' bb lv mv (ls'.map Prod.fst) (ls'.map Prod.snd) ls' ∧ ls'.length = ls.length + 4 := by
  have HB := hid_of hB
  have hbl := hB.blk.lt
  have hlen := unp_len s
  clear hB
  go_enter Try.func4, Try.ntmps4
  go_wp2_with fail
  refine (unpackNames_calls s hs w).mono ?_
  rintro e w1 ⟨hb1, v, rfl, hown⟩
  obtain ⟨vp, vcap, hv⟩ := owns_slice hown
  subst hv
  have HB1 := hid_of hb1
  have HO := hid_of hown
  clear hb1 hown
  simp only
  go_wp2_with fail
  refine (unpackR_calls s hs w1).mono ?_
  rintro e w2 ⟨hb2, v2, rfl, hown2⟩
  obtain ⟨vp2, vcap2, hv⟩ := owns_slice hown2
  subst hv
  have HB2 := hid_of hb2
  have HO2 := hid_of hown2
  have hO1 : w2.ownsRow w.heap.size 9 1 (.slice vp (unpV s).1.length vcap) (unpV s).1.length (strC (unpV s).1) := owns_blocks HO.out fun g e => hb2.block g (HO.out.lt g e).2
  have HO1 := hid_of hO1
  clear hb2 hown2 hO1
  simp only
  go_wp2_with fail
  refine (sameTexts_calls w2 _ _ (unpV s).1 (RowS.of_owns HO1.out) (RowS.of_owns HO2.out) (by unfold maxLen; omega)).mono ?_
  rintro e w3 ⟨rfl, n3, hw3⟩
  have hb3 : Below w.heap.size w w3 := by
    rw [hw3]
    have h1 := HB1.out.size
    exact (HB1.out.trans (low_of HB2.out h1)).trans ⟨rfl, rfl, rfl, Nat.le_refl _, fun _ _ => rfl⟩
  have HB3 := hid_of hb3
  have HO3 := hid_of (p := w3.ownsRow w.heap.size 9 1 (.slice vp (unpV s).1.length vcap) (unpV s).1.length (strC (unpV s).1)) (by rw [hw3]; exact HO1.out)
  have HBk := hid_of (HB.out.below hb3)
  clear hb3 hw3
  simp only
  go_wp2_with fail
  refine (keep_calls w3 bb lv mv _ ls (unpV s).1 HBk.out (owns_low HO3.out (by omega)) ?_ ?_ ?_ hl (by omega)).mono ?_
  · intro g e e2
    have := (HO3.out.lt g e).1
    have := (HB.out.rl.lt g e2).2
    omega
  · intro g e e2
    have := (HO3.out.lt g e).1
    have := (HB.out.rm.lt g e2).2
    omega
  · intro q hq g e e2
    have := (HO3.out.lt g e2).1
    have := ((HB.out.ok q hq).2.2.2 g e).2
    omega
  rintro e w4 ⟨rfl, hb4, lv', mv', ls', hB4, hl4⟩
  have HB4 := hid_of hB4
  have HL4 := hid_of hl4
  have HBe := hid_of ((low_of (B := bb) HB3.out (by omega)).trans hb4)
  clear hB4 hl4 hb4
  simp only
  go_wp2_with (go_at_call 10; refine (numT_calls _ _).mono ?_; rintro e w' ⟨rfl, rfl⟩)
  go_ret
  refine ⟨by simp, HBe.out, _, _, _, HB4.out, HL4.out⟩

set_option maxRecDepth 100000 in
set_option maxHeartbeats 4000000 in
theorem unpacks_calls (s t : ByteArray) (hs : s.size ≤ maxLen) (ht : t.size ≤ maxLen) (w : World) :
    Calls Try.prog 3 #[.string s, .string t] w fun e w' => e = .returned (.bool true) ∧ Below w.heap.size w w' := by
  have hB0 : BookV (w.alloc (.cells #[.slice none 0 0, .slice none 0 0] 26)) w.heap.size (.slice none 0 0) (.slice none 0 0) (([] : List (Value × ByteArray)).map Prod.fst) (([] : List (Value × ByteArray)).map Prod.snd) [] :=
    ⟨Blk.new w _ _, World.ownsRow_nil _ _ _ _, World.ownsRow_nil _ _ _ _, fun g e => by simp [Value.ownBlock] at e, fun q hq => by simp at hq⟩
  have HB0 := hid_of hB0
  clear hB0
  go_enter Try.func3, Try.ntmps3
  go_wp2_with fail
  refine (bunpack_calls s hs _ w.heap.size _ _ [] HB0.out (by simp)).mono ?_
  rintro e w1 ⟨rfl, hb1, lv1, mv1, ls1, hB1, hl1⟩
  have HB1 := hid_of hB1
  have HL1 := hid_of hl1
  have HE1 := hid_of hb1
  clear hB1 hl1 hb1
  simp only
  go_wp2_with fail
  refine (bunpack_calls t ht _ w.heap.size _ _ ls1 HB1.out (by rw [HL1.out]; simp)).mono ?_
  rintro e w2 ⟨rfl, hb2, lv2, mv2, ls2, hB2, hl2⟩
  have HB2 := hid_of hB2
  have HL2 := hid_of hl2
  have HE2 := hid_of hb2
  clear hB2 hl2 hb2
  simp only
  go_wp2_with fail
  refine (bunpack_calls s hs _ w.heap.size _ _ ls2 HB2.out (by rw [HL2.out, HL1.out]; simp)).mono ?_
  rintro e w3 ⟨rfl, hb3, lv3, mv3, ls3, hB3, hl3⟩
  have HB3 := hid_of hB3
  have HL3 := hid_of hl3
  have HE3 := hid_of hb3
  clear hB3 hl3 hb3
  simp only
  go_wp2_with fail
  refine (holds_calls _ w.heap.size _ _ ls3 HB3.out (by rw [HL3.out, HL2.out, HL1.out]; simp)).mono ?_
  rintro e w4 ⟨rfl, n4, hw4⟩
  have HW4 := hid_of hw4
  clear hw4
  simp only
  go_wp2_with fail
  go_ret
  refine ⟨rfl, ?_⟩
  rw [HW4.out]
  have h0 : Below w.heap.size w (w.alloc (.cells #[.slice none 0 0, .slice none 0 0] 26)) := (Below.refl _ _).alloc (Nat.le_refl _) _
  exact (((h0.trans HE1.out).trans HE2.out).trans HE3.out).trans ⟨rfl, rfl, rfl, Nat.le_refl _, fun _ _ => rfl⟩

end Go.Proofs.Ytmlkhhhjdpbhfaa
