/- The contract of the document's answer's UnpackNames. -/
import Derived.Test.YtmlkhhhjdpbhfaaUnRef
import Derived.Test.YtmlkhhhjdpbhfaaUnUnp
namespace Go.Proofs.Ytmlkhhhjdpbhfaa
open Go.RowKit

theorem extract_tail (x : ByteArray) (l : List UInt8) (h : x.data.toList = 46 :: l) : x.extract 1 x.size = ⟨l.toArray⟩ := by
  apply ByteArray.ext
  apply Array.ext'
  rw [ByteArray.data_extract, Array.toList_extract]
  show (x.data.toList.drop 1).take (x.size - 1) = l
  rw [h]
  have : x.size = l.length + 1 := by show x.data.size = _; rw [← Array.length_toList, h]; rfl
  simp [this]

theorem sp_yes {s : ByteArray} {a p : Nat} {ls : List ByteArray} {x : ByteArray} (h : nameF s a a = some (ls, p)) (hx : x.data.toList = dotted ls) (h1 : ¬ x.size < 2) (h2 : ¬ 61 < x.size) : nameT s a = some (x.extract 1 x.size, p) := by
  have hd := joinN_nil ls (nameF_ok s a a _ h).1
  have hxs : x.size = (dotted ls).length := by show x.data.size = _; rw [← Array.length_toList, hx]
  by_cases hl : ls = []
  · rw [hl] at hxs; have h0 : (dotted []).length = 0 := rfl; omega
  · rw [if_neg hl] at hd
    have hl2 : x.size = (joinN [] ls).length + 1 := by rw [hxs, hd]; rfl
    unfold nameT
    rw [h]
    simp only
    rw [if_pos (by omega), extract_tail x _ (hx.trans hd)]

theorem sp_no {s : ByteArray} {a p : Nat} {ls : List ByteArray} {x : ByteArray} (h : nameF s a a = some (ls, p)) (hx : x.data.toList = dotted ls) (h1 : x.size < 2 ∨ 61 < x.size) : nameT s a = none := by
  have hd := joinN_nil ls (nameF_ok s a a _ h).1
  have hxs : x.size = (dotted ls).length := by show x.data.size = _; rw [← Array.length_toList, hx]
  unfold nameT
  rw [h]
  simp only
  by_cases hl : ls = []
  · subst hl; rw [if_neg (by simp [joinN])]
  · rw [if_neg hl] at hd
    have hl2 : x.size = (joinN [] ls).length + 1 := by rw [hxs, hd]; rfl
    rw [if_neg (by omega)]

theorem sp_none {s : ByteArray} {a : Nat} (h : ∀ ls p, nameF s a a = some (ls, p) → 61 < (dotted ls).length) : nameT s a = none := by
  unfold nameT
  split
  · rename_i ls e he
    have h1 := h ls e he
    have hd := joinN_nil ls (nameF_ok s a a _ he).1
    by_cases hl : ls = []
    · subst hl; simp [dotted] at h1
    · rw [if_neg hl] at hd
      rw [hd] at h1
      simp at h1
      rw [if_neg (by omega)]
  · rfl

structure UnrAt (s : ByteArray) (w : World) (v : Value) (p : Nat) (done : List ByteArray) (wr : World) : Prop where
  hi : p ≤ s.size
  row : wr.ownsRow w.heap.size 9 1 v done.length (strC done)
  len : done.length ≤ 40
  fr : Below w.heap.size w wr
  eq : namesF s 0 0 = match namesF s p done.length with | .inl l => .inl (done ++ l) | .inr q => .inr q

set_option maxRecDepth 100000 in
set_option maxHeartbeats 2000000 in
theorem unpackR_calls (s : ByteArray) (hsl : s.size ≤ maxLen) (w : World) :
    Calls Try.prog 7 #[.string s] w fun e w' => UnpPost w.heap.size (unpV s) w e w' := by
  obtain ⟨i0, hi0, hz0, hz1, hz2⟩ := info_parts3 Try.infoStr
  unfold maxLen at hsl
  by_cases hlong : 4000 < s.size
  · have hlong' : 4000 < (s.size : Int) := by omega
    have HV := hid_of (p := unpV s = ([], 1, 0)) (by unfold unpV; rw [if_pos hlong])
    go_enter Try.func7, Try.ntmps7
    go_wp2_with fail
    refine bodyPost_ret (v := .tuple #[.slice none 0 0, .int .i64 1, .int .i64 0]) (by simp [results, Try.results7, go_sem]) rfl ?_
    rw [HV.out]
    exact ⟨Below.refl _ _, _, rfl, World.ownsRow_nil _ _ _ _⟩
  have hlong' : ¬ 4000 < (s.size : Int) := by omega
  have HL := hid_of hlong
  have HA0 := hid_of (p := UnrAt s w (.slice none 0 0) 0 [] w) ⟨by omega, World.ownsRow_nil _ _ _ _, by simp, (Below.refl _ _), by simp; split <;> rename_i h <;> rw [h]⟩
  go_enter Try.func7, Try.ntmps7
  go_wp2_with fail
  go_loopw [5, 6, 7, 8, 9] (fun v5 v6 _ _ _ wr => ∃ (vv : Value) (W : World) (p : Nat) (done : List ByteArray), vv = v5 ∧ W = wr ∧ v6 = .int .i64 p ∧ Hid (UnrAt s w vv p done W)) (fun _ v6 _ _ _ _ => s.size - (intOf v6).toNat)
  case atStart => exact ⟨_, _, 0, [], rfl, rfl, rfl, HA0⟩
  case round =>
    obtain ⟨vv, wr, p, done, hvv, hwr, rfl, HA⟩ := hrel
    subst hvv hwr
    have hp2 := HA.out.hi
    have hdl := HA.out.len
    obtain ⟨np, capv, hnv⟩ := owns_slice HA.out.row
    subst hnv
    by_cases hps : p < s.size
    · have hps' : (p : Int) < (s.size : Int) := by omega
      go_wp2_with fail
      refine (spelled_calls s (by omega) p (by omega) p wr (by omega)).mono ?_
      rintro e w1 ⟨⟨ls, q, x, hr, rfl, hx, hxs⟩ | ⟨x, q, rfl, hxs, hr⟩, hw1⟩
      · subst hw1
        have HR := hid_of hr
        have HX := hid_of hx
        clear hr hx
        by_cases h2 : x.size < 2
        · have h2' : (x.size : Int) < 2 := by omega
          have HV := hid_of (p := unpV s = ([], 14, (p : Int))) (unpV_inr HL.out (by rw [HA.out.eq, namesF_none hps (sp_no HR.out HX.out (Or.inl h2))]))
          simp only
          go_wp2_with fail
          refine bodyPost_ret (v := .tuple #[.slice none 0 0, .int .i64 14, .int .i64 p]) (by simp [results, Try.results7, go_sem]) rfl ?_
          rw [HV.out]
          exact ⟨HA.out.fr, _, rfl, World.ownsRow_nil _ _ _ _⟩
        have h2' : ¬ (x.size : Int) < 2 := by omega
        by_cases h3 : 61 < x.size
        · have h3' : 61 < (x.size : Int) := by omega
          have HV := hid_of (p := unpV s = ([], 14, (p : Int))) (unpV_inr HL.out (by rw [HA.out.eq, namesF_none hps (sp_no HR.out HX.out (Or.inr h3))]))
          simp only
          go_wp2_with fail
          refine bodyPost_ret (v := .tuple #[.slice none 0 0, .int .i64 14, .int .i64 p]) (by simp [results, Try.results7, go_sem]) rfl ?_
          rw [HV.out]
          exact ⟨HA.out.fr, _, rfl, World.ownsRow_nil _ _ _ _⟩
        have h3' : ¬ 61 < (x.size : Int) := by omega
        have hT := sp_yes HR.out HX.out h2 h3
        by_cases h40 : done.length = 40
        · have h40' : ((done.length : Int) == 40) = true := by simp; omega
          have HV := hid_of (p := unpV s = ([], 14, (p : Int))) (unpV_inr HL.out (by rw [HA.out.eq, h40, namesF_full hps]))
          clear h40 hT
          simp only
          go_wp2_with fail
          refine bodyPost_ret (v := .tuple #[.slice none 0 0, .int .i64 14, .int .i64 p]) (by simp [results, Try.results7, go_sem]) rfl ?_
          rw [HV.out]
          exact ⟨HA.out.fr, _, rfl, World.ownsRow_nil _ _ _ _⟩
        have h40' : ((done.length : Int) == 40) = false := by simp; omega
        have HE := hid_of (namesF_some (k := done.length) hps hT h40)
        have hpq := (nameT_ok s p _ hT)
        simp only at hpq
        have hws := HA.out.fr.size
        clear hT
        simp only
        go_wp2_with
          (at_builtin
           refine wpList_append_lies _ rfl _ _ _ rfl w.heap.size 9 i0 _ 1 16 Try.underlying24 hi0 hz0 hz1 hz2 rfl (by omega) (.slice np done.length capv) done.length (strC done) rfl (HA.out.row.alloc _) ⟨w1.heap.size, 0, none⟩ 1 1 [.string (x.extract 1 x.size)] rfl rfl (World.news_of_block (cs := #[.string (x.extract 1 x.size)]) (t := 9) (fr := (0, 0)) (heap_alloc_new w1 _)) (by simp [Value.oneCell']) (by omega) (by unfold maxLen; omega) (by omega) (by simp; omega) (w1.heap.size + 1) (by simp) ?_
           intro g4 cap4 w4 hown4 hgrow4 hat4 hlt4)
        have HA4 := hid_of (p := UnrAt s w (.slice (some ⟨g4, 0, none⟩) (done.length + 1) cap4) q (done ++ [x.extract 1 x.size]) w4) (by
          have hz4 := hgrow4.size
          simp at hz4
          have hk : ∀ k, k < w.heap.size → w4.heap[k]? = w1.heap[k]? := fun k hk => by
            rw [hgrow4.block k (by simp; omega) (fun e => by have := (HA.out.row.lt k e.symm).1; omega), Below.heap_alloc _ _ _ (by omega)]
          refine ⟨hpq.2, ?_, by simp; omega, ?_, ?_⟩
          · simpa [strC] using hown4
          · exact HA.out.fr.trans ⟨hgrow4.os, hgrow4.tape, hgrow4.output, by omega, fun k h => hk k h⟩
          · rw [HA.out.eq, HE.out]
            simp
            cases namesF s q (done.length + 1) <;> simp [preS])
        go_roundw
        case rel => exact ⟨_, _, _, _, rfl, rfl, rfl, HA4⟩
        case measure => simp [intOf]; omega
      · subst hw1
        have HV := hid_of (p := unpV s = ([], 14, (p : Int))) (unpV_inr HL.out (by rw [HA.out.eq, namesF_none hps (sp_none hr)]))
        clear hr
        simp only
        go_wp2_with fail
        refine bodyPost_ret (v := .tuple #[.slice none 0 0, .int .i64 14, .int .i64 p]) (by simp [results, Try.results7, go_sem]) rfl ?_
        rw [HV.out]
        exact ⟨HA.out.fr, _, rfl, World.ownsRow_nil _ _ _ _⟩
    · have hps' : ¬ (p : Int) < (s.size : Int) := by omega
      have HV := hid_of (p := unpV s = (done, 0, 0)) (unpV_inl HL.out (by rw [HA.out.eq, namesF_end (by omega)]; simp))
      go_wp2_with fail
      refine bodyPost_ret (v := .tuple #[.slice np done.length capv, .int .i64 0, .int .i64 0]) (by simp [results, Try.results7, go_sem]) rfl ?_
      rw [HV.out]
      exact ⟨HA.out.fr, _, rfl, HA.out.row⟩

end Go.Proofs.Ytmlkhhhjdpbhfaa
