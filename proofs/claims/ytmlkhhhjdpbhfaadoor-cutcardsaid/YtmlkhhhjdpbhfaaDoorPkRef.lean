/- Contracts of the document's answer: dot, IsName, began. -/
import Derived.Test.YtmlkhhhjdpbhfaaDoorPkName
import Derived.Test.YtmlkhhhjdpbhfaaDoorUnRow
import Derived.Test.YtmlkhhhjdpbhfaaDoorUnEnd2
namespace Go.Proofs.YtmlkhhhjdpbhfaaDoor
open Go.RowKit

theorem dotAt_drop (l : List UInt8) (k : Nat) (h : k < l.length) : dotAt (l.drop k) = if l[k] = 46 then 0 else dotAt (l.drop (k + 1)) + 1 := by
  rw [List.drop_eq_getElem_cons h, dotAt_cons]

def msS : Value → Nat
  | .string b => b.size
  | _ => 0

theorem getB (b : ByteArray) (k : Nat) (h : k < b.size) : b.data.toList[k]'(by rw [size_list]; exact h) = b[k] := rfl

set_option maxHeartbeats 1000000 in
theorem dotG_calls (b : ByteArray) (hb : b.size ≤ 60) (l : List UInt8) (hs : l.length = b.size) (hget : ∀ k (_ : k < b.size) (h2 : k < l.length), l[k] = b[k]) (w : World) :
    Calls Tryd.prog 27 #[.string b] w fun e w' => e = .returned (.int .i64 (dotAt l : Nat)) ∧ w' = w := by
  have HS := hid_of hs
  have HGet := hid_of hget
  clear hs hget
  go_enter Tryd.func27, Tryd.ntmps27
  go_wp2_with fail
  go_loop [3] (fun v3 => ∃ k : Nat, v3 = .int .i64 k ∧ k ≤ b.size ∧ Hid (dotAt l = dotAt (l.drop k) + k)) (fun v3 => b.size - (intOf v3).toNat)
  case atStart => exact ⟨0, rfl, by omega, (show dotAt l = dotAt (l.drop 0) + 0 by simp)⟩
  case round =>
    obtain ⟨k, rfl, hk, h1⟩ := hrel
    by_cases hlt : k < b.size
    · have hlt' : (k : Int) < (b.size : Int) := by omega
      have hlt2 : k < l.length := by rw [HS.out]; exact hlt
      have HD := hid_of (dotAt_drop l k hlt2)
      have hg : l[k] = b[k] := HGet.out k hlt hlt2
      obtain ⟨c, hc⟩ : ∃ c : Nat, b[k].toNat = c := ⟨_, rfl⟩
      have HC := hid_of (p := l[k] = 46 ↔ c = 46) (by
        rw [← hc, hg]
        constructor
        · intro e; rw [e]; rfl
        · intro e; exact UInt8.toNat_inj.1 e)
      clear hg
      by_cases h46 : c = 46
      · have h46' : ((c : Int) == 46) = true := by simp; omega
        go_wp2_with fail
        go_ret
        refine ⟨ret_int ?_, rfl⟩
        rw [h1.out, HD.out, if_pos (HC.out.2 h46), Nat.zero_add]
      · have h46' : ((c : Int) == 46) = false := by simp; omega
        go_wp2_with fail
        go_round
        case rel => exact ⟨k + 1, by go_num, by omega, (show dotAt l = dotAt (l.drop (k + 1)) + (k + 1) by rw [h1.out, HD.out, if_neg (fun e => h46 (HC.out.1 e))]; omega)⟩
        case measure => simp [intOf]; omega
    · have hlt' : ¬ (k : Int) < (b.size : Int) := by omega
      go_wp2_with fail
      go_ret
      refine ⟨ret_int ?_, rfl⟩
      rw [h1.out, List.drop_of_length_le (by rw [HS.out]; omega)]
      simp [dotAt]

theorem dot_calls (l : List UInt8) (hl : l.length ≤ 60) (w : World) :
    Calls Tryd.prog 27 #[.string (bs l)] w fun e w' => e = .returned (.int .i64 (dotAt l : Nat)) ∧ w' = w :=
  dotG_calls (bs l) (by rw [bs_size]; exact hl) l (bs_size l).symm (fun k h _ => getB (bs l) k h) w

set_option maxRecDepth 100000 in
set_option maxHeartbeats 2000000 in
theorem isNameR_calls (l : List UInt8) (hl : l.length ≤ maxLen) (w : World) :
    Calls Tryd.prog 25 #[.string (bs l)] w fun e w' => e = .returned (.bool (nmOk l)) ∧ w' = w := by
  have hs : (bs l).size = l.length := bs_size l
  unfold maxLen at hl
  by_cases h60 : 60 < l.length
  · have h60' : 60 < ((bs l).size : Int) := by omega
    have hb : ((bs l).size : Int) ≤ 9223372036854775807 := by omega
    have HN := hid_of (p := nmOk l = false) (by unfold nmOk; rw [decide_eq_false (by omega)]; rfl)
    clear hs
    go_enter Tryd.func25, Tryd.ntmps25
    go_wp2_with fail
    go_ret
    exact ⟨ret_bool HN.out.symm, rfl⟩
  have h60' : ¬ 60 < ((bs l).size : Int) := by omega
  have HN := hid_of (p := nmOk l = (pieces l).all fun p => lblOk (bs p)) (by unfold nmOk; rw [decide_eq_true (by omega)]; rfl)
  clear hs
  go_enter Tryd.func25, Tryd.ntmps25
  go_wp2_with fail
  go_loop [0, 3, 4] (fun v0 _ _ => ∃ l' : List UInt8, v0 = .string (bs l') ∧ l'.length ≤ 60 ∧ Hid ((pieces l).all (fun p => lblOk (bs p)) = (pieces l').all fun p => lblOk (bs p))) (fun v0 _ _ => msS v0)
  case atStart => exact ⟨l, rfl, by omega, rfl⟩
  case round =>
    obtain ⟨l', rfl, hl', h1⟩ := hrel
    have hd := dotAt_le l'
    have hs' : (bs l').size = l'.length := bs_size l'
    have HEx := hid_of (p := (bs l').extract 0 (dotAt l') = bs (l'.take (dotAt l'))) (by rw [bs_extract]; simp)
    have HEx2 := hid_of (p := (bs l').extract (dotAt l' + 1) (bs l').size = bs (l'.drop (dotAt l' + 1))) (by rw [bs_extract, List.take_of_length_le (by rw [List.length_drop, bs_size]; omega)])
    have HP := hid_of (congrArg (fun z => z.all fun p => lblOk (bs p)) (pieces_eq l'))
    have hd' : (dotAt l' : Int) ≤ ((bs l').size : Int) := by omega
    have HS' := hid_of hs'
    have hs60 : (bs l').size ≤ 60 := by omega
    clear hs'
    cases ho : lblOk (bs (l'.take (dotAt l')))
    · have HO := hid_of ho
      clear ho
      go_wp2_with (first
        | (go_at_call 27; refine (dot_calls l' hl' _).mono ?_; rintro e w' ⟨rfl, rfl⟩)
        | (go_at_call 44; rw [HEx.out]; refine (isLabelR_calls _ (by rw [bs_size, List.length_take]; omega) _).mono ?_; rintro e w' ⟨rfl, rfl⟩; rw [HO.out]))
      go_ret
      refine ⟨ret_bool ?_, rfl⟩
      have := HP.out
      simp only [List.all_cons, HO.out, Bool.false_and] at this
      rw [HN.out, h1.out, this]
    · have HO := hid_of ho
      clear ho
      by_cases hde : dotAt l' = l'.length
      · have hde' : ((dotAt l' : Int) == ((bs l').size : Int)) = true := by have := HS'.out; simp; omega
        have HDe := hid_of hde
        clear hde
        go_wp2_with (first
          | (go_at_call 27; refine (dot_calls l' hl' _).mono ?_; rintro e w' ⟨rfl, rfl⟩)
          | (go_at_call 44; rw [HEx.out]; refine (isLabelR_calls _ (by rw [bs_size, List.length_take]; omega) _).mono ?_; rintro e w' ⟨rfl, rfl⟩; rw [HO.out]))
        go_ret
        refine ⟨ret_bool ?_, rfl⟩
        have := HP.out
        rw [if_pos HDe.out] at this
        simp only [List.all_cons, HO.out, Bool.true_and, List.all_nil] at this
        rw [HN.out, h1.out, this]
      · have hde' : ((dotAt l' : Int) == ((bs l').size : Int)) = false := by have := HS'.out; simp; omega
        have hdl : (dotAt l' : Int) + 1 ≤ ((bs l').size : Int) := by have := HS'.out; omega
        have HDe := hid_of hde
        have hdlt : dotAt l' < l'.length := by omega
        clear hde
        go_wp2_with (first
          | (go_at_call 27; refine (dot_calls l' hl' _).mono ?_; rintro e w' ⟨rfl, rfl⟩)
          | (go_at_call 44; rw [HEx.out]; refine (isLabelR_calls _ (by rw [bs_size, List.length_take]; omega) _).mono ?_; rintro e w' ⟨rfl, rfl⟩; rw [HO.out]))
        go_round
        case rel =>
          refine ⟨l'.drop (dotAt l' + 1), ?_, by rw [List.length_drop]; omega, (show _ = _ from ?_)⟩
          · rw [← HEx2.out]
          · have := HP.out
            rw [if_neg HDe.out] at this
            simp only [List.all_cons, HO.out, Bool.true_and] at this
            rw [h1.out, this]
        case measure =>
          show ((bs l').extract (dotAt l' + 1) (bs l').size).size < (bs l').size
          rw [ByteArray.size_extract]; have := HS'.out; omega

end Go.Proofs.YtmlkhhhjdpbhfaaDoor
