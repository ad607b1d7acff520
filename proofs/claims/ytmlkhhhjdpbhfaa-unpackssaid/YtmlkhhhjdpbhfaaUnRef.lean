/- Contracts of the document's answer: IsLabel, Spelled. -/
import Derived.Test.YtmlkhhhjdpbhfaaUnEnd2
namespace Go.Proofs.Ytmlkhhhjdpbhfaa
open Go.RowKit

set_option maxHeartbeats 400000 in
theorem letterT_calls (c a b : Int) (w : World) (h0 : 0 ≤ c) (h1 : c ≤ 255) (h2 : 0 ≤ a) :
    Calls Try.prog 17 #[.int .u8 c, .int .u8 a, .int .u8 b] w fun e w' => e = .returned (.int .i64 (letterV c a b)) ∧ w' = w := by
  by_cases ha : c < a
  · go_enter Try.func17, Try.ntmps17
    go_wp2
    go_ret
    exact ⟨ret_int (by simp [letterV, ha]), rfl⟩
  · by_cases hb : b < c
    · go_enter Try.func17, Try.ntmps17
      go_wp2
      go_ret
      exact ⟨ret_int (by simp [letterV, hb]), rfl⟩
    · go_enter Try.func17, Try.ntmps17
      go_wp2
      go_ret
      exact ⟨ret_int (by rw [letterV, if_neg (by omega)]), rfl⟩

theorem ofB_letter (c : Int) : ofB c = !(decide (letterV c 97 122 < 0) && decide (letterV c 48 57 < 0)) := by
  unfold ofB letterV
  rw [Bool.eq_iff_iff]
  simp only [decide_eq_true_eq, Bool.not_eq_true', Bool.and_eq_false_iff, decide_eq_false_iff_not]
  split <;> split <;> omega

set_option maxHeartbeats 1000000 in
theorem isLabelR_calls (b : ByteArray) (hb : b.size ≤ 8000) (w : World) :
    Calls Try.prog 15 #[.string b] w fun e w' => e = .returned (.bool (lblOk b)) ∧ w' = w := by
  go_enter Try.func15, Try.ntmps15
  go_wp2_with fail
  go_loop [3, 4, 5] (fun v3 _ _ => ∃ (i : Nat), v3 = .int .i64 i ∧ i ≤ b.size ∧ Hid (ofTo b i = true)) (fun v3 _ _ => b.size - (intOf v3).toNat)
  case atStart => exact ⟨0, rfl, by omega, (show ofTo b 0 = true by rfl)⟩
  case round =>
    obtain ⟨i, rfl, h1, h2⟩ := hrel
    by_cases hi : i < b.size
    · have hi' : (i : Int) < (b.size : Int) := by omega
      have HS := hid_of (ofTo_succ b i hi)
      have HBt := hid_of (bt_in b i hi)
      have hb0 : 0 ≤ (b[i].toNat : Int) := by omega
      have hb1 : (b[i].toNat : Int) ≤ 255 := by have := b[i].toNat_lt; omega
      have HO := hid_of (ofB_letter (b[i].toNat : Int))
      by_cases ha : letterV (b[i].toNat : Int) 97 122 < 0
      · by_cases hc : letterV (b[i].toNat : Int) 48 57 < 0
        · have HN := hid_of (p := ofB (b[i].toNat : Int) = false) (by rw [HO.out, decide_eq_true ha, decide_eq_true hc]; rfl)
          go_wp2_with (go_at_call 17; refine (letterT_calls _ _ _ _ hb0 hb1 (by omega)).mono ?_; rintro e w' ⟨rfl, rfl⟩)
          go_ret
          refine ⟨ret_bool ?_, rfl⟩
          unfold lblOk
          rw [ofTo_no b (i + 1) (by rw [HS.out, HBt.out, HN.out]; simp), Bool.and_false]
        · have HN := hid_of (p := ofB (b[i].toNat : Int) = true) (by rw [HO.out, decide_eq_true ha, decide_eq_false hc]; rfl)
          go_wp2_with (go_at_call 17; refine (letterT_calls _ _ _ _ hb0 hb1 (by omega)).mono ?_; rintro e w' ⟨rfl, rfl⟩)
          go_round
          case rel => exact ⟨i + 1, by go_num, by omega, (show ofTo b (i + 1) = true by rw [HS.out, HBt.out, HN.out, h2.out]; rfl)⟩
          case measure => simp [intOf]; omega
      · have HN := hid_of (p := ofB (b[i].toNat : Int) = true) (by rw [HO.out, decide_eq_false ha]; rfl)
        go_wp2_with (go_at_call 17; refine (letterT_calls _ _ _ _ hb0 hb1 (by omega)).mono ?_; rintro e w' ⟨rfl, rfl⟩)
        go_round
        case rel => exact ⟨i + 1, by go_num, by omega, (show ofTo b (i + 1) = true by rw [HS.out, HBt.out, HN.out, h2.out]; rfl)⟩
        case measure => simp [intOf]; omega
    · have hi' : ¬ (i : Int) < (b.size : Int) := by omega
      have HI := hid_of (p := (b.data.toList.all fun b => ofB b.toNat) = true) (by rw [← ofTo_all, ← h2.out]; congr 1; omega)
      by_cases h3 : 0 < b.size
      · have h3' : 0 < (b.size : Int) := by omega
        by_cases h4 : b.size < 16
        · have h4' : (b.size : Int) < 16 := by omega
          go_wp2_with fail
          go_ret
          refine ⟨ret_bool ?_, rfl⟩
          unfold lblOk
          rw [HI.out]; simp; omega
        · have h4' : ¬ (b.size : Int) < 16 := by omega
          go_wp2_with fail
          go_ret
          refine ⟨ret_bool ?_, rfl⟩
          unfold lblOk
          rw [HI.out]; simp; omega
      · have h3' : ¬ 0 < (b.size : Int) := by omega
        go_wp2_with fail
        go_ret
        refine ⟨ret_bool ?_, rfl⟩
        unfold lblOk
        rw [HI.out]; simp; omega

/-- behind Spelled -/
def SpPost (s : ByteArray) (a below : Nat) (e : Ending) : Prop :=
  (∃ ls p x, nameF s a below = some (ls, p) ∧ e = .returned (.tuple #[.string x, .int .i64 (p : Nat), .bool true]) ∧ x.data.toList = dotted ls ∧ x.size ≤ (below + 1) * 100) ∨
  (∃ x q, e = .returned (.tuple #[.string x, .int .i64 q, .bool false]) ∧ x.size ≤ (below + 1) * 100 ∧ ∀ ls p, nameF s a below = some (ls, p) → 61 < (dotted ls).length)

def SpS (s : ByteArray) (below : Nat) : Prop := ∀ (a : Nat) (w : World), a ≤ 8000 → Calls Try.prog 12 #[.string s, .int .i64 a, .int .i64 below] w fun e w' => SpPost s a below e ∧ w' = w

structure SpAt (s : ByteArray) (a below : Nat) (p : Nat) (done : List ByteArray) (x : ByteArray) : Prop where
  hi : p ≤ 8000
  tx : x.data.toList = dotted done
  len : x.size ≤ 77
  eq : nameF s a below = (nameF s p below).map fun r => (done ++ r.1, r.2)

set_option maxRecDepth 100000 in
set_option maxHeartbeats 4000000 in
theorem spelled_step (s : ByteArray) (hs : s.size ≤ 4000) (below : Nat) (hbl : below ≤ 8000) (ih : ∀ to, to < below → SpS s to) : SpS s below := by
  intro a w ha
  have HI := hid_of ih
  clear ih
  have HA0 := hid_of (p := SpAt s a below a [] ByteArray.empty) ⟨ha, rfl, by simp, by simp⟩
  go_enter Try.func12, Try.ntmps12
  go_wp2_with fail
  go_loop [1, 9, 10, 11, 12, 13, 14, 15, 16] (fun v1 v9 _ _ _ _ _ _ _ => ∃ (p : Nat) (done : List ByteArray) (x : ByteArray), v1 = .int .i64 p ∧ v9 = .string x ∧ Hid (SpAt s a below p done x)) (fun v1 _ _ _ _ _ _ _ _ => s.size - (intOf v1).toNat)
  case atStart => exact ⟨a, [], ByteArray.empty, rfl, rfl, HA0⟩
  case round =>
    obtain ⟨p, done, x, rfl, rfl, HA⟩ := hrel
    have hx := HA.out.len
    by_cases hps' : ¬ p < s.size
    · have hps2 : ¬ (p : Int) < (s.size : Int) := by omega
      have HE := hid_of (p := ∀ ls q, nameF s a below = some (ls, q) → 61 < (dotted ls).length) (by
        intro ls q hq
        rw [HA.out.eq, nameF_no (fun h => absurd h hps') (fun h => absurd h hps') (by unfold labV; rw [decide_eq_false (by omega)]; rfl)] at hq
        cases hq)
      go_wp2_with fail
      refine bodyPost_ret (v := .tuple #[.string ByteArray.empty, .int .i64 0, .bool false]) (by simp [results, Try.results12, go_sem]; rfl) rfl ?_
      exact ⟨Or.inr ⟨_, _, rfl, by simp, HE.out⟩, rfl⟩
    have hps : p < s.size := by omega
    have hps2 : (p : Int) < (s.size : Int) := by omega
    clear hps'
    by_cases h61 : 61 < x.size
    · have h61' : ¬ (x.size : Int) ≤ 61 := by omega
      have HE := hid_of (p := ∀ ls q, nameF s a below = some (ls, q) → 61 < (dotted ls).length) (by
        intro ls q hq
        rw [HA.out.eq] at hq
        obtain ⟨r, _, hr⟩ := Option.map_eq_some_iff.1 hq
        cases hr
        rw [dotted_append, ← HA.out.tx, List.length_append, Array.length_toList]
        have : x.data.size = x.size := rfl
        omega)
      go_wp2_with fail
      refine bodyPost_ret (v := .tuple #[.string ByteArray.empty, .int .i64 0, .bool false]) (by simp [results, Try.results12, go_sem]; rfl) rfl ?_
      exact ⟨Or.inr ⟨_, _, rfl, by simp, HE.out⟩, rfl⟩
    have h61' : (x.size : Int) ≤ 61 := by omega
    obtain ⟨c, hc⟩ : ∃ c : Nat, s[p].toNat = c := ⟨_, rfl⟩
    have HBt := hid_of (p := bt s p = (c : Int)) (by rw [bt_in s p hps, hc])
    have HBn := hid_of (p := btN s p = c) (by unfold btN; rw [HBt.out]; simp)
    have hc255 : c ≤ 255 := by have := bt_hi s p; rw [HBt.out] at this; omega
    by_cases hc0 : c = 0
    · have HE := hid_of (p := nameF s a below = some (done, p + 1)) (by rw [HA.out.eq, nameF_zero hps (by rw [HBt.out, hc0]; rfl)]; simp)
      subst hc0
      go_wp2_with fail
      refine bodyPost_ret (v := .tuple #[.string x, .int .i64 ((p + 1 : Nat) : Int), .bool true]) (by simp [results, Try.results12, go_sem]) rfl ?_
      exact ⟨Or.inl ⟨done, p + 1, x, HE.out, rfl, HA.out.tx, by omega⟩, rfl⟩
    have hc0' : ((c : Int) == 0) = false := by simp; omega
    by_cases hc16 : c < 16
    · have hc16' : (c : Int) < 16 := by omega
      by_cases hin : p + c < s.size
      · have hin' : ¬ (s.size : Int) ≤ (p : Int) + (c : Int) := by omega
        have hin2 : (p : Int) + 1 + (c : Int) ≤ (s.size : Int) := by omega
        have HV := hid_of (p := labV s p = lblOk (s.extract (p + 1) (p + 1 + c))) (by
          unfold labV; rw [HBt.out, HBn.out, decide_eq_true (by omega)]; rfl)
        have hls : (s.extract (p + 1) (p + 1 + c)).size = c := by rw [ByteArray.size_extract]; omega
        have HLS := hid_of hls
        cases hlo : lblOk (s.extract (p + 1) (p + 1 + c))
        · have HLo := hid_of hlo
          have HE := hid_of (p := ∀ ls q, nameF s a below = some (ls, q) → 61 < (dotted ls).length) (by
            intro ls q hq
            rw [HA.out.eq, nameF_no (fun _ => by rw [HBt.out]; omega) (fun _ => by rw [HBt.out]; omega) (by rw [HV.out, hlo])] at hq
            cases hq)
          clear hlo hls
          go_wp2_with (go_at_call 15; refine (isLabelR_calls (s.extract (p + 1) (p + 1 + c)) (by rw [HLS.out]; omega) _).mono ?_; rintro e w' ⟨rfl, rfl⟩; rw [HLo.out])
          refine bodyPost_ret (v := .tuple #[.string ByteArray.empty, .int .i64 0, .bool false]) (by simp [results, Try.results12, go_sem]; rfl) rfl ?_
          exact ⟨Or.inr ⟨_, _, rfl, by simp, HE.out⟩, rfl⟩
        · have HLo := hid_of hlo
          have HE := hid_of (p := nameF s a below = (nameF s (p + 1 + c) below).map fun r => ((done ++ [s.extract (p + 1) (p + 1 + c)]) ++ r.1, r.2)) (by
            rw [HA.out.eq, nameF_lab (by rw [HBt.out]; omega) (by rw [HBt.out]; omega) (by rw [HV.out, hlo]), HBn.out]
            cases nameF s (p + 1 + c) below <;> simp)
          have HX := hid_of (p := (x ++ ⟨#[46]⟩ ++ s.extract (p + 1) (p + 1 + c)).data.toList = dotted (done ++ [s.extract (p + 1) (p + 1 + c)])) (by
            rw [dotted_append, ← HA.out.tx]
            simp [dotted])
          have HXs := hid_of (p := (x ++ ⟨#[46]⟩ ++ s.extract (p + 1) (p + 1 + c)).size ≤ 77) (by
            rw [ByteArray.size_append, ByteArray.size_append, HLS.out]
            show x.size + 1 + c ≤ 77
            omega)
          clear hlo
          generalize hlab : s.extract (p + 1) (p + 1 + c) = lab at *
          go_wp2_with (go_at_call 15; refine (isLabelR_calls lab (by rw [HLS.out]; omega) _).mono ?_; rintro e w' ⟨rfl, rfl⟩; rw [HLo.out])
          go_round
          case rel => exact ⟨p + 1 + c, _, _, by go_num, rfl, (show SpAt _ _ _ _ _ _ from ⟨by omega, HX.out, HXs.out, HE.out⟩)⟩
          case measure => simp [intOf]; omega
      · have hin' : (s.size : Int) ≤ (p : Int) + (c : Int) := by omega
        have HE := hid_of (p := ∀ ls q, nameF s a below = some (ls, q) → 61 < (dotted ls).length) (by
          intro ls q hq
          rw [HA.out.eq, nameF_no (fun _ => by rw [HBt.out]; omega) (fun _ => by rw [HBt.out]; omega) (by unfold labV; rw [HBt.out, HBn.out, decide_eq_false (by omega)]; rfl)] at hq
          cases hq)
        go_wp2_with fail
        refine bodyPost_ret (v := .tuple #[.string ByteArray.empty, .int .i64 0, .bool false]) (by simp [results, Try.results12, go_sem]; rfl) rfl ?_
        exact ⟨Or.inr ⟨_, _, rfl, by simp, HE.out⟩, rfl⟩
    have hc16' : ¬ (c : Int) < 16 := by omega
    by_cases hc192 : 192 ≤ c ∧ p + 1 < s.size
    · obtain ⟨h1, h2⟩ := hc192
      have h1' : 192 ≤ (c : Int) := by omega
      have h2' : (p : Int) + 1 < (s.size : Int) := by omega
      obtain ⟨d, hd⟩ : ∃ d : Nat, s[p + 1].toNat = d := ⟨_, rfl⟩
      have HBt2 := hid_of (p := bt s (p + 1) = (d : Int)) (by rw [bt_in s (p + 1) h2, hd])
      have hd255 : d ≤ 255 := by have := bt_hi s (p + 1); rw [HBt2.out] at this; omega
      have HTo := hid_of (p := ptrV s p = (c - 192) * 256 + d) (by unfold ptrV; rw [HBn.out]; unfold btN; rw [HBt2.out]; simp)
      have HPt := hid_of (p := nameF s a below = (ledF s p below).map fun r => (done ++ r.1, r.2)) (by rw [HA.out.eq, nameF_ptr hps (by rw [HBt.out]; omega)])
      by_cases hto : (c - 192) * 256 + d < below
      · have hto' : ¬ (below : Int) ≤ 256 * ((c : Int) - 192) + (d : Int) := by omega
        go_wp2_with fail
        have e1 : 256 * ((c : Int) - 192) + (d : Int) = (((c - 192) * 256 + d : Nat) : Int) := by omega
        rw [e1]
        refine (HI.out _ hto ((c - 192) * 256 + d) w (by omega)).mono ?_
        rintro e w1 ⟨⟨ls, q, y, hr, rfl, hy, hys⟩ | ⟨y, q, rfl, hys, hr⟩, rfl⟩
        · have HE := hid_of (p := nameF s a below = some (done ++ ls, p + 2)) (by rw [HPt.out]; unfold ledF; rw [HTo.out, if_pos ⟨h2, hto⟩, hr]; rfl)
          have HX := hid_of (p := (x ++ y).data.toList = dotted (done ++ ls)) (by
            rw [dotted_append, ← HA.out.tx, ← hy]
            simp)
          clear hr hy
          simp only
          go_wp2_with fail
          refine bodyPost_ret (v := .tuple #[.string (x ++ y), .int .i64 ((p + 2 : Nat) : Int), .bool true]) (by simp [results, Try.results12, go_sem]) rfl ?_
          exact ⟨Or.inl ⟨_, _, _, HE.out, rfl, HX.out, by rw [ByteArray.size_append]; omega⟩, rfl⟩
        · have HE := hid_of (p := ∀ ls q, nameF s a below = some (ls, q) → 61 < (dotted ls).length) (by
            intro ls q hq
            rw [HPt.out] at hq
            unfold ledF at hq
            rw [HTo.out, if_pos ⟨h2, hto⟩] at hq
            obtain ⟨r, hr1, hr2⟩ := Option.map_eq_some_iff.1 hq
            obtain ⟨r', hr3, hr4⟩ := Option.map_eq_some_iff.1 hr1
            have := hr r'.1 r'.2 hr3
            rw [show ls = done ++ r'.1 from by cases hr2; cases hr4; rfl, dotted_append, List.length_append]
            omega)
          clear hr
          simp only
          go_wp2_with fail
          refine bodyPost_ret (v := .tuple #[.string (x ++ y), .int .i64 ((p + 2 : Nat) : Int), .bool false]) (by simp [results, Try.results12, go_sem]) rfl ?_
          exact ⟨Or.inr ⟨_, _, rfl, by rw [ByteArray.size_append]; omega, HE.out⟩, rfl⟩
      · have hto' : (below : Int) ≤ 256 * ((c : Int) - 192) + (d : Int) := by omega
        have HE := hid_of (p := ∀ ls q, nameF s a below = some (ls, q) → 61 < (dotted ls).length) (by
          intro ls q hq
          rw [HPt.out] at hq
          unfold ledF at hq
          rw [HTo.out, if_neg (by omega)] at hq
          cases hq)
        go_wp2_with fail
        refine bodyPost_ret (v := .tuple #[.string ByteArray.empty, .int .i64 0, .bool false]) (by simp [results, Try.results12, go_sem]; rfl) rfl ?_
        exact ⟨Or.inr ⟨_, _, rfl, by simp, HE.out⟩, rfl⟩
    · have HE := hid_of (p := ∀ ls q, nameF s a below = some (ls, q) → 61 < (dotted ls).length) (by
        intro ls q hq
        have : nameF s p below = none := by
          by_cases h192 : 192 ≤ c
          · rw [nameF_ptr hps (by rw [HBt.out]; omega)]; unfold ledF; rw [if_neg (by omega)]
          · exact nameF_no (fun _ => by rw [HBt.out]; omega) (fun _ => by rw [HBt.out]; omega) (by unfold labV; rw [HBt.out, decide_eq_false (by omega)]; rfl)
        rw [HA.out.eq, this] at hq
        cases hq)
      by_cases h192 : 192 ≤ c
      · have h1' : 192 ≤ (c : Int) := by omega
        have h2' : ¬ (p : Int) + 1 < (s.size : Int) := by omega
        go_wp2_with fail
        refine bodyPost_ret (v := .tuple #[.string ByteArray.empty, .int .i64 0, .bool false]) (by simp [results, Try.results12, go_sem]; rfl) rfl ?_
        exact ⟨Or.inr ⟨_, _, rfl, by simp, HE.out⟩, rfl⟩
      · have h1' : ¬ 192 ≤ (c : Int) := by omega
        go_wp2_with fail
        refine bodyPost_ret (v := .tuple #[.string ByteArray.empty, .int .i64 0, .bool false]) (by simp [results, Try.results12, go_sem]; rfl) rfl ?_
        exact ⟨Or.inr ⟨_, _, rfl, by simp, HE.out⟩, rfl⟩

theorem spelled_calls (s : ByteArray) (hs : s.size ≤ 4000) (below : Nat) (hb : below ≤ 8000) : SpS s below := by
  induction below using Nat.strongRecOn with
  | _ b ih => exact spelled_step s hs b hb fun to h => ih to h (by omega)

end Go.Proofs.Ytmlkhhhjdpbhfaa
