/- Contracts of the document's answer: began, PackNames. -/
import Derived.Test.YtmlkhhhjdpbhfaaDoorPkRef
import Derived.Test.YtmlkhhhjdpbhfaaDoorPkAll
namespace Go.Proofs.YtmlkhhhjdpbhfaaDoor
open Go.RowKit

def endC (ends : List (List UInt8 × Nat)) : List Value := ends.flatMap fun q => [.string (bs q.1), .int .i64 (q.2 : Nat)]
theorem endC_length (ends : List (List UInt8 × Nat)) : (endC ends).length = ends.length * 2 := by
  induction ends with
  | nil => rfl
  | cons q r ih => simp only [endC, List.flatMap_cons, List.length_append, List.length_cons, List.length_nil]; show 0 + 1 + 1 + (endC r).length = _; rw [ih]; omega
theorem endC_append (a b : List (List UInt8 × Nat)) : endC (a ++ b) = endC a ++ endC b := by simp [endC]
theorem endC_get : ∀ (ends : List (List UInt8 × Nat)) (i : Nat) (h : i < ends.length), (endC ends)[i * 2]? = some (.string (bs ends[i].1)) ∧ (endC ends)[i * 2 + 1]? = some (.int .i64 (ends[i].2 : Nat)) := by
  intro ends
  induction ends with
  | nil => intro i h; simp at h
  | cons q r ih =>
    intro i h
    have hc : endC (q :: r) = .string (bs q.1) :: .int .i64 (q.2 : Nat) :: endC r := rfl
    rw [hc]
    cases i with
    | zero => exact ⟨rfl, rfl⟩
    | succ i =>
      have := ih i (by simpa using h)
      rw [show (i + 1) * 2 = i * 2 + 1 + 1 by omega]
      simp only [List.getElem?_cons_succ, List.getElem_cons_succ]
      exact this

def begV (o : Option Nat) : Int := match o with | some p => (p : Int) | none => -1

theorem findE_take (ends : List (List UInt8 × Nat)) (l : List UInt8) (i : Nat) (h : i < ends.length) (hn : findE (ends.take i) l = none) : (ends[i].1 = l → findE ends l = some ends[i].2) ∧ (ends[i].1 ≠ l → findE (ends.take (i + 1)) l = none) := by
  have hnone : (ends.take i).find? (fun q => q.1 == l) = none := Option.map_eq_none_iff.1 hn
  constructor
  · intro e
    have h2 : ends.take i ++ (ends[i] :: ends.drop (i + 1)) = ends := by rw [← List.drop_eq_getElem_cons h, List.take_append_drop]
    have h3 : ends.find? (fun q => q.1 == l) = some ends[i] := by
      have h4 := congrArg (List.find? (fun q => q.1 == l)) h2
      rw [List.find?_append, hnone, List.find?_cons_of_pos (by simpa using e)] at h4
      rw [← h4]; rfl
    unfold findE
    rw [h3]; rfl
  · intro e
    unfold findE
    rw [List.take_succ_eq_append_getElem h, List.find?_append, hnone]
    simp [e]

set_option maxRecDepth 100000 in
set_option maxHeartbeats 2000000 in
theorem began_calls (w : World) (B : Nat) (v : Value) (ends : List (List UInt8 × Nat)) (ho : w.ownsRow B 65 2 v ends.length (endC ends)) (hel : ends.length ≤ 100000) (l : List UInt8) :
    Calls Tryd.prog 26 #[v, .string (bs l)] w fun e w' => e = .returned (.int .i64 (begV (findE ends l))) ∧ w' = w := by
  obtain ⟨vp, cap, rfl⟩ := owns_slice ho
  have HO := hid_of ho
  clear ho
  go_enter Tryd.func26, Tryd.ntmps26
  go_wp2_with fail
  go_loop [5] (fun v5 => ∃ i : Nat, v5 = .int .i64 i ∧ i ≤ ends.length ∧ Hid (findE (ends.take i) l = none)) (fun v5 => ends.length - (intOf v5).toNat)
  case atStart => exact ⟨0, rfl, by omega, (show findE (ends.take 0) l = none by rfl)⟩
  case round =>
    obtain ⟨i, rfl, hi, h1⟩ := hrel
    by_cases hlt : i < ends.length
    · have hlt' : (i : Int) < (ends.length : Int) := by omega
      obtain ⟨g, cap', hv, _, _⟩ := HO.out.form (by omega)
      injection hv with e1 _ e3
      subst e1 e3
      have hg := endC_get ends i hlt
      have c0 : w.cell? ⟨g, i * 2, none⟩ = some (.string (bs ends[i].1)) := by
        have := World.ownsRow.cells HO.out (g := g) rfl (i * 2) _ hg.1
        have hadd : (⟨g, 0, none⟩ : Addr).add (i * 2) = ⟨g, i * 2, none⟩ := by unfold Addr.add; split <;> simp_all
        rw [hadd] at this
        exact this
      have c1 : w.cell? ⟨g, i * 2 + 1, none⟩ = some (.int .i64 (ends[i].2 : Nat)) := by
        have := World.ownsRow.cells HO.out (g := g) rfl (i * 2 + 1) _ hg.2
        have hadd : (⟨g, 0, none⟩ : Addr).add (i * 2 + 1) = ⟨g, i * 2 + 1, none⟩ := by unfold Addr.add; split <;> simp_all
        rw [hadd] at this
        exact this
      have HF := hid_of (findE_take ends l i hlt h1.out)
      clear hg
      generalize hq : ends[i] = q at *
      obtain ⟨ql, qp⟩ := q
      clear hq
      simp only at c0 c1
      by_cases hql : ql = l
      · have heq : ((bs ql).toList == (bs l).toList) = true := by rw [hql]; simp
        have HR := hid_of (p := findE ends l = some qp) (HF.out.1 hql)
        clear hql
        go_wp2_with fail
        go_ret
        exact ⟨ret_int (by rw [HR.out]; rfl), rfl⟩
      · have heq : ((bs ql).toList == (bs l).toList) = false := by rw [ByteArray.toList_eq, ByteArray.toList_eq, bs_list, bs_list]; simpa using hql
        have HR := hid_of (p := findE (ends.take (i + 1)) l = none) (HF.out.2 hql)
        clear hql
        go_wp2_with fail
        go_round
        case rel => exact ⟨i + 1, by go_num, by omega, HR⟩
        case measure => simp [intOf]; omega
    · have hlt' : ¬ (i : Int) < (ends.length : Int) := by omega
      have HR := hid_of (p := findE ends l = none) (by have := h1.out; rwa [List.take_of_length_le (by omega)] at this)
      go_wp2_with fail
      go_ret
      exact ⟨ret_int (by rw [HR.out]; rfl), rfl⟩

end Go.Proofs.YtmlkhhhjdpbhfaaDoor
