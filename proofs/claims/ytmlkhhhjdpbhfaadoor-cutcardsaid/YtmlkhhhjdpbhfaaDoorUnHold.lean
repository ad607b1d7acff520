/- Contracts of the book's holds and of num. -/
import Derived.Test.YtmlkhhhjdpbhfaaDoorUnLaw
namespace Go.Proofs.YtmlkhhhjdpbhfaaDoor
open Go.RowKit

theorem add0 (g j : Nat) : (⟨g, 0, none⟩ : Addr).add j = ⟨g, j, none⟩ := by unfold Addr.add; split <;> simp_all

/-- what holds reads -/
theorem BookV.reads {w : World} {bb : Nat} {lv mv : Value} {ls : List (Value × ByteArray)} (h : BookV w bb lv mv (ls.map Prod.fst) (ls.map Prod.snd) ls) (k : Nat) (hk : k < ls.length) :
    ∃ gl lc gm mc, lv = .slice (some ⟨gl, 0, none⟩) ls.length lc ∧ mv = .slice (some ⟨gm, 0, none⟩) ls.length mc ∧ w.cell? ⟨gl, k, none⟩ = some ls[k].1 ∧ w.cell? ⟨gm, k, none⟩ = some (.string ls[k].2) := by
  have hl := h.rl
  have hm := h.rm
  rw [List.length_map] at hl hm
  obtain ⟨gl, lc, e1, _, _⟩ := hl.form (by omega)
  obtain ⟨gm, mc, e2, _, _⟩ := hm.form (by omega)
  subst e1 e2
  refine ⟨gl, lc, gm, mc, rfl, rfl, ?_, ?_⟩
  · have := World.ownsRow.cells hl (g := gl) rfl k ls[k].1 (by simp [hk])
    rwa [add0] at this
  · have := World.ownsRow.cells hm (g := gm) rfl k (.string ls[k].2) (by simp [strC, hk])
    rwa [add0] at this

set_option maxRecDepth 100000 in
set_option maxHeartbeats 4000000 in
theorem holds_calls (w : World) (bb : Nat) (lv mv : Value) (ls : List (Value × ByteArray)) (hB : BookV w bb lv mv (ls.map Prod.fst) (ls.map Prod.snd) ls) (hl : ls.length ≤ 1000) :
    Calls Tryd.prog 9 #[.pointer (some ⟨bb, 0, none⟩)] w fun e w' => e = .returned (.bool true) ∧ ∃ n, w' = w.drewN n := by
  have c0 : w.cell? ⟨bb, 0, none⟩ = some lv := hB.blk.cell 0
  have c1 : w.cell? ⟨bb, 1, none⟩ = some mv := hB.blk.cell 1
  obtain ⟨lp, lcap, hlv⟩ := owns_slice hB.rl
  subst hlv
  rw [List.length_map] at *
  have HB := hid_of hB
  clear hB
  go_enter Tryd.func9, Tryd.ntmps9
  go_wp2_with fail
  go_loopw [3, 4] (fun v3 _ wr => ∃ (k n : Nat), v3 = .int .i64 k ∧ k ≤ ls.length ∧ wr = w.drewN n) (fun v3 _ _ => ls.length - (intOf v3).toNat)
  case atStart => exact ⟨0, 0, rfl, by omega, rfl⟩
  case round =>
    obtain ⟨k, n, rfl, hk, rfl⟩ := hrel
    by_cases hlt : k < ls.length
    · have hlt' : (k : Int) < (ls.length : Int) := by omega
      obtain ⟨gl, lc, gm, mc, e1, e2, cl, cm⟩ := HB.out.reads k hlt
      injection e1 with e1 _ e3
      subst e1 e2 e3
      have hmark := (HB.out.ok ls[k] (List.getElem_mem hlt)).1
      generalize hq : ls[k] = q at *
      obtain ⟨qv, qm⟩ := q
      clear hq
      simp only at cl cm hmark
      have HM := hid_of hmark.2
      rcases hmark.1 with ⟨qc, rfl⟩ | ⟨g, qn, qc, rfl, hln⟩
      · clear hmark
        go_wp2_with fail
        go_loopw [4] (fun v4 wr => ∃ n, v4 = .int .i64 0 ∧ wr = w.drewN n) (fun _ _ => 0)
        case atStart => exact ⟨n, rfl, rfl⟩
        case round =>
          obtain ⟨n2, rfl, rfl⟩ := hrel
          go_wp2_with fail
          go_roundw
          case rel => exact ⟨k + 1, n2, by go_num, by omega, rfl⟩
          case measure => simp [intOf]; omega
      · clear hmark
        unfold maxLen at hln
        go_wp2_with fail
        go_loopw [4] (fun v4 wr => ∃ (i n : Nat), v4 = .int .i64 i ∧ i ≤ qn ∧ wr = w.drewN n) (fun v4 _ => qn - (intOf v4).toNat)
        case atStart => exact ⟨0, n, rfl, by omega, rfl⟩
        case round =>
          obtain ⟨i, n2, rfl, hi, rfl⟩ := hrel
          by_cases hin : i < qn
          · have hin' : (i : Int) < (qn : Int) := by omega
            have ci := HM.out g rfl i hin
            go_wp2_with fail
            go_quiet (fail)
            go_wp2_with fail
            go_roundw
            case rel => exact ⟨i + 1, _, by go_num, by omega, rfl⟩
            case measure => simp [intOf]; omega
          · have hin' : ¬ (i : Int) < (qn : Int) := by omega
            go_wp2_with fail
            go_roundw
            case rel => exact ⟨k + 1, n2, by go_num, by omega, rfl⟩
            case measure => simp [intOf]; omega
    · have hlt' : ¬ (k : Int) < (ls.length : Int) := by omega
      go_wp2_with fail
      go_ret
      exact ⟨rfl, _, rfl⟩

theorem numT_calls (n : Int) (w : World) : Calls Tryd.prog 16 #[.int .i64 n] w fun e w' => e = .returned (.int .i64 n) ∧ w' = w := by
  go_enter Tryd.func16, Tryd.ntmps16
  go_wp2
  go_ret
  exact ⟨rfl, rfl⟩

theorem low_of {B C : Nat} {a b : World} (h : Below C a b) (k : B ≤ C) : Below B a b := ⟨h.os, h.tape, h.output, h.size, fun j hj => h.block j (Nat.lt_of_lt_of_le hj k)⟩

end Go.Proofs.YtmlkhhhjdpbhfaaDoor
