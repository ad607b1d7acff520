/- The contracts of the keeper's name and pick: what name makes is a name. -/
import Derived.Test.YtmlkhhhjdpbhfaaDoorPkRef
namespace Go.Proofs.YtmlkhhhjdpbhfaaDoor
open Go.RowKit

theorem pieces_dot (l : List UInt8) : pieces (l ++ [46]) = pieces l ++ [[]] := by
  induction l with
  | nil => rfl
  | cons c r ih =>
    rw [List.cons_append, pieces_cons, pieces_cons, ih]
    by_cases hc : c = 46
    · rw [if_pos hc, if_pos hc]; rfl
    · rw [if_neg hc, if_neg hc]
      cases hp : pieces r with
      | nil => rw [pieces_eq] at hp; cases hp
      | cons p q => rfl

theorem pieces_let (l : List UInt8) (c : UInt8) (hc : c ≠ 46) (ps : List (List UInt8)) (last : List UInt8) (h : pieces l = ps ++ [last]) : pieces (l ++ [c]) = ps ++ [last ++ [c]] := by
  induction l generalizing ps last with
  | nil =>
    have h1 : ps ++ [last] = [[]] := h.symm
    cases ps with
    | nil =>
      simp at h1
      subst h1
      show pieces [c] = _
      rw [pieces_cons, if_neg hc]; rfl
    | cons p q => simp at h1
  | cons x r ih =>
    rw [List.cons_append, pieces_cons]
    rw [pieces_cons] at h
    by_cases hx : x = 46
    · rw [if_pos hx] at h ⊢
      cases ps with
      | nil =>
        have h1 : pieces r = [] := by simp at h; exact h.2
        rw [pieces_eq] at h1; cases h1
      | cons p q =>
        simp only [List.cons_append, List.cons.injEq] at h
        rw [ih q last h.2, ← h.1]; rfl
    · rw [if_neg hx] at h ⊢
      cases hp : pieces r with
      | nil => rw [pieces_eq] at hp; cases hp
      | cons p q =>
        rw [hp] at h
        simp only at h
        cases ps with
        | nil =>
          simp only [List.nil_append, List.cons.injEq] at h
          obtain ⟨h1, h2⟩ := h
          subst h2
          rw [ih [] p (by rw [hp]; rfl), ← h1]
          rfl
        | cons a b =>
          simp only [List.cons_append, List.cons.injEq] at h
          obtain ⟨h1, h2⟩ := h
          rw [ih (p :: b) last (by rw [hp, h2]; rfl), ← h1]
          rfl

/-- where name's loop stands: out and run -/
structure NmAt (out : List UInt8) (run : Nat) : Prop where
  ex : ∃ ps last, pieces out = ps ++ [last] ∧ (∀ p ∈ ps, lblOk (bs p) = true) ∧ last.length = run ∧ (∀ c ∈ last, ofB c.toNat = true)
  r15 : run ≤ 15
  len : out.length ≤ 59
  z : run = 0 → out = []

theorem NmAt.start : NmAt [] 0 := ⟨⟨[], [], rfl, by simp, rfl, by simp⟩, by omega, by simp, fun _ => rfl⟩

theorem lbl_of {l : List UInt8} (h1 : 1 ≤ l.length) (h2 : l.length ≤ 15) (h3 : ∀ c ∈ l, ofB c.toNat = true) : lblOk (bs l) = true := by
  unfold lblOk
  rw [bs_size, bs_list, Bool.and_eq_true]
  exact ⟨by simp; omega, List.all_eq_true.2 fun c hc => h3 c hc⟩

/-- a letter more -/
theorem NmAt.letter {out : List UInt8} {run : Nat} (h : NmAt out run) (h15 : run < 15) (h58 : out.length ≤ 58) (c : UInt8) (hc : ofB c.toNat = true) : NmAt (out ++ [c]) (run + 1) := by
  obtain ⟨ps, last, h1, h2, h3, h4⟩ := h.ex
  have hne : c ≠ 46 := by intro e; subst e; revert hc; decide
  refine ⟨⟨ps, last ++ [c], pieces_let out c hne ps last h1, h2, by simp [h3], fun x hx => ?_⟩, by omega, by simp; omega, fun e => by omega⟩
  rcases List.mem_append.1 hx with hx | hx
  · exact h4 x hx
  · simp at hx; subst hx; exact hc

/-- a dot, and a letter -/
theorem NmAt.dotLetter {out : List UInt8} {run : Nat} (h : NmAt out run) (h1r : 0 < run) (h58 : out.length ≤ 57) (c : UInt8) (hc : ofB c.toNat = true) : NmAt (out ++ [46] ++ [c]) 1 := by
  obtain ⟨ps, last, h1, h2, h3, h4⟩ := h.ex
  have hne : c ≠ 46 := by intro e; subst e; revert hc; decide
  have hd : pieces (out ++ [46]) = (ps ++ [last]) ++ [[]] := by rw [pieces_dot, h1]
  refine ⟨⟨ps ++ [last], [c], pieces_let _ c hne _ _ hd, fun p hp => ?_, rfl, fun x hx => by simp at hx; subst hx; exact hc⟩, by omega, by simp; omega, fun e => by omega⟩
  rcases List.mem_append.1 hp with hp | hp
  · exact h2 p hp
  · simp at hp; subst hp
    exact lbl_of (by omega) (by have := h.r15; omega) h4

theorem NmAt.ok {out : List UInt8} {run : Nat} (h : NmAt out run) (hne : out ≠ []) : nmOk out = true := by
  obtain ⟨ps, last, h1, h2, h3, h4⟩ := h.ex
  have hr : run ≠ 0 := fun e => hne (h.z e)
  have hl := h.len
  have h15 := h.r15
  unfold nmOk
  rw [Bool.and_eq_true, h1]
  refine ⟨by simp; omega, List.all_eq_true.2 fun p hp => ?_⟩
  rcases List.mem_append.1 hp with hp | hp
  · exact h2 p hp
  · simp at hp; subst hp
    exact lbl_of (by omega) (by omega) h4

theorem bs_app (a b : List UInt8) : bs a ++ bs b = bs (a ++ b) := by
  apply ByteArray.ext
  apply Array.ext'
  simp [bs]

theorem abc_ex (c : Nat) : (ByteArray.mk #[97, 98, 99]).extract (c % 3) (c % 3 + 1) = bs [UInt8.ofNat (97 + c % 3)] := by
  have h : c % 3 = 0 ∨ c % 3 = 1 ∨ c % 3 = 2 := by omega
  rcases h with h | h | h <;> rw [h] <;> rfl
theorem abc_of (c : Nat) : ofB ((UInt8.ofNat (97 + c % 3)).toNat : Int) = true := by
  have h : c % 3 = 0 ∨ c % 3 = 1 ∨ c % 3 = 2 := by omega
  rcases h with h | h | h <;> rw [h] <;> decide

set_option maxRecDepth 100000 in
set_option maxHeartbeats 800000 in
theorem name_keep (s : ByteArray) (hs : s.size ≤ maxLen) (w : World) :
    Calls Tryd.prog 10 #[.string s] w fun e w' => ∃ x, e = .returned (.string (bs x)) ∧ nmOk x = true ∧ w' = w := by
  unfold maxLen at hs
  go_enter Tryd.func10, Tryd.ntmps10
  go_wp2_with fail
  go_loop [3, 4, 5, 6] (fun v3 v4 v5 _ => ∃ (out : List UInt8) (run i : Nat), v3 = .string (bs out) ∧ v4 = .int .i64 run ∧ v5 = .int .i64 i ∧ i ≤ s.size ∧ Hid (NmAt out run)) (fun _ _ v5 _ => s.size - (intOf v5).toNat)
  case atStart => exact ⟨[], 0, 0, rfl, rfl, rfl, by omega, NmAt.start⟩
  case round =>
    obtain ⟨out, run, i, rfl, rfl, rfl, hi, HA⟩ := hrel
    have hr15 := HA.out.r15
    have hl59 := HA.out.len
    have hsz : (bs out).size = out.length := bs_size out
    have HSz := hid_of hsz
    have hz59 : (bs out).size ≤ 59 := by omega
    have HFin := hid_of (p := (bs out).toList = out) (by rw [ByteArray.toList_eq, bs_list])
    clear hsz
    by_cases hgo : i < s.size ∧ (bs out).size < 59
    · obtain ⟨hlt, h59⟩ := hgo
      have hlt' : (i : Int) < (s.size : Int) := by omega
      have h59' : ((bs out).size : Int) < 59 := by omega
      obtain ⟨c, hc⟩ : ∃ c : Nat, s[i].toNat = c := ⟨_, rfl⟩
      have hc255 : c ≤ 255 := by have := s[i].toNat_lt; omega
      have HAb := hid_of (abc_ex c)
      have HOf := hid_of (abc_of c)
      by_cases hdot : (0 < run ∧ (c % 7 = 0 ∨ run = 15)) ∧ (bs out).size < 58
      · obtain ⟨⟨h0, hor⟩, h58⟩ := hdot
        have h0' : 0 < (run : Int) := by omega
        have h58' : ((bs out).size : Int) < 58 := by omega
        have HN := hid_of (HA.out.dotLetter h0 (by have := HSz.out; omega) _ HOf.out)
        by_cases h7 : c % 7 = 0
        · have h7' : ((c : Int) % 7 == 0) = true := by simp; omega
          go_wp2_with fail
          go_round
          case rel => exact ⟨_, 1, i + 1, by rw [HAb.out, show (ByteArray.mk #[46]) = bs [46] from rfl, bs_app, bs_app], rfl, by go_num, by omega, HN⟩
          case measure => simp [intOf]; omega
        · have h7' : ((c : Int) % 7 == 0) = false := by simp; omega
          have hr : run = 15 := by
            rcases hor with h | h
            · exact absurd h h7
            · exact h
          have hr' : ((run : Int) == 15) = true := by simp; omega
          clear hor hr
          go_wp2_with fail
          go_round
          case rel => exact ⟨_, 1, i + 1, by rw [HAb.out, show (ByteArray.mk #[46]) = bs [46] from rfl, bs_app, bs_app], rfl, by go_num, by omega, HN⟩
          case measure => simp [intOf]; omega
      · by_cases h15 : run < 15
        · have h15' : (run : Int) < 15 := by omega
          have HN := hid_of (HA.out.letter h15 (by have := HSz.out; omega) _ HOf.out)
          have hr' : ((run : Int) == 15) = false := by simp; omega
          by_cases h0 : 0 < run
          · have h0' : 0 < (run : Int) := by omega
            by_cases h7 : c % 7 = 0
            · have h7' : ((c : Int) % 7 == 0) = true := by simp; omega
              have h58' : ¬ ((bs out).size : Int) < 58 := by
                intro h
                exact hdot ⟨⟨h0, Or.inl h7⟩, by omega⟩
              clear hdot
              go_wp2_with fail
              go_round
              case rel => exact ⟨_, run + 1, i + 1, by rw [HAb.out, bs_app], by go_num, by go_num, by omega, HN⟩
              case measure => simp [intOf]; omega
            · have h7' : ((c : Int) % 7 == 0) = false := by simp; omega
              clear hdot
              go_wp2_with fail
              go_round
              case rel => exact ⟨_, run + 1, i + 1, by rw [HAb.out, bs_app], by go_num, by go_num, by omega, HN⟩
              case measure => simp [intOf]; omega
          · have h0' : ¬ 0 < (run : Int) := by omega
            clear hdot
            go_wp2_with fail
            go_round
            case rel => exact ⟨_, run + 1, i + 1, by rw [HAb.out, bs_app], by go_num, by go_num, by omega, HN⟩
            case measure => simp [intOf]; omega
        · have h15' : ¬ (run : Int) < 15 := by omega
          have h0' : 0 < (run : Int) := by omega
          have hr' : ((run : Int) == 15) = true := by simp; omega
          have h58' : ¬ ((bs out).size : Int) < 58 := by
            intro h
            exact hdot ⟨⟨by omega, Or.inr (by omega)⟩, by omega⟩
          clear hdot
          by_cases h7 : c % 7 = 0
          · have h7' : ((c : Int) % 7 == 0) = true := by simp; omega
            go_wp2_with fail
            go_round
            case rel => exact ⟨out, run, i + 1, rfl, rfl, by go_num, by omega, HA⟩
            case measure => simp [intOf]; omega
          · have h7' : ((c : Int) % 7 == 0) = false := by simp; omega
            go_wp2_with fail
            go_round
            case rel => exact ⟨out, run, i + 1, rfl, rfl, by go_num, by omega, HA⟩
            case measure => simp [intOf]; omega
    · have HEnd := hid_of hgo
      clear hgo
      by_cases he : out = []
      · have HX := hid_of (p := nmOk [97] = true) (by decide)
        subst he
        have hlt' : ¬ (i : Int) < (s.size : Int) := by
          have h1 := HEnd.out
          have h2 : (bs []).size = 0 := rfl
          omega
        have hee : (bs []).toList.isEmpty = true := by rw [HFin.out]; rfl
        clear HEnd
        go_wp2_with fail
        go_ret
        exact ⟨[97], rfl, HX.out, rfl⟩
      · have hee : (bs out).toList.isEmpty = false := by
          rw [HFin.out]
          cases out with
          | nil => exact absurd rfl he
          | cons _ _ => rfl
        have HX := hid_of (HA.out.ok he)
        clear he
        by_cases hlt : i < s.size
        · have hlt' : (i : Int) < (s.size : Int) := by omega
          have h59' : ¬ ((bs out).size : Int) < 59 := by have := HEnd.out; omega
          clear hlt
          go_wp2_with fail
          go_ret
          exact ⟨out, rfl, HX.out, rfl⟩
        · have hlt' : ¬ (i : Int) < (s.size : Int) := by omega
          clear hlt
          go_wp2_with fail
          go_ret
          exact ⟨out, rfl, HX.out, rfl⟩

end Go.Proofs.YtmlkhhhjdpbhfaaDoor
