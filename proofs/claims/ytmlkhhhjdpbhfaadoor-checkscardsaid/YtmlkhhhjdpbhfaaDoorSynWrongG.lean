import Derived.Test.YtmlkhhhjdpbhfaaDoorSynPart
import Derived.Deep.DrawnRows
import Derived.Test.YtmlkhhhjdpbhfaaDoorSynRule
/- The contract of a part's wrongRule: the first part, in their order, that names a rule that there is not. -/
namespace Go.Proofs.YtmlkhhhjdpbhfaaDoor
open Go.RowKit

/-- eight bools -/
def bools (th : Nat → Bool) : Array Value := #[.bool (th 0), .bool (th 1), .bool (th 2), .bool (th 3), .bool (th 4), .bool (th 5), .bool (th 6), .bool (th 7)]

def missB (th : Nat → Bool) (x : It) : Bool := x.c == 82 && !(th x.r.toNat)

/-- the place and whether there is one -/
def firstMiss (th : Nat → Bool) (l : List It) : Int × Bool := match l.find? (missB th) with | some x => (x.pl, true) | none => (0, false)

theorem firstMiss_cons (th : Nat → Bool) (x : It) (r : List It) : firstMiss th (x :: r) = if missB th x then (x.pl, true) else firstMiss th r := by
  unfold firstMiss; rw [List.find?_cons]; cases missB th x <;> simp
theorem firstMiss_append (th : Nat → Bool) (a b : List It) : firstMiss th (a ++ b) = if (firstMiss th a).2 then firstMiss th a else firstMiss th b := by
  unfold firstMiss; rw [List.find?_append]
  cases a.find? (missB th) <;> simp

theorem kOf_rule (c : Int) (hc : c = 82 ∨ (kindV c ≠ 6)) : (kOf c == 6) = (c == 82) := by
  unfold kOf
  by_cases h : c = 82
  · simp [h]
  · rw [if_neg h]
    rcases hc with h2 | h2
    · exact absurd h2 h
    · have : ¬ ((kindV c : Int) = 6) := by omega
      rw [beq_eq_false_iff_ne.2 this, beq_eq_false_iff_ne.2 h]

/-- all rules are among the eight, and no other part is taken for a rule -/
def RulIn (l : List It) : Prop := ∀ x, x ∈ l → (x.c = 82 → 0 ≤ x.r ∧ x.r < 8) ∧ (x.c = 82 ∨ kindV x.c ≠ 6)

theorem RepT.pos {f : Nat} {w : World} {lo hi pb : Nat} {seg : List It} (h : RepT f w lo hi pb seg) : 0 < seg.length := by
  cases f with
  | zero => exact h.elim
  | succ f => obtain ⟨x, kids, p, e, _⟩ := h; rw [e]; simp

theorem flat_ge (l : List (Nat × List It)) (h : ∀ q, q ∈ l → 0 < q.2.length) : l.length ≤ (l.flatMap Prod.snd).length := by
  induction l with
  | nil => simp
  | cons x r ih =>
    have h1 := h x List.mem_cons_self
    have h2 := ih (fun q hq => h q (List.mem_cons_of_mem _ hq))
    simp only [List.flatMap_cons, List.length_append, List.length_cons]; omega

theorem mem_flat_le (l : List (Nat × List It)) (q : Nat × List It) (h : q ∈ l) : q.2.length ≤ (l.flatMap Prod.snd).length := by
  induction l with
  | nil => simp at h
  | cons x r ih =>
    simp only [List.flatMap_cons, List.length_append]
    rcases List.mem_cons.1 h with rfl | h
    · omega
    · have := ih h; omega

theorem firstMiss_none (th : Nat → Bool) (l : List It) (h : (firstMiss th l).2 = false) : firstMiss th l = (0, false) := by
  unfold firstMiss at h ⊢
  cases hf : l.find? (missB th) with
  | none => rfl
  | some x => rw [hf] at h; cases h

def MissPost (th : Nat → Bool) (w : World) (seg : List It) (e : Ending) (w' : World) : Prop :=
  e = .returned (.tuple #[.int .i64 (firstMiss th seg).1, .bool (firstMiss th seg).2]) ∧ Below w.heap.size w w'

theorem bools_at (th : Nat → Bool) (r : Nat) (h : r < 8) : (bools th)[r]? = some (.bool (th r)) := by
  have h8 : r = 0 ∨ r = 1 ∨ r = 2 ∨ r = 3 ∨ r = 4 ∨ r = 5 ∨ r = 6 ∨ r = 7 := by omega
  rcases h8 with rfl | rfl | rfl | rfl | rfl | rfl | rfl | rfl <;> rfl

set_option maxRecDepth 100000 in
set_option maxHeartbeats 4000000 in
theorem miss_calls (th : Nat → Bool) (f : Nat) : ∀ (w : World) (lo hi pb : Nat) (seg : List It), RepT f w lo hi pb seg → hi ≤ w.heap.size → RulIn seg → seg.length ≤ 1000 →
    Calls Tryd.prog 53 #[.pointer (some ⟨pb, 0, none⟩), .agg (bools th)] w fun e w' => MissPost th w seg e w' := by
  induction f with
  | zero => intro w lo hi pb seg h; exact h.elim
  | succ f ih =>
    intro w lo hi pb seg hrep hhi hrul hsl
    have IH := hide' ih
    clear ih
    have HRep := hide' hrep
    obtain ⟨x, kids, p, hseg, hnx, hlo, hpb, hblk, hit, hptr, hkids⟩ := hrep
    have hx := hrul x (by rw [hseg]; exact List.mem_cons_self)
    have hk6 : (p.k == 6) = (x.c == 82) := by rw [hit.k]; exact kOf_rule x.c hx.2
    have c0 : w.cell? ⟨pb, 0, none⟩ = some (.int .i64 p.k) := hblk.cell 0
    have hpbl : pb < w.heap.size := by omega
    have HBlk : Hid (PtBlk w pb p) := hblk
    have HSeg := hide' hseg
    have HC := hide' (firstMiss_cons th x (kids.flatMap Prod.snd))
    have HKids := hide' hkids
    have HPtr := hide' hptr
    have HRul := hide' hrul
    obtain ⟨ao, cap, hv, hcell⟩ : ∃ ao cap, p.v = .slice ao (kids.map Prod.fst).length cap ∧ (∀ j, j < (kids.map Prod.fst).length → ∃ g, ao = some ⟨g, 0, none⟩ ∧ g < w.heap.size ∧ w.cell? ⟨g, j, none⟩ = some (.pointer (some ⟨(kids.map Prod.fst).getD j 0, 0, none⟩))) := by
      rcases hptr with ⟨hv, hnil⟩ | ⟨g, cap, hv, hg1, hg2, _, hc⟩
      · exact ⟨none, 0, by rw [hv, hnil]; rfl, fun j hj => by rw [hnil] at hj; simp at hj⟩
      · exact ⟨_, _, hv, fun j hj => ⟨g, rfl, by omega, hc j hj⟩⟩
    rw [List.length_map] at hv
    have c7 : w.cell? ⟨pb, 8, none⟩ = some (.slice ao kids.length cap) := by rw [← hv]; exact hblk.cell 8
    have c7a : ∀ o, (w.alloc o).cell? ⟨pb, 8, none⟩ = some (.slice ao kids.length cap) := fun o => by rw [← hv]; exact (Blk.alloc hblk o).cell 8
    have c0a : ∀ o, (w.alloc o).cell? ⟨pb, 0, none⟩ = some (.int .i64 p.k) := fun o => (Blk.alloc hblk o).cell 0
    have c1a : ∀ o, (w.alloc o).cell? ⟨pb, 1, none⟩ = some (.int .i64 p.pl) := fun o => (Blk.alloc hblk o).cell 1
    have c6a : ∀ o, (w.alloc o).cell? ⟨pb, 6, none⟩ = some (.int .i64 p.ru) := fun o => (Blk.alloc hblk o).cell 6
    have HCell := hide' hcell
    have hklen : kids.length ≤ 1000 := by
      have h1 := flat_ge kids (fun q hq => RepT.pos (hkids q hq))
      rw [hseg] at hsl
      simp at hsl
      simp at h1
      omega
    have HX := hide' hx
    have HIt := hide' hit
    clear hcell hv hptr hkids hrul hblk hit hnx c0
    have hcase : (missB th x = false ∧ (x.c == 82) = false) ∨ (missB th x = false ∧ (x.c == 82) = true) ∨ (missB th x = true ∧ (x.c == 82) = true) := by
      unfold missB
      cases (x.c == 82) <;> cases th x.r.toNat <;> simp
    rcases hcase with ⟨hm, h82⟩ | ⟨hm, h82⟩ | ⟨hm, h82⟩
    rotate_left 2
    · have hc82 : x.c = 82 := by simpa using h82
      obtain ⟨hr0, hr8⟩ := HX.out.1 hc82
      obtain ⟨rn, hrn⟩ : ∃ rn : Nat, x.r = (rn : Int) := ⟨x.r.toNat, by omega⟩
      obtain ⟨hpl, hru⟩ := HIt.out.ru hc82
      have hth : th rn = false := by
        unfold missB at hm; rw [h82, hrn] at hm; simpa using hm
      have HM : Hid (firstMiss th seg = (x.pl, true)) := by
        have : firstMiss th seg = (x.pl, true) := by rw [HSeg.out, HC.out, if_pos hm]
        exact this
      rw [hru, hrn] at c6a
      rw [hpl] at c1a
      have hrn8 : rn < 8 := by omega
      have hrn8' : (rn : Int) < 8 := by omega
      have hbx : (w.alloc (.cells (bools th) 107)).cell? ⟨w.heap.size, rn, none⟩ = some (.bool false) := by
        rw [(Blk.new w (bools th) 107).cell rn, bools_at th rn hrn8, hth]
      rw [h82] at hk6
      clear hm h82 hc82 hr0 hr8 hrn hpl hru hth hseg HC
      go_enter Tryd.func53, Tryd.ntmps53
      go_wp2_with fail
      go_ret2
      exact ⟨by rw [HM.out]; rfl, (Below.refl _ _).alloc (Nat.le_refl _) _⟩
    · have HM : Hid (firstMiss th seg = firstMiss th (kids.flatMap Prod.snd)) := by
        have : firstMiss th seg = firstMiss th (kids.flatMap Prod.snd) := by rw [HSeg.out, HC.out, hm]; rfl
        exact this
      rw [h82] at hk6
      clear hm h82 hseg HC
      have HBX : Hid (Blk (w.alloc (.cells (bools th) 107)) w.heap.size (bools th) 107) := Blk.new w (bools th) 107
      have HB0 : Hid (Below w.heap.size w (w.alloc (.cells (bools th) 107))) := (Below.refl _ _).alloc (Nat.le_refl _) _
      have hszA : (w.alloc (.cells (bools th) 107)).heap.size = w.heap.size + 1 := by simp
      go_enter Tryd.func53, Tryd.ntmps53
      go_wp2_with fail
      generalize hW : w.alloc (.cells (bools th) 107) = W1 at *
      clear hW c0a c1a c6a c7a
      generalize hbxx : w.heap.size = bx at *
      have HBXX := hide' hbxx
      clear hbxx
      go_loopw [33] (fun v33 wr => ∃ j : Nat, v33 = .int .i64 j ∧ j ≤ kids.length ∧ Hid (Below W1.heap.size W1 wr) ∧ Hid ((firstMiss th ((kids.take j).flatMap Prod.snd)).2 = false)) (fun v33 _ => kids.length - (intOf v33).toNat)
      case atStart => exact ⟨0, rfl, by omega, Below.refl _ _, (by simp [firstMiss] : (firstMiss th ((kids.take 0).flatMap Prod.snd)).2 = false)⟩
      case round =>
        obtain ⟨j, rfl, hj, hbel, hno⟩ := hrel
        have hsz := hbel.out.size
        have hb3 := HBX.out.below hbel.out (by omega)
        have b0 : wr.cell? ⟨bx, 0, none⟩ = some (.bool (th 0)) := hb3.cell 0
        have b1 : wr.cell? ⟨bx, 1, none⟩ = some (.bool (th 1)) := hb3.cell 1
        have b2 : wr.cell? ⟨bx, 2, none⟩ = some (.bool (th 2)) := hb3.cell 2
        have b3 : wr.cell? ⟨bx, 3, none⟩ = some (.bool (th 3)) := hb3.cell 3
        have b4 : wr.cell? ⟨bx, 4, none⟩ = some (.bool (th 4)) := hb3.cell 4
        have b5 : wr.cell? ⟨bx, 5, none⟩ = some (.bool (th 5)) := hb3.cell 5
        have b6 : wr.cell? ⟨bx, 6, none⟩ = some (.bool (th 6)) := hb3.cell 6
        have b7 : wr.cell? ⟨bx, 7, none⟩ = some (.bool (th 7)) := hb3.cell 7
        clear hb3
        by_cases hlt : j < kids.length
        · obtain ⟨g, rfl, hg, hc⟩ := HCell.out j (by simpa using hlt)
          have hjj : (j : Int) < (kids.length : Int) := by omega
          have hq : kids[j] ∈ kids := List.getElem_mem hlt
          have hpt : (kids.map Prod.fst).getD j 0 = kids[j].1 := by rw [getD_lt _ _ _ (by simpa using hlt)]; simp
          rw [hpt] at hc
          have hcw : wr.cell? ⟨g, j, none⟩ = some (.pointer (some ⟨kids[j].1, 0, none⟩)) := by
            rw [hbel.out.cell (p := ⟨g, j, none⟩) (by simp; omega), HB0.out.cell (p := ⟨g, j, none⟩) (by simp; omega)]; exact hc
          have hkr := HKids.out _ hq
          have hmem : ∀ z, z ∈ kids[j].2 → z ∈ seg := fun z hz => by rw [HSeg.out]; exact List.mem_cons_of_mem _ (List.mem_flatMap.2 ⟨_, hq, hz⟩)
          have hlen2 : kids[j].2.length ≤ 1000 := by
            have h1 := mem_flat_le kids _ hq
            rw [HSeg.out] at hsl
            simp at hsl
            simp at h1
            omega
          have HC := hide' (IH.out wr lo hi _ _ (hkr.mono (fun k h1 h2 => by rw [hbel.out.block k (by omega), HB0.out.block k (by omega)]) (Nat.le_refl _) (Nat.le_refl _)) (by omega) (fun z hz => HRul.out z (hmem z hz)) hlen2)
          have HT : Hid (firstMiss th ((kids.take (j + 1)).flatMap Prod.snd) = firstMiss th kids[j].2) := by
            have : firstMiss th ((kids.take (j + 1)).flatMap Prod.snd) = firstMiss th kids[j].2 := by
              rw [List.take_succ_eq_append_getElem hlt, List.flatMap_append, firstMiss_append, hno.out]; simp
            exact this
          have HT2 : Hid ((firstMiss th ((kids.take (j + 1)).flatMap Prod.snd)).2 = true → firstMiss th (kids.flatMap Prod.snd) = firstMiss th ((kids.take (j + 1)).flatMap Prod.snd)) := by
            intro h
            have e : kids.flatMap Prod.snd = (kids.take (j + 1)).flatMap Prod.snd ++ (kids.drop (j + 1)).flatMap Prod.snd := by rw [← List.flatMap_append, List.take_append_drop]
            rw [e, firstMiss_append, if_pos h]
          clear hc hpt hkr hmem hlen2 hno
          generalize kids[j] = q at *
          go_wp2_with fail
          have hcc := HC.out
          simp only [bools] at hcc
          refine hcc.mono ?_
          rintro e w5 ⟨rfl, hb5⟩
          have HB5 : Hid (Below W1.heap.size W1 w5) := hbel.out.trans (hb5.mono (by omega))
          clear hcc HC b0 b1 b2 b3 b4 b5 b6 b7 hb5
          generalize hfm : firstMiss th q.2 = m at *
          clear hfm
          obtain ⟨m1, m2⟩ := m
          cases m2
          · have HN : Hid ((firstMiss th ((kids.take (j + 1)).flatMap Prod.snd)).2 = false) := by
              have : (firstMiss th ((kids.take (j + 1)).flatMap Prod.snd)).2 = false := by rw [HT.out]
              exact this
            simp only
            go_wp2_with fail
            go_roundw
            case rel => exact ⟨j + 1, by go_num, by omega, HB5, HN⟩
            case measure => simp [intOf]; omega
          · have HFin : Hid (firstMiss th seg = (m1, true)) := by
              have : firstMiss th seg = (m1, true) := by rw [HM.out, HT2.out (by rw [HT.out]), HT.out]
              exact this
            simp only
            go_wp2_with fail
            go_ret2
            exact ⟨by rw [HFin.out]; rfl, by rw [HBXX.out]; exact HB0.out.trans (HB5.out.mono (by omega))⟩
        · have HFin : Hid (firstMiss th seg = (0, false)) := by
            have : firstMiss th seg = (0, false) := by
              rw [HM.out]
              have h1 := hno.out
              rw [List.take_of_length_le (by omega)] at h1
              exact firstMiss_none th _ h1
            exact this
          clear hno b0 b1 b2 b3 b4 b5 b6 b7
          go_wp2_with fail
          go_ret2
          exact ⟨by rw [HFin.out]; rfl, by rw [HBXX.out]; exact HB0.out.trans (hbel.out.mono (by omega))⟩
    · have HM : Hid (firstMiss th seg = firstMiss th (kids.flatMap Prod.snd)) := by
        have : firstMiss th seg = firstMiss th (kids.flatMap Prod.snd) := by rw [HSeg.out, HC.out, hm]; rfl
        exact this
      rw [h82] at hk6
      have hc82 : x.c = 82 := by simpa using h82
      obtain ⟨hr0, hr8⟩ := HX.out.1 hc82
      obtain ⟨rn, hrn⟩ : ∃ rn : Nat, x.r = (rn : Int) := ⟨x.r.toNat, by omega⟩
      obtain ⟨hpl, hru⟩ := HIt.out.ru hc82
      have hth : th rn = true := by
        unfold missB at hm; rw [h82, hrn] at hm; simpa using hm
      rw [hru, hrn] at c6a
      have hrn8 : rn < 8 := by omega
      have hrn8' : (rn : Int) < 8 := by omega
      have hbx : (w.alloc (.cells (bools th) 107)).cell? ⟨w.heap.size, rn, none⟩ = some (.bool true) := by
        rw [(Blk.new w (bools th) 107).cell rn, bools_at th rn hrn8, hth]
      clear hm h82 hc82 hr0 hr8 hrn hpl hru hth hseg HC
      have HBX : Hid (Blk (w.alloc (.cells (bools th) 107)) w.heap.size (bools th) 107) := Blk.new w (bools th) 107
      have HB0 : Hid (Below w.heap.size w (w.alloc (.cells (bools th) 107))) := (Below.refl _ _).alloc (Nat.le_refl _) _
      have hszA : (w.alloc (.cells (bools th) 107)).heap.size = w.heap.size + 1 := by simp
      go_enter Tryd.func53, Tryd.ntmps53
      go_wp2_with fail
      generalize hW : w.alloc (.cells (bools th) 107) = W1 at *
      clear hW c0a c1a c6a c7a
      generalize hbxx : w.heap.size = bx at *
      have HBXX := hide' hbxx
      clear hbxx
      go_loopw [33] (fun v33 wr => ∃ j : Nat, v33 = .int .i64 j ∧ j ≤ kids.length ∧ Hid (Below W1.heap.size W1 wr) ∧ Hid ((firstMiss th ((kids.take j).flatMap Prod.snd)).2 = false)) (fun v33 _ => kids.length - (intOf v33).toNat)
      case atStart => exact ⟨0, rfl, by omega, Below.refl _ _, (by simp [firstMiss] : (firstMiss th ((kids.take 0).flatMap Prod.snd)).2 = false)⟩
      case round =>
        obtain ⟨j, rfl, hj, hbel, hno⟩ := hrel
        have hsz := hbel.out.size
        have hb3 := HBX.out.below hbel.out (by omega)
        have b0 : wr.cell? ⟨bx, 0, none⟩ = some (.bool (th 0)) := hb3.cell 0
        have b1 : wr.cell? ⟨bx, 1, none⟩ = some (.bool (th 1)) := hb3.cell 1
        have b2 : wr.cell? ⟨bx, 2, none⟩ = some (.bool (th 2)) := hb3.cell 2
        have b3 : wr.cell? ⟨bx, 3, none⟩ = some (.bool (th 3)) := hb3.cell 3
        have b4 : wr.cell? ⟨bx, 4, none⟩ = some (.bool (th 4)) := hb3.cell 4
        have b5 : wr.cell? ⟨bx, 5, none⟩ = some (.bool (th 5)) := hb3.cell 5
        have b6 : wr.cell? ⟨bx, 6, none⟩ = some (.bool (th 6)) := hb3.cell 6
        have b7 : wr.cell? ⟨bx, 7, none⟩ = some (.bool (th 7)) := hb3.cell 7
        clear hb3
        by_cases hlt : j < kids.length
        · obtain ⟨g, rfl, hg, hc⟩ := HCell.out j (by simpa using hlt)
          have hjj : (j : Int) < (kids.length : Int) := by omega
          have hq : kids[j] ∈ kids := List.getElem_mem hlt
          have hpt : (kids.map Prod.fst).getD j 0 = kids[j].1 := by rw [getD_lt _ _ _ (by simpa using hlt)]; simp
          rw [hpt] at hc
          have hcw : wr.cell? ⟨g, j, none⟩ = some (.pointer (some ⟨kids[j].1, 0, none⟩)) := by
            rw [hbel.out.cell (p := ⟨g, j, none⟩) (by simp; omega), HB0.out.cell (p := ⟨g, j, none⟩) (by simp; omega)]; exact hc
          have hkr := HKids.out _ hq
          have hmem : ∀ z, z ∈ kids[j].2 → z ∈ seg := fun z hz => by rw [HSeg.out]; exact List.mem_cons_of_mem _ (List.mem_flatMap.2 ⟨_, hq, hz⟩)
          have hlen2 : kids[j].2.length ≤ 1000 := by
            have h1 := mem_flat_le kids _ hq
            rw [HSeg.out] at hsl
            simp at hsl
            simp at h1
            omega
          have HC := hide' (IH.out wr lo hi _ _ (hkr.mono (fun k h1 h2 => by rw [hbel.out.block k (by omega), HB0.out.block k (by omega)]) (Nat.le_refl _) (Nat.le_refl _)) (by omega) (fun z hz => HRul.out z (hmem z hz)) hlen2)
          have HT : Hid (firstMiss th ((kids.take (j + 1)).flatMap Prod.snd) = firstMiss th kids[j].2) := by
            have : firstMiss th ((kids.take (j + 1)).flatMap Prod.snd) = firstMiss th kids[j].2 := by
              rw [List.take_succ_eq_append_getElem hlt, List.flatMap_append, firstMiss_append, hno.out]; simp
            exact this
          have HT2 : Hid ((firstMiss th ((kids.take (j + 1)).flatMap Prod.snd)).2 = true → firstMiss th (kids.flatMap Prod.snd) = firstMiss th ((kids.take (j + 1)).flatMap Prod.snd)) := by
            intro h
            have e : kids.flatMap Prod.snd = (kids.take (j + 1)).flatMap Prod.snd ++ (kids.drop (j + 1)).flatMap Prod.snd := by rw [← List.flatMap_append, List.take_append_drop]
            rw [e, firstMiss_append, if_pos h]
          clear hc hpt hkr hmem hlen2 hno
          generalize kids[j] = q at *
          go_wp2_with fail
          have hcc := HC.out
          simp only [bools] at hcc
          refine hcc.mono ?_
          rintro e w5 ⟨rfl, hb5⟩
          have HB5 : Hid (Below W1.heap.size W1 w5) := hbel.out.trans (hb5.mono (by omega))
          clear hcc HC b0 b1 b2 b3 b4 b5 b6 b7 hb5
          generalize hfm : firstMiss th q.2 = m at *
          clear hfm
          obtain ⟨m1, m2⟩ := m
          cases m2
          · have HN : Hid ((firstMiss th ((kids.take (j + 1)).flatMap Prod.snd)).2 = false) := by
              have : (firstMiss th ((kids.take (j + 1)).flatMap Prod.snd)).2 = false := by rw [HT.out]
              exact this
            simp only
            go_wp2_with fail
            go_roundw
            case rel => exact ⟨j + 1, by go_num, by omega, HB5, HN⟩
            case measure => simp [intOf]; omega
          · have HFin : Hid (firstMiss th seg = (m1, true)) := by
              have : firstMiss th seg = (m1, true) := by rw [HM.out, HT2.out (by rw [HT.out]), HT.out]
              exact this
            simp only
            go_wp2_with fail
            go_ret2
            exact ⟨by rw [HFin.out]; rfl, by rw [HBXX.out]; exact HB0.out.trans (HB5.out.mono (by omega))⟩
        · have HFin : Hid (firstMiss th seg = (0, false)) := by
            have : firstMiss th seg = (0, false) := by
              rw [HM.out]
              have h1 := hno.out
              rw [List.take_of_length_le (by omega)] at h1
              exact firstMiss_none th _ h1
            exact this
          clear hno b0 b1 b2 b3 b4 b5 b6 b7
          go_wp2_with fail
          go_ret2
          exact ⟨by rw [HFin.out]; rfl, by rw [HBXX.out]; exact HB0.out.trans (hbel.out.mono (by omega))⟩

end Go.Proofs.YtmlkhhhjdpbhfaaDoor

/- The contract of a grammar's wrongRule. -/
namespace Go.Proofs.YtmlkhhhjdpbhfaaDoor
open Go.RowKit

def inR (rls : List Rl) (r : Nat) : Bool := hasR rls r

/-- the first letter of a rule that cannot be -/
def scanR (th : Nat → Bool) : List Rl → List Rl → Int × Bool
  | _, [] => (0, false)
  | seen, x :: t => if hasR seen x.r then (x.pl, true) else if (firstMiss th x.its).2 then firstMiss th x.its else scanR th (seen ++ [x]) t

theorem scanR_app (th : Nat → Bool) (seen a b : List Rl) (h : (scanR th seen a).2 = false) : scanR th seen (a ++ b) = scanR th (seen ++ a) b := by
  induction a generalizing seen with
  | nil => simp
  | cons x t ih =>
    rw [scanR] at h
    rw [List.cons_append, scanR]
    split
    · rename_i h1; rw [if_pos h1] at h; cases h
    · rename_i h1
      rw [if_neg h1] at h
      split
      · rename_i h2; rw [if_pos h2] at h; rw [h2] at h; cases h
      · rename_i h2
        rw [if_neg h2] at h
        rw [ih _ h]; simp

theorem scanR_none (th : Nat → Bool) (seen l : List Rl) (h : (scanR th seen l).2 = false) : scanR th seen l = (0, false) := by
  induction l generalizing seen with
  | nil => rfl
  | cons x t ih =>
    rw [scanR] at h ⊢
    split
    · rename_i h1; rw [if_pos h1] at h; cases h
    · rename_i h1
      rw [if_neg h1] at h
      split
      · rename_i h2; rw [if_pos h2, h2] at h; cases h
      · rename_i h2
        rw [if_neg h2] at h
        exact ih _ h

theorem bools_set (th : Nat → Bool) (r : Nat) (h : r < 8) : (bools th).setIfInBounds r (.bool true) = bools (fun k => th k || k == r) := by
  have h8 : r = 0 ∨ r = 1 ∨ r = 2 ∨ r = 3 ∨ r = 4 ∨ r = 5 ∨ r = 6 ∨ r = 7 := by omega
  rcases h8 with rfl | rfl | rfl | rfl | rfl | rfl | rfl | rfl <;> simp [bools]

theorem inR_snoc (l : List Rl) (x : Rl) (rn : Nat) (hx : x.r = rn) : inR (l ++ [x]) = fun k => inR l k || k == rn := by
  funext k
  unfold inR
  rw [hasR_snoc, hx]
  congr 1
  by_cases h : k = rn
  · subst h; simp
  · have : ¬ ((rn : Int) = (k : Int)) := by omega
    rw [beq_eq_false_iff_ne.2 this, beq_eq_false_iff_ne.2 h]

/-- the rules of a grammar in memory -/
structure RAt (s : ByteArray) (w : World) (v : Value) (l : List (Rl × Nat)) : Prop where
  shape : ∃ g cap, v = .slice (some ⟨g, 0, none⟩) l.length cap ∧ g < w.heap.size ∧ ∀ j, (h : j < l.length) → w.cell? ⟨g, j * 3, none⟩ = some (.int .i64 l[j].1.r) ∧ w.cell? ⟨g, j * 3 + 1, none⟩ = some (.int .i64 l[j].1.pl) ∧ w.cell? ⟨g, j * 3 + 2, none⟩ = some (.pointer (some ⟨l[j].2, 0, none⟩))
  rep : ∀ q, q ∈ l → ∃ lo hi, 0 < lo ∧ hi ≤ w.heap.size ∧ RepS (s.size + 1) w lo hi q.2 false q.1.its
  num : ∀ q, q ∈ l → 0 ≤ q.1.r ∧ q.1.r < 8
  rul : ∀ q, q ∈ l → RulIn q.1.its ∧ q.1.its.length ≤ 1000
  len : l.length ≤ 8

theorem RAt.below {s : ByteArray} {w w' : World} {v : Value} {l : List (Rl × Nat)} (h : RAt s w v l) (hb : Below w.heap.size w w') : RAt s w' v l := by
  obtain ⟨⟨g, cap, h1, h2, h3⟩, h4, h5, h6, h7⟩ := h
  have hs := hb.size
  refine ⟨⟨g, cap, h1, by omega, fun j hj => ?_⟩, fun q hq => ?_, h5, h6, h7⟩
  · obtain ⟨a, b, c⟩ := h3 j hj
    exact ⟨by rw [hb.cell (p := ⟨g, j * 3, none⟩) h2]; exact a, by rw [hb.cell (p := ⟨g, j * 3 + 1, none⟩) h2]; exact b, by rw [hb.cell (p := ⟨g, j * 3 + 2, none⟩) h2]; exact c⟩
  · obtain ⟨lo, hi, a, b, c⟩ := h4 q hq
    exact ⟨lo, hi, a, by omega, c.mono (fun k _ k2 => hb.block k (by omega)) (Nat.le_refl _) (Nat.le_refl _)⟩

structure At1 (w : World) (tb qb : Nat) (f g : Nat → Bool) (wr : World) : Prop where
  bel : Below w.heap.size w wr
  b1 : Blk wr tb (bools f) 107
  b2 : Blk wr qb (bools g) 107

set_option maxRecDepth 100000 in
set_option maxHeartbeats 4000000 in
theorem wrongRuleG_calls (s : ByteArray) (w : World) (gb : Nat) (v : Value) (l : List (Rl × Nat)) (hg : Blk w gb #[v] 85) (hR : RAt s w v l) :
    Calls Tryd.prog 33 #[.pointer (some ⟨gb, 0, none⟩)] w fun e w' =>
      e = .returned (.tuple #[.int .i64 (scanR (inR (l.map Prod.fst)) [] (l.map Prod.fst)).1, .bool (scanR (inR (l.map Prod.fst)) [] (l.map Prod.fst)).2]) ∧ Below w.heap.size w w' := by
  have HR := hide' hR
  have HG := hide' hg
  have hgl := hg.lt
  obtain ⟨⟨g, cap, rfl, hgg, hcl⟩, _, hnum, hrul, hl8⟩ := hR
  have HCl := hide' hcl
  have HNum := hide' hnum
  have HRul := hide' hrul
  have ca : ∀ o o', ((w.alloc o).alloc o').cell? ⟨gb, 0, none⟩ = some (.slice (some ⟨g, 0, none⟩) l.length cap) := fun o o' => (Blk.alloc (Blk.alloc hg o) o').cell 0
  have HA1 : Hid (At1 w w.heap.size (w.heap.size + 1) (fun _ => false) (fun _ => false) ((w.alloc (.cells (bools fun _ => false) 107)).alloc (.cells (bools fun _ => false) 107))) :=
    ⟨((Below.refl _ _).alloc (Nat.le_refl _) _).alloc (by simp) _, (Blk.new w _ _).alloc _, by simpa using Blk.new (w.alloc (.cells (bools fun _ => false) 107)) (bools fun _ => false) 107⟩
  clear hg hcl hnum hrul
  go_enter Tryd.func33, Tryd.ntmps33
  go_wp2_with fail
  simp only [bools] at HA1
  generalize hW : ((w.alloc (.cells #[.bool false, .bool false, .bool false, .bool false, .bool false, .bool false, .bool false, .bool false] 107)).alloc (.cells #[.bool false, .bool false, .bool false, .bool false, .bool false, .bool false, .bool false, .bool false] 107)) = W0 at *
  clear hW ca
  generalize hqb : w.heap.size + 1 = qb at *
  generalize htb : w.heap.size = tb at *
  have HTB := hide' htb
  have h1q : tb < qb := by omega
  have HMap : Hid (∀ j, (h : j < l.length) → (l.map Prod.fst).take (j + 1) = (l.map Prod.fst).take j ++ [l[j].1]) := by
    intro j h
    rw [List.take_succ_eq_append_getElem (by simpa using h)]; simp
  clear hqb htb
  go_loopw [17] (fun v17 wr => ∃ j : Nat, v17 = .int .i64 j ∧ j ≤ l.length ∧ Hid (At1 w tb qb (inR ((l.map Prod.fst).take j)) (fun _ => false) wr)) (fun v17 _ => l.length - (intOf v17).toNat)
  case atStart =>
    refine ⟨0, rfl, by omega, ?_⟩
    have e : inR ((l.map Prod.fst).take 0) = fun _ => false := by funext k; simp [inR, hasR]
    have h : At1 w tb qb (inR ((l.map Prod.fst).take 0)) (fun _ => false) W0 := by rw [e]; exact HA1.out
    exact h
  case round =>
    obtain ⟨j, rfl, hj, hat⟩ := hrel
    have hbel := hat.out.bel
    rw [HTB.out] at hbel
    have hsz := hbel.size
    rw [HTB.out] at hsz
    have htbl := hat.out.b1.lt
    have hqbl := hat.out.b2.lt
    by_cases hlt : j < l.length
    · obtain ⟨d0, d1, d2⟩ := HCl.out j hlt
      have hjj : (j : Int) < (l.length : Int) := by omega
      obtain ⟨hn0, hn8⟩ := HNum.out l[j] (List.getElem_mem hlt)
      obtain ⟨rn, hrn⟩ : ∃ rn : Nat, l[j].1.r = (rn : Int) := ⟨l[j].1.r.toNat, by omega⟩
      have hrn8 : rn < 8 := by omega
      have hrn8' : (rn : Int) < 8 := by omega
      have c0 : wr.cell? ⟨g, j * 3, none⟩ = some (.int .i64 (rn : Int)) := by rw [hbel.cell (p := ⟨g, j * 3, none⟩) (by simp; omega), d0, hrn]
      have c1 : wr.cell? ⟨g, j * 3 + 1, none⟩ = some (.int .i64 (l[j].1.pl : Int)) := by rw [hbel.cell (p := ⟨g, j * 3 + 1, none⟩) (by simp; omega), d1]
      have c2 : wr.cell? ⟨g, j * 3 + 2, none⟩ = some (.pointer (some ⟨l[j].2, 0, none⟩)) := by rw [hbel.cell (p := ⟨g, j * 3 + 2, none⟩) (by simp; omega), d2]
      have ct : ∀ o, (wr.alloc o).cell? ⟨tb, rn, none⟩ = some (.bool (inR ((l.map Prod.fst).take j) rn)) := fun o => by rw [(hat.out.b1.alloc o).cell rn, bools_at _ _ hrn8]
      have ft : ∀ o, (wr.alloc o).frozen? ⟨tb, rn, none⟩ = false := fun o => (hat.out.b1.alloc o).frozen rn
      have hne : ¬ wr.heap.size = tb := by omega
      have hne' : ¬ tb = wr.heap.size := by omega
      have HN : Hid (∀ o, At1 w tb qb (inR ((l.map Prod.fst).take (j + 1))) (fun _ => false) ((wr.alloc o).setCell ⟨tb, rn, none⟩ (.bool true))) := by
        intro o
        refine ⟨(hat.out.bel.alloc (by rw [HTB.out]; omega) o).setCell (by simp; rw [HTB.out]; omega) _, ?_, (hat.out.b2.alloc o).setOther _ (by simp; omega) _⟩
        have h := (hat.out.b1.alloc o).set rn (.bool true)
        rw [bools_set _ _ hrn8, ← inR_snoc _ l[j].1 rn hrn, ← HMap.out j hlt] at h
        exact h
      have HN2 : Hid (∀ o, At1 w tb qb (inR ((l.map Prod.fst).take (j + 1))) (fun _ => false) ((wr.setCell ⟨tb, rn, none⟩ (.bool true)).alloc o)) := by
        intro o
        have h := (hat.out.b1).set rn (.bool true)
        rw [bools_set _ _ hrn8, ← inR_snoc _ l[j].1 rn hrn, ← HMap.out j hlt] at h
        exact ⟨(hat.out.bel.setCell (by simp; rw [HTB.out]; omega) _).alloc (by rw [HTB.out]; simp [World.setCell]; omega) o, h.alloc o, (hat.out.b2.setOther _ (by simp; omega) _).alloc o⟩
      clear d0 d1 d2 hn0 hn8 hrn hat
      generalize l[j] = q at *
      go_wp2_with fail
      first
        | exact ⟨⟨j + 1, by go_num, by omega, HN.out _⟩, by simp [intOf]; omega⟩
        | exact ⟨⟨j + 1, by go_num, by omega, HN2.out _⟩, by simp [intOf]; omega⟩
    · have HT : Hid (At1 w tb qb (inR (l.map Prod.fst)) (fun _ => false) wr) := by
        have h := hat.out
        rw [List.take_of_length_le (by simp; omega)] at h
        exact h
      have hgb : wr.cell? ⟨gb, 0, none⟩ = some (.slice (some ⟨g, 0, none⟩) l.length cap) := by rw [hbel.cell (p := ⟨gb, 0, none⟩) (by simp; omega)]; exact HG.out.cell 0
      clear hat
      go_wp2_with fail
      go_loopw [30] (fun v30 wq => ∃ j : Nat, v30 = .int .i64 j ∧ j ≤ l.length ∧ Hid (At1 w tb qb (inR (l.map Prod.fst)) (inR ((l.map Prod.fst).take j)) wq) ∧ Hid ((scanR (inR (l.map Prod.fst)) [] ((l.map Prod.fst).take j)).2 = false)) (fun v30 _ => l.length - (intOf v30).toNat)
      case atStart =>
        refine ⟨0, rfl, by omega, ?_, (by simp [scanR] : (scanR (inR (l.map Prod.fst)) [] ((l.map Prod.fst).take 0)).2 = false)⟩
        have e : inR ((l.map Prod.fst).take 0) = fun _ => false := by funext k; simp [inR, hasR]
        have h : At1 w tb qb (inR (l.map Prod.fst)) (inR ((l.map Prod.fst).take 0)) wr := by rw [e]; exact HT.out
        exact h
      case round =>
        rename World => wq
        obtain ⟨i, rfl, hi, hat, hno⟩ := hrel
        clear hgb HT hbel hsz htbl hqbl
        have hbel := hat.out.bel
        rw [HTB.out] at hbel
        have hsz := hbel.size
        rw [HTB.out] at hsz
        have htbl := hat.out.b1.lt
        have hqbl := hat.out.b2.lt
        by_cases hlti : i < l.length
        · obtain ⟨d0, d1, d2⟩ := HCl.out i hlti
          have hjj : (i : Int) < (l.length : Int) := by omega
          have hmem := List.getElem_mem hlti
          obtain ⟨hn0, hn8⟩ := HNum.out l[i] hmem
          obtain ⟨rn, hrn⟩ : ∃ rn : Nat, l[i].1.r = (rn : Int) := ⟨l[i].1.r.toNat, by omega⟩
          have hrn8 : rn < 8 := by omega
          have hrn8' : (rn : Int) < 8 := by omega
          have c0 : wq.cell? ⟨g, i * 3, none⟩ = some (.int .i64 (rn : Int)) := by rw [hbel.cell (p := ⟨g, i * 3, none⟩) (by simp; omega), d0, hrn]
          have c1 : wq.cell? ⟨g, i * 3 + 1, none⟩ = some (.int .i64 (l[i].1.pl : Int)) := by rw [hbel.cell (p := ⟨g, i * 3 + 1, none⟩) (by simp; omega), d1]
          have c2 : wq.cell? ⟨g, i * 3 + 2, none⟩ = some (.pointer (some ⟨l[i].2, 0, none⟩)) := by rw [hbel.cell (p := ⟨g, i * 3 + 2, none⟩) (by simp; omega), d2]
          have cq : ∀ o, (wq.alloc o).cell? ⟨qb, rn, none⟩ = some (.bool (inR ((l.map Prod.fst).take i) rn)) := fun o => by rw [(hat.out.b2.alloc o).cell rn, bools_at _ _ hrn8]
          have fq : ∀ o, (wq.alloc o).frozen? ⟨qb, rn, none⟩ = false := fun o => (hat.out.b2.alloc o).frozen rn
          have hne : ¬ wq.heap.size = qb := by omega
          have hne' : ¬ qb = wq.heap.size := by omega
          have HSplit : Hid (scanR (inR (l.map Prod.fst)) [] (l.map Prod.fst) = scanR (inR (l.map Prod.fst)) ((l.map Prod.fst).take i) (l[i].1 :: (l.map Prod.fst).drop (i + 1))) := by
            have h := scanR_app (inR (l.map Prod.fst)) [] ((l.map Prod.fst).take i) ((l.map Prod.fst).drop i) hno.out
            rw [List.take_append_drop, List.nil_append] at h
            have e : (l.map Prod.fst).drop i = l[i].1 :: (l.map Prod.fst).drop (i + 1) := by rw [List.drop_eq_getElem_cons (by simpa using hlti)]; simp
            rw [e] at h
            exact h
          cases hin : inR ((l.map Prod.fst).take i) rn
          rotate_left
          · have HF : Hid (scanR (inR (l.map Prod.fst)) [] (l.map Prod.fst) = ((l[i].1.pl : Int), true)) := by
              have : scanR (inR (l.map Prod.fst)) [] (l.map Prod.fst) = ((l[i].1.pl : Int), true) := by
                rw [HSplit.out, scanR, if_pos (by rw [hrn]; exact hin)]
              exact this
            have HBf := hide' hbel
            rw [hin] at cq
            clear hat hno HSplit d0 d1 d2 hn0 hn8 hrn hmem hin
            generalize l[i] = q at *
            go_wp2_with fail
            go_ret2
            exact ⟨by rw [HF.out]; rfl, by rw [HTB.out]; exact HBf.out.alloc (by omega) _⟩
          · rw [hin] at cq
            obtain ⟨lo, hi2, hlo0, hhi, hrepS⟩ := HR.out.rep l[i] hmem
            have hrep := hrepS.toT
            clear hrepS
            rw [HTB.out] at hhi
            obtain ⟨hrl, hrl2⟩ := HRul.out l[i] hmem
            have hin2 : ¬ hasR ((l.map Prod.fst).take i) l[i].1.r = true := by rw [hrn]; intro h; rw [show inR ((l.map Prod.fst).take i) rn = hasR ((l.map Prod.fst).take i) (rn : Int) from rfl, h] at hin; cases hin
            have HNx : Hid (∀ o, At1 w tb qb (inR (l.map Prod.fst)) (inR ((l.map Prod.fst).take (i + 1))) ((wq.setCell ⟨qb, rn, none⟩ (.bool true)).alloc o)) := by
              intro o
              have h := (hat.out.b2).set rn (.bool true)
              rw [bools_set _ _ hrn8, ← inR_snoc _ l[i].1 rn hrn, ← HMap.out i hlti] at h
              exact ⟨(hat.out.bel.setCell (by simp; rw [HTB.out]; omega) _).alloc (by rw [HTB.out]; simp [World.setCell]; omega) o, (hat.out.b1.setOther _ (by simp; omega) _).alloc o, h.alloc o⟩
            have HSc : Hid (scanR (inR (l.map Prod.fst)) [] (l.map Prod.fst) = if (firstMiss (inR (l.map Prod.fst)) l[i].1.its).2 then firstMiss (inR (l.map Prod.fst)) l[i].1.its else scanR (inR (l.map Prod.fst)) ((l.map Prod.fst).take i ++ [l[i].1]) ((l.map Prod.fst).drop (i + 1))) := by
              have : scanR (inR (l.map Prod.fst)) [] (l.map Prod.fst) = if (firstMiss (inR (l.map Prod.fst)) l[i].1.its).2 then firstMiss (inR (l.map Prod.fst)) l[i].1.its else scanR (inR (l.map Prod.fst)) ((l.map Prod.fst).take i ++ [l[i].1]) ((l.map Prod.fst).drop (i + 1)) := by
                rw [HSplit.out, scanR, if_neg hin2]
              exact this
            have HNo2 : Hid ((firstMiss (inR (l.map Prod.fst)) l[i].1.its).2 = false → (scanR (inR (l.map Prod.fst)) [] ((l.map Prod.fst).take (i + 1))).2 = false) := by
              intro h
              rw [HMap.out i hlti, scanR_app _ _ _ _ hno.out, List.nil_append, scanR, if_neg hin2, if_neg (by rw [h]; simp)]
              rfl
            have HB1 := hide' hat.out.b1
            have HBelQ := hide' hbel
            have hneq : ¬ tb = qb := by omega
            have hneq' : ¬ qb = tb := by omega
            have HRep := hide' hrep
            have HRl := hide' hrl
            have cqf : wq.cell? ⟨qb, rn, none⟩ = some (.bool false) := by rw [← cq (.cells #[] 0)]; exact (World.cell?_of_block (Below.heap_alloc _ _ _ hqbl)).symm
            have fqf : wq.frozen? ⟨qb, rn, none⟩ = false := by rw [← fq (.cells #[] 0)]; exact (World.frozen?_of_block (Below.heap_alloc _ _ _ hqbl)).symm
            clear hat hno HSplit d0 d1 d2 hn0 hn8 hrn hmem hin hrep hrl hin2 hbel
            generalize l[i] = q at *
            go_upto_region 13 with fail
            have HN4 := hide' (HNx.out (.cells #[.int .i64 (rn : Int), .int .i64 (q.1.pl : Int), .pointer (some ⟨q.2, 0, none⟩)] 104))
            have hbq := Blk.new (wq.setCell ⟨qb, rn, none⟩ (.bool true)) #[.int .i64 (rn : Int), .int .i64 (q.1.pl : Int), .pointer (some ⟨q.2, 0, none⟩)] 104
            have hszq : (wq.setCell ⟨qb, rn, none⟩ (.bool true)).heap.size = wq.heap.size := by simp [World.setCell]
            rw [hszq] at hbq
            have p2 : ((wq.setCell ⟨qb, rn, none⟩ (.bool true)).alloc (.cells #[.int .i64 (rn : Int), .int .i64 (q.1.pl : Int), .pointer (some ⟨q.2, 0, none⟩)] 104)).cell? ⟨wq.heap.size, 2, none⟩ = some (.pointer (some ⟨q.2, 0, none⟩)) := hbq.cell 2
            clear HNx cq fq cqf fqf hbq hszq c0 c1 c2
            generalize ((wq.setCell ⟨qb, rn, none⟩ (.bool true)).alloc (.cells #[.int .i64 (rn : Int), .int .i64 (q.1.pl : Int), .pointer (some ⟨q.2, 0, none⟩)] 104)) = w4 at *
            have t0 : w4.cell? ⟨tb, 0, none⟩ = some (.bool (inR (l.map Prod.fst) 0)) := HN4.out.b1.cell 0
            have t1 : w4.cell? ⟨tb, 1, none⟩ = some (.bool (inR (l.map Prod.fst) 1)) := HN4.out.b1.cell 1
            have t2 : w4.cell? ⟨tb, 2, none⟩ = some (.bool (inR (l.map Prod.fst) 2)) := HN4.out.b1.cell 2
            have t3 : w4.cell? ⟨tb, 3, none⟩ = some (.bool (inR (l.map Prod.fst) 3)) := HN4.out.b1.cell 3
            have t4 : w4.cell? ⟨tb, 4, none⟩ = some (.bool (inR (l.map Prod.fst) 4)) := HN4.out.b1.cell 4
            have t5 : w4.cell? ⟨tb, 5, none⟩ = some (.bool (inR (l.map Prod.fst) 5)) := HN4.out.b1.cell 5
            have t6 : w4.cell? ⟨tb, 6, none⟩ = some (.bool (inR (l.map Prod.fst) 6)) := HN4.out.b1.cell 6
            have t7 : w4.cell? ⟨tb, 7, none⟩ = some (.bool (inR (l.map Prod.fst) 7)) := HN4.out.b1.cell 7
            have hb4 := HN4.out.bel
            rw [HTB.out] at hb4
            have hs4 := hb4.size
            rw [HTB.out] at hs4
            have HB4 := hide' hb4
            go_wp2_with fail
            have hcc := miss_calls (inR (l.map Prod.fst)) (s.size + 1) w4 lo hi2 q.2 q.1.its (HRep.out.mono (fun k h1 h2 => hb4.block k (by omega)) (Nat.le_refl _) (Nat.le_refl _)) (by omega) HRl.out hrl2
            simp only [bools] at hcc
            refine hcc.mono ?_
            rintro e w5 ⟨rfl, hb5⟩
            have HN5 : Hid (At1 w tb qb (inR (l.map Prod.fst)) (inR ((l.map Prod.fst).take (i + 1))) w5) := ⟨by rw [HTB.out]; exact HB4.out.trans (hb5.mono (by omega)), HN4.out.b1.below hb5 HN4.out.b1.lt, HN4.out.b2.below hb5 HN4.out.b2.lt⟩
            clear hcc t0 t1 t2 t3 t4 t5 t6 t7 hb4 p2 hb5
            generalize hfm : firstMiss (inR (l.map Prod.fst)) q.1.its = m at *
            clear hfm
            obtain ⟨m1, m2⟩ := m
            cases m2
            · have HN6 := hide' (HNo2.out rfl)
              clear HNo2 HSc
              simp only
              go_wp2_with fail
              go_roundw
              case rel => exact ⟨i + 1, by go_num, by omega, HN5, HN6⟩
              case measure => simp [intOf]; omega
            · have HF : Hid (scanR (inR (l.map Prod.fst)) [] (l.map Prod.fst) = (m1, true)) := by
                have : scanR (inR (l.map Prod.fst)) [] (l.map Prod.fst) = (m1, true) := by rw [HSc.out]; simp
                exact this
              clear HNo2 HSc
              simp only
              go_wp2_with fail
              go_ret2
              exact ⟨by rw [HF.out]; rfl, HN5.out.bel⟩
        · have HF : Hid (scanR (inR (l.map Prod.fst)) [] (l.map Prod.fst) = (0, false)) := by
            have h := hno.out
            rw [List.take_of_length_le (by simp; omega)] at h
            exact scanR_none _ _ _ h
          have HBf := hide' hbel
          clear hat hno
          go_wp2_with fail
          go_ret2
          exact ⟨by rw [HF.out]; rfl, by rw [HTB.out]; exact HBf.out⟩

end Go.Proofs.YtmlkhhhjdpbhfaaDoor
