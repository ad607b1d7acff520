import Derived.Test.YtmlkhhhjdpbhfaaDoorSynWalkH
/- The contract of the binder's walk, by the kind of part. -/
namespace Go.Proofs.YtmlkhhhjdpbhfaaDoor
open Go.RowKit

set_option maxRecDepth 100000 in
set_option maxHeartbeats 8000000 in
theorem walk_pn (f : Nat) (ih : WalkC f) (w : World) (lo hi pb : Nat) (x : It) (kids : List (Nat × List It)) (p : Pt) (B0 bb : Nat) (q : Sc × (Int × Bool)) (h : In0 f w lo hi pb x kids p B0 bb none q) (hc : (x.c == 40) = false) (hh : hidesB x.c = false) (hu : usesB x.c = false) (hk : inB [119, 64, 115] x.c = false) :
    Calls Tryd.prog 54 #[.pointer (some ⟨bb, 0, none⟩), .pointer (some ⟨pb, 0, none⟩), .pointer none, .pointer none] w fun e w' =>
      e = .returned (.tuple #[]) ∧ WS B0 bb none (foldK f false false kids (stepV false false x q)) w' ∧ FrW bb none w w' := by
  obtain ⟨j, hj15, hjk, hju⟩ := h.lx.use
  have hk0 : p.k = (j : Int) := by rw [h.it.k]; exact hjk
  have hk3 : ((j : Int) == 3) = false := by rw [← hjk, h.lx.st]; exact hc
  have HHid : Hid (kHid (j : Int) = hidesB x.c) := by
    have : kHid (j : Int) = hidesB x.c := by rw [← hjk]; exact h.lx.hid
    exact this
  have HKeep : Hid (kKeep (j : Int) = inB [119, 64, 115] x.c) := by
    have : kKeep (j : Int) = inB [119, 64, 115] x.c := by rw [← hjk]; exact h.lx.keep
    exact this
  have HUse := hide' hju
  have c0 : w.cell? ⟨pb, 0, none⟩ = some (.int .i64 (j : Int)) := by rw [← hk0]; exact h.blk.cell 0
  have HH := hide' h
  have HIH := hide' ih
  have hpbl := h.hpb
  have hhil := h.hhi
  have hBl := h.hB
  have hbbl := h.ws.hb
  have hposl := h.ws.pos
  have HShp := hide' h.ws.shp
  have hbbs := h.ws.bd.lt
  have HStep : Hid (stepV false false x q = q) := by
    have : stepV false false x q = q := by unfold stepV; rw [hh, hu]; rfl
    exact this
  have HHh := hide' hh
  have HHu := hide' hu
  have HHk := hide' hk
  clear h ih hc hh hk hjk hk0 hju hu
  go_enter Tryd.func54, Tryd.ntmps54
  go_wp2_with fail
  refine (isHidden_calls _ _).mono ?_
  rintro e w9 ⟨rfl, h9⟩
  have h9 := h9.symm
  subst h9
  rw [HHid.out, HHh.out]
  simp only
  go_wp2_with fail
  refine (usesDep_calls j hj15 w HShp.out).mono ?_
  rintro e w9 ⟨rfl, h9⟩
  have h9 := h9.symm
  subst h9
  rw [HUse.out, HHu.out]
  simp only
  have HW1 : Hid (WS B0 bb none (stepV false false x q) w) := by
    have : WS B0 bb none (stepV false false x q) w := by rw [HStep.out]; exact HH.out.ws
    exact this
  have HF1 : Hid (FrW bb none w w) := FrW.refl _ _ _
  have hsz1 := HF1.out.size
  have HBel1 := hide' (HF1.out.below (B0 := B0) hbbl (by intro _ e; cases e) hBl)
  have HB1 : Hid (PtBlk w pb p) := Blk.below HH.out.blk HBel1.out (by omega)
  have c01 : w.cell? ⟨pb, 0, none⟩ = some (.int .i64 (j : Int)) := by rw [HBel1.out.cell (p := ⟨pb, 0, none⟩) (by simp; omega)]; exact c0
  obtain ⟨ao, cap, hv, hcell⟩ : ∃ ao cap, p.v = .slice ao (kids.map Prod.fst).length cap ∧ (∀ i, i < (kids.map Prod.fst).length → ∃ g, ao = some ⟨g, 0, none⟩ ∧ g < B0 ∧ w.cell? ⟨g, i, none⟩ = some (.pointer (some ⟨(kids.map Prod.fst).getD i 0, 0, none⟩))) := by
    rcases HH.out.ptr with ⟨hv, hnil⟩ | ⟨g, cap, hv, hg1, hg2, _, hc⟩
    · exact ⟨none, 0, by rw [hv, hnil]; rfl, fun j hj => by rw [hnil] at hj; simp at hj⟩
    · exact ⟨_, _, hv, fun j hj => ⟨g, rfl, by omega, hc j hj⟩⟩
  rw [List.length_map] at hv
  have c71 : w.cell? ⟨pb, 8, none⟩ = some (.slice ao kids.length cap) := by rw [← hv]; exact HB1.out.cell 8
  have HCell := hide' hcell
  clear hcell hv
  go_wp2_with fail
  refine (keepsStruct_calls _ _).mono ?_
  rintro e w9 ⟨rfl, h9⟩
  have h9 := h9.symm
  subst h9
  rw [HKeep.out, HHk.out]
  simp only
  go_wp2_with fail
  have hklen : kids.length ≤ 1000 := by
    have h1 := flat_ge' kids (fun z hz => (HH.out.rep z hz).segOk)
    have h2 := HH.out.len
    omega
  go_loopw [50] (fun v50 wr => ∃ i : Nat, v50 = .int .i64 i ∧ i ≤ kids.length ∧ Hid (WS B0 bb none (foldK f false false (kids.take i) (stepV false false x q)) wr) ∧ Hid (FrW bb none w wr)) (fun v50 _ => kids.length - (intOf v50).toNat)
  case atStart => exact ⟨0, rfl, by omega, HW1, HF1⟩
  case round =>
    obtain ⟨i, rfl, hile, hat, hfr⟩ := hrel
    have hfs := hfr.out.size
    by_cases hlt : i < kids.length
    · obtain ⟨g, rfl, hg, hc⟩ := HCell.out i (by simpa using hlt)
      have hjj : (i : Int) < (kids.length : Int) := by omega
      have hq : kids[i] ∈ kids := List.getElem_mem hlt
      have hpt : (kids.map Prod.fst).getD i 0 = kids[i].1 := by rw [getD_lt _ _ _ (by simpa using hlt)]; simp
      rw [hpt] at hc
      have hbel := hfr.out.below (B0 := B0) hbbl (by intro _ e; cases e) hBl
      have hcw : wr.cell? ⟨g, i, none⟩ = some (.pointer (some ⟨kids[i].1, 0, none⟩)) := by
        rw [hbel.cell (p := ⟨g, i, none⟩) hg]; exact hc
      have hkr := (HH.out.rep _ hq).mono (w' := wr) (fun k h1 h2 => hbel.block k (by omega)) (Nat.le_refl _) (Nat.le_refl _)
      have hlen2 : kids[i].2.length ≤ 1000 := by have h1 := mem_flat_le' kids _ hq; have h2 := HH.out.len; omega
      have hmem : ∀ z, z ∈ kids[i].2 → z ∈ kids.flatMap Prod.snd := fun z hz => List.mem_flatMap.2 ⟨_, hq, hz⟩
      have HC := hide' (HIH.out wr lo hi _ _ false none _ B0 bb hkr hhil (by omega) (hat.out) (fun z hz => HH.out.lets z (hmem z hz)) hlen2 (fun h => by cases h))
      have HT : Hid (walkV f false false kids[i].2 (foldK f false false (kids.take i) (stepV false false x q)) = foldK f false false (kids.take (i + 1)) (stepV false false x q)) := by
        have : walkV f false false kids[i].2 (foldK f false false (kids.take i) (stepV false false x q)) = foldK f false false (kids.take (i + 1)) (stepV false false x q) := by
          rw [List.take_succ_eq_append_getElem hlt, foldK_snoc]
        exact this
      clear hc hpt hkr hmem hlen2 hq
      generalize kids[i] = z at *
      go_wp2_with fail
      have hcc := HC.out
      simp only [ptrO, Bool.false_eq_true, if_false, Option.map_none, Option.isSome_none] at hcc
      refine hcc.mono ?_
      rintro e w5 ⟨rfl, hws5, hfr5⟩
      rw [HT.out] at hws5
      have HN1 := hide' hws5
      have HN2 := hide' (hfr.out.trans hfr5)
      clear hcc HC hws5 hfr5 hcw hat
      simp only
      go_wp2_with fail
      go_roundw
      case rel => exact ⟨i + 1, by go_num, by omega, HN1, HN2⟩
      case measure => simp [intOf]; omega
    · have HTk : Hid (WS B0 bb none (foldK f false false kids (stepV false false x q)) wr) := by
        have h := hat.out
        rw [List.take_of_length_le (by omega)] at h
        exact h
      clear hat
      go_wp2_with fail
      go_end0
      exact ⟨rfl, HTk.out, hfr.out⟩

set_option maxRecDepth 100000 in
set_option maxHeartbeats 8000000 in
theorem walk_ps (f : Nat) (ih : WalkC f) (w : World) (lo hi pb : Nat) (x : It) (kids : List (Nat × List It)) (p : Pt) (B0 bb sb : Nat) (q : Sc × (Int × Bool)) (h : In0 f w lo hi pb x kids p B0 bb (some sb) q) (hc : (x.c == 40) = false) (hh : hidesB x.c = false) (hu : usesB x.c = false) (hk : inB [119, 64, 115] x.c = false) :
    Calls Tryd.prog 54 #[.pointer (some ⟨bb, 0, none⟩), .pointer (some ⟨pb, 0, none⟩), .pointer none, .pointer (some ⟨sb, 0, none⟩)] w fun e w' =>
      e = .returned (.tuple #[]) ∧ WS B0 bb (some sb) (foldK f false false kids (stepV false true x q)) w' ∧ FrW bb (some sb) w w' := by
  obtain ⟨j, hj15, hjk, hju⟩ := h.lx.use
  have hk0 : p.k = (j : Int) := by rw [h.it.k]; exact hjk
  have hk3 : ((j : Int) == 3) = false := by rw [← hjk, h.lx.st]; exact hc
  have HHid : Hid (kHid (j : Int) = hidesB x.c) := by
    have : kHid (j : Int) = hidesB x.c := by rw [← hjk]; exact h.lx.hid
    exact this
  have HKeep : Hid (kKeep (j : Int) = inB [119, 64, 115] x.c) := by
    have : kKeep (j : Int) = inB [119, 64, 115] x.c := by rw [← hjk]; exact h.lx.keep
    exact this
  have HUse := hide' hju
  have c0 : w.cell? ⟨pb, 0, none⟩ = some (.int .i64 (j : Int)) := by rw [← hk0]; exact h.blk.cell 0
  have HH := hide' h
  have HIH := hide' ih
  have hpbl := h.hpb
  have hhil := h.hhi
  have hBl := h.hB
  have hbbl := h.ws.hb
  have hposl := h.ws.pos
  have HShp := hide' h.ws.shp
  have hbbs := h.ws.bd.lt
  have hsbl := h.ws.lt sb rfl
  obtain ⟨_, hsbb, hsbB⟩ := h.ws.sc sb rfl
  have HStep : Hid (stepV false true x q = q) := by
    have : stepV false true x q = q := by unfold stepV; rw [hh, hu]; rfl
    exact this
  have HHh := hide' hh
  have HHu := hide' hu
  have HHk := hide' hk
  clear h ih hc hh hk hjk hk0 hju hu
  go_enter Tryd.func54, Tryd.ntmps54
  go_wp2_with fail
  refine (isHidden_calls _ _).mono ?_
  rintro e w9 ⟨rfl, h9⟩
  have h9 := h9.symm
  subst h9
  rw [HHid.out, HHh.out]
  simp only
  go_wp2_with fail
  refine (usesDep_calls j hj15 w HShp.out).mono ?_
  rintro e w9 ⟨rfl, h9⟩
  have h9 := h9.symm
  subst h9
  rw [HUse.out, HHu.out]
  simp only
  have HW1 : Hid (WS B0 bb (some sb) (stepV false true x q) w) := by
    have : WS B0 bb (some sb) (stepV false true x q) w := by rw [HStep.out]; exact HH.out.ws
    exact this
  have HF1 : Hid (FrW bb (some sb) w w) := FrW.refl _ _ _
  have hsz1 := HF1.out.size
  have HBel1 := hide' (HF1.out.below (B0 := B0) hbbl (by intro s e; simp at e; omega) hBl)
  have HB1 : Hid (PtBlk w pb p) := Blk.below HH.out.blk HBel1.out (by omega)
  have c01 : w.cell? ⟨pb, 0, none⟩ = some (.int .i64 (j : Int)) := by rw [HBel1.out.cell (p := ⟨pb, 0, none⟩) (by simp; omega)]; exact c0
  obtain ⟨ao, cap, hv, hcell⟩ : ∃ ao cap, p.v = .slice ao (kids.map Prod.fst).length cap ∧ (∀ i, i < (kids.map Prod.fst).length → ∃ g, ao = some ⟨g, 0, none⟩ ∧ g < B0 ∧ w.cell? ⟨g, i, none⟩ = some (.pointer (some ⟨(kids.map Prod.fst).getD i 0, 0, none⟩))) := by
    rcases HH.out.ptr with ⟨hv, hnil⟩ | ⟨g, cap, hv, hg1, hg2, _, hc⟩
    · exact ⟨none, 0, by rw [hv, hnil]; rfl, fun j hj => by rw [hnil] at hj; simp at hj⟩
    · exact ⟨_, _, hv, fun j hj => ⟨g, rfl, by omega, hc j hj⟩⟩
  rw [List.length_map] at hv
  have c71 : w.cell? ⟨pb, 8, none⟩ = some (.slice ao kids.length cap) := by rw [← hv]; exact HB1.out.cell 8
  have HCell := hide' hcell
  clear hcell hv
  go_wp2_with fail
  refine (keepsStruct_calls _ _).mono ?_
  rintro e w9 ⟨rfl, h9⟩
  have h9 := h9.symm
  subst h9
  rw [HKeep.out, HHk.out]
  simp only
  go_wp2_with fail
  have hklen : kids.length ≤ 1000 := by
    have h1 := flat_ge' kids (fun z hz => (HH.out.rep z hz).segOk)
    have h2 := HH.out.len
    omega
  go_loopw [50] (fun v50 wr => ∃ i : Nat, v50 = .int .i64 i ∧ i ≤ kids.length ∧ Hid (WS B0 bb (some sb) (foldK f false false (kids.take i) (stepV false true x q)) wr) ∧ Hid (FrW bb (some sb) w wr)) (fun v50 _ => kids.length - (intOf v50).toNat)
  case atStart => exact ⟨0, rfl, by omega, HW1, HF1⟩
  case round =>
    obtain ⟨i, rfl, hile, hat, hfr⟩ := hrel
    have hfs := hfr.out.size
    by_cases hlt : i < kids.length
    · obtain ⟨g, rfl, hg, hc⟩ := HCell.out i (by simpa using hlt)
      have hjj : (i : Int) < (kids.length : Int) := by omega
      have hq : kids[i] ∈ kids := List.getElem_mem hlt
      have hpt : (kids.map Prod.fst).getD i 0 = kids[i].1 := by rw [getD_lt _ _ _ (by simpa using hlt)]; simp
      rw [hpt] at hc
      have hbel := hfr.out.below (B0 := B0) hbbl (by intro s e; simp at e; omega) hBl
      have hcw : wr.cell? ⟨g, i, none⟩ = some (.pointer (some ⟨kids[i].1, 0, none⟩)) := by
        rw [hbel.cell (p := ⟨g, i, none⟩) hg]; exact hc
      have hkr := (HH.out.rep _ hq).mono (w' := wr) (fun k h1 h2 => hbel.block k (by omega)) (Nat.le_refl _) (Nat.le_refl _)
      have hlen2 : kids[i].2.length ≤ 1000 := by have h1 := mem_flat_le' kids _ hq; have h2 := HH.out.len; omega
      have hmem : ∀ z, z ∈ kids[i].2 → z ∈ kids.flatMap Prod.snd := fun z hz => List.mem_flatMap.2 ⟨_, hq, hz⟩
      have HC := hide' (HIH.out wr lo hi _ _ false none _ B0 bb hkr hhil (by omega) (hat.out.bare) (fun z hz => HH.out.lets z (hmem z hz)) hlen2 (fun h => by cases h))
      have HT : Hid (walkV f false false kids[i].2 (foldK f false false (kids.take i) (stepV false true x q)) = foldK f false false (kids.take (i + 1)) (stepV false true x q)) := by
        have : walkV f false false kids[i].2 (foldK f false false (kids.take i) (stepV false true x q)) = foldK f false false (kids.take (i + 1)) (stepV false true x q) := by
          rw [List.take_succ_eq_append_getElem hlt, foldK_snoc]
        exact this
      clear hc hpt hkr hmem hlen2 hq
      generalize kids[i] = z at *
      go_wp2_with fail
      have hcc := HC.out
      simp only [ptrO, Bool.false_eq_true, if_false, Option.map_none, Option.isSome_none] at hcc
      refine hcc.mono ?_
      rintro e w5 ⟨rfl, hws5, hfr5⟩
      rw [HT.out] at hws5
      have hup := hat.out.up (by omega) hws5 hfr5 (by rw [foldK_scope, foldK_scope]) (fun s e => hat.out.lt s e)
      have HN1 := hide' hup.1
      have HN2 := hide' (hfr.out.trans hup.2)
      clear hup
      clear hcc HC hws5 hfr5 hcw hat
      simp only
      go_wp2_with fail
      go_roundw
      case rel => exact ⟨i + 1, by go_num, by omega, HN1, HN2⟩
      case measure => simp [intOf]; omega
    · have HTk : Hid (WS B0 bb (some sb) (foldK f false false kids (stepV false true x q)) wr) := by
        have h := hat.out
        rw [List.take_of_length_le (by omega)] at h
        exact h
      clear hat
      go_wp2_with fail
      go_end0
      exact ⟨rfl, HTk.out, hfr.out⟩

set_option maxRecDepth 100000 in
set_option maxHeartbeats 8000000 in
theorem walk_po (f : Nat) (ih : WalkC f) (w : World) (lo hi pb : Nat) (x : It) (kids : List (Nat × List It)) (p : Pt) (B0 bb sb : Nat) (q : Sc × (Int × Bool)) (h : In0 f w lo hi pb x kids p B0 bb (some sb) q) (hc : (x.c == 40) = false) (hh : hidesB x.c = false) (hu : usesB x.c = false) (hk : inB [119, 64, 115] x.c = false) :
    Calls Tryd.prog 54 #[.pointer (some ⟨bb, 0, none⟩), .pointer (some ⟨pb, 0, none⟩), .pointer (some ⟨sb, 0, none⟩), .pointer (some ⟨sb, 0, none⟩)] w fun e w' =>
      e = .returned (.tuple #[]) ∧ WS B0 bb (some sb) (foldK f false false kids (stepV true true x q)) w' ∧ FrW bb (some sb) w w' := by
  obtain ⟨j, hj15, hjk, hju⟩ := h.lx.use
  have hk0 : p.k = (j : Int) := by rw [h.it.k]; exact hjk
  have hk3 : ((j : Int) == 3) = false := by rw [← hjk, h.lx.st]; exact hc
  have HHid : Hid (kHid (j : Int) = hidesB x.c) := by
    have : kHid (j : Int) = hidesB x.c := by rw [← hjk]; exact h.lx.hid
    exact this
  have HKeep : Hid (kKeep (j : Int) = inB [119, 64, 115] x.c) := by
    have : kKeep (j : Int) = inB [119, 64, 115] x.c := by rw [← hjk]; exact h.lx.keep
    exact this
  have HUse := hide' hju
  have c0 : w.cell? ⟨pb, 0, none⟩ = some (.int .i64 (j : Int)) := by rw [← hk0]; exact h.blk.cell 0
  have HH := hide' h
  have HIH := hide' ih
  have hpbl := h.hpb
  have hhil := h.hhi
  have hBl := h.hB
  have hbbl := h.ws.hb
  have hposl := h.ws.pos
  have HShp := hide' h.ws.shp
  have hbbs := h.ws.bd.lt
  have hsbl := h.ws.lt sb rfl
  obtain ⟨_, hsbb, hsbB⟩ := h.ws.sc sb rfl
  have HStep : Hid (stepV true true x q = q) := by
    have : stepV true true x q = q := by unfold stepV; rw [hh, hu]; rfl
    exact this
  have HHh := hide' hh
  have HHu := hide' hu
  have HHk := hide' hk
  clear h ih hc hh hk hjk hk0 hju hu
  go_enter Tryd.func54, Tryd.ntmps54
  go_wp2_with fail
  refine (isHidden_calls _ _).mono ?_
  rintro e w9 ⟨rfl, h9⟩
  have h9 := h9.symm
  subst h9
  rw [HHid.out, HHh.out]
  simp only
  go_wp2_with fail
  refine (usesDep_calls j hj15 w HShp.out).mono ?_
  rintro e w9 ⟨rfl, h9⟩
  have h9 := h9.symm
  subst h9
  rw [HUse.out, HHu.out]
  simp only
  have HW1 : Hid (WS B0 bb (some sb) (stepV true true x q) w) := by
    have : WS B0 bb (some sb) (stepV true true x q) w := by rw [HStep.out]; exact HH.out.ws
    exact this
  have HF1 : Hid (FrW bb (some sb) w w) := FrW.refl _ _ _
  have hsz1 := HF1.out.size
  have HBel1 := hide' (HF1.out.below (B0 := B0) hbbl (by intro s e; simp at e; omega) hBl)
  have HB1 : Hid (PtBlk w pb p) := Blk.below HH.out.blk HBel1.out (by omega)
  have c01 : w.cell? ⟨pb, 0, none⟩ = some (.int .i64 (j : Int)) := by rw [HBel1.out.cell (p := ⟨pb, 0, none⟩) (by simp; omega)]; exact c0
  obtain ⟨ao, cap, hv, hcell⟩ : ∃ ao cap, p.v = .slice ao (kids.map Prod.fst).length cap ∧ (∀ i, i < (kids.map Prod.fst).length → ∃ g, ao = some ⟨g, 0, none⟩ ∧ g < B0 ∧ w.cell? ⟨g, i, none⟩ = some (.pointer (some ⟨(kids.map Prod.fst).getD i 0, 0, none⟩))) := by
    rcases HH.out.ptr with ⟨hv, hnil⟩ | ⟨g, cap, hv, hg1, hg2, _, hc⟩
    · exact ⟨none, 0, by rw [hv, hnil]; rfl, fun j hj => by rw [hnil] at hj; simp at hj⟩
    · exact ⟨_, _, hv, fun j hj => ⟨g, rfl, by omega, hc j hj⟩⟩
  rw [List.length_map] at hv
  have c71 : w.cell? ⟨pb, 8, none⟩ = some (.slice ao kids.length cap) := by rw [← hv]; exact HB1.out.cell 8
  have HCell := hide' hcell
  clear hcell hv
  go_wp2_with fail
  refine (keepsStruct_calls _ _).mono ?_
  rintro e w9 ⟨rfl, h9⟩
  have h9 := h9.symm
  subst h9
  rw [HKeep.out, HHk.out]
  simp only
  go_wp2_with fail
  have hklen : kids.length ≤ 1000 := by
    have h1 := flat_ge' kids (fun z hz => (HH.out.rep z hz).segOk)
    have h2 := HH.out.len
    omega
  go_loopw [50] (fun v50 wr => ∃ i : Nat, v50 = .int .i64 i ∧ i ≤ kids.length ∧ Hid (WS B0 bb (some sb) (foldK f false false (kids.take i) (stepV true true x q)) wr) ∧ Hid (FrW bb (some sb) w wr)) (fun v50 _ => kids.length - (intOf v50).toNat)
  case atStart => exact ⟨0, rfl, by omega, HW1, HF1⟩
  case round =>
    obtain ⟨i, rfl, hile, hat, hfr⟩ := hrel
    have hfs := hfr.out.size
    by_cases hlt : i < kids.length
    · obtain ⟨g, rfl, hg, hc⟩ := HCell.out i (by simpa using hlt)
      have hjj : (i : Int) < (kids.length : Int) := by omega
      have hq : kids[i] ∈ kids := List.getElem_mem hlt
      have hpt : (kids.map Prod.fst).getD i 0 = kids[i].1 := by rw [getD_lt _ _ _ (by simpa using hlt)]; simp
      rw [hpt] at hc
      have hbel := hfr.out.below (B0 := B0) hbbl (by intro s e; simp at e; omega) hBl
      have hcw : wr.cell? ⟨g, i, none⟩ = some (.pointer (some ⟨kids[i].1, 0, none⟩)) := by
        rw [hbel.cell (p := ⟨g, i, none⟩) hg]; exact hc
      have hkr := (HH.out.rep _ hq).mono (w' := wr) (fun k h1 h2 => hbel.block k (by omega)) (Nat.le_refl _) (Nat.le_refl _)
      have hlen2 : kids[i].2.length ≤ 1000 := by have h1 := mem_flat_le' kids _ hq; have h2 := HH.out.len; omega
      have hmem : ∀ z, z ∈ kids[i].2 → z ∈ kids.flatMap Prod.snd := fun z hz => List.mem_flatMap.2 ⟨_, hq, hz⟩
      have HC := hide' (HIH.out wr lo hi _ _ false none _ B0 bb hkr hhil (by omega) (hat.out.bare) (fun z hz => HH.out.lets z (hmem z hz)) hlen2 (fun h => by cases h))
      have HT : Hid (walkV f false false kids[i].2 (foldK f false false (kids.take i) (stepV true true x q)) = foldK f false false (kids.take (i + 1)) (stepV true true x q)) := by
        have : walkV f false false kids[i].2 (foldK f false false (kids.take i) (stepV true true x q)) = foldK f false false (kids.take (i + 1)) (stepV true true x q) := by
          rw [List.take_succ_eq_append_getElem hlt, foldK_snoc]
        exact this
      clear hc hpt hkr hmem hlen2 hq
      generalize kids[i] = z at *
      go_wp2_with fail
      have hcc := HC.out
      simp only [ptrO, Bool.false_eq_true, if_false, Option.map_none, Option.isSome_none] at hcc
      refine hcc.mono ?_
      rintro e w5 ⟨rfl, hws5, hfr5⟩
      rw [HT.out] at hws5
      have hup := hat.out.up (by omega) hws5 hfr5 (by rw [foldK_scope, foldK_scope]) (fun s e => hat.out.lt s e)
      have HN1 := hide' hup.1
      have HN2 := hide' (hfr.out.trans hup.2)
      clear hup
      clear hcc HC hws5 hfr5 hcw hat
      simp only
      go_wp2_with fail
      go_roundw
      case rel => exact ⟨i + 1, by go_num, by omega, HN1, HN2⟩
      case measure => simp [intOf]; omega
    · have HTk : Hid (WS B0 bb (some sb) (foldK f false false kids (stepV true true x q)) wr) := by
        have h := hat.out
        rw [List.take_of_length_le (by omega)] at h
        exact h
      clear hat
      go_wp2_with fail
      go_end0
      exact ⟨rfl, HTk.out, hfr.out⟩

end Go.Proofs.YtmlkhhhjdpbhfaaDoor
