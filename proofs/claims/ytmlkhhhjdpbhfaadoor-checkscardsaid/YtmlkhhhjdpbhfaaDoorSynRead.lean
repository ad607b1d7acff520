import Derived.Test.YtmlkhhhjdpbhfaaDoorSynWalkZ
/- Contracts of wrongDependency, of the program's Read and of Check. -/
namespace Go.Proofs.YtmlkhhhjdpbhfaaDoor
open Go.RowKit

/-- a walk over a rule's part -/
def WalkR (F bb : Nat) (w : World) (pb : Nat) (its : List It) (st : Int × Bool) : Prop :=
  Calls Tryd.prog 54 #[.pointer (some ⟨bb, 0, none⟩), .pointer (some ⟨pb, 0, none⟩), ptrO (if false then (none : Option Nat) else none), ptrO none] w fun e w' =>
    e = .returned (.tuple #[]) ∧ WS bb bb none (walkV F false (none : Option Nat).isSome its (Sc0, st)) w' ∧ FrW bb none w w'

set_option maxRecDepth 100000 in
set_option maxHeartbeats 4000000 in
theorem wrongDep_calls (s : ByteArray) (w : World) (gb : Nat) (v : Value) (l : List (Rl × Nat)) (hg : Blk w gb #[v] 85) (hR : RAt s w v l) (hS : Shp w) (hlets : ∀ q, q ∈ l → ∀ x, x ∈ q.1.its → LetOk x) :
    Calls Tryd.prog 34 #[.pointer (some ⟨gb, 0, none⟩)] w fun e w' =>
      e = .returned (.tuple #[.int .i64 (wrongD (s.size + 1) (l.map Prod.fst) (0, false)).1, .bool (wrongD (s.size + 1) (l.map Prod.fst) (0, false)).2]) ∧ Below w.heap.size w w' := by
  have HR := hide' hR
  have hgl := hg.lt
  obtain ⟨⟨g, cap, rfl, hgg, hcl⟩, _, hnum, hrul, hl8⟩ := hR
  have HCl := hide' hcl
  have HRul := hide' hrul
  have HLets := hide' hlets
  have ca : ∀ o, (w.alloc o).cell? ⟨gb, 0, none⟩ = some (.slice (some ⟨g, 0, none⟩) l.length cap) := fun o => (Blk.alloc hg o).cell 0
  have hS0 := hS.2
  have HW0 : Hid (WS w.heap.size w.heap.size none (Sc0, (0, false)) (w.alloc (.cells #[.int .i64 0, .bool false] 110))) :=
    ⟨Blk.new _ _ _, (fun _ e => by cases e), Nat.le_refl _, hS.fr (B := w.heap.size) (rb := w.heap.size) ((Fr.refl _ _ _).alloc (Nat.le_refl _) _) hS0 hS0, hS0⟩
  have HB0 : Hid (Below w.heap.size w (w.alloc (.cells #[.int .i64 0, .bool false] 110))) := (Below.refl _ _).alloc (Nat.le_refl _) _
  have hWs : w.heap.size < (w.alloc (.cells #[.int .i64 0, .bool false] 110)).heap.size := by simp
  clear hg hcl hnum hrul hS hlets
  go_enter Tryd.func34, Tryd.ntmps34
  go_wp2_with fail
  generalize w.alloc (.cells #[.int .i64 0, .bool false] 110) = W0 at *
  clear ca
  generalize hbb : w.heap.size = bb at *
  have HBB := hide' hbb
  clear hbb
  go_loopw [12] (fun v12 wr => ∃ i : Nat, v12 = .int .i64 i ∧ i ≤ l.length ∧ Hid (WS bb bb none (Sc0, wrongD (s.size + 1) ((l.map Prod.fst).take i) (0, false)) wr) ∧ Hid (Below bb w wr) ∧ Hid (bb < wr.heap.size)) (fun v12 _ => l.length - (intOf v12).toNat)
  case atStart => exact ⟨0, rfl, by omega, HW0, HB0, hWs⟩
  case round =>
    obtain ⟨i, rfl, hi, hws, hbel, hbw⟩ := hrel
    have hbw2 := hbw.out
    by_cases hlt : i < l.length
    · obtain ⟨d0, d1, d2⟩ := HCl.out i hlt
      have hjj : (i : Int) < (l.length : Int) := by omega
      have hmem := List.getElem_mem hlt
      obtain ⟨lo, hi2, hlo0, hhi, hrepS⟩ := HR.out.rep l[i] hmem
      have hrep := hrepS.toT
      clear hrepS
      rw [HBB.out] at hhi
      obtain ⟨_, hrl2⟩ := HRul.out l[i] hmem
      have c0 : wr.cell? ⟨g, i * 3, none⟩ = some (.int .i64 l[i].1.r) := by rw [hbel.out.cell (p := ⟨g, i * 3, none⟩) hgg, d0]
      have c1 : wr.cell? ⟨g, i * 3 + 1, none⟩ = some (.int .i64 (l[i].1.pl : Int)) := by rw [hbel.out.cell (p := ⟨g, i * 3 + 1, none⟩) hgg, d1]
      have c2 : wr.cell? ⟨g, i * 3 + 2, none⟩ = some (.pointer (some ⟨l[i].2, 0, none⟩)) := by rw [hbel.out.cell (p := ⟨g, i * 3 + 2, none⟩) hgg, d2]
      have HC : Hid (∀ o, WalkR (s.size + 1) bb (wr.alloc o) l[i].2 l[i].1.its (wrongD (s.size + 1) ((l.map Prod.fst).take i) (0, false))) := by
        intro o
        have h := walk_all (s.size + 1) (wr.alloc o) lo hi2 l[i].2 l[i].1.its false none (Sc0, wrongD (s.size + 1) ((l.map Prod.fst).take i) (0, false)) bb bb
          (hrep.mono (fun k h1 h2 => by rw [Below.heap_alloc _ _ _ (by omega), hbel.out.block k (by omega)]) (Nat.le_refl _) (Nat.le_refl _)) hhi (by simp; omega)
          ⟨Blk.alloc hws.out.bd o, (fun _ e => by cases e), Nat.le_refl _, hws.out.shp.fr (B := wr.heap.size) (rb := wr.heap.size) ((Fr.refl _ _ _).alloc (Nat.le_refl _) _) (by omega) (by omega), hws.out.pos⟩ (HLets.out l[i] hmem) hrl2 (fun h => by cases h)
        exact h
      have HT : Hid ((walkV (s.size + 1) false false l[i].1.its (Sc0, wrongD (s.size + 1) ((l.map Prod.fst).take i) (0, false))).2 = wrongD (s.size + 1) ((l.map Prod.fst).take (i + 1)) (0, false)) := by
        have : (walkV (s.size + 1) false false l[i].1.its (Sc0, wrongD (s.size + 1) ((l.map Prod.fst).take i) (0, false))).2 = wrongD (s.size + 1) ((l.map Prod.fst).take (i + 1)) (0, false) := by
          rw [List.take_succ_eq_append_getElem (by simpa using hlt)]
          unfold wrongD
          rw [List.foldl_append]
          simp
        exact this
      clear d0 d1 d2 hmem hrep
      generalize l[i] = q at *
      go_wp2_with fail
      have hcc := HC.out (.cells #[.int .i64 q.1.r, .int .i64 (q.1.pl : Int), .pointer (some ⟨q.2, 0, none⟩)] 104)
      unfold WalkR at hcc
      simp only [ptrO, Option.map_none, Bool.false_eq_true, if_false] at hcc
      refine hcc.mono ?_
      rintro e w5 ⟨rfl, hws5, hfr5⟩
      have HN1 : Hid (WS bb bb none (Sc0, wrongD (s.size + 1) ((l.map Prod.fst).take (i + 1)) (0, false)) w5) := by
        have h := hws5.bd
        simp only [Option.isSome_none] at h
        rw [HT.out] at h
        exact ⟨h, (fun _ e => by cases e), Nat.le_refl _, hws5.shp, hws5.pos⟩
      have hs5 := hfr5.size
      simp at hs5
      have HN2 : Hid (Below bb w w5) := (hbel.out.alloc (by omega) _).trans (hfr5.below (Nat.le_refl _) (fun _ e => by cases e) (by simp; omega))
      clear hcc HC hws5 hfr5 c0 c1 c2
      simp only
      go_wp2_with fail
      go_roundw
      case rel => exact ⟨i + 1, by go_num, by omega, HN1, HN2, (by omega : bb < w5.heap.size)⟩
      case measure => simp [intOf]; omega
    · have HT : Hid (wrongD (s.size + 1) ((l.map Prod.fst).take i) (0, false) = wrongD (s.size + 1) (l.map Prod.fst) (0, false)) := by
        have : wrongD (s.size + 1) ((l.map Prod.fst).take i) (0, false) = wrongD (s.size + 1) (l.map Prod.fst) (0, false) := by rw [List.take_of_length_le (by simp; omega)]
        exact this
      have b0 : wr.cell? ⟨bb, 0, none⟩ = some (.int .i64 (wrongD (s.size + 1) (l.map Prod.fst) (0, false)).1) := by rw [← HT.out]; exact hws.out.bd.cell 0
      have b1 : wr.cell? ⟨bb, 1, none⟩ = some (.bool (wrongD (s.size + 1) (l.map Prod.fst) (0, false)).2) := by rw [← HT.out]; exact hws.out.bd.cell 1
      generalize hz : wrongD (s.size + 1) (l.map Prod.fst) (0, false) = z at *
      have HZ := hide' hz
      clear HT hz
      go_wp2_with fail
      go_quiet (fail)
      go_wp2_with fail
      go_ret2
      exact ⟨by rw [HZ.out]; rfl, by rw [HBB.out]; exact ⟨hbel.out.os, hbel.out.tape, hbel.out.output, hbel.out.size, hbel.out.block⟩⟩


theorem Fr.lower2 {B g C : Nat} {a b : World} (h : Fr B g a b) (hB : C ≤ B) (hg : C ≤ g) : Below C a b := ⟨h.os, h.tape, h.output, h.size, fun k hk => h.block k (by omega) (by omega)⟩

/-- what is known of the rules of a text that stands -/
structure FormOk (rls : List Rl) : Prop where
  num : ∀ r, r ∈ rls → 0 ≤ r.r ∧ r.r < 8
  rul : ∀ r, r ∈ rls → RulIn r.its ∧ r.its.length ≤ 1000
  lets : ∀ r, r ∈ rls → ∀ x, x ∈ r.its → LetOk x
  len : rls.length ≤ 8
  ne : 0 < rls.length

theorem RAt.of {s : ByteArray} {B : Nat} {w : World} {v : Value} {l : List (Rl × Nat)} (h : RMk s B w v l) (hB : 0 < B) (hf : FormOk (l.map Prod.fst)) : RAt s w v l := by
  have hm : ∀ q, q ∈ l → q.1 ∈ l.map Prod.fst := fun q hq => List.mem_map.2 ⟨q, hq, rfl⟩
  have hlen : l.length ≤ 8 := by have := hf.len; simpa using this
  have hpos : 0 < l.length := by have := hf.ne; simpa using this
  refine ⟨?_, fun q hq => ?_, fun q hq => hf.num _ (hm q hq), fun q hq => hf.rul _ (hm q hq), hlen⟩
  · obtain ⟨g, cap, rfl, h1, h2⟩ := h.row.form hpos
    refine ⟨g, cap, rfl, h2, fun j hj => ?_⟩
    refine ⟨?_, ?_, ?_⟩
    · have := h.row.cellAt (j * 3 + 0) (by omega)
      rw [rcells_get l j 0 (by omega)] at this
      simpa [hj] using this
    · have := h.row.cellAt (j * 3 + 1) (by omega)
      rw [rcells_get l j 1 (by omega)] at this
      simpa [hj] using this
    · have := h.row.cellAt (j * 3 + 2) (by omega)
      rw [rcells_get l j 2 (by omega)] at this
      simpa [hj] using this
  · obtain ⟨lo, hi, a, b, _, c⟩ := h.ok q hq
    exact ⟨lo, hi, by omega, b, c⟩

/-- the program's answer to Check -/
def pressV (s : ByteArray) : Int × Int :=
  if 400 < s.size then (1, 0) else if (formV s).ok = false then (2, (formV s).i)
  else if (scanR (inR (formV s).rls) [] (formV s).rls).2 then (3, (scanR (inR (formV s).rls) [] (formV s).rls).1)
  else if (wrongD (s.size + 1) (formV s).rls (0, false)).2 then (4, (wrongD (s.size + 1) (formV s).rls (0, false)).1) else (0, 0)

/-- the grammar that Read made lies in block gb -/
structure GrAt (s : ByteArray) (w : World) (gb : Nat) : Prop where
  ex : ∃ v l, Blk w gb #[v] 85 ∧ RAt s w v l ∧ l.map Prod.fst = (formV s).rls

theorem GrAt.below {s : ByteArray} {w w' : World} {gb : Nat} (h : GrAt s w gb) (hb : Below w.heap.size w w') : GrAt s w' gb := by
  obtain ⟨v, l, h1, h2, h3⟩ := h.ex
  exact ⟨v, l, h1.below hb h1.lt, h2.below hb, h3⟩

def SReadPost (s : ByteArray) (w w' : World) (p : Value) : Prop := (pressV s).1 = 0 → ∃ gb, p = .pointer (some ⟨gb, 0, none⟩) ∧ w.heap.size ≤ gb ∧ GrAt s w' gb

set_option maxRecDepth 100000 in
set_option maxHeartbeats 4000000 in
theorem sread_calls (s : ByteArray) (_hsl : s.size ≤ maxLen) (w : World) (hS : Shp w) (hform : s.size ≤ 400 → (formV s).ok = true → FormOk (formV s).rls) :
    Calls Tryd.prog 22 #[.string s] w fun e w' => ∃ p, e = .returned (.tuple #[p, .int .i64 (pressV s).1, .int .i64 (pressV s).2]) ∧ Below w.heap.size w w' ∧ SReadPost s w w' p := by
  have HS := hide' hS
  have HFm := hide' hform
  clear hS hform
  by_cases hs : 400 < s.size
  · have hs' : (400 : Int) < (s.size : Int) := by omega
    have HR : Hid (pressV s = (1, 0)) := by
      have : pressV s = (1, 0) := by unfold pressV; rw [if_pos hs]
      exact this
    unfold maxLen at _hsl
    go_enter Tryd.func22, Tryd.ntmps22
    go_wp2_with fail
    go_ret3
    exact ⟨.pointer none, by rw [HR.out]; rfl, Below.refl _ _, fun h => by rw [HR.out] at h; cases h⟩
  have hs' : ¬ (400 : Int) < (s.size : Int) := by omega
  have HP : Hid (pressV s = if (formV s).ok = false then (2, ((formV s).i : Int))
    else if (scanR (inR (formV s).rls) [] (formV s).rls).2 then (3, (scanR (inR (formV s).rls) [] (formV s).rls).1)
    else if (wrongD (s.size + 1) (formV s).rls (0, false)).2 then (4, (wrongD (s.size + 1) (formV s).rls (0, false)).1) else (0, 0)) := by
    show pressV s = _
    unfold pressV
    rw [if_neg hs]
  have HR0 : Hid (Rd (w.alloc (.cells #[.string s, .int .i64 0] 80)) w.heap.size s 0) := Blk.new _ _ _
  have HS0 : Hid (Shp (w.alloc (.cells #[.string s, .int .i64 0] 80))) := HS.out.fr (B := w.heap.size) (rb := w.heap.size) ((Fr.refl _ _ _).alloc (Nat.le_refl _) _) HS.out.2 HS.out.2
  have HB0 : Hid (Below w.heap.size w (w.alloc (.cells #[.string s, .int .i64 0] 80))) := (Below.refl _ _).alloc (Nat.le_refl _) _
  have hpos := HS.out.2
  have hsW : (w.alloc (.cells #[.string s, .int .i64 0] 80)).heap.size = w.heap.size + 1 := by simp
  go_enter Tryd.func22, Tryd.ntmps22
  go_wp2_with fail
  generalize w.alloc (.cells #[.string s, .int .i64 0] 80) = W0 at *
  generalize hrb : w.heap.size = rb at *
  have HRB := hide' hrb
  clear hrb
  refine (rules_calls s (by omega) W0 rb HR0.out HS0.out hpos).mono ?_
  rintro e w1 ⟨v, rfl, hfr, hno, hyes⟩
  have hs1 := hfr.size
  have HBW : Hid (Below rb w w1) := HB0.out.trans (Fr.lower2 hfr (by omega) (Nat.le_refl _))
  have HS1 : Hid (Shp w1) := HS0.out.fr (B := W0.heap.size) hfr hpos (by omega)
  cases hok : (formV s).ok
  · have h1 := hno hok
    have c1 : w1.cell? ⟨rb, 1, none⟩ = some (.int .i64 ((formV s).i : Int)) := h1.cell 1
    have HR : Hid (pressV s = (2, ((formV s).i : Int))) := by
      have : pressV s = (2, ((formV s).i : Int)) := by rw [HP.out, if_pos hok]
      exact this
    clear hno hyes hok h1 hfr
    simp only
    go_wp2_with fail
    go_quiet (fail)
    go_wp2_with fail
    go_ret3
    exact ⟨.pointer none, by rw [HR.out]; rfl, by rw [HRB.out]; exact ⟨HBW.out.os, HBW.out.tape, HBW.out.output, HBW.out.size, HBW.out.block⟩, fun h => by rw [HR.out] at h; cases h⟩
  · obtain ⟨l, hl, hmk⟩ := hyes hok
    have hF := HFm.out (Nat.le_of_not_lt hs) hok
    have HOK := hide' hok
    rw [← hl] at hF
    have hRA := RAt.of hmk (by omega) hF
    have HLets : Hid (∀ q, q ∈ l → ∀ x, x ∈ q.1.its → LetOk x) := fun q hq x hx => hF.lets q.1 (List.mem_map.2 ⟨q, hq, rfl⟩) x hx
    have HRA := hide' hRA
    have HL := hide' hl
    obtain ⟨gv, cv, hvv, _, _⟩ := hRA.shape
    subst hvv
    clear hno hyes hok hmk hF hRA hl hfr
    simp only
    go_wp2_with fail
    have HG2 := hide' (Blk.new w1 #[.slice (some ⟨gv, 0, none⟩) l.length cv] 85)
    have HB2 := hide' ((Below.refl w1.heap.size w1).alloc (Nat.le_refl _) (.cells #[.slice (some ⟨gv, 0, none⟩) l.length cv] 85))
    generalize w1.alloc (.cells #[.slice (some ⟨gv, 0, none⟩) l.length cv] 85) = w2 at *
    have hs2 := HB2.out.size
    refine (wrongRuleG_calls s w2 w1.heap.size _ l HG2.out (HRA.out.below HB2.out)).mono ?_
    rintro e w3 ⟨rfl, hb3⟩
    have HB3 := hide' hb3
    have hs3 := hb3.size
    have HG3 := hide' (HG2.out.below hb3 HG2.out.lt)
    have HRA3 := hide' ((HRA.out.below HB2.out).below hb3)
    have HS3 : Hid (Shp w3) := ⟨fun j u hu => by rw [hb3.cell (p := ⟨0, 0 + j, none⟩) (by simp; omega), HB2.out.cell (p := ⟨0, 0 + j, none⟩) (by simp; omega)]; exact HS1.out.1 j u hu, by omega⟩
    have HBW3 : Hid (Below rb w w3) := (HBW.out.trans (HB2.out.mono (by omega))).trans (hb3.mono (by omega))
    have HSc : Hid (scanR (inR (formV s).rls) [] (formV s).rls = scanR (inR (l.map Prod.fst)) [] (l.map Prod.fst)) := by
      have : scanR (inR (formV s).rls) [] (formV s).rls = scanR (inR (l.map Prod.fst)) [] (l.map Prod.fst) := by rw [← HL.out]
      exact this
    clear hb3
    generalize scanR (inR (l.map Prod.fst)) [] (l.map Prod.fst) = z at *
    obtain ⟨z1, z2⟩ := z
    cases z2
    rotate_left
    · have HR : Hid (pressV s = (3, z1)) := by
        have : pressV s = (3, z1) := by rw [HP.out, if_neg (by rw [HOK.out]; simp), HSc.out]; rfl
        exact this
      simp only
      go_wp2_with fail
      go_ret3
      exact ⟨.pointer none, by rw [HR.out]; rfl, by rw [HRB.out]; exact HBW3.out, fun h => by rw [HR.out] at h; cases h⟩
    · simp only
      go_wp2_with fail
      refine (wrongDep_calls s w3 w1.heap.size _ l HG3.out HRA3.out HS3.out HLets.out).mono ?_
      rintro e w4 ⟨rfl, hb4⟩
      have HBW4 : Hid (Below rb w w4) := HBW3.out.trans (hb4.mono (by omega))
      have HWd : Hid (wrongD (s.size + 1) (formV s).rls (0, false) = wrongD (s.size + 1) (l.map Prod.fst) (0, false)) := by
        have : wrongD (s.size + 1) (formV s).rls (0, false) = wrongD (s.size + 1) (l.map Prod.fst) (0, false) := by rw [← HL.out]
        exact this
      have HGR : Hid (GrAt s w4 w1.heap.size) := ⟨_, l, HG3.out.below hb4 (by have := HG3.out.lt; omega), HRA3.out.below hb4, HL.out⟩
      clear hb4
      generalize wrongD (s.size + 1) (l.map Prod.fst) (0, false) = y at *
      obtain ⟨y1, y2⟩ := y
      cases y2
      · have HR : Hid (pressV s = (0, 0)) := by
          have : pressV s = (0, 0) := by rw [HP.out, if_neg (by rw [HOK.out]; simp), HSc.out, HWd.out]; rfl
          exact this
        simp only
        go_wp2_with fail
        go_ret3
        exact ⟨_, by rw [HR.out]; rfl, by rw [HRB.out]; exact HBW4.out, fun _ => ⟨_, rfl, by rw [HRB.out]; omega, HGR.out⟩⟩
      · have HR : Hid (pressV s = (4, y1)) := by
          have : pressV s = (4, y1) := by rw [HP.out, if_neg (by rw [HOK.out]; simp), HSc.out, HWd.out]; rfl
          exact this
        simp only
        go_wp2_with fail
        go_ret3
        exact ⟨.pointer none, by rw [HR.out]; rfl, by rw [HRB.out]; exact HBW4.out, fun h => by rw [HR.out] at h; cases h⟩

end Go.Proofs.YtmlkhhhjdpbhfaaDoor
