import Derived.Test.YtmlkhhhjdpbhfaaGreatDoorPa10
import Derived.Test.YtmlkhhhjdpbhfaaGreatDoorPa28
import Derived.Test.YtmlkhhhjdpbhfaaGreatDoorPa11
import Derived.Test.YtmlkhhhjdpbhfaaGreatDoorProg
import Derived.WalkKit
import Derived.WalkSpells
import Derived.WalkLawsBesides
import Derived.Test.YtmlkhhhjdpbhfaaGreatDoorPa01
import Derived.Deep.RegionWith
import Derived.BigRegion
namespace Go.Proofs.YtmlkhhhjdpbhfaaGreatDoor
open Go.RowKit
theorem walkV_struct (f : Nat) (own ar : Bool) (x : It) (kids : List (Nat × List It)) (hk : ∀ z, z ∈ kids → SegOk z.2) (q : Sc × (Int × Bool)) (hc : x.c = 40) :
 walkV (f + 1) own ar (x :: kids.flatMap Prod.snd) q = (q.1, endV (foldK f true true kids (Sc0, q.2)).1 (foldK f true true kids (Sc0, q.2)).2) := by
 rw [walkV, if_pos hc, segs_kids kids hk]; rfl
theorem walkV_other (f : Nat) (own ar : Bool) (x : It) (kids : List (Nat × List It)) (hk : ∀ z, z ∈ kids → SegOk z.2) (q : Sc × (Int × Bool)) (hc : ¬ x.c = 40) :
 walkV (f + 1) own ar (x :: kids.flatMap Prod.snd) q = foldK f false (ar && inB [119, 64, 115] x.c) kids (stepV own ar x q) := by
 rw [walkV, if_neg hc, segs_kids kids hk]; rfl
set_option maxRecDepth 100000 in
set_option maxHeartbeats 4000000 in
theorem walk_struct (f : Nat) (ih : WalkC f) (w : World) (lo hi pb : Nat) (x : It) (kids : List (Nat × List It)) (p : Pt) (B0 bb : Nat) (o : Option Nat) (q : Sc × (Int × Bool)) (u v : Value) (h : In0 f w lo hi pb x kids p B0 bb o q) (hc : (x.c == 40) = true) :
 Calls Tryz.prog 61 #[.pointer (some ⟨bb, 0, none⟩), .pointer (some ⟨pb, 0, none⟩), u, v] w fun e w' =>
  e = .returned (.tuple #[]) ∧ WS B0 bb o (q.1, endV (foldK f true true kids (Sc0, q.2)).1 (foldK f true true kids (Sc0, q.2)).2) w' ∧ FrW bb o w w' := by
 have hk3 : (p.k == 3) = true := by rw [h.it.k, h.lx.st]; exact hc
 have c0 : w.cell? ⟨pb, 0, none⟩ = some (.int .i64 p.k) := h.blk.cell 0
 have HC := hide' (struct_calls f ih w lo hi pb x kids p q B0 bb h.hpb h.hhi h.hB h.blk h.ptr h.rep h.lets h.len h.ws.bare)
 have HH := hide' h
 clear ih h
 go_enter Tryz.func61, Tryz.ntmps61
 go_wp2_with fail
 refine HC.out.mono ?_
 rintro e w1 ⟨rfl, k1, k2⟩
 have hup := HH.out.ws.up HH.out.hB k1 k2 rfl (fun s e => HH.out.ws.lt s e)
 have HN := hide' hup
 clear hup k1 k2
 simp only
 go_wp2_with fail
 exact bodyPost_ret (v := .tuple #[]) (by simp [results, Tryz.results61, go_sem]) rfl ⟨rfl, HN.out.1, HN.out.2⟩
theorem walk_all (f : Nat) : WalkC f := by
 induction f with
 | zero => intro w lo hi pb seg own o q B0 bb h; exact h.elim
 | succ f ih =>
  intro w lo hi pb seg own o q B0 bb hrep hhi hB hws hlet hlen hown
  obtain ⟨x, kids, p, rfl, hnx, hlo, hpb, hblk, hit, hptr, hkids⟩ := hrep
  have hseg : ∀ z, z ∈ kids → SegOk z.2 := fun z hz => (hkids z hz).segOk
  have h0 : In0 f w lo hi pb x kids p B0 bb o q := ⟨hpb, hhi, hB, hblk, hptr, hkids, fun y hy => hlet y (List.mem_cons_of_mem _ hy), by simp at hlen; simp; omega, hws, hit, hlet x List.mem_cons_self⟩
  cases hc : (x.c == 40)
  rotate_left
  · rw [walkV_struct f own o.isSome x kids hseg q (by simpa using hc)]
    exact walk_struct f ih w lo hi pb x kids p B0 bb o q _ _ h0 hc
  rw [walkV_other f own o.isSome x kids hseg q (by simpa using hc)]
  exact walk_any f ih w lo hi pb x kids p B0 bb o own q h0 hown hc _ _ rfl (by cases inB [119, 64, 115] x.c <;> simp)
def wrongD (F : Nat) (rls : List Rl) (st : Int × Bool) : Int × Bool := rls.foldl (fun z r => (walkV F false false r.its (Sc0, z)).2) st
def WalkR (F bb : Nat) (w : World) (pb : Nat) (its : List It) (st : Int × Bool) : Prop :=
 Calls Tryz.prog 61 #[.pointer (some ⟨bb, 0, none⟩), .pointer (some ⟨pb, 0, none⟩), ptrO (if false then (none : Option Nat) else none), ptrO none] w fun e w' =>
  e = .returned (.tuple #[]) ∧ WS bb bb none (walkV F false (none : Option Nat).isSome its (Sc0, st)) w' ∧ FrW bb none w w'
set_option maxRecDepth 100000 in
set_option maxHeartbeats 4000000 in
theorem wrongDep_calls (s : ByteArray) (w : World) (gb : Nat) (v : Value) (l : List (Rl × Nat)) (hg : Blk w gb #[v] 77) (hR : RAt s w v l) (hS : Shp w) (hlets : ∀ q, q ∈ l → ∀ x, x ∈ q.1.its → LetOk x) :
 Calls Tryz.prog 39 #[.pointer (some ⟨gb, 0, none⟩)] w fun e w' =>
  e = .returned (.tuple #[.int .i64 (wrongD (s.size + 1) (l.map Prod.fst) (0, false)).1, .bool (wrongD (s.size + 1) (l.map Prod.fst) (0, false)).2]) ∧ Below w.heap.size w w' := by
 have HR := hide' hR
 have hgl := hg.lt
 obtain ⟨⟨g, cap, rfl, hgg, hcl⟩, _, hnum, hrul, hl8⟩ := hR
 have HCl := hide' hcl
 have HRul := hide' hrul
 have HLets := hide' hlets
 have ca : ∀ o, (w.alloc o).cell? ⟨gb, 0, none⟩ = some (.slice (some ⟨g, 0, none⟩) l.length cap) := fun o => (Blk.alloc hg o).cell 0
 have hS0 := hS.2
 have HW0 : Hid (WS w.heap.size w.heap.size none (Sc0, (0, false)) (w.alloc (.cells #[.int .i64 0, .bool false] 149))) :=
  ⟨Blk.new _ _ _, (fun _ e => by cases e), Nat.le_refl _, hS.fr (B := w.heap.size) (rb := w.heap.size) ((Fr.refl _ _ _).alloc (Nat.le_refl _) _) hS0 hS0, hS0⟩
 have HB0 : Hid (Below w.heap.size w (w.alloc (.cells #[.int .i64 0, .bool false] 149))) := (Below.refl _ _).alloc (Nat.le_refl _) _
 have hWs : w.heap.size < (w.alloc (.cells #[.int .i64 0, .bool false] 149)).heap.size := by simp
 clear hg hcl hnum hrul hS hlets
 go_enter Tryz.func39, Tryz.ntmps39
 go_wp2_with fail
 generalize w.alloc (.cells #[.int .i64 0, .bool false] 149) = W0 at *
 clear ca
 generalize hbb : w.heap.size = bb at *
 have HBB := hide' hbb
 clear hbb
 go_loopw [12] (fun v12 wr => ∃ i : Nat, v12 = .int .i64 i ∧ i ≤ l.length ∧ Hid (WS bb bb none (Sc0, wrongD (s.size + 1) ((l.map Prod.fst).take i) (0, false)) wr) ∧ Hid (Below bb w wr) ∧ Hid (bb < wr.heap.size)) (fun v12 _ => l.length - (intOf v12).toNat)
 case atStart => exact ⟨0, rfl, by omega, HW0, HB0, hWs⟩
 case round =>
  obtain ⟨i, rfl, hi, hws, hbel, hbw⟩ := hrel
  have hbw2 := hbw.out
  by_cases hlt : i < l.length
  · obtain ⟨d0, d1, d2⟩ := HCl.out i hlt
    have hjj : (i : Int) < (l.length : Int) := by omega
    have hmem := List.getElem_mem hlt
    obtain ⟨lo, hi2, hlo0, hhi, hrepS⟩ := HR.out.rep l[i] hmem
    have hrep := hrepS.toT
    clear hrepS
    rw [HBB.out] at hhi
    obtain ⟨_, hrl2⟩ := HRul.out l[i] hmem
    have c0 : wr.cell? ⟨g, i * 3, none⟩ = some (.int .i64 l[i].1.r) := by rw [hbel.out.cell (p := ⟨g, i * 3, none⟩) hgg, d0]
    have c1 : wr.cell? ⟨g, i * 3 + 1, none⟩ = some (.int .i64 (l[i].1.pl : Int)) := by rw [hbel.out.cell (p := ⟨g, i * 3 + 1, none⟩) hgg, d1]
    have c2 : wr.cell? ⟨g, i * 3 + 2, none⟩ = some (.pointer (some ⟨l[i].2, 0, none⟩)) := by rw [hbel.out.cell (p := ⟨g, i * 3 + 2, none⟩) hgg, d2]
    have HC : Hid (∀ o, WalkR (s.size + 1) bb (wr.alloc o) l[i].2 l[i].1.its (wrongD (s.size + 1) ((l.map Prod.fst).take i) (0, false))) := by
     intro o
     have h := walk_all (s.size + 1) (wr.alloc o) lo hi2 l[i].2 l[i].1.its false none (Sc0, wrongD (s.size + 1) ((l.map Prod.fst).take i) (0, false)) bb bb
      (hrep.mono (fun k h1 h2 => by rw [Below.heap_alloc _ _ _ (by omega), hbel.out.block k (by omega)]) (Nat.le_refl _) (Nat.le_refl _)) hhi (by simp; omega)
      ⟨Blk.alloc hws.out.bd o, (fun _ e => by cases e), Nat.le_refl _, hws.out.shp.fr (B := wr.heap.size) (rb := wr.heap.size) ((Fr.refl _ _ _).alloc (Nat.le_refl _) _) (by omega) (by omega), hws.out.pos⟩ (HLets.out l[i] hmem) hrl2 (fun h => by cases h)
     exact h
    have HT : Hid ((walkV (s.size + 1) false false l[i].1.its (Sc0, wrongD (s.size + 1) ((l.map Prod.fst).take i) (0, false))).2 = wrongD (s.size + 1) ((l.map Prod.fst).take (i + 1)) (0, false)) := by
     have : (walkV (s.size + 1) false false l[i].1.its (Sc0, wrongD (s.size + 1) ((l.map Prod.fst).take i) (0, false))).2 = wrongD (s.size + 1) ((l.map Prod.fst).take (i + 1)) (0, false) := by
      rw [List.take_succ_eq_append_getElem (by simpa using hlt)]
      unfold wrongD
      rw [List.foldl_append]
      simp
     exact this
    clear d0 d1 d2 hmem hrep
    generalize l[i] = q at *
    go_wp2_with fail
    have hcc := HC.out (.cells #[.int .i64 q.1.r, .int .i64 q.1.pl, .pointer (some ⟨q.2, 0, none⟩)] 123)
    unfold WalkR at hcc
    simp only [ptrO, Option.map_none, Bool.false_eq_true, if_false] at hcc
    refine hcc.mono ?_
    rintro e w5 ⟨rfl, hws5, hfr5⟩
    have HN1 : Hid (WS bb bb none (Sc0, wrongD (s.size + 1) ((l.map Prod.fst).take (i + 1)) (0, false)) w5) := by
     have h := hws5.bd
     simp only [Option.isSome_none] at h
     rw [HT.out] at h
     exact ⟨h, (fun _ e => by cases e), Nat.le_refl _, hws5.shp, hws5.pos⟩
    have hs5 := hfr5.size
    simp at hs5
    have HN2 : Hid (Below bb w w5) := (hbel.out.alloc (by omega) _).trans (hfr5.below (Nat.le_refl _) (fun _ e => by cases e) (by simp; omega))
    clear hcc HC hws5 hfr5 c0 c1 c2
    simp only
    go_wp2_with fail
    go_roundw
    case rel => exact ⟨i + 1, by go_num, by omega, HN1, HN2, (by omega : bb < w5.heap.size)⟩
    case measure => simp [intOf]; omega
  · have HT : Hid (wrongD (s.size + 1) ((l.map Prod.fst).take i) (0, false) = wrongD (s.size + 1) (l.map Prod.fst) (0, false)) := by
     have : wrongD (s.size + 1) ((l.map Prod.fst).take i) (0, false) = wrongD (s.size + 1) (l.map Prod.fst) (0, false) := by rw [List.take_of_length_le (by simp; omega)]
     exact this
    have b0 : wr.cell? ⟨bb, 0, none⟩ = some (.int .i64 (wrongD (s.size + 1) (l.map Prod.fst) (0, false)).1) := by rw [← HT.out]; exact hws.out.bd.cell 0
    have b1 : wr.cell? ⟨bb, 1, none⟩ = some (.bool (wrongD (s.size + 1) (l.map Prod.fst) (0, false)).2) := by rw [← HT.out]; exact hws.out.bd.cell 1
    generalize hz : wrongD (s.size + 1) (l.map Prod.fst) (0, false) = z at *
    have HZ := hide' hz
    clear HT hz
    go_wp2_with fail
    go_quiet (fail)
    go_wp2_with fail
    go_ret2
    exact ⟨by rw [HZ.out]; rfl, by rw [HBB.out]; exact ⟨hbel.out.os, hbel.out.tape, hbel.out.output, hbel.out.size, hbel.out.block⟩⟩
theorem Fr.lower2 {B g C : Nat} {a b : World} (h : Fr B g a b) (hB : C ≤ B) (hg : C ≤ g) : Below C a b := ⟨h.os, h.tape, h.output, h.size, fun k hk => h.block k (by omega) (by omega)⟩
structure FormOk (rls : List Rl) : Prop where
 num : ∀ r, r ∈ rls → 0 ≤ r.r ∧ r.r < 8
 rul : ∀ r, r ∈ rls → RulIn r.its ∧ r.its.length ≤ 1000
 lets : ∀ r, r ∈ rls → ∀ x, x ∈ r.its → LetOk x
 len : rls.length ≤ 8
 ne : 0 < rls.length
theorem RAt.of {s : ByteArray} {B : Nat} {w : World} {v : Value} {l : List (Rl × Nat)} (h : RMk s B w v l) (hB : 0 < B) (hf : FormOk (l.map Prod.fst)) : RAt s w v l := by
 have hm : ∀ q, q ∈ l → q.1 ∈ l.map Prod.fst := fun q hq => List.mem_map.2 ⟨q, hq, rfl⟩
 have hlen : l.length ≤ 8 := by have := hf.len; simpa using this
 have hpos : 0 < l.length := by have := hf.ne; simpa using this
 refine ⟨?_, fun q hq => ?_, fun q hq => hf.num _ (hm q hq), fun q hq => hf.rul _ (hm q hq), hlen⟩
 · obtain ⟨g, cap, rfl, h1, h2⟩ := h.row.form hpos
   refine ⟨g, cap, rfl, h2, fun j hj => ?_⟩
   refine ⟨?_, ?_, ?_⟩
   · have := h.row.cellAt (j * 3 + 0) (by omega)
     rw [rcells_get l j 0 (by omega)] at this
     simpa [hj] using this
   · have := h.row.cellAt (j * 3 + 1) (by omega)
     rw [rcells_get l j 1 (by omega)] at this
     simpa [hj] using this
   · have := h.row.cellAt (j * 3 + 2) (by omega)
     rw [rcells_get l j 2 (by omega)] at this
     simpa [hj] using this
 · obtain ⟨lo, hi, a, b, _, c⟩ := h.ok q hq
   exact ⟨lo, hi, by omega, b, c⟩
def pressV (s : ByteArray) : Int × Int :=
 if 400 < s.size then (1, 0) else if (formV s).ok = false then (2, (formV s).i)
 else if (scanR (inR (formV s).rls) [] (formV s).rls).2 then (3, (scanR (inR (formV s).rls) [] (formV s).rls).1)
 else if (wrongD (s.size + 1) (formV s).rls (0, false)).2 then (4, (wrongD (s.size + 1) (formV s).rls (0, false)).1) else (0, 0)
structure GrAt (s : ByteArray) (w : World) (gb : Nat) : Prop where
 ex : ∃ v l, Blk w gb #[v] 77 ∧ RAt s w v l ∧ l.map Prod.fst = (formV s).rls
theorem GrAt.below {s : ByteArray} {w w' : World} {gb : Nat} (h : GrAt s w gb) (hb : Below w.heap.size w w') : GrAt s w' gb := by
 obtain ⟨v, l, h1, h2, h3⟩ := h.ex
 exact ⟨v, l, h1.below hb h1.lt, h2.below hb, h3⟩
def SReadPost (s : ByteArray) (w w' : World) (p : Value) : Prop := (pressV s).1 = 0 → ∃ gb, p = .pointer (some ⟨gb, 0, none⟩) ∧ w.heap.size ≤ gb ∧ GrAt s w' gb
set_option maxRecDepth 100000 in
set_option maxHeartbeats 4000000 in
theorem sread_calls (s : ByteArray) (_hsl : s.size ≤ maxLen) (w : World) (hS : Shp w) (hform : s.size ≤ 400 → (formV s).ok = true → FormOk (formV s).rls) :
 Calls Tryz.prog 25 #[.string s] w fun e w' => ∃ p, e = .returned (.tuple #[p, .int .i64 (pressV s).1, .int .i64 (pressV s).2]) ∧ Below w.heap.size w w' ∧ SReadPost s w w' p := by
 have HS := hide' hS
 have HFm := hide' hform
 clear hS hform
 by_cases hs : 400 < s.size
 · have hs' : (400 : Int) < (s.size : Int) := by omega
   have HR : Hid (pressV s = (1, 0)) := by
    have : pressV s = (1, 0) := by unfold pressV; rw [if_pos hs]
    exact this
   unfold maxLen at _hsl
   go_enter Tryz.func25, Tryz.ntmps25
   go_wp2_with fail
   go_ret3
   exact ⟨.pointer none, by rw [HR.out]; rfl, Below.refl _ _, fun h => by rw [HR.out] at h; cases h⟩
 have hs' : ¬ (400 : Int) < (s.size : Int) := by omega
 have HP : Hid (pressV s = if (formV s).ok = false then (2, ((formV s).i : Int))
  else if (scanR (inR (formV s).rls) [] (formV s).rls).2 then (3, (scanR (inR (formV s).rls) [] (formV s).rls).1)
  else if (wrongD (s.size + 1) (formV s).rls (0, false)).2 then (4, (wrongD (s.size + 1) (formV s).rls (0, false)).1) else (0, 0)) := by
  show pressV s = _
  unfold pressV
  rw [if_neg hs]
 have HR0 : Hid (Rd (w.alloc (.cells #[.string s, .int .i64 0] 72)) w.heap.size s 0) := Blk.new _ _ _
 have HS0 : Hid (Shp (w.alloc (.cells #[.string s, .int .i64 0] 72))) := HS.out.fr (B := w.heap.size) (rb := w.heap.size) ((Fr.refl _ _ _).alloc (Nat.le_refl _) _) HS.out.2 HS.out.2
 have HB0 : Hid (Below w.heap.size w (w.alloc (.cells #[.string s, .int .i64 0] 72))) := (Below.refl _ _).alloc (Nat.le_refl _) _
 have hpos := HS.out.2
 have hsW : (w.alloc (.cells #[.string s, .int .i64 0] 72)).heap.size = w.heap.size + 1 := by simp
 go_enter Tryz.func25, Tryz.ntmps25
 go_wp2_with fail
 generalize w.alloc (.cells #[.string s, .int .i64 0] 72) = W0 at *
 generalize hrb : w.heap.size = rb at *
 have HRB := hide' hrb
 clear hrb
 refine (rules_calls s (by omega) W0 rb HR0.out HS0.out hpos).mono ?_
 rintro e w1 ⟨v, rfl, hfr, hno, hyes⟩
 have hs1 := hfr.size
 have HBW : Hid (Below rb w w1) := HB0.out.trans (Fr.lower2 hfr (by omega) (Nat.le_refl _))
 have HS1 : Hid (Shp w1) := HS0.out.fr (B := W0.heap.size) hfr hpos (by omega)
 cases hok : (formV s).ok
 · have h1 := hno hok
   have c1 : w1.cell? ⟨rb, 1, none⟩ = some (.int .i64 ((formV s).i : Int)) := h1.cell 1
   have HR : Hid (pressV s = (2, ((formV s).i : Int))) := by
    have : pressV s = (2, ((formV s).i : Int)) := by rw [HP.out, if_pos hok]
    exact this
   clear hno hyes hok h1 hfr
   simp only
   go_wp2_with fail
   go_quiet (fail)
   go_wp2_with fail
   go_ret3
   exact ⟨.pointer none, by rw [HR.out]; rfl, by rw [HRB.out]; exact ⟨HBW.out.os, HBW.out.tape, HBW.out.output, HBW.out.size, HBW.out.block⟩, fun h => by rw [HR.out] at h; cases h⟩
 · obtain ⟨l, hl, hmk⟩ := hyes hok
   have hF := HFm.out (Nat.le_of_not_lt hs) hok
   have HOK := hide' hok
   rw [← hl] at hF
   have hRA := RAt.of hmk (by omega) hF
   have HLets : Hid (∀ q, q ∈ l → ∀ x, x ∈ q.1.its → LetOk x) := fun q hq x hx => hF.lets q.1 (List.mem_map.2 ⟨q, hq, rfl⟩) x hx
   have HRA := hide' hRA
   have HL := hide' hl
   obtain ⟨gv, cv, hvv, _, _⟩ := hRA.shape
   subst hvv
   clear hno hyes hok hmk hF hRA hl hfr
   simp only
   go_wp2_with fail
   have HG2 := hide' (Blk.new w1 #[.slice (some ⟨gv, 0, none⟩) l.length cv] 77)
   have HB2 := hide' ((Below.refl w1.heap.size w1).alloc (Nat.le_refl _) (.cells #[.slice (some ⟨gv, 0, none⟩) l.length cv] 77))
   generalize w1.alloc (.cells #[.slice (some ⟨gv, 0, none⟩) l.length cv] 77) = w2 at *
   have hs2 := HB2.out.size
   refine (wrongRuleG_calls s w2 w1.heap.size _ l HG2.out (HRA.out.below HB2.out)).mono ?_
   rintro e w3 ⟨rfl, hb3⟩
   have HB3 := hide' hb3
   have hs3 := hb3.size
   have HG3 := hide' (HG2.out.below hb3 HG2.out.lt)
   have HRA3 := hide' ((HRA.out.below HB2.out).below hb3)
   have HS3 : Hid (Shp w3) := ⟨fun j u hu => by rw [hb3.cell (p := ⟨0, 0 + j, none⟩) (by simp; omega), HB2.out.cell (p := ⟨0, 0 + j, none⟩) (by simp; omega)]; exact HS1.out.1 j u hu, by omega⟩
   have HBW3 : Hid (Below rb w w3) := (HBW.out.trans (HB2.out.mono (by omega))).trans (hb3.mono (by omega))
   have HSc : Hid (scanR (inR (formV s).rls) [] (formV s).rls = scanR (inR (l.map Prod.fst)) [] (l.map Prod.fst)) := by
    have : scanR (inR (formV s).rls) [] (formV s).rls = scanR (inR (l.map Prod.fst)) [] (l.map Prod.fst) := by rw [← HL.out]
    exact this
   clear hb3
   generalize scanR (inR (l.map Prod.fst)) [] (l.map Prod.fst) = z at *
   obtain ⟨z1, z2⟩ := z
   cases z2
   rotate_left
   · have HR : Hid (pressV s = (3, z1)) := by
      have : pressV s = (3, z1) := by rw [HP.out, if_neg (by rw [HOK.out]; simp), HSc.out]; rfl
      exact this
     simp only
     go_wp2_with fail
     go_ret3
     exact ⟨.pointer none, by rw [HR.out]; rfl, by rw [HRB.out]; exact HBW3.out, fun h => by rw [HR.out] at h; cases h⟩
   · simp only
     go_wp2_with fail
     refine (wrongDep_calls s w3 w1.heap.size _ l HG3.out HRA3.out HS3.out HLets.out).mono ?_
     rintro e w4 ⟨rfl, hb4⟩
     have HBW4 : Hid (Below rb w w4) := HBW3.out.trans (hb4.mono (by omega))
     have HWd : Hid (wrongD (s.size + 1) (formV s).rls (0, false) = wrongD (s.size + 1) (l.map Prod.fst) (0, false)) := by
      have : wrongD (s.size + 1) (formV s).rls (0, false) = wrongD (s.size + 1) (l.map Prod.fst) (0, false) := by rw [← HL.out]
      exact this
     have HGR : Hid (GrAt s w4 w1.heap.size) := ⟨_, l, HG3.out.below hb4 (by have := HG3.out.lt; omega), HRA3.out.below hb4, HL.out⟩
     clear hb4
     generalize wrongD (s.size + 1) (l.map Prod.fst) (0, false) = y at *
     obtain ⟨y1, y2⟩ := y
     cases y2
     · have HR : Hid (pressV s = (0, 0)) := by
        have : pressV s = (0, 0) := by rw [HP.out, if_neg (by rw [HOK.out]; simp), HSc.out, HWd.out]; rfl
        exact this
       simp only
       go_wp2_with fail
       go_ret3
       exact ⟨_, by rw [HR.out]; rfl, by rw [HRB.out]; exact HBW4.out, fun _ => ⟨_, rfl, by rw [HRB.out]; omega, HGR.out⟩⟩
     · have HR : Hid (pressV s = (4, y1)) := by
        have : pressV s = (4, y1) := by rw [HP.out, if_neg (by rw [HOK.out]; simp), HSc.out, HWd.out]; rfl
        exact this
       simp only
       go_wp2_with fail
       go_ret3
       exact ⟨.pointer none, by rw [HR.out]; rfl, by rw [HRB.out]; exact HBW4.out, fun h => by rw [HR.out] at h; cases h⟩
theorem kAny_list (c : Int) (h : c = 82 ∨ c = 39 ∨ kAny c = true) : c = 82 ∨ c = 39 ∨ c = 110 ∨ c = 108 ∨ c = 40 ∨ c = 47 ∨ c = 42 ∨ c = 104 ∨ c = 107 ∨ c = 114 ∨ c = 116 ∨ c = 119 ∨ c = 64 ∨ c = 115 ∨ c = 46 := by
 rcases h with h | h | h
 · exact Or.inl h
 · exact Or.inr (Or.inl h)
 · simp only [kAny, inB, List.any_cons, List.any_nil, Bool.or_false, Bool.or_eq_true, beq_iff_eq] at h
   rcases h with h | h | h | h | h | h | h | h | h | h | h | h | h <;> simp at h <;> omega
theorem letOk_of (x : It) (h : ItemOk x) : LetOk x := by
 have hd := h.d
 have hc := kAny_list x.c h.c
 refine ⟨?_, ?_, ?_, ?_, ?_⟩
 · rcases hc with e | e | e | e | e | e | e | e | e | e | e | e | e | e | e <;> rw [e] <;> decide
 · rcases hc with e | e | e | e | e | e | e | e | e | e | e | e | e | e | e <;> rw [e] <;> decide
 · rcases hc with e | e | e | e | e | e | e | e | e | e | e | e | e | e | e <;> rw [e]
   · exact ⟨6, by decide, by decide, by decide⟩
   · exact ⟨2, by decide, by decide, by decide⟩
   · exact ⟨0, by decide, by decide, by decide⟩
   · exact ⟨1, by decide, by decide, by decide⟩
   · exact ⟨3, by decide, by decide, by decide⟩
   · exact ⟨4, by decide, by decide, by decide⟩
   · exact ⟨5, by decide, by decide, by decide⟩
   · exact ⟨7, by decide, by decide, by decide⟩
   · exact ⟨8, by decide, by decide, by decide⟩
   · exact ⟨9, by decide, by decide, by decide⟩
   · exact ⟨10, by decide, by decide, by decide⟩
   · exact ⟨11, by decide, by decide, by decide⟩
   · exact ⟨12, by decide, by decide, by decide⟩
   · exact ⟨13, by decide, by decide, by decide⟩
   · exact ⟨14, by decide, by decide, by decide⟩
 · rcases hc with e | e | e | e | e | e | e | e | e | e | e | e | e | e | e <;> rw [e] <;> decide
 · intro hu
   have hk : kD x.c = true := by
    rcases hc with e | e | e | e | e | e | e | e | e | e | e | e | e | e | e <;> rw [e] at hu ⊢ <;> revert hu <;> decide
   exact ⟨hk, hd hk⟩
theorem rulIn_of (l : List It) (h : ∀ x, x ∈ l → ItemOk x) : RulIn l := fun x hx => by
 refine ⟨(h x hx).r, ?_⟩
 rcases kAny_list x.c (h x hx).c with e | e | e | e | e | e | e | e | e | e | e | e | e | e | e
 · exact Or.inl e
 all_goals (right; rw [e]; decide)
theorem form_ok (s : ByteArray) (hs : s.size ≤ 400) (h : (formV s).ok = true) : FormOk (formV s).rls := by
 obtain ⟨_, h2, h3, h4⟩ := rules_ord s 8 65 0 (by omega) h
 exact ⟨fun r hr => (h2 r hr).num, fun r hr => ⟨rulIn_of _ (h2 r hr).items, by have := (h2 r hr).len; omega⟩, fun r hr x hx => letOk_of x ((h2 r hr).items x hx), h3, h4⟩
set_option maxHeartbeats 400000 in
theorem byteAt_calls (s : ByteArray) (i : Int) (w : World) (_hs : s.size ≤ maxLen) (h0 : 0 ≤ i) :
 Calls Tryz.prog 83 #[.string s, .int .i64 i] w fun e w' => e = .returned (.int .u8 (bt s i.toNat)) ∧ w' = w := by
 obtain ⟨n, rfl⟩ := Int.eq_ofNat_of_zero_le h0
 unfold maxLen at _hs
 by_cases h : n < s.size
 · go_enter Tryz.func83, Tryz.ntmps83
   go_wp2
   go_ret
   exact ⟨ret_int (by simp [bt_in _ _ h]), rfl⟩
 · go_enter Tryz.func83, Tryz.ntmps83
   go_wp2
   go_ret
   exact ⟨ret_int (by simp [bt_out _ _ h]), rfl⟩
set_option maxHeartbeats 400000 in
theorem letter_calls (c a b : Int) (w : World) (h0 : 0 ≤ c) (h1 : c ≤ 255) (h2 : 0 ≤ a) :
 Calls Tryz.prog 82 #[.int .u8 c, .int .u8 a, .int .u8 b] w fun e w' => e = .returned (.int .i64 (letterV c a b)) ∧ w' = w := by
 by_cases ha : c < a
 · go_enter Tryz.func82, Tryz.ntmps82
   go_wp2
   go_ret
   exact ⟨ret_int (by simp [letterV, ha]), rfl⟩
 · by_cases hb : b < c
   · go_enter Tryz.func82, Tryz.ntmps82
     go_wp2
     go_ret
     exact ⟨ret_int (by simp [letterV, hb]), rfl⟩
   · go_enter Tryz.func82, Tryz.ntmps82
     go_wp2
     go_ret
     exact ⟨ret_int (by rw [letterV, if_neg (by omega)]), rfl⟩
set_option maxHeartbeats 400000 in
theorem in_calls (s : ByteArray) (c : Int) (w : World) (hs : s.size ≤ maxLen) :
 Calls Tryz.prog 118 #[.string s, .int .u8 c] w fun e w' => e = .returned (.bool (inB s.data.toList c)) ∧ w' = w := by
 unfold maxLen at hs
 go_enter Tryz.func118, Tryz.ntmps118
 go_wp2
 go_loop [5] (fun i => ∃ k : Nat, k ≤ s.size ∧ i = .int .i64 k ∧ Hid (inB (s.data.toList.take k) c = false)) (fun i => s.size - (intOf i).toNat)
 case atStart => exact ⟨0, Nat.zero_le _, rfl, (show inB (s.data.toList.take 0) c = false by simp [inB])⟩
 case round =>
  obtain ⟨k, hk, rfl, hf⟩ := hrel
  by_cases hlt : k < s.size
  · have HS : Hid (inB (s.data.toList.take (k + 1)) c = (inB (s.data.toList.take k) c || ((s[k].toNat : Int) == c))) := inB_take_succ s c k hlt
    by_cases he : ((s[k].toNat : Int) == c) = true
    · have HI : Hid (inB s.data.toList c = true) := by
       have h1 : inB (s.data.toList.take (k + 1)) c = true := by rw [HS.out, he]; simp
       simp only [inB, List.any_eq_true] at h1
       obtain ⟨x, hx, hxe⟩ := h1
       have : inB s.data.toList c = true := by simp only [inB, List.any_eq_true]; exact ⟨x, List.mem_of_mem_take hx, hxe⟩
       exact this
      go_wp2
      go_ret
      exact ⟨ret_bool HI.out.symm, rfl⟩
    · have he' : ((s[k].toNat : Int) == c) = false := by simpa using he
      clear he
      have HN : Hid (inB (s.data.toList.take (k + 1)) c = false) := by
       have : inB (s.data.toList.take (k + 1)) c = false := by rw [HS.out, he', hf.out]; rfl
       exact this
      go_wp2
      go_round
      case rel => exact ⟨k + 1, by omega, by go_num, HN⟩
      case measure => simp [intOf]; omega
  · go_wp2
    go_ret
    exact ⟨ret_bool (by have := hf.out; rw [List.take_of_length_le (by simp; omega)] at this; rw [this]), rfl⟩
set_option maxHeartbeats 400000 in
theorem in2_calls (b : Bool) (w : World) :
 Calls Tryz.prog 68 #[.bool b] w fun e w' => e = .returned (.int .i64 (if b then 1 else 0)) ∧ w' = w := by
 cases b <;>
 · go_enter Tryz.func68, Tryz.ntmps68
   go_wp2
   go_ret
   exact ⟨rfl, rfl⟩
set_option maxHeartbeats 400000 in
theorem num_calls (n : Int) (w : World) :
 Calls Tryz.prog 23 #[.int .i64 n] w fun e w' => e = .returned (.int .i64 n) ∧ w' = w := by
 go_enter Tryz.func23, Tryz.ntmps23
 go_wp2
 go_ret
 exact ⟨rfl, rfl⟩
def hexC (k : Nat) : Int := [48, 49, 50, 51, 52, 53, 54, 55, 56, 57, 97, 98, 99, 100, 101, 102].getD k 0
theorem hexC_eq (k : Nat) (h : k < 16) : hexC k = if k < 10 then 48 + (k : Int) else 87 + (k : Int) := by
 have h16 : k = 0 ∨ k = 1 ∨ k = 2 ∨ k = 3 ∨ k = 4 ∨ k = 5 ∨ k = 6 ∨ k = 7 ∨ k = 8 ∨ k = 9 ∨ k = 10 ∨ k = 11 ∨ k = 12 ∨ k = 13 ∨ k = 14 ∨ k = 15 := by omega
 rcases h16 with rfl | rfl | rfl | rfl | rfl | rfl | rfl | rfl | rfl | rfl | rfl | rfl | rfl | rfl | rfl | rfl <;> rfl
theorem hexV_of (k : Nat) (c : Int) (h : k < 16) (e : (hexC k == c) = true) : hexV c = k := by
 rw [hexC_eq k h, beq_iff_eq] at e
 subst e
 unfold hexV
 split <;> split <;> (try split) <;> omega
theorem hexV_none (c : Int) (h : ∀ j, j < 16 → (hexC j == c) = false) : hexV c = -1 := by
 unfold hexV
 split
 · rename_i hc
   have := h (c - 48).toNat (by omega)
   rw [hexC_eq _ (by omega), if_pos (by omega), beq_eq_false_iff_ne] at this
   omega
 · split
   · rename_i hc
     have := h (c - 87).toNat (by omega)
     rw [hexC_eq _ (by omega), if_neg (by omega), beq_eq_false_iff_ne] at this
     omega
   · rfl
theorem hexC_at (k : Nat) (h : k < 16) : hexC k = (((⟨#[48, 49, 50, 51, 52, 53, 54, 55, 56, 57, 97, 98, 99, 100, 101, 102]⟩ : ByteArray)[k]'h).toNat : Int) := by
 have h16 : k = 0 ∨ k = 1 ∨ k = 2 ∨ k = 3 ∨ k = 4 ∨ k = 5 ∨ k = 6 ∨ k = 7 ∨ k = 8 ∨ k = 9 ∨ k = 10 ∨ k = 11 ∨ k = 12 ∨ k = 13 ∨ k = 14 ∨ k = 15 := by omega
 rcases h16 with rfl | rfl | rfl | rfl | rfl | rfl | rfl | rfl | rfl | rfl | rfl | rfl | rfl | rfl | rfl | rfl <;> rfl
theorem snocAll {p : Nat → Bool} {k : Nat} (h : ∀ j, j < k → p j = false) (e : p k = false) : ∀ j, j < k + 1 → p j = false := by
 intro j hj
 by_cases hjk : j = k
 · rw [hjk]; exact e
 · exact h j (by omega)
set_option maxHeartbeats 1000000 in
theorem hex_calls (c : Int) (w : World) :
 Calls Tryz.prog 110 #[.int .u8 c] w fun e w' => e = .returned (.int .i64 (hexV c)) ∧ w' = w := by
 go_enter Tryz.func110, Tryz.ntmps110
 go_wp2
 go_loop [4] (fun i => ∃ k : Nat, k ≤ 16 ∧ i = .int .i64 k ∧ Hid (∀ j, j < k → (hexC j == c) = false)) (fun i => 16 - (intOf i).toNat)
 case atStart => exact ⟨0, Nat.zero_le _, rfl, fun j hj => by omega⟩
 case round =>
  obtain ⟨k, hk, rfl, hf⟩ := hrel
  by_cases hlt : k < 16
  · have e0 := hexC_at k hlt
    cases he0 : (hexC k == c)
    · have HN : Hid (∀ j, j < k + 1 → (hexC j == c) = false) := snocAll hf.out he0
      rw [e0] at he0
      clear hf e0
      go_wp2
      exact ⟨⟨k + 1, by omega, by go_num, HN⟩, by simp [intOf]; omega⟩
    · have HN : Hid (hexV c = k) := hexV_of k c hlt he0
      rw [e0] at he0
      clear hf e0
      go_wp2
      go_ret
      exact ⟨ret_int HN.out.symm, rfl⟩
  · go_wp2
    go_ret
    exact ⟨ret_int (by rw [hexV_none c (by have := hf.out; rwa [show k = 16 by omega] at this)]), rfl⟩
set_option maxHeartbeats 400000 in
theorem hides_calls (c : Int) (w : World) :
 Calls Tryz.prog 85 #[.int .u8 c] w fun e w' => e = .returned (.bool (c == 104 || c == 107)) ∧ w' = w := by
 go_enter Tryz.func85, Tryz.ntmps85
 go_wp2
 all_goals
  go_ret
  refine ⟨ret_bool ?_, rfl⟩
  simp [*]
set_option maxHeartbeats 400000 in
theorem uses_calls (c : Int) (w : World) :
 Calls Tryz.prog 86 #[.int .u8 c] w fun e w' => e = .returned (.bool (inB [114, 116, 119, 64, 115] c)) ∧ w' = w := by
 go_enter Tryz.func86, Tryz.ntmps86
 go_wp2_with (go_at_call 118; refine (in_calls _ _ _ (by simp [maxLen, ByteArray.size])).mono ?_; rintro e w' ⟨rfl, rfl⟩)
 go_ret
 exact ⟨rfl, rfl⟩
def HeadPost (h : Hd) (w : World) (e : Ending) (w' : World) : Prop :=
 ∃ it : It, (h.ok = true → it = h.it) ∧ e = .returned (.tuple #[.agg it.cells, .int .i64 h.i, .int .i64 h.inn, .bool h.ok]) ∧ Below w.heap.size w w'
theorem tn1 (n : Nat) : ((n : Int) + 1).toNat = n + 1 := by omega
theorem tn2 (n : Nat) : ((n : Int) + 2).toNat = n + 2 := by omega
theorem tn11 (n : Nat) : ((n : Int) + 1 + 1).toNat = n + 2 := by omega
theorem headPost_mk {h : Hd} {w w' : World} {e : Ending} (it : It) (i : Int) (hi : i = h.i) (hit : h.ok = true → it = h.it) (he : e = .returned (.tuple #[.agg it.cells, .int .i64 i, .int .i64 h.inn, .bool h.ok])) (hb : Below w.heap.size w w') : HeadPost h w e w' := by
 subst hi; exact ⟨it, hit, he, hb⟩
theorem it_eq {c w b r d pl nx rl w' d' pl' : Int} (hw : w = w') (hd : d = d') (hp : pl = pl') : It.mk c w b r d pl nx rl = It.mk c w' b r d' pl' nx rl := by subst hw hd hp; rfl
theorem below2 (w : World) (a b : Obj) : Below w.heap.size w ((w.alloc a).alloc b) := ((Below.refl _ _).alloc (Nat.le_refl _) _).alloc (by simp) _
set_option maxHeartbeats 1000000 in
theorem head_rule (s : ByteArray) (n : Nat) (w : World) (hs : s.size ≤ maxLen) (hn : n ≤ 1000) (h1 : 65 ≤ bt s n) (h2 : bt s n ≤ 72) :
 Calls Tryz.prog 162 #[.string s, .int .i64 n] w fun e w' => HeadPost (headV s n) w e w' := by
 have H : Hid (headV s n = { ok := true, i := n + 1, it := { c := 82, r := bt s n - 65, pl := n } }) := by
  have : headV s n = { ok := true, i := n + 1, it := { c := 82, r := bt s n - 65, pl := n } } := by unfold headV; rw [if_pos ⟨h1, h2⟩]
  exact this
 have hl := letterV_yes (bt s n) 65 72 ⟨h1, h2⟩
 go_enter Tryz.func162, Tryz.ntmps162
 go_wp2_with (first
  | (go_at_call 83; refine (byteAt_calls _ _ _ hs (by omega)).mono ?_; rintro e w' ⟨rfl, rfl⟩; simp only [Int.toNat_natCast])
  | (go_at_call 82; refine (letter_calls _ _ _ _ (by omega) (by omega) (by omega)).mono ?_; rintro e w' ⟨rfl, rfl⟩)
  | (go_at_call 110; refine (hex_calls _ _).mono ?_; rintro e w' ⟨rfl, rfl⟩)
  | (go_at_call 118; refine (in_calls _ _ _ (by simp [maxLen, ByteArray.size])).mono ?_; rintro e w' ⟨rfl, rfl⟩))
 refine bodyPost_ret (v := .tuple #[.agg (It.cells { c := 82, r := bt s n - 65, pl := n }), .int .i64 ((n : Int) + 1), .int .i64 0, .bool true]) (by simp [results, Tryz.results162, go_sem, It.cells]) rfl ?_
 rw [H.out]
 exact headPost_mk { c := 82, r := bt s n - 65, pl := n } ((n : Int) + 1) (by simp) (fun _ => rfl) rfl (below2 _ _ _)
set_option maxHeartbeats 1000000 in
theorem head_none (s : ByteArray) (n : Nat) (w : World) (hs : s.size ≤ maxLen) (hn : n ≤ 1000) (h1 : kAny (bt s n) = false) (h2 : ¬ (65 ≤ bt s n ∧ bt s n ≤ 72)) (h3 : bt s n ≠ 39) :
 Calls Tryz.prog 162 #[.string s, .int .i64 n] w fun e w' => HeadPost (headV s n) w e w' := by
 have H : Hid (headV s n = { ok := false, i := n }) := by
  have : headV s n = { ok := false, i := n } := by unfold headV; rw [if_neg h2, if_neg h3, if_neg (by simp [h1])]
  exact this
 have hl := letterV_no (bt s n) 65 72 h2
 have hlo := bt_lo s n
 have hhi := bt_hi s n
 have h1' : inB [110, 108, 40, 47, 42, 104, 107, 114, 116, 119, 64, 115, 46] (bt s n) = false := h1
 have h3' : (bt s n == 39) = false := by simpa using h3
 clear h1 h2 h3
 by_cases hz : (bt s n == 0) = true
 rotate_left
 simp only [Bool.not_eq_true] at hz
 all_goals
 go_enter Tryz.func162, Tryz.ntmps162
 go_wp2_with (first
  | (go_at_call 83; refine (byteAt_calls _ _ _ hs (by omega)).mono ?_; rintro e w' ⟨rfl, rfl⟩; simp only [Int.toNat_natCast])
  | (go_at_call 82; refine (letter_calls _ _ _ _ (by omega) (by omega) (by omega)).mono ?_; rintro e w' ⟨rfl, rfl⟩)
  | (go_at_call 110; refine (hex_calls _ _).mono ?_; rintro e w' ⟨rfl, rfl⟩)
  | (go_at_call 118; refine (in_calls _ _ _ (by simp [maxLen, ByteArray.size])).mono ?_; rintro e w' ⟨rfl, rfl⟩))
 refine bodyPost_ret (v := .tuple #[.agg (It.cells { c := bt s n, pl := n }), .int .i64 n, .int .i64 0, .bool false]) (by simp [results, Tryz.results162, go_sem, It.cells]) rfl ?_
 rw [H.out]
 exact headPost_mk { c := bt s n, pl := n } (n : Int) (by simp) (fun _ => by contradiction) rfl (below2 _ _ _)
end Go.Proofs.YtmlkhhhjdpbhfaaGreatDoor
