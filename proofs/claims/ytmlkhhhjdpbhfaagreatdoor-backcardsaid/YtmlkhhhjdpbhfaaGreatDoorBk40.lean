import Derived.Test.YtmlkhhhjdpbhfaaGreatDoorBk39
import Derived.Test.YtmlkhhhjdpbhfaaGreatDoorBk38
namespace Go.Proofs.YtmlkhhhjdpbhfaaGreatDoor
open Go.RowKit
theorem WrM.newHol {c : Cx} {B : Nat} {w : World} {wb : Nat} {bv tv sv : Value} {svs : List Value} {hbs : List Nat} {st : Wr} (h : WrM c B w wb bv tv sv svs hbs st) :
 WrM c B (w.alloc (.cells (holC fun _ => none) 270)) wb bv tv sv svs (hbs ++ [w.heap.size]) { st with hol := st.hol ++ [fun _ => none] } := by
 have hwb := h.ge wb List.mem_cons_self
 have hbel : Below B w (w.alloc (.cells (holC fun _ => none) 270)) := (Below.refl B w).alloc (by omega) _
 have hk := h.keep hbel (fun k _ h2 => Below.heap_alloc _ _ _ h2)
 have hr : rst tv sv svs (hbs ++ [w.heap.size]) = rst tv sv svs hbs ++ [w.heap.size] := by unfold rst; simp [List.append_assoc]
 have hlt : ∀ b, b ∈ wb :: rst tv sv svs hbs → b < w.heap.size := fun b hb => (h.ge b hb).2
 have hsz : (w.alloc (.cells (holC fun _ => none) 270)).heap.size = w.heap.size + 1 := by simp
 refine ⟨hk.blk, hk.out, ?_, hk.sums, hk.sumsL, hk.sum, fun i b f h1 h2 => ?_, by simp [h.holL], ?_, fun g e => ?_, fun b hb => ?_, hk.bel, hk.leB⟩
 · obtain ⟨xs, a1, a7⟩ := hk.wait
   · refine ⟨xs, a1, fun j hj => ?_⟩
     obtain ⟨pb, vb, hb, sl, own, ctx, f, lo, hi, lo2, hi2, b1, b2, b3⟩ := a7 j hj
     exact ⟨pb, vb, hb, sl, own, ctx, f, lo, hi, lo2, hi2, b1, app_at b2, b3⟩
 · by_cases hi : i < hbs.length
   · rw [List.getElem?_append_left hi] at h1
     simp only at h2
     rw [List.getElem?_append_left (by rw [← h.holL]; exact hi)] at h2
     exact hk.hol i b f h1 h2
   · rw [List.getElem?_append_right (by omega)] at h1
     simp only at h2
     rw [List.getElem?_append_right (by rw [← h.holL]; omega)] at h2
     have hi0 : i - hbs.length = 0 := by
      have := (List.getElem?_eq_some_iff.1 h1).1
      simp at this; omega
     rw [hi0] at h1
     rw [← h.holL, hi0] at h2
     cases h1
     cases h2
     exact Blk.new _ _ _
 · rw [hr, ← List.cons_append, List.nodup_append]
   refine ⟨h.nd, by simp, fun a ha b hb => ?_⟩
   simp at hb
   have := hlt a ha
   omega
 · rw [hr, ← List.cons_append, List.mem_append]
   intro hm
   rcases hm with hm | hm
   · exact h.nb g e hm
   · simp at hm
     have := (h.out.lt g e).2
     omega
 · rw [hr, ← List.cons_append, List.mem_append] at hb
   rw [hsz]
   rcases hb with hb | hb
   · have := h.ge b hb; omega
   · simp at hb; omega
set_option maxRecDepth 100000 in
set_option maxHeartbeats 4000000 in
theorem writeStruct_calls {T : Type} (c : Cx) (B : Nat) (w : World) (wb : Nat) (bv tv sv : Value) (svs : List Value) (hbs : List Nat) (st : Wr) (h : WrM c B w wb bv tv sv svs hbs st) (pb vb k n lo hi lo2 hi2 : Nat) (run : ByteArray) (v hv : Value) (p : Pt) (kids : List (Nat × T)) (ps : List (Nat × List It)) (S : Nat → Wr) (jo : Nat → Nat)
 (hpt : PtBlk w pb p) (hpb : pb < B) (hnd : NdB w vb k n run v) (hvb : vb < B) (hhi : hi ≤ B) (hhi2 : hi2 ≤ B) (hps : PtrsAt w lo2 hi2 p.v (ps.map Prod.fst)) (hks : PtrsAt w lo hi v (kids.map Prod.fst)) (hlen : kids.length ≤ 8000) (hpl : ps.length ≤ 1000)
 (hsil : ∀ q, q ∈ ps → q.1 < B ∧ w.cell? ⟨q.1, 7, none⟩ = some (.bool (silV q.2)))
 (hS0 : S 0 = { st with hol := st.hol ++ [fun _ => none] }) (hj0 : jo 0 = 0) (hjs : ∀ i (hi : i < ps.length), jo (i + 1) = jo i + (if silV ps[i].2 = true then 0 else 1)) (hjl : ∀ i (hi : i < ps.length), silV ps[i].2 = false → jo i < kids.length)
 (hk1 : ∀ i (hi : i < ps.length), silV ps[i].2 = true → KidW c B wb w ps[i].1 (.pointer none) (.pointer (some ⟨w.heap.size, 0, none⟩)) (some st.hol.length) (S i) (S (i + 1)))
 (hk2 : ∀ i (hi : i < ps.length) (hn : silV ps[i].2 = false), KidW c B wb w ps[i].1 (.pointer (some ⟨(kids[jo i]'(hjl i hi hn)).1, 0, none⟩)) (.pointer (some ⟨w.heap.size, 0, none⟩)) (some st.hol.length) (S i) (S (i + 1))) :
 Calls Tryz.prog 130 #[.pointer (some ⟨wb, 0, none⟩), .pointer (some ⟨pb, 0, none⟩), .pointer (some ⟨vb, 0, none⟩), hv] w fun e w' => WrPost c B w wb hbs (S ps.length) e w' := by
 have hwb := h.ge wb List.mem_cons_self
 obtain ⟨q, cp, rfl⟩ := hks.form
 obtain ⟨q2, cp2, hpv⟩ := hps.form
 have hbel : Below B w (w.alloc (.cells (holC fun _ => none) 270)) := (Below.refl B w).alloc (by omega) _
 have hM0 := h.newHol
 rw [← hS0] at hM0
 have c3 : ∀ o, (w.alloc o).cell? ⟨vb, 3, none⟩ = some (.slice q kids.length cp) := fun o => by
  rw [World.cell?_of_block (w := w) (Below.heap_alloc _ _ _ (by simp only; omega))]
  have := hnd.blk.cell 3; rw [List.length_map] at this; exact this
 have c8 : ∀ o, (w.alloc o).cell? ⟨pb, 8, none⟩ = some (.slice q2 ps.length cp2) := fun o => by
  rw [World.cell?_of_block (w := w) (Below.heap_alloc _ _ _ (by simp only; omega))]
  have h8 : w.cell? ⟨pb, 8, none⟩ = some p.v := hpt.cell 8
  rw [hpv, List.length_map] at h8; exact h8
 have HM0 : Hid (WrM c B (w.alloc (.cells #[.int .i64 0, .int .i64 0, .nilFunc, .int .i64 0, .int .i64 0, .nilFunc, .int .i64 0, .int .i64 0, .nilFunc, .int .i64 0, .int .i64 0, .nilFunc, .int .i64 0, .int .i64 0, .nilFunc, .int .i64 0, .int .i64 0, .nilFunc, .int .i64 0, .int .i64 0, .nilFunc, .int .i64 0, .int .i64 0, .nilFunc] 270)) wb bv tv sv svs (hbs ++ [w.heap.size]) (S 0)) := hM0
 have HBel : Hid (Below B w (w.alloc (.cells #[.int .i64 0, .int .i64 0, .nilFunc, .int .i64 0, .int .i64 0, .nilFunc, .int .i64 0, .int .i64 0, .nilFunc, .int .i64 0, .int .i64 0, .nilFunc, .int .i64 0, .int .i64 0, .nilFunc, .int .i64 0, .int .i64 0, .nilFunc, .int .i64 0, .int .i64 0, .nilFunc, .int .i64 0, .int .i64 0, .nilFunc] 270))) := hbel
 have HL0 : Hid ((hbs ++ [w.heap.size])[st.hol.length]? = some w.heap.size) := by
  have : (hbs ++ [w.heap.size])[st.hol.length]? = some w.heap.size := by rw [← h.holL]; simp
  exact this
 have HKs := hide' hks
 have HPs := hide' hps
 have HSil := hide' hsil
 have HK1 := hide' hk1
 have HK2 := hide' hk2
 have HJs := hide' hjs
 have HJl := hide' hjl
 have HJ0 := hide' hj0
 clear h hM0 hbel hks hps hsil hk1 hk2 hjs hnd hpt hS0 hj0
 go_enter Tryz.func130, Tryz.ntmps130
 go_wp2_with fail
 generalize w.alloc (.cells #[.int .i64 0, .int .i64 0, .nilFunc, .int .i64 0, .int .i64 0, .nilFunc, .int .i64 0, .int .i64 0, .nilFunc, .int .i64 0, .int .i64 0, .nilFunc, .int .i64 0, .int .i64 0, .nilFunc, .int .i64 0, .int .i64 0, .nilFunc, .int .i64 0, .int .i64 0, .nilFunc, .int .i64 0, .int .i64 0, .nilFunc] 270) = w0 at *
 go_loopw [23, 9] (fun v23 v9 wr => ∃ (i : Nat) (vv : Value), v23 = .int .i64 (i : Nat) ∧ vv = v9 ∧ i ≤ ps.length ∧ Hid (jo i ≤ kids.length) ∧ Hid (Below B w wr) ∧ Hid (∃ bv tv sv svs more, WrM c B wr wb bv tv sv svs (hbs ++ more) (S i) ∧ (hbs ++ more)[st.hol.length]? = some w.heap.size) ∧
  ((jo i = kids.length ∧ ∃ a c, vv = .slice a 0 c) ∨ (jo i < kids.length ∧ ∃ g c, vv = .slice (some ⟨g, jo i, none⟩) (kids.length - jo i) c ∧ kids.length - jo i ≤ c ∧ g < B ∧ Hid (∀ m, m < kids.length → w.cell? ⟨g, m, none⟩ = some (.pointer (some ⟨(kids.map Prod.fst).getD m 0, 0, none⟩)))))) (fun v23 _ _ => ps.length - (intOf v23).toNat)
 case atStart =>
  refine ⟨0, _, rfl, rfl, by omega, (by rw [HJ0.out]; omega : jo 0 ≤ kids.length), HBel, (⟨bv, tv, sv, svs, [w.heap.size], HM0.out, HL0.out⟩ : ∃ bv tv sv svs more, WrM c B w0 wb bv tv sv svs (hbs ++ more) (S 0) ∧ (hbs ++ more)[st.hol.length]? = some w.heap.size), ?_⟩
  rw [HJ0.out]
  rcases HKs.out with ⟨e1, e2⟩ | ⟨g, c, e1, e2, e3, e4, e5⟩
  · left
    have : kids.length = 0 := by have := congrArg List.length e2; simpa using this
    rw [this]
    exact ⟨rfl, _, _, rfl⟩
  · by_cases h0 : kids.length = 0
    · left; rw [h0]; exact ⟨rfl, _, _, rfl⟩
    · right
      refine ⟨by omega, g, c, ?_, ?_, by omega, ?_⟩
      · simpa using e1
      · simp at e4; omega
      · exact (fun m hm => e5 m (by simpa using hm) : ∀ m, m < kids.length → w.cell? ⟨g, m, none⟩ = some (.pointer (some ⟨(kids.map Prod.fst).getD m 0, 0, none⟩)))
 case round =>
  clear HM0 HBel
  obtain ⟨i, vv, rfl, rfl, hi, hjk, hbel, hex, hvv⟩ := hrel
  by_cases hil : i < ps.length
  · have hil' : (i : Int) < (ps.length : Int) := by omega
    obtain ⟨g2, cap2, e2, h3, h4, _, h5⟩ := HPs.out.at (by simp; omega)
    rw [hpv] at e2
    injection e2 with e2 e3 e4
    subst e2
    obtain ⟨hs1, hs2⟩ := HSil.out ps[i] (List.getElem_mem hil)
    have hc2 : wr.cell? ⟨g2, i, none⟩ = some (.pointer (some ⟨ps[i].1, 0, none⟩)) := by
     rw [World.cell?_of_block (w := w) (hbel.out.block g2 (by omega)), h5 i (by simp; omega)]
     simp [hil]
    have hc7 : wr.cell? ⟨ps[i].1, 7, none⟩ = some (.bool (silV ps[i].2)) := by
     rw [World.cell?_of_block (w := w) (hbel.out.block ps[i].1 hs1)]; exact hs2
    have HJi := hide' (HJs.out i hil)
    obtain ⟨bv1, tv1, sv1, svs1, more, hm1, hm1h⟩ := hex.out
    have HM1 := hide' hm1
    have HH1 := hide' hm1h
    clear h5 hs2 e4 hm1 hex hm1h
    cases hsl : silV ps[i].2
    · rw [hsl] at hc7
      have HKi := hide' (HK2.out i hil hsl)
      have hjlt := HJl.out i hil hsl
      have HJn : Hid (jo (i + 1) = jo i + 1) := by
       have : jo (i + 1) = jo i + 1 := by rw [HJi.out, hsl]; simp
       exact this
      have HSl := hide' hsl
      rcases hvv with ⟨hj2, _⟩ | ⟨hj2, g, c', rfl, hcl, hgl, hcells⟩
      · omega
      have hcj : wr.cell? ⟨g, jo i, none⟩ = some (.pointer (some ⟨kids[jo i].1, 0, none⟩)) := by
       rw [World.cell?_of_block (w := w) (hbel.out.block g hgl), hcells.out (jo i) hj2]
       simp [hj2]
      obtain ⟨m, hm⟩ : ∃ m, kids.length - jo i = m + 1 := ⟨kids.length - jo i - 1, by omega⟩
      have HMm : Hid (kids.length - (jo i + 1) = m) := by
       have : kids.length - (jo i + 1) = m := by omega
       exact this
      rw [hm] at hcl ⊢
      have hpos : (0 : Int) < (m : Int) + 1 := by omega
      have HJlt := hide' hj2
      generalize kids[jo i] = kj at *
      clear hm HJi hsl
      generalize ps[i] = pi at *
      go_wp2_with fail
      refine (HKi.out wr bv1 tv1 sv1 svs1 (hbs ++ more) hbel.out HM1.out ⟨_, rfl, HH1.out⟩).mono ?_
      rintro e w2 ⟨rfl, hb2, bv2, tv2, sv2, svs2, more2, hm2⟩
      have HB2 := hide' (hbel.out.trans hb2)
      have HE : Hid (∃ bv tv sv svs more, WrM c B w2 wb bv tv sv svs (hbs ++ more) (S (i + 1)) ∧ (hbs ++ more)[st.hol.length]? = some w.heap.size) := by
       have : ∃ bv tv sv svs more, WrM c B w2 wb bv tv sv svs (hbs ++ more) (S (i + 1)) ∧ (hbs ++ more)[st.hol.length]? = some w.heap.size := ⟨bv2, tv2, sv2, svs2, more ++ more2, by rw [← List.append_assoc]; exact hm2, by rw [← List.append_assoc]; exact app_at HH1.out⟩
       exact this
      clear hm2 hb2
      go_wp2_with fail
      refine ⟨⟨i + 1, _, by go_num, rfl, by omega, (by rw [HJn.out]; have := HJlt.out; omega : jo (i + 1) ≤ kids.length), HB2, HE, ?_⟩, by simp [intOf]; omega⟩
      have hmm := HMm.out
      have hjlt2 := HJlt.out
      rw [HJn.out]
      by_cases hm0 : m = 0
      · left
        exact ⟨by omega, _, _, by rw [hm0]⟩
      · right
        refine ⟨by omega, g, c' - 1, ?_, by omega, hgl, hcells⟩
        rw [if_neg (by omega), hmm]
    · rw [hsl] at hc7
      have HKi := hide' (HK1.out i hil hsl)
      have HJn : Hid (jo (i + 1) = jo i) := by
       have : jo (i + 1) = jo i := by rw [HJi.out, hsl]; simp
       exact this
      have HVV := hide' hvv
      clear hsl HJi hvv
      generalize ps[i] = pi at *
      go_wp2_with fail
      refine (HKi.out wr bv1 tv1 sv1 svs1 (hbs ++ more) hbel.out HM1.out ⟨_, rfl, HH1.out⟩).mono ?_
      rintro e w2 ⟨rfl, hb2, bv2, tv2, sv2, svs2, more2, hm2⟩
      have HB2 := hide' (hbel.out.trans hb2)
      have HE : Hid (∃ bv tv sv svs more, WrM c B w2 wb bv tv sv svs (hbs ++ more) (S (i + 1)) ∧ (hbs ++ more)[st.hol.length]? = some w.heap.size) := by
       have : ∃ bv tv sv svs more, WrM c B w2 wb bv tv sv svs (hbs ++ more) (S (i + 1)) ∧ (hbs ++ more)[st.hol.length]? = some w.heap.size := ⟨bv2, tv2, sv2, svs2, more ++ more2, by rw [← List.append_assoc]; exact hm2, by rw [← List.append_assoc]; exact app_at HH1.out⟩
       exact this
      clear hm2 hb2
      go_wp2_with fail
      go_roundw
      case rel => exact ⟨i + 1, _, by go_num, rfl, by omega, (by rw [HJn.out]; exact hjk.out : jo (i + 1) ≤ kids.length), HB2, HE, by rw [HJn.out]; exact HVV.out⟩
      case measure => simp [intOf]; omega
  · have hil' : ¬ (i : Int) < (ps.length : Int) := by omega
    obtain rfl : i = ps.length := by omega
    obtain ⟨bv1, tv1, sv1, svs1, more, hm1, _⟩ := hex.out
    have HM1 := hide' hm1
    clear hm1 hex hvv
    go_wp2_with fail
    go_end0
    exact ⟨rfl, hbel.out, _, _, _, _, _, HM1.out⟩
theorem run_writeNumber : ∀ args W, Sem.run Tryz.prog (callFunc 122 args) W = .ok (.enter 122 args) W := fun args W => by
 unfold callFunc
 go_simp
 simp [Tryz.f122]
theorem run_writeLowNumber : ∀ args W, Sem.run Tryz.prog (callFunc 124 args) W = .ok (.enter 124 args) W := fun args W => by
 unfold callFunc
 go_simp
 simp [Tryz.f124]
theorem run_writeFixed : ∀ args W, Sem.run Tryz.prog (callFunc 127 args) W = .ok (.enter 127 args) W := fun args W => by
 unfold callFunc
 go_simp
 simp [Tryz.f127]
theorem run_writeRest : ∀ args W, Sem.run Tryz.prog (callFunc 158 args) W = .ok (.enter 158 args) W := fun args W => by
 unfold callFunc
 go_simp
 simp [Tryz.f158]
theorem run_writeRun : ∀ args W, Sem.run Tryz.prog (callFunc 147 args) W = .ok (.enter 147 args) W := fun args W => by
 unfold callFunc
 go_simp
 simp [Tryz.f147]
theorem run_writeHidden : ∀ args W, Sem.run Tryz.prog (callFunc 142 args) W = .ok (.enter 142 args) W := fun args W => by
 unfold callFunc
 go_simp
 simp [Tryz.f142]
theorem run_writeLowHidden : ∀ args W, Sem.run Tryz.prog (callFunc 144 args) W = .ok (.enter 144 args) W := fun args W => by
 unfold callFunc
 go_simp
 simp [Tryz.f144]
theorem run_writeWindow : ∀ args W, Sem.run Tryz.prog (callFunc 152 args) W = .ok (.enter 152 args) W := fun args W => by
 unfold callFunc
 go_simp
 simp [Tryz.f152]
theorem run_writeMany : ∀ args W, Sem.run Tryz.prog (callFunc 136 args) W = .ok (.enter 136 args) W := fun args W => by
 unfold callFunc
 go_simp
 simp [Tryz.f136]
theorem run_writeChoice : ∀ args W, Sem.run Tryz.prog (callFunc 133 args) W = .ok (.enter 133 args) W := fun args W => by
 unfold callFunc
 go_simp
 simp [Tryz.f133]
theorem run_writeTimes : ∀ args W, Sem.run Tryz.prog (callFunc 149 args) W = .ok (.enter 149 args) W := fun args W => by
 unfold callFunc
 go_simp
 simp [Tryz.f149]
theorem run_writeRule : ∀ args W, Sem.run Tryz.prog (callFunc 139 args) W = .ok (.enter 139 args) W := fun args W => by
 unfold callFunc
 go_simp
 simp [Tryz.f139]
theorem run_writeStruct : ∀ args W, Sem.run Tryz.prog (callFunc 130 args) W = .ok (.enter 130 args) W := fun args W => by
 unfold callFunc
 go_simp
 simp [Tryz.f130]
theorem run_writeSummed : ∀ args W, Sem.run Tryz.prog (callFunc 156 args) W = .ok (.enter 156 args) W := fun args W => by
 unfold callFunc
 go_simp
 simp [Tryz.f156]
theorem run_writeAt : ∀ args W, Sem.run Tryz.prog (callFunc 154 args) W = .ok (.enter 154 args) W := fun args W => by
 unfold callFunc
 go_simp
 simp [Tryz.f154]
end Go.Proofs.YtmlkhhhjdpbhfaaGreatDoor
