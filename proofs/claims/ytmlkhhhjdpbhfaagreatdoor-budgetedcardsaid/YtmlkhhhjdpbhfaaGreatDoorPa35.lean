import Derived.Test.YtmlkhhhjdpbhfaaGreatDoorPa33
import Derived.Test.YtmlkhhhjdpbhfaaGreatDoorPa34
import Derived.Test.YtmlkhhhjdpbhfaaGreatDoorPa11
namespace Go.Proofs.YtmlkhhhjdpbhfaaGreatDoor
open Go.RowKit
def noRule (rls : List Rl) (its : List It) (i : Nat) : Bool := (itd its i).c == 82 && !(hasR rls (itd its i).r)
def badR (s : ByteArray) : Int := worst (allIts (formV s).rls) (noRule (formV s).rls (allIts (formV s).rls)) (allIts (formV s).rls).length (twiceV [] (formV s).rls)
def badB (s : ByteArray) : Int := worst (allIts (formV s).rls) (fun i => !(boundV (allIts (formV s).rls) i)) (allIts (formV s).rls).length (-1)
def readV (s : ByteArray) : Int × Int :=
 if 400 < s.size then (1, 0) else if (formV s).ok = false then (2, ((formV s).i : Int)) else if 0 ≤ badR s then (3, badR s) else if 0 ≤ badB s then (4, badB s) else (0, 0)
def ReadPost (s : ByteArray) (w : World) (e : Ending) (w' : World) : Prop :=
 ∃ p, e = .returned (.tuple #[p, .int .i64 (readV s).1, .int .i64 (readV s).2]) ∧ Below w.heap.size w w' ∧
  (readV s = (0, 0) → ∃ gb g c fb fl, p = .pointer (some ⟨gb, 0, none⟩) ∧ Grm w' gb g c (.slice (some ⟨fb, 0, none⟩) 8 8) (.int .i64 (twiceV [] (formV s).rls)) (allIts (formV s).rls) ∧ Blk w' fb (intsI fl) 3 ∧ Firsts fl (formV s).rls)
theorem form_len (s : ByteArray) (h : (formV s).ok = true) : (allIts (formV s).rls).length ≤ s.size := by
 have := (rules_wf s 8 65 0 h).2.2; unfold formV; omega
theorem worst_lo (its : List It) (fall : Nat → Bool) (n : Nat) (bad : Int) (h : -1 ≤ bad) (hp : ∀ k, k < its.length → 0 ≤ (itd its k).pl) (hn : n ≤ its.length) : -1 ≤ worst its fall n bad := by
 induction n with
 | zero => exact h
 | succ n ih =>
  have := ih (by omega)
  have := hp n (by omega)
  rw [worst]; split <;> omega
theorem below_drewN {B : Nat} {a w : World} (h : Below B a w) (n : Nat) : Below B a (w.drewN n) := ⟨h.os, h.tape, h.output, h.size, h.block⟩
theorem not_decide_lt_eq (x : Int) : (!decide (x < 0)) = decide (0 ≤ x) := by by_cases h : x < 0 <;> simp [h] <;> omega
set_option maxRecDepth 100000 in
set_option maxHeartbeats 4000000 in
theorem read_calls (s : ByteArray) (_hsl : s.size ≤ maxLen) (w : World) :
 Calls Tryz.prog 31 #[.string s] w fun e w' => ReadPost s w e w' := by
 by_cases hs : 400 < s.size
 · have hs' : (400 : Int) < (s.size : Int) := by omega
   have HR : Hid (readV s = (1, 0)) := by
    have : readV s = (1, 0) := by unfold readV; rw [if_pos hs]
    exact this
   unfold maxLen at _hsl
   go_enter Tryz.func31, Tryz.ntmps31
   go_wp2_with fail
   go_ret3
   exact ⟨.pointer none, by rw [HR.out]; rfl, Below.refl _ _, fun h => by rw [HR.out] at h; exact absurd (congrArg Prod.fst h) (by simp)⟩
 have hs' : ¬ (400 : Int) < (s.size : Int) := by omega
 cases hok : (formV s).ok
 · have HR : Hid (readV s = (2, ((formV s).i : Int))) := by
    have : readV s = (2, ((formV s).i : Int)) := by unfold readV; rw [if_neg hs, if_pos hok]
    exact this
   have Hok := hide hok
   clear hok
   go_enter Tryz.func31, Tryz.ntmps31
   go_wp2_with fail
   refine (form_calls s (by omega) w).mono ?_
   rintro e w1 ⟨gb, pl, rfl, hpl, hb, _⟩
   rw [Hok.out]
   have hpl := hpl Hok.out
   simp only
   go_wp2_with fail
   go_ret3
   exact ⟨.pointer none, by rw [HR.out, ← hpl]; rfl, hb, fun h => by rw [HR.out] at h; exact absurd (congrArg Prod.fst h) (by simp)⟩
 have HR : Hid (readV s = if 0 ≤ badR s then (3, badR s) else if 0 ≤ badB s then (4, badB s) else (0, 0)) := by
  have : readV s = if 0 ≤ badR s then (3, badR s) else if 0 ≤ badB s then (4, badB s) else (0, 0) := by unfold readV; rw [if_neg hs, if_neg (by simp [hok])]
  exact this
 obtain ⟨hwf, hrul, _⟩ := rules_wf s 8 65 0 hok
 have hlen := form_len s hok
 have HBR : Hid (badR s = worst (allIts (formV s).rls) (noRule (formV s).rls (allIts (formV s).rls)) (allIts (formV s).rls).length (twiceV [] (formV s).rls)) := rfl
 have HBB : Hid (badB s = worst (allIts (formV s).rls) (fun i => !(boundV (allIts (formV s).rls) i)) (allIts (formV s).rls).length (-1)) := rfl
 have Hok := hide hok
 have HW : Hid (Wf (allIts (formV s).rls)) := hwf
 have HRu : Hid (RulOk (allIts (formV s).rls)) := hrul
 have htl := twiceV_lo [] (formV s).rls
 have HPl : Hid (∀ k, k < (allIts (formV s).rls).length → 0 ≤ (itd (allIts (formV s).rls) k).pl) := form_pl s hok
 clear hok hwf hrul
 go_enter Tryz.func31, Tryz.ntmps31
 go_wp2_with fail
 refine (form_calls s (by omega) w).mono ?_
 rintro e w1 ⟨gb, pl, rfl, _, hb, hgr⟩
 rw [Hok.out]
 obtain ⟨g, c, fb, fl, hG, hF, hFi⟩ := hgr Hok.out
 generalize hrls : (formV s).rls = rls at *
 have HRls := hide hrls
 clear hrls
 generalize hits : allIts rls = its at *
 have HIts := hide hits
 clear hits
 have HG := hide hG
 have HF := hide hF
 have HFi := hide hFi
 have Hb := hide hb
 have ctw : w1.cell? ⟨gb, 2, none⟩ = some (.int .i64 (twiceV [] rls)) := hG.blk.cell 2
 have hgl := hG.lt
 have hgbl := hG.blk.lt
 have hfbl := hF.lt
 have hb1 := hb.size
 clear hG hF hFi hb
 simp only
 go_wp2_with fail
 generalize htw : twiceV [] rls = tw at *
 have HTW := hide htw
 clear htw
 go_loopw [8, 9] (fun vb vi wr => ∃ (j : Nat) (bad : Int), vi = .int .i64 j ∧ vb = .int .i64 bad ∧ j ≤ its.length ∧ Hid (Below w1.heap.size w1 wr) ∧ Hid (bad = worst its (noRule rls its) j tw)) (fun _ vi _ => its.length - (intOf vi).toNat)
 case atStart => exact ⟨0, tw, rfl, rfl, by omega, Below.refl _ _, (rfl : tw = worst its (noRule rls its) 0 tw)⟩
 case round =>
  obtain ⟨j, bad, rfl, rfl, hj, hbel, hbad⟩ := hrel
  have hGr := HG.out.below hbel.out
  have hsz := hbel.out.size
  have c0 : wr.cell? ⟨gb, 0, none⟩ = some (.slice (some ⟨g, 0, none⟩) its.length c) := hGr.top
  by_cases hlt : j < its.length
  · have hji : (j : Int) < (its.length : Int) := by omega
    have c1 : wr.cell? ⟨gb, 1, none⟩ = some (.slice (some ⟨fb, 0, none⟩) 8 8) := hGr.blk.cell 1
    have q0 : wr.cell? ⟨g, j * 9, none⟩ = some (.int .u8 (itd its j).c) := by simpa [It.cells, It.off] using hGr.cell j 0 hlt (by omega)
    have q1 : wr.cell? ⟨g, j * 9 + 1, none⟩ = some (.int .i64 (itd its j).w) := by simpa [It.cells, It.off] using hGr.cell j 1 hlt (by omega)
    have q2 : wr.cell? ⟨g, j * 9 + 2, none⟩ = some (.int .i64 (itd its j).b) := by simpa [It.cells, It.off] using hGr.cell j 2 hlt (by omega)
    have q3 : wr.cell? ⟨g, j * 9 + 3, none⟩ = some (.int .i64 (itd its j).r) := by simpa [It.cells, It.off] using hGr.cell j 3 hlt (by omega)
    have q4 : wr.cell? ⟨g, j * 9 + 4, none⟩ = some (.int .i64 (itd its j).d) := by simpa [It.cells, It.off] using hGr.cell j 4 hlt (by omega)
    have q5 : wr.cell? ⟨g, j * 9 + 5, none⟩ = some (.int .i64 (itd its j).pl) := by simpa [It.cells, It.off] using hGr.cell j 5 hlt (by omega)
    have q6 : wr.cell? ⟨g, j * 9 + 6, none⟩ = some (.int .i64 (j + (itd its j).nx)) := by simpa [It.cells, It.off] using hGr.cell j 6 hlt (by omega)
    have q7 : wr.cell? ⟨g, j * 9 + 7, none⟩ = some (.int .i64 (itd its j).rl) := by simpa [It.cells, It.off] using hGr.cell j 7 hlt (by omega)
    have q8 : wr.cell? ⟨g, j * 9 + 8, none⟩ = some (.int .i64 0) := by simpa [It.cells, It.off] using hGr.cell j 8 hlt (by omega)
    have hfA : ∀ rn : Nat, rn < 8 → ∀ o, (wr.alloc o).cell? ⟨fb, rn, none⟩ = some (.int .i64 (fl.getD rn 0)) := by
     intro rn hrn o
     have h := (HF.out.below hbel.out hfbl).alloc o
     rw [h.cell rn]
     have := HFi.out.1
     simp [intsI, List.getD, show rn < fl.length by omega]
    have hcA : ∀ o, (wr.alloc o).cell? ⟨gb, 1, none⟩ = some (.slice (some ⟨fb, 0, none⟩) 8 8) := fun o => (hGr.blk.alloc o).cell 1
    have HNR : Hid (noRule rls its j = ((itd its j).c == 82 && !(hasR rls (itd its j).r))) := rfl
    have HWS : Hid (worst its (noRule rls its) (j + 1) tw = if noRule rls its j && (decide (bad < 0) || decide ((itd its j).pl < bad)) then (itd its j).pl else bad) := by
     have : worst its (noRule rls its) (j + 1) tw = if noRule rls its j && (decide (bad < 0) || decide ((itd its j).pl < bad)) then (itd its j).pl else bad := by rw [worst, ← hbad.out]
     exact this
    have HRj : Hid ((itd its j).c = 82 → 0 ≤ (itd its j).r ∧ (itd its j).r < 8) := by
     intro h
     exact HRu.out (itd its j) (by unfold itd; rw [getD_lt _ _ _ hlt]; exact List.getElem_mem hlt) h
    clear hGr hbad
    have HB2 : Hid (∀ o, Below w1.heap.size w1 (wr.alloc o)) := fun o => hbel.out.alloc hsz o
    generalize itd its j = p at *
    cases hc : (p.c == 82)
    · have HN : Hid (worst its (noRule rls its) (j + 1) tw = bad) := by
       have : worst its (noRule rls its) (j + 1) tw = bad := by rw [HWS.out, HNR.out, hc]; rfl
       exact this
      clear HWS HNR HRj hfA
      go_wp2_with fail
      go_quiet (fail)
      go_wp2_with fail
      exact ⟨⟨j + 1, bad, by go_num, rfl, by omega, below_drewN (HB2.out _) _, HN.out.symm⟩, by simp [intOf]; omega⟩
    · have hc82 : p.c = 82 := by simpa using hc
      obtain ⟨hr0, hr8⟩ := HRj.out hc82
      obtain ⟨rn, hrn⟩ : ∃ rn : Nat, p.r = (rn : Int) := ⟨p.r.toNat, by omega⟩
      have hrn8 : rn < 8 := by omega
      have hrn8' : (rn : Int) < 8 := by omega
      have hcf := hfA rn hrn8
      have HFr := hide (HFi.out.2.1 rn hrn8)
      rw [hrn] at q3
      have HNR2 : Hid (noRule rls its j = !(hasR rls (rn : Int))) := by
       have : noRule rls its j = !(hasR rls (rn : Int)) := by rw [HNR.out, hc, hrn]; rfl
       exact this
      clear hfA HNR HRj hc82 hrn hr0 hr8
      generalize fl.getD rn 0 = fv at *
      have hfour : ¬ fv < 0 ∨ (fv < 0 ∧ bad < 0) ∨ (fv < 0 ∧ ¬ bad < 0 ∧ p.pl < bad) ∨ (fv < 0 ∧ ¬ bad < 0 ∧ ¬ p.pl < bad) := by omega
      rcases hfour with h1 | ⟨h1, h2⟩ | ⟨h1, h2, h3⟩ | ⟨h1, h2, h3⟩
      · have HN : Hid (worst its (noRule rls its) (j + 1) tw = bad) := by
         have hh : hasR rls (rn : Int) = true := by
          cases h : hasR rls (rn : Int)
          · exact absurd (HFr.out.2 h) h1
          · rfl
         have : worst its (noRule rls its) (j + 1) tw = bad := by rw [HWS.out, HNR2.out, hh]; rfl
         exact this
        clear HWS HNR2 HFr
        have hd1 : decide (fv < 0) = false := by simpa using h1
        go_wp2_with fail
        go_quiet (fail)
        go_wp2_with fail
        exact ⟨⟨j + 1, bad, by go_num, rfl, by omega, below_drewN (HB2.out _) _, HN.out.symm⟩, by simp [intOf]; omega⟩
      · have HN : Hid (worst its (noRule rls its) (j + 1) tw = p.pl) := by
         have hh : hasR rls (rn : Int) = false := HFr.out.1 h1
         have : worst its (noRule rls its) (j + 1) tw = p.pl := by rw [HWS.out, HNR2.out, hh]; simp [h2]
         exact this
        clear HWS HNR2 HFr
        have hd1 : decide (fv < 0) = true := by simpa using h1
        have hd2 : decide (bad < 0) = true := by simpa using h2
        go_wp2_with fail
        go_quiet (fail)
        go_wp2_with fail
        exact ⟨⟨j + 1, p.pl, by go_num, rfl, by omega, below_drewN (HB2.out _) _, HN.out.symm⟩, by simp [intOf]; omega⟩
      · have HN : Hid (worst its (noRule rls its) (j + 1) tw = p.pl) := by
         have hh : hasR rls (rn : Int) = false := HFr.out.1 h1
         have : worst its (noRule rls its) (j + 1) tw = p.pl := by rw [HWS.out, HNR2.out, hh]; simp [h3]
         exact this
        clear HWS HNR2 HFr
        have hd1 : decide (fv < 0) = true := by simpa using h1
        have hd2 : decide (bad < 0) = false := by simpa using h2
        have hd3 : decide (p.pl < bad) = true := by simpa using h3
        go_wp2_with fail
        go_quiet (fail)
        go_wp2_with fail
        exact ⟨⟨j + 1, p.pl, by go_num, rfl, by omega, below_drewN (HB2.out _) _, HN.out.symm⟩, by simp [intOf]; omega⟩
      · have HN : Hid (worst its (noRule rls its) (j + 1) tw = bad) := by
         have hh : hasR rls (rn : Int) = false := HFr.out.1 h1
         have : worst its (noRule rls its) (j + 1) tw = bad := by rw [HWS.out, HNR2.out, hh]; simp [h2, h3]
         exact this
        clear HWS HNR2 HFr
        have hd1 : decide (fv < 0) = true := by simpa using h1
        have hd2 : decide (bad < 0) = false := by simpa using h2
        have hd3 : decide (p.pl < bad) = false := by simpa using h3
        go_wp2_with fail
        go_quiet (fail)
        go_wp2_with fail
        exact ⟨⟨j + 1, bad, by go_num, rfl, by omega, below_drewN (HB2.out _) _, HN.out.symm⟩, by simp [intOf]; omega⟩
  · have HBad : Hid (badR s = bad) := by
     have : badR s = bad := by rw [HBR.out, hbad.out, show j = its.length by omega]
     exact this
    have HGr := hide hGr
    have HBelW : Hid (Below w.heap.size w wr) := Hb.out.trans (hbel.out.mono (by omega))
    clear hbad hGr
    by_cases hpos : 0 ≤ bad
    · have HR2 : Hid (readV s = (3, bad)) := by
       have : readV s = (3, bad) := by rw [HR.out, HBad.out, if_pos hpos]
       exact this
      go_wp2_with fail
      go_ret3
      exact ⟨.pointer none, by rw [HR2.out]; rfl, HBelW.out, fun h => by rw [HR2.out] at h; exact absurd (congrArg Prod.fst h) (by simp)⟩
    · have HR2 : Hid (readV s = if 0 ≤ badB s then (4, badB s) else (0, 0)) := by
       have : readV s = if 0 ≤ badB s then (4, badB s) else (0, 0) := by rw [HR.out, HBad.out, if_neg hpos]
       exact this
      have HM1 : Hid (bad = -1) := by
       have : bad = -1 := by
        have h1 := worst_lo its (noRule rls its) its.length tw (by omega) HPl.out (by omega)
        have h2 := HBad.out
        rw [HBR.out] at h2
        omega
       exact this
      clear HR HBad
      go_wp2_with fail
      go_loopw [8, 11] (fun vb vi wq => ∃ (j : Nat) (bd : Int), vi = .int .i64 j ∧ vb = .int .i64 bd ∧ j ≤ its.length ∧ Hid (Below wr.heap.size wr wq) ∧ Hid (bd = worst its (fun i => !(boundV its i)) j (-1))) (fun _ vi _ => its.length - (intOf vi).toNat)
      case atStart => exact ⟨0, bad, rfl, rfl, by omega, Below.refl _ _, (by rw [HM1.out]; rfl : bad = worst its (fun i => !(boundV its i)) 0 (-1))⟩
      case round =>
       rename World => wr0
       obtain ⟨j2, bd, rfl, rfl, hj2, hbel2, hbd⟩ := hrel
       have hGr2 := HGr.out.below hbel2.out
       have hsz2 := hbel2.out.size
       have c02 : wr0.cell? ⟨gb, 0, none⟩ = some (.slice (some ⟨g, 0, none⟩) its.length c) := hGr2.top
       by_cases hlt2 : j2 < its.length
       · have hji : (j2 : Int) < (its.length : Int) := by omega
         have HG2 := hide hGr2
         have HWS : Hid (worst its (fun i => !(boundV its i)) (j2 + 1) (-1) = if !(boundV its j2) && (decide (bd < 0) || decide ((itd its j2).pl < bd)) then (itd its j2).pl else bd) := by
          have : worst its (fun i => !(boundV its i)) (j2 + 1) (-1) = if !(boundV its j2) && (decide (bd < 0) || decide ((itd its j2).pl < bd)) then (itd its j2).pl else bd := by rw [worst, ← hbd.out]
          exact this
         clear hGr2 hbd
         go_wp2_with fail
         refine (bound_calls wr0 gb g c _ _ its HG2.out HW.out (by omega) j2 hlt2).mono ?_
         rintro e w5 ⟨rfl, hb5⟩
         have hGr5 := HG2.out.below hb5
         have c05 : w5.cell? ⟨gb, 0, none⟩ = some (.slice (some ⟨g, 0, none⟩) its.length c) := hGr5.top
         have q5 : w5.cell? ⟨g, j2 * 9 + 5, none⟩ = some (.int .i64 (itd its j2).pl) := by simpa [It.cells, It.off] using hGr5.cell j2 5 hlt2 (by omega)
         have HB5 : Hid (Below wr.heap.size wr w5) := hbel2.out.trans (hb5.mono (by omega))
         clear hGr5 c02 hb5
         simp only
         generalize (itd its j2).pl = pl5 at *
         have hfour : boundV its j2 = true ∨ (boundV its j2 = false ∧ bd < 0) ∨ (boundV its j2 = false ∧ ¬ bd < 0 ∧ pl5 < bd) ∨ (boundV its j2 = false ∧ ¬ bd < 0 ∧ ¬ pl5 < bd) := by
          cases boundV its j2
          · right; by_cases h1 : bd < 0
            · exact Or.inl ⟨rfl, h1⟩
            · right; by_cases h2 : pl5 < bd
              · exact Or.inl ⟨rfl, h1, h2⟩
              · exact Or.inr ⟨rfl, h1, h2⟩
          · exact Or.inl rfl
         rcases hfour with h1 | ⟨h1, h2⟩ | ⟨h1, h2, h3⟩ | ⟨h1, h2, h3⟩
         · have HN : Hid (worst its (fun i => !(boundV its i)) (j2 + 1) (-1) = bd) := by
            have : worst its (fun i => !(boundV its i)) (j2 + 1) (-1) = bd := by rw [HWS.out, h1]; rfl
            exact this
           clear HWS
           go_wp2_with fail
           exact ⟨⟨j2 + 1, bd, by go_num, rfl, by omega, HB5, HN.out.symm⟩, by simp [intOf]; omega⟩
         · have HN : Hid (worst its (fun i => !(boundV its i)) (j2 + 1) (-1) = pl5) := by
            have : worst its (fun i => !(boundV its i)) (j2 + 1) (-1) = pl5 := by rw [HWS.out, h1]; simp [h2]
            exact this
           clear HWS
           go_wp2_with fail
           exact ⟨⟨j2 + 1, pl5, by go_num, rfl, by omega, HB5, HN.out.symm⟩, by simp [intOf]; omega⟩
         · have HN : Hid (worst its (fun i => !(boundV its i)) (j2 + 1) (-1) = pl5) := by
            have : worst its (fun i => !(boundV its i)) (j2 + 1) (-1) = pl5 := by rw [HWS.out, h1]; simp [h3]
            exact this
           clear HWS
           go_wp2_with fail
           exact ⟨⟨j2 + 1, pl5, by go_num, rfl, by omega, HB5, HN.out.symm⟩, by simp [intOf]; omega⟩
         · have HN : Hid (worst its (fun i => !(boundV its i)) (j2 + 1) (-1) = bd) := by
            have : worst its (fun i => !(boundV its i)) (j2 + 1) (-1) = bd := by rw [HWS.out, h1]; simp [h2, h3]
            exact this
           clear HWS
           go_wp2_with fail
           exact ⟨⟨j2 + 1, bd, by go_num, rfl, by omega, HB5, HN.out.symm⟩, by simp [intOf]; omega⟩
       · have HBd : Hid (badB s = bd) := by
          have : badB s = bd := by rw [HBB.out, hbd.out, show j2 = its.length by omega]
          exact this
         have HBelF : Hid (Below w.heap.size w wr0) := HBelW.out.trans (hbel2.out.mono (by omega))
         have HGf := hide hGr2
         have HFf := hide ((HF.out.below hbel.out hfbl).below hbel2.out (HF.out.below hbel.out hfbl).lt)
         clear hbd hGr2
         by_cases hp2 : 0 ≤ bd
         · have HR3 : Hid (readV s = (4, bd)) := by
            have : readV s = (4, bd) := by rw [HR2.out, HBd.out, if_pos hp2]
            exact this
           go_wp2_with fail
           go_ret3
           exact ⟨.pointer none, by rw [HR3.out]; rfl, HBelF.out, fun h => by rw [HR3.out] at h; exact absurd (congrArg Prod.fst h) (by simp)⟩
         · have HR3 : Hid (readV s = (0, 0)) := by
            have : readV s = (0, 0) := by rw [HR2.out, HBd.out, if_neg hp2]
            exact this
           go_wp2_with fail
           go_ret3
           exact ⟨.pointer (some ⟨gb, 0, none⟩), by rw [HR3.out]; rfl, HBelF.out, fun _ => ⟨gb, g, c, fb, fl, rfl, by rw [HRls.out, HIts.out, HTW.out]; exact HGf.out, HFf.out, by rw [HRls.out]; exact HFi.out⟩⟩
end Go.Proofs.YtmlkhhhjdpbhfaaGreatDoor
