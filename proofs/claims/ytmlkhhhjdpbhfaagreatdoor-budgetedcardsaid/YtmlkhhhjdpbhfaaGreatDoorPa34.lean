import Derived.Test.YtmlkhhhjdpbhfaaGreatDoorPa32
namespace Go.Proofs.YtmlkhhhjdpbhfaaGreatDoor
open Go.RowKit
theorem chainV_mem (its : List It) (hwf : Wf its) (f i x : Nat) (hi : i < its.length) (h : x ∈ chainV its f i) : x < its.length := by
 induction f generalizing i with
 | zero => simp [chainV] at h
 | succ f ih =>
  rw [chainV] at h
  split at h
  · rename_i hin
    have h1 := hwf.one i hi hin
    split at h
    · rcases List.mem_cons.1 h with rfl | h
      · exact h1
      · exact ih _ h1 h
    · exact ih _ h1 h
  · simp at h
theorem standingV_mem (its : List It) (hwf : Wf its) (s x : Nat) (hs : s < its.length) (h : x ∈ standingV its s) : x < its.length := by
 unfold standingV at h
 rw [List.mem_flatMap] at h
 obtain ⟨y, hy, hx⟩ := h
 have := kidsV_mem its hwf s y hs hy
 rcases List.mem_cons.1 hx with rfl | hx
 · exact this.2
 · exact chainV_mem its hwf _ y x this.2 hx
theorem standingV_length (its : List It) (s : Nat) (h : its.length ≤ 1000) : (standingV its s).length ≤ 1001000 := by
 have h1 := flat_length its (kidsV its s)
 have h2 := kidsV_length its s
 unfold standingV
 exact Nat.le_trans h1 (Nat.le_trans (Nat.mul_le_mul (Nat.le_trans h2 h) (show its.length + 1 ≤ 1001 by omega)) (by omega))
theorem Ints.take {w : World} {l : List Nat} {g cap : Nat} (n : Nat) (hn : n ≤ l.length) (h : Ints w (.slice (some ⟨g, 0, none⟩) l.length cap) l) : Ints w (.slice (some ⟨g, 0, none⟩) n cap) (l.take n) := by
 rcases h with ⟨h, _⟩ | ⟨g', cap', h, hg, h1, h2, h3⟩
 · simp at h
 · simp only [Value.slice.injEq, Option.some.injEq, Addr.mk.injEq, and_true, true_and] at h
   obtain ⟨rfl, rfl⟩ := h
   refine Or.inr ⟨g, cap, by simp [Nat.min_eq_left hn], hg, by simp; omega, h2, fun j hj => ?_⟩
   simp at hj
   rw [h3 j (by omega), getD_lt _ _ _ (by omega), getD_lt _ _ _ (by simp; omega)]
   simp
theorem find_range (k : Nat) (p : Nat → Bool) (s : Nat) (hs : s < k) (h : p s = true) (hn : ∀ j, j < s → p j = false) : (List.range k).find? p = some s := by
 rw [List.find?_range_eq_some]
 exact ⟨h, by simpa using hs, fun j hj => by simp [hn j hj]⟩
theorem find_range_none (k : Nat) (p : Nat → Bool) (hn : ∀ j, j < k → p j = false) : (List.range k).find? p = none := by
 rw [List.find?_eq_none]
 intro x hx
 simp at hx
 simp [hn x hx]
structure Bun (w0 : World) (gb g c : Nat) (fi tw : Value) (its : List It) (gs cap : Nat) (S : List Nat) (pb : Nat) (d : Int) (w : World) : Prop where
 grm : Grm w gb g c fi tw its
 ints : Ints w (.slice (some ⟨gs, 0, none⟩) S.length cap) S
 cell : w.cell? ⟨pb, 4, none⟩ = some (.int .i64 d)
 lt : pb < w.heap.size
 bel : Below w0.heap.size w0 w
theorem Bun.drew {w0 : World} {gb g c : Nat} {fi tw : Value} {its : List It} {gs cap : Nat} {S : List Nat} {pb : Nat} {d : Int} {w : World} (h : Bun w0 gb g c fi tw its gs cap S pb d w) : Bun w0 gb g c fi tw its gs cap S pb d w.drew :=
 ⟨⟨h.grm.blk, h.grm.lt, h.grm.cell⟩, h.ints, h.cell, h.lt, h.bel.drew⟩
theorem Bun.next {w0 : World} {gb g c : Nat} {fi tw : Value} {its : List It} {gs cap : Nat} {S : List Nat} {pb : Nat} {d : Int} {w w' : World} (h : Bun w0 gb g c fi tw its gs cap S pb d w) (hb : Below w.heap.size w w') : Bun w0 gb g c fi tw its gs cap S pb d w' :=
 ⟨h.grm.below hb, h.ints.below hb, by rw [hb.cell (p := ⟨pb, 4, none⟩) h.lt]; exact h.cell, by have := hb.size; have := h.lt; omega, h.bel.trans (hb.mono h.bel.size)⟩
set_option maxRecDepth 100000 in
set_option maxHeartbeats 4000000 in
theorem bound_calls (w : World) (gb g c : Nat) (fi tw : Value) (its : List It) (hG : Grm w gb g c fi tw its) (hwf : Wf its) (hlen : its.length ≤ 1000) (k : Nat) (hk : k < its.length) :
 Calls Tryz.prog 55 #[.pointer (some ⟨gb, 0, none⟩), .int .i64 k] w fun e w' => e = .returned (.bool (boundV its k)) ∧ Below w.heap.size w w' := by
 have c0 : w.cell? ⟨gb, 0, none⟩ = some (.slice (some ⟨g, 0, none⟩) its.length c) := hG.top
 have q0 : w.cell? ⟨g, k * 9, none⟩ = some (.int .u8 (itd its k).c) := by simpa [It.cells, It.off] using hG.cell k 0 hk (by omega)
 have q1 : w.cell? ⟨g, k * 9 + 1, none⟩ = some (.int .i64 (itd its k).w) := by simpa [It.cells, It.off] using hG.cell k 1 hk (by omega)
 have q2 : w.cell? ⟨g, k * 9 + 2, none⟩ = some (.int .i64 (itd its k).b) := by simpa [It.cells, It.off] using hG.cell k 2 hk (by omega)
 have q3 : w.cell? ⟨g, k * 9 + 3, none⟩ = some (.int .i64 (itd its k).r) := by simpa [It.cells, It.off] using hG.cell k 3 hk (by omega)
 have q4 : w.cell? ⟨g, k * 9 + 4, none⟩ = some (.int .i64 (itd its k).d) := by simpa [It.cells, It.off] using hG.cell k 4 hk (by omega)
 have q5 : w.cell? ⟨g, k * 9 + 5, none⟩ = some (.int .i64 (itd its k).pl) := by simpa [It.cells, It.off] using hG.cell k 5 hk (by omega)
 have q6 : w.cell? ⟨g, k * 9 + 6, none⟩ = some (.int .i64 (k + (itd its k).nx)) := by simpa [It.cells, It.off] using hG.cell k 6 hk (by omega)
 have q7 : w.cell? ⟨g, k * 9 + 7, none⟩ = some (.int .i64 (itd its k).rl) := by simpa [It.cells, It.off] using hG.cell k 7 hk (by omega)
 have q8 : w.cell? ⟨g, k * 9 + 8, none⟩ = some (.int .i64 0) := by simpa [It.cells, It.off] using hG.cell k 8 hk (by omega)
 have HG : Hid (Grm w gb g c fi tw its) := hG
 have HW : Hid (Wf its) := hwf
 have hgl := hG.lt
 have hgbl := hG.blk.lt
 have hki : (k : Int) < (its.length : Int) := by omega
 have HB : Hid (boundV its k = if !(hidesB (itd its k).c) && !(usesB (itd its k).c) then true else match (List.range k).find? (decides its k) with | some s => verdict its k s | none => false) := rfl
 clear hG hwf
 have hthree : (hidesB (itd its k).c = false ∧ usesB (itd its k).c = false) ∨ (hidesB (itd its k).c = false ∧ usesB (itd its k).c = true) ∨ hidesB (itd its k).c = true := by
  cases hidesB (itd its k).c <;> cases usesB (itd its k).c <;> simp
 rcases hthree with ⟨hb1, hb2⟩ | ⟨hb1, hb2⟩ | hb1
 · go_enter Tryz.func55, Tryz.ntmps55
   go_wp2_with (first
    | (go_at_call 85; refine (hidesB_calls _ _).mono ?_; rintro e w9 ⟨rfl, rfl⟩)
    | (go_at_call 86; refine (usesB_calls _ _).mono ?_; rintro e w9 ⟨rfl, rfl⟩))
   go_ret
   exact ⟨ret_bool (by rw [HB.out, hb1, hb2]; rfl), (Below.refl _ _).alloc (Nat.le_refl _) _⟩
 all_goals
  have HB2 : Hid (boundV its k = match (List.range k).find? (decides its k) with | some s => verdict its k s | none => false) := by
   have : boundV its k = match (List.range k).find? (decides its k) with | some s => verdict its k s | none => false := by rw [HB.out, hb1]; first | (rw [hb2]; rfl) | simp
   exact this
  clear HB
  go_enter Tryz.func55, Tryz.ntmps55
  go_wp2_with (first
   | (go_at_call 85; refine (hidesB_calls _ _).mono ?_; rintro e w9 ⟨rfl, rfl⟩)
   | (go_at_call 86; refine (usesB_calls _ _).mono ?_; rintro e w9 ⟨rfl, rfl⟩))
  have hPb := Blk.new w #[.int .u8 (itd its k).c, .int .i64 (itd its k).w, .int .i64 (itd its k).b, .int .i64 (itd its k).r, .int .i64 (itd its k).d, .int .i64 (itd its k).pl, .int .i64 (k + (itd its k).nx), .int .i64 (itd its k).rl, .int .i64 0] 132
  have hB0 : Below w.heap.size w (w.alloc (.cells #[.int .u8 (itd its k).c, .int .i64 (itd its k).w, .int .i64 (itd its k).b, .int .i64 (itd its k).r, .int .i64 (itd its k).d, .int .i64 (itd its k).pl, .int .i64 (k + (itd its k).nx), .int .i64 (itd its k).rl, .int .i64 0] 132)) := (Below.refl _ _).alloc (Nat.le_refl _) _
  generalize hw0 : w.alloc (.cells #[.int .u8 (itd its k).c, .int .i64 (itd its k).w, .int .i64 (itd its k).b, .int .i64 (itd its k).r, .int .i64 (itd its k).d, .int .i64 (itd its k).pl, .int .i64 (k + (itd its k).nx), .int .i64 (itd its k).rl, .int .i64 0] 132) = w0 at *
  clear hw0 q0 q1 q2 q3 q4 q5 q6 q7 q8 c0
  generalize hpb : w.heap.size = pb at *
  have HPB := hide hpb
  clear hpb
  have HG0 : Hid (Grm w0 gb g c fi tw its) := ⟨HG.out.blk.below hB0 hgbl, by have := hPb.lt; omega, fun k q hk hq => by rw [hB0.cell (p := ⟨g, k * 9 + q, none⟩) hgl]; exact HG.out.cell k q hk hq⟩
  have HPD : Hid (w0.cell? ⟨pb, 4, none⟩ = some (.int .i64 (itd its k).d)) := hPb.cell 4
  have hpbl := hPb.lt
  have HB0 : Hid (Below pb w w0) := hB0
  clear hB0 hPb HG
  go_loopw [8] (fun vs wr => ∃ (s : Nat), vs = .int .i64 s ∧ s ≤ k ∧ Hid (Below w0.heap.size w0 wr) ∧ Hid (∀ s', s' < s → decides its k s' = false)) (fun vs _ => k - (intOf vs).toNat)
  case atStart => exact ⟨0, rfl, by omega, Below.refl _ _, fun s hs => by omega⟩
  case round =>
   obtain ⟨s, rfl, hs, hbel, hnone⟩ := hrel
   have hsz := hbel.out.size
   by_cases hlt : s < k
   · have hsl : s < its.length := by omega
     have hsi : (s : Int) < (its.length : Int) := by omega
     have hGr := HG0.out.below hbel.out
     have c0 : wr.cell? ⟨gb, 0, none⟩ = some (.slice (some ⟨g, 0, none⟩) its.length c) := hGr.top
     have cC : wr.cell? ⟨g, s * 9, none⟩ = some (.int .u8 (itd its s).c) := hGr.c s hsl
     have cN : wr.cell? ⟨g, s * 9 + 6, none⟩ = some (.int .i64 (nxt its s : Nat)) := hGr.nx HW.out s hsl
     have HGr : Hid (Grm wr gb g c fi tw its) := hGr
     clear hGr
     have HD : Hid (decides its k s = ((itd its s).c == 40 && decide (k < nxt its s) && memB (standingV its s) k && (!(hidesB (itd its k).c) || memB (kidsV its s) k))) := rfl
     have HNext : Hid (decides its k s = false → ∀ s', s' < s + 1 → decides its k s' = false) := fun h => snocAll hnone.out h
     have HFound : Hid (decides its k s = true → boundV its k = verdict its k s) := by
      intro h
      rw [HB2.out, find_range k (decides its k) s hlt h hnone.out]
     clear hnone
     cases h40 : ((itd its s).c == 40)
     · have h40' : ((itd its s).c != 40) = true := by simpa [bne] using h40
       have hno : decides its k s = false := by rw [HD.out, h40]; rfl
       have HN := hide (HNext.out hno)
       clear HD HNext HFound hno h40
       go_wp2_with fail
       exact ⟨⟨s + 1, by go_num, by omega, hbel, HN⟩, by simp [intOf]; omega⟩
     · have h40' : ((itd its s).c != 40) = false := by simpa [bne] using h40
       by_cases hnx : nxt its s ≤ k
       · have hno : decides its k s = false := by rw [HD.out, h40, decide_eq_false (by omega : ¬ k < nxt its s)]; rfl
         have HN := hide (HNext.out hno)
         clear HD HNext HFound hno h40
         go_wp2_with fail
         exact ⟨⟨s + 1, by go_num, by omega, hbel, HN⟩, by simp [intOf]; omega⟩
       · have HD2 : Hid (decides its k s = (memB (standingV its s) k && (!(hidesB (itd its k).c) || memB (kidsV its s) k))) := by
          have : decides its k s = (memB (standingV its s) k && (!(hidesB (itd its k).c) || memB (kidsV its s) k)) := by rw [HD.out, h40, decide_eq_true (by omega : k < nxt its s)]; rfl
          exact this
         clear HD h40
         have hnx' : k < nxt its s := by omega
         go_wp2_with fail
         refine (standing_calls wr gb g c fi tw its HGr.out HW.out hlen s hsl).mono ?_
         rintro e w2 ⟨vS, rfl, hSI, hbS⟩
         have HG2 : Hid (Grm w2 gb g c fi tw its) := HGr.out.below hbS
         have hsz2 := hbS.size
         simp only
         go_wp2_with fail
         refine (kids_calls w2 gb g c fi tw its HG2.out HW.out hlen s hsl).mono ?_
         rintro e w3 ⟨vK, rfl, hKI, hbK⟩
         have hsz3 := hbK.size
         simp only
         have hSI3 := hSI.below hbK
         have HG3 : Hid (Grm w3 gb g c fi tw its) := HG2.out.below hbK
         have HBel3 : Hid (Below w0.heap.size w0 w3) := (hbel.out.trans (hbS.mono (by omega))).trans (hbK.mono (by omega))
         have HSI : Hid (Ints w3 vS (standingV its s)) := hSI3
         have HKI : Hid (Ints w3 vK (kidsV its s)) := hKI
         have HSm : Hid (∀ x, x ∈ standingV its s → x < its.length) := fun x hx => standingV_mem its HW.out s x hsl hx
         have HKm : Hid (∀ x, x ∈ kidsV its s → x < its.length) := fun x hx => (kidsV_mem its HW.out s x hsl hx).2
         have hSl := standingV_length its s hlen
         have hKl := kidsV_length its s
         clear hSI hSI3 hKI hbS hbK HG2 c0 cC cN HGr
         have HV : Hid (verdict its k s = if hidesB (itd its k).c then (oftenV its ((standingV its s).take ((standingV its s).idxOf k)) (itd its k).d true == 0) && decide (0 < oftenV its (standingV its s) (itd its k).d false) else decide (0 < oftenV its ((standingV its s).take ((standingV its s).idxOf k)) (itd its k).d true) && (oftenV its ((standingV its s).take ((standingV its s).idxOf k)) (itd its k).d false == 0)) := rfl
         generalize standingV its s = S at *
         generalize kidsV its s = K at *
         go_wp2_with fail
         refine (among_calls vS S k w3 HSI.out (by omega) (by omega) (fun x hx => by have := HSm.out x hx; omega)).mono ?_
         rintro e w9 ⟨rfl, h9⟩
         have h9 := h9.symm
         subst h9
         simp only
         go_wp2_with fail
         refine (among_calls vK K k w3 HKI.out (by omega) (by omega) (fun x hx => by have := HKm.out x hx; omega)).mono ?_
         rintro e w9 ⟨rfl, h9⟩
         have h9 := h9.symm
         subst h9
         simp only
         cases hm1 : memB S k
         · have HN := hide (HNext.out (by rw [HD2.out, hm1]; rfl))
           clear HD2 HNext HFound HV
           cases hm2 : memB K k
           all_goals
            go_wp2_with fail
            exact ⟨⟨s + 1, by go_num, by omega, HBel3, HN⟩, by simp [intOf]; omega⟩
         · cases hdv : decides its k s
           · have hm2 : memB K k = false := by
              have h1 := HD2.out
              rw [hdv, hm1] at h1
              cases h : memB K k
              · rfl
              · rw [h] at h1; simp at h1
             have hb3 : hidesB (itd its k).c = true := by
              have h1 := HD2.out
              rw [hdv, hm1, hm2] at h1
              cases h : hidesB (itd its k).c
              · rw [h] at h1; simp at h1
              · rfl
             have HN := hide (HNext.out hdv)
             clear HD2 HNext HFound HV hdv
             first
              | (exact absurd (hb1.symm.trans hb3) (by decide))
              | (clear hb3
                 go_wp2_with fail
                 exact ⟨⟨s + 1, by go_num, by omega, HBel3, HN⟩, by simp [intOf]; omega⟩)
           · have HVer := hide (HFound.out hdv)
             have hkid : hidesB (itd its k).c = true → memB K k = true := by
              intro h
              have h1 := HD2.out
              rw [hdv, hm1, h] at h1
              simpa using h1.symm
             have hmem : k ∈ S := by simpa [memB] using hm1
             have hidx : S.idxOf k < S.length := List.idxOf_lt_length_of_mem hmem
             have HIx : Hid (S.getD (S.idxOf k) 0 = k) := by
              have : S.getD (S.idxOf k) 0 = k := by rw [getD_lt _ _ _ hidx]; simp
              exact this
             have HIn : Hid (∀ j, j < S.idxOf k → S.getD j 0 ≠ k) := by
              intro j hj
              rw [getD_lt _ _ _ (by omega)]
              intro h
              have h2 := List.not_of_lt_findIdx (p := (· == k)) hj
              simp at h2
              exact h2 h
             obtain ⟨gs, cap, rfl, HSC, hgsl⟩ : ∃ gs cap, vS = .slice (some ⟨gs, 0, none⟩) S.length cap ∧ Hid (S.length ≤ cap ∧ ∀ j, j < S.length → w3.cell? ⟨gs, j, none⟩ = some (.int .i64 (S.getD j 0 : Nat))) ∧ gs < w3.heap.size := by
              rcases HSI.out with ⟨_, h⟩ | ⟨gs, cap, h1, h2, h3, _, h4⟩
              · rw [h] at hmem; simp at hmem
              · exact ⟨gs, cap, h1, ⟨h3, h4⟩, h2⟩
             clear HD2 HNext HFound hdv hmem hm1
             generalize S.idxOf k = ix at *
             have HSM : Hid (∀ j, j < S.length → S.getD j 0 < its.length) := fun j hj => HSm.out _ (by rw [getD_lt _ _ _ hj]; exact List.getElem_mem hj)
             have hm2 : hidesB (itd its k).c = true → memB K k = true := hkid
             have HM2 := hide hm2
             clear hm2 hkid
             first
              | have hm2 := HM2.out hb1
              | skip
             clear HM2
             all_goals
              go_wp2_with fail
              go_loop [13] (fun va => ∃ a : Nat, va = .int .i64 a ∧ a ≤ ix) (fun va => ix - (intOf va).toNat)
              case atStart => exact ⟨0, rfl, by omega⟩
              case round =>
               obtain ⟨a, rfl, ha⟩ := hrel
               have haS : a < S.length := by omega
               have haS' : (a : Int) < (S.length : Int) := by omega
               have hca : w3.cell? ⟨gs, a, none⟩ = some (.int .i64 (S.getD a 0 : Nat)) := HSC.out.2 a haS
               by_cases hlt2 : a < ix
               · have hne : ((S.getD a 0 : Nat) : Int) ≠ (k : Int) := by have := HIn.out a hlt2; omega
                 have hne' : ((((S.getD a 0 : Nat) : Int)) != (k : Int)) = true := by rw [bne_iff_ne]; exact hne
                 clear hne
                 generalize S.getD a 0 = x at *
                 go_wp2_with fail
                 exact ⟨⟨a + 1, by go_num, by omega⟩, by simp [intOf]; omega⟩
               · have hae : S.getD a 0 = k := by have := HIx.out; rwa [show a = ix by omega]
                 rw [hae] at hca
                 have HAI := hide (show a = ix by omega)
                 clear hae
                 have hbb : ((k : Int) != (k : Int)) = false := by simp
                 go_wp2_with fail
                 have HBun : Hid (Bun w0 gb g c fi tw its gs cap S pb (itd its k).d w3) :=
                  ⟨HG3.out, HSI.out, by rw [HBel3.out.cell (p := ⟨pb, 4, none⟩) hpbl]; exact HPD.out, by have := HBel3.out.size; omega, HBel3.out⟩
                 have HTm : Hid (∀ x, x ∈ S.take a → x < its.length) := fun x hx => HSm.out x (List.mem_of_mem_take hx)
                 have hcap1 : (a : Int) ≤ (cap : Int) := by have := HSC.out.1; omega
                 have hal : (S.take a).length ≤ 2000000 := by have : (S.take a).length ≤ S.length := (by simp; omega); omega
                 have p3 : w3.cell? ⟨pb, 4, none⟩ = some (.int .i64 (itd its k).d) := HBun.out.cell
                 clear hca HG3 HKI HKm HIn HIx
                 generalize (itd its k).d = d at *
                 go_region_held3 (fun w' => w'.cell? ⟨pb, 4, none⟩ = some (.int .i64 d)) (first | go_keep | (exact HBun4.out.cell))
                  ((go_at_call 90
                    refine (often_calls _ gb g c fi tw its HBun.out.drew.grm hlen _ (S.take a) d true (HBun.out.drew.ints.take a (by omega)) hal HTm.out).mono ?_
                    rintro e w4 ⟨rfl, hb4⟩
                    have HBun4 : Hid (Bun w0 gb g c fi tw its gs cap S pb d w4) := HBun.out.drew.next hb4))
                 have p4 : w4.cell? ⟨pb, 4, none⟩ = some (.int .i64 d) := HBun4.out.cell
                 have HVer2 : Hid (boundV its k = if hidesB (itd its k).c then (oftenV its (S.take a) d true == 0) && decide (0 < oftenV its S d false) else decide (0 < oftenV its (S.take a) d true) && (oftenV its (S.take a) d false == 0)) := by
                  have h1 := HVer.out
                  rw [HV.out] at h1
                  rw [← HAI.out] at h1
                  exact h1
                 clear HV HVer p3
                 have hSll : S.length ≤ 2000000 := by omega
                 go_wp2_with fail
                 go_region_held3 (fun w' => w'.cell? ⟨pb, 4, none⟩ = some (.int .i64 d)) (first | go_keep | (exact HBun5.out.cell))
                  ((go_at_call 90
                    refine (often_calls _ gb g c fi tw its HBun4.out.drew.grm hlen _ (S.take a) d false (HBun4.out.drew.ints.take a (by omega)) hal HTm.out).mono ?_
                    rintro e w5 ⟨rfl, hb5⟩
                    have HBun5 : Hid (Bun w0 gb g c fi tw its gs cap S pb d w5) := HBun4.out.drew.next hb5))
                 have p5 : w5.cell? ⟨pb, 4, none⟩ = some (.int .i64 d) := HBun5.out.cell
                 clear p4
                 go_wp2_with fail
                 refine (often_calls _ gb g c fi tw its HBun5.out.grm hlen _ S d false HBun5.out.ints hSll HSm.out).mono ?_
                 rintro e w6 ⟨rfl, hb6⟩
                 have HBun6 : Hid (Bun w0 gb g c fi tw its gs cap S pb d w6) := HBun5.out.next hb6
                 simp only
                 generalize oftenV its (S.take a) d true = A1 at *
                 generalize oftenV its (S.take a) d false = A2 at *
                 generalize oftenV its S d false = A3 at *
                 have HBf : Hid (Below w.heap.size w w6) := by rw [HPB.out]; exact HB0.out.trans (HBun6.out.bel.mono (by omega))
                 clear p5 hb4 hb5 hb6 HBun HBun4 HBun5 HBun6
                 have HR := HVer2.out
                 rw [hb1] at HR
                 simp only [if_true, Bool.false_eq_true, if_false] at HR
                 have HR2 := hide HR
                 clear HR HVer2
                 cases z1 : ((A1 : Int) == 0) <;> cases z2 : ((A2 : Int) == 0) <;> by_cases z3 : (0 : Int) < (A3 : Int) <;> by_cases z4 : (0 : Int) < (A1 : Int)
                 all_goals
                  go_wp2_with fail
                  go_ret
                  refine ⟨ret_bool ?_, HBf.out⟩
                  rw [HR2.out]
                  simp at z1 z2
                  first
                   | (simp; omega)
                   | simp [z1, z2, z3, z4]
   · have HF : Hid (boundV its k = false) := by
      have : boundV its k = false := by
       rw [HB2.out, find_range_none k (decides its k) (fun j hj => hnone.out j (by omega))]
      exact this
     go_wp2_with fail
     go_ret
     exact ⟨ret_bool HF.out.symm, by rw [HPB.out]; exact HB0.out.trans (hbel.out.mono (by omega))⟩
end Go.Proofs.YtmlkhhhjdpbhfaaGreatDoor
