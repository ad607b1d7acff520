/- The contract of ending, for every place. -/
import Derived.Test.YtmlkhhhjdpbhfaaDoorUnEnd
import Derived.Test.YtmlkhhhjdpbhfaaDoorUnApp
namespace Go.Proofs.YtmlkhhhjdpbhfaaDoor
open Go.RowKit

theorem nameF_zero {s : ByteArray} {p a : Nat} (h : p < s.size) (h0 : bt s p = 0) : nameF s p a = some ([], p + 1) := by rw [nameF_eq, if_pos h, if_pos h0]
theorem nameF_ptr {s : ByteArray} {p a : Nat} (h : p < s.size) (h1 : 192 ≤ bt s p) : nameF s p a = ledF s p a := by
  rw [nameF_eq, if_pos h, if_neg (by omega), if_pos h1]
  rfl
theorem nameF_lab {s : ByteArray} {p a : Nat} (h0 : ¬ bt s p = 0) (h1 : ¬ 192 ≤ bt s p) (hl : labV s p = true) : nameF s p a = (nameF s (p + 1 + btN s p) a).map fun r => (s.extract (p + 1) (p + 1 + btN s p) :: r.1, r.2) := by
  have h : p < s.size := by unfold labV at hl; simp at hl; omega
  rw [nameF_eq, if_pos h, if_neg h0, if_neg h1, if_pos hl]
theorem nameF_no {s : ByteArray} {p a : Nat} (h0 : p < s.size → ¬ bt s p = 0) (h1 : p < s.size → ¬ 192 ≤ bt s p) (hl : labV s p = false) : nameF s p a = none := by
  rw [nameF_eq]
  by_cases h : p < s.size
  · rw [if_pos h, if_neg (h0 h), if_neg (h1 h), if_neg (by simp [hl])]
  · rw [if_neg h]

/-- a reader's place, off the memory -/
def rdPlT (w : World) (rb : Nat) : Nat := match w.cell? ⟨rb, 1, none⟩ with | some (.int _ n) => n.toNat | _ => 0
theorem rdPlT_of {t : TypeId} {w : World} {rb : Nat} {s : ByteArray} {i : Nat} (h : RdT t w rb s i) : rdPlT w rb = i := by
  have : w.cell? ⟨rb, 1, none⟩ = some (.int .i64 i) := h.cell 1
  unfold rdPlT; rw [this]; simp

theorem Tryd.infoU8 : (Tryd.prog.info? 5).map (fun i => (i.zero, i.size, i.bytes)) = some (some (.int .u8 0), 1, 1) := by kernel_rfl
theorem info_parts3 {P : Program} {t : TypeId} {z : Value} {a b : Nat} (h : (P.info? t).map (fun i => (i.zero, i.size, i.bytes)) = some (some z, a, b)) : ∃ i, P.info? t = some i ∧ i.zero = some z ∧ i.size = a ∧ i.bytes = b := by
  obtain ⟨i, hi, he⟩ := Option.map_eq_some_iff.1 h
  simp only [Prod.mk.injEq] at he
  exact ⟨i, hi, he.1, he.2.1, he.2.2⟩

/-- where the loop stands: done: the labels that were read -/
structure EndAt (t : TypeId) (s : ByteArray) (a rb : Nat) (nv : Value) (nm : List UInt8) (w : World) (v1 : Value) (p : Nat) (done : List ByteArray) (wr : World) : Prop where
  lo : a ≤ p
  hi : p ≤ s.size
  rd : RdT t wr rb s p
  row : NmV wr v1 (joinN nm done)
  len : (joinN nm done).length ≤ nm.length + 2 * (p - a)
  fr : NFr rb nv.ownBlock w wr
  ob : v1.ownBlock = nv.ownBlock ∨ ∃ g, v1.ownBlock = some g ∧ w.heap.size ≤ g
  ne : v1.ownBlock ≠ some rb
  eq : nameF s a a = (nameF s p a).map fun r => (done ++ r.1, r.2)

theorem NFr.grown {rb : Nat} {ob ob1 : Option Nat} {w a b : World} (h : NFr rb ob w a) (k : a.grownBy b ob1) (ho : ob1 = ob ∨ ∃ g, ob1 = some g ∧ w.heap.size ≤ g) : NFr rb ob w b :=
  h.next (ob1 := ob1) ⟨k.os, k.tape, k.output, k.size, fun j h1 _ h3 => k.block j h1 h3⟩ ho

/-- a call that turned no block but rb -/
theorem NmV.fr {rb : Nat} {a b : World} {v : Value} {l : List UInt8} (h : NmV a v l) (k : Fr a.heap.size rb a b) (hne : v.ownBlock ≠ some rb) : NmV b v l :=
  owns_blocks h fun g e => k.block g (h.lt g e).2 (fun e2 => hne (by rw [e, e2]))

theorem EndAt.kept {t : TypeId} {s : ByteArray} {a rb : Nat} {nv : Value} {nm : List UInt8} {w : World} {v1 : Value} {p : Nat} {done : List ByteArray} {wr w' : World} (h : EndAt t s a rb nv nm w v1 p done wr) (k : Fr wr.heap.size rb wr w') (hr : RdT t w' rb s p) : EndAt t s a rb nv nm w v1 p done w' :=
  ⟨h.lo, h.hi, hr, h.row.fr k h.ne, h.len, h.fr.fr k, h.ob, h.ne, h.eq⟩

theorem ob_next {ob o1 : Option Nat} {S S1 g : Nat} (h : o1 = ob ∨ ∃ g, o1 = some g ∧ S ≤ g) (h1 : o1 = some g ∨ g = S1) (hS : S ≤ S1) : some g = ob ∨ ∃ g', some g = some g' ∧ S ≤ g' := by
  rcases h1 with h1 | h1
  · rw [← h1]; exact h
  · exact Or.inr ⟨g, rfl, by omega⟩

/-- one label more: w3: behind label; w5: behind the appends -/
theorem endAt_more {t : TypeId} {s : ByteArray} {a rb p n : Nat} {nv v v5 : Value} {nm jd : List UInt8} {w w3 w5 : World} {done : List ByteArray} {lab : ByteArray} (hlo : a ≤ p) (hpn : p + n < s.size) (hls : lab.size ≤ n) (hlen : jd.length ≤ nm.length + 2 * (p - a))
    (hF : NFr rb nv.ownBlock w w3) (hR : RdT t w3 rb s (p + 1 + n)) (hob : v.ownBlock = nv.ownBlock ∨ ∃ g, v.ownBlock = some g ∧ w.heap.size ≤ g) (hne : v.ownBlock ≠ some rb)
    (hE : nameF s a a = (nameF s (p + 1 + n) a).map fun r => ((done ++ [lab]) ++ r.1, r.2)) (h5 : NFr w3.heap.size v.ownBlock w3 w5) (hrow : NmV w5 v5 (joinN nm (done ++ [lab])))
    (hv5 : v5.ownBlock = v.ownBlock ∨ ∃ g, v5.ownBlock = some g ∧ w3.heap.size ≤ g) (_hjd : joinN nm done = jd)
    (hJ : joinN nm (done ++ [lab]) = if jd = [] then lab.data.toList else jd ++ 46 :: lab.data.toList) : EndAt t s a rb nv nm w v5 (p + 1 + n) (done ++ [lab]) w5 := by
  have hrb := hR.lt
  have hsz := hF.size
  have hl : lab.data.toList.length = lab.size := by rw [Array.length_toList]; rfl
  refine ⟨by omega, by omega, ?_, hrow, ?_, hF.next (ob1 := v.ownBlock) ⟨h5.os, h5.tape, h5.output, h5.size, fun k k1 _ k3 => h5.block k k1 (by omega) k3⟩ hob, ?_, ?_, hE⟩
  · unfold RdT Blk at *
    rw [h5.block rb hrb (by omega) (fun e => hne e.symm)]
    exact hR
  · rw [hJ]
    split
    · omega
    · simp only [List.length_append, List.length_cons]; omega
  · rcases hv5 with h | ⟨g, h, hg⟩
    · rw [h]; exact hob
    · exact Or.inr ⟨g, h, by omega⟩
  · rcases hv5 with h | ⟨g, h, hg⟩
    · rw [h]; exact hne
    · rw [h]; intro e; cases e; omega

set_option maxRecDepth 100000 in
set_option maxHeartbeats 4000000 in
theorem ending_step (s : ByteArray) (hs : s.size ≤ 8000) (a : Nat) (ih : ∀ to, to < a → EndS s to) : EndS s a := by
  intro t w rb nv nm hr hn hne ha hl
  obtain ⟨i0, hi0, hz0, hz1, hz2⟩ := info_parts3 Tryd.infoU8
  have HI := hid_of ih
  have HA0 := hid_of (p := EndAt t s a rb nv nm w nv a [] w) ⟨Nat.le_refl _, ha, hr, hn, by simp [joinN], NFr.refl _ _ _, Or.inl rfl, hne, by simp⟩
  have c1 : w.cell? ⟨rb, 1, none⟩ = some (.int .i64 a) := hr.cell 1
  have HR := hid_of hr
  have HNm := hid_of hn
  clear ih hn hr
  go_enter Tryd.func50, Tryd.ntmps50
  go_wp2_with fail
  go_loopw [1, 7, 8, 9, 10] (fun v1 _ _ _ _ wr => ∃ (vv : Value) (W : World) (p : Nat) (done : List ByteArray), vv = v1 ∧ W = wr ∧ Hid (EndAt t s a rb nv nm w vv p done W)) (fun _ _ _ _ _ wr => s.size - rdPlT wr rb)
  case atStart => exact ⟨nv, w, a, [], rfl, rfl, HA0⟩
  case round =>
    obtain ⟨vv, wr, p, done, hvv, hwr, HA⟩ := hrel
    subst hvv hwr
    have hrd := HA.out.rd
    have hp1 := HA.out.lo
    have hp2 := HA.out.hi
    have hpl := rdPlT_of hrd
    have HPl := hid_of hpl
    obtain ⟨np, capv, hnv⟩ := owns_slice HA.out.row
    subst hnv
    have HRd := hid_of hrd
    clear hrd hpl
    go_wp2_with fail
    refine (takeJustT_calls t wr rb s p 0 HRd.out hs hp2).mono ?_
    rintro e w1 ⟨hsm, ⟨h1, rfl, h3⟩ | ⟨h1, rfl, h3⟩⟩
    · -- the name's end
      have hz : p < s.size ∧ bt s p = 0 := by unfold tkOk at h1; simp at h1; omega
      have HE := hid_of (p := nameF s a a = some (done, p + 1)) (by rw [HA.out.eq, nameF_zero hz.1 hz.2]; simp)
      have HF := hid_of (HA.out.fr.fr (hsm.fr _))
      have HN1 := hid_of (HA.out.row.fr (hsm.fr _) HA.out.ne)
      have HRd1 := hid_of h3
      clear hz h1 h3 hsm
      simp only
      go_wp2_with fail
      go_ret2
      exact ⟨HF.out, Or.inl ⟨done, p + 1, .slice np (joinN nm done).length capv, HE.out, rfl, HRd1.out, HN1.out, HA.out.ne, HA.out.ob⟩⟩
    · have hz : p < s.size → ¬ bt s p = 0 := by
        intro x; unfold tkOk at h1; simp at h1; have := h1 x; have := bt_lo s p; omega
      have HZ := hid_of hz
      have HA1 := hid_of (HA.out.kept (hsm.fr _) h3)
      have HRd1 := hid_of h3
      clear hz h1 h3 hsm
      simp only
      go_wp2_with fail
      refine (takeT_calls t w1 rb s p 192 255 HRd1.out hs hp2).mono ?_
      rintro e w2 ⟨hsm, ⟨h1, rfl, h3⟩ | ⟨h1, rfl, h3⟩⟩
      · -- a pointer
        have hz : p < s.size ∧ 192 ≤ bt s p := by unfold tkOk at h1; simp at h1; omega
        obtain ⟨hz1', hz2'⟩ := hz
        have HE := hid_of (p := nameF s a a = (ledF s p a).map fun r => (done ++ r.1, r.2)) (by rw [HA.out.eq, nameF_ptr hz1' hz2'])
        have hF : NFr rb nv.ownBlock w w2 := HA1.out.fr.fr (hsm.fr _)
        have HF := hid_of hF
        have HN2 := hid_of (HA1.out.row.fr (hsm.fr _) HA.out.ne)
        have HRd2 := hid_of h3
        clear h1 h3 hsm hF
        have hb1 := bt_lo s p
        have hb2 := bt_hi s p
        simp only
        go_wp2_with fail
        refine (led_calls s hs t w2 rb p a _ _ HRd2.out HN2.out HA.out.ne hz1' hz2' ha (by have := HA.out.len; omega) HI.out).mono ?_
        rintro e w3 ⟨hfr, ⟨ls, q, nv', hr', rfl, hrd, hnm', hne', hob⟩ | ⟨hr', rfl⟩⟩
        · obtain ⟨np', capv', hnv'⟩ := owns_slice hnm'
          subst hnv'
          have HE2 := hid_of (p := nameF s a a = some (done ++ ls, q)) (by rw [HE.out, hr']; rfl)
          have HFr := hid_of hfr
          have HRd3 := hid_of hrd
          have HNm3 := hid_of hnm'
          have HNe := hid_of hne'
          have HOb := hid_of hob
          clear hfr hr' hrd hnm' hne' hob
          simp only
          go_wp2_with fail
          go_ret2
          have hsz := HF.out.size
          refine ⟨HF.out.next HFr.out HA.out.ob, Or.inl ⟨done ++ ls, q, .slice np' (joinN (joinN nm done) ls).length capv', HE2.out, rfl, HRd3.out, ?_, HNe.out, ?_⟩⟩
          · rw [joinN_append]; exact HNm3.out
          · rcases HOb.out with h | ⟨g, h, hg⟩
            · rw [h]; exact HA.out.ob
            · exact Or.inr ⟨g, h, by omega⟩
        · have HE2 := hid_of (p := nameF s a a = none) (by rw [HE.out, hr']; rfl)
          have HFr := hid_of hfr
          clear hfr hr'
          simp only
          go_wp2_with fail
          go_ret2
          exact ⟨HF.out.next HFr.out HA.out.ob, Or.inr ⟨HE2.out, rfl⟩⟩
      · have hz : p < s.size → ¬ 192 ≤ bt s p := by
          intro x; unfold tkOk at h1; simp at h1; have := h1 x; have := bt_hi s p; omega
        have HZ2 := hid_of hz
        have HA2 := hid_of (HA1.out.kept (hsm.fr _) h3)
        have HRd2 := hid_of h3
        clear hz h1 h3 hsm
        simp only
        go_wp2_with fail
        refine (label_calls t w2 rb s p HRd2.out hs hp2).mono ?_
        rintro e w3 ⟨hsm, ⟨h1, rfl, h3⟩ | ⟨h1, rfl, h3⟩⟩
        rotate_left
        · have HE := hid_of (p := nameF s a a = none) (by rw [HA.out.eq, nameF_no (a := a) HZ.out (fun x => by have := HZ2.out x; omega) h1]; rfl)
          have HF := hid_of (HA2.out.fr.fr hsm)
          clear h1 h3 hsm
          simp only
          go_wp2_with fail
          go_ret2
          exact ⟨HF.out, Or.inr ⟨HE.out, rfl⟩⟩
        · have hlp : p < s.size ∧ btN s p ≤ 15 ∧ p + btN s p < s.size := by
            have hx := btN_eq s p
            have hy := h1
            unfold labV at hy; simp at hy
            omega
          obtain ⟨hps, hn15, hpn⟩ := hlp
          have HE := hid_of (p := nameF s a a = (nameF s (p + 1 + btN s p) a).map fun r => ((done ++ [s.extract (p + 1) (p + 1 + btN s p)]) ++ r.1, r.2)) (by
            rw [HA.out.eq, nameF_lab (HZ.out hps) (by have := HZ2.out hps; omega) h1]
            cases nameF s (p + 1 + btN s p) a <;> simp)
          have HF := hid_of (HA2.out.fr.fr hsm)
          have HN3 := hid_of (HA2.out.row.fr hsm HA.out.ne)
          have hlen := HA.out.len
          have HRd3 := hid_of h3
          have hrbl : rb < w3.heap.size := h3.lt
          clear h1 h3 hsm
          have HJ := hid_of (p := joinN nm (done ++ [s.extract (p + 1) (p + 1 + btN s p)]) = if joinN nm done = [] then (s.extract (p + 1) (p + 1 + btN s p)).data.toList else joinN nm done ++ 46 :: (s.extract (p + 1) (p + 1 + btN s p)).data.toList) (by rw [joinN_append]; rfl)
          have hls : (s.extract (p + 1) (p + 1 + btN s p)).size ≤ btN s p := by rw [ByteArray.size_extract]; omega
          generalize hlab : s.extract (p + 1) (p + 1 + btN s p) = lab at *
          clear hlab
          generalize hnb : btN s p = n at *
          generalize hjd : joinN nm done = jd at *
          simp only
          by_cases hj : jd.length = 0
          · have hj' : ¬ 0 < (jd.length : Int) := by omega
            go_wp2_with
              (at_builtin
               refine wpList_append_str _ rfl _ _ 39 9 rfl 0 5 i0 Tryd.underlying39 Tryd.underlying9 hi0 hz0 hz1 hz2 (.slice np jd.length capv) jd.length (byC jd) rfl HN3.out lab rfl (by unfold maxLen; omega) (by omega) (by omega) ?_
               intro v5 w5 hown5 hgrow hx5)
            have HA5 := hid_of (p := EndAt t s a rb nv nm w v5 (p + 1 + n) (done ++ [lab]) w5) (by
              refine endAt_more hp1 hpn hls hlen HF.out HRd3.out HA.out.ob HA.out.ne HE.out ⟨hgrow.os, hgrow.tape, hgrow.output, hgrow.size, fun k k1 _ k3 => hgrow.block k k1 k3⟩ ?_ ?_ hjd HJ.out
              · have h0 : jd = [] := List.eq_nil_of_length_eq_zero hj
                rw [HJ.out, if_pos h0]
                have h3 : lab.data.toList.length = jd.length + lab.size := by rw [hj, Nat.zero_add, Array.length_toList]; rfl
                have h4 : byC lab.data.toList = byC jd ++ Lib.strCells lab := by rw [h0]; rfl
                unfold NmV
                rw [h3, h4]
                exact hown5
              · rcases hx5 with h | h
                · exact Or.inl h
                · exact Or.inr ⟨_, h, Nat.le_refl _⟩)
            go_roundw
            case rel => exact ⟨v5, w5, _, _, rfl, rfl, HA5⟩
            case measure => rw [rdPlT_of HA5.out.rd, HPl.out]; omega
          · have hj' : 0 < (jd.length : Int) := by omega
            go_wp2_with
              (at_builtin
               first
                 | (refine wpList_append_lies _ rfl _ _ _ rfl 0 5 i0 _ 1 1 Tryd.underlying39 hi0 hz0 hz1 hz2 rfl (by omega) (.slice np jd.length capv) jd.length (byC jd) rfl (HN3.out.alloc _) ⟨w3.heap.size, 0, none⟩ 1 1 [.int .u8 46] rfl rfl (World.news_of_block (cs := #[.int .u8 46]) (t := 5) (fr := (0, 0)) (heap_alloc_new w3 _)) (by simp [Value.oneCell']) (by omega) (by unfold maxLen; omega) (by omega) (by simp) (w3.heap.size + 1) (by simp) ?_
                    intro g4 cap4 w4 hown4 hgrow4 hat4 hlt4)
                 | (refine wpList_append_str _ rfl _ _ 39 9 rfl 0 5 i0 Tryd.underlying39 Tryd.underlying9 hi0 hz0 hz1 hz2 (.slice (some ⟨g4, 0, none⟩) (jd.length + 1) cap4) (jd.length + 1) (byC jd ++ [.int .u8 46]) rfl hown4 lab rfl (by unfold maxLen; omega) (by omega) (by omega) ?_
                    intro v5 w5 hown5 hgrow hx5))
            have HA5 := hid_of (p := EndAt t s a rb nv nm w v5 (p + 1 + n) (done ++ [lab]) w5) (by
              have hg1 := hgrow4.size
              simp at hg1
              refine endAt_more hp1 hpn hls hlen HF.out HRd3.out HA.out.ob HA.out.ne HE.out ⟨hgrow.os.trans hgrow4.os, hgrow.tape.trans hgrow4.tape, hgrow.output.trans hgrow4.output, by have := hgrow.size; omega, fun k k1 _ k3 => ?_⟩ ?_ ?_ hjd HJ.out
              · rw [hgrow.block k (by omega) (fun e => ?_), hgrow4.block k (by simp; omega) k3, Below.heap_alloc _ _ _ k1]
                simp [Value.ownBlock] at e
                rcases hat4 with h | h
                · rw [h, ← e] at k3; exact k3 rfl
                · omega
              · rw [HJ.out, if_neg (by intro e; rw [e] at hj; exact hj rfl)]
                unfold NmV
                have : byC (jd ++ 46 :: lab.data.toList) = byC jd ++ [.int .u8 46] ++ Lib.strCells lab := by simp [byC, Lib.strCells]
                rw [this]
                have h2 : (jd ++ 46 :: lab.data.toList).length = jd.length + 1 + lab.size := by have h3 : lab.data.toList.length = lab.size := by { rw [Array.length_toList]; rfl }; simp only [List.length_append, List.length_cons]; omega
                rw [h2]
                exact hown5
              · rcases hx5 with h | h
                · rcases hat4 with h4 | h4
                  · exact Or.inl (by rw [h, h4]; rfl)
                  · exact Or.inr ⟨g4, by rw [h]; rfl, by omega⟩
                · exact Or.inr ⟨_, h, by omega⟩)
            go_roundw
            case rel => exact ⟨v5, w5, _, _, rfl, rfl, HA5⟩
            case measure => rw [rdPlT_of HA5.out.rd, HPl.out]; omega

theorem ending_calls (s : ByteArray) (hs : s.size ≤ 8000) (a : Nat) : EndS s a := by
  induction a using Nat.strongRecOn with
  | _ a ih => exact ending_step s hs a ih

end Go.Proofs.YtmlkhhhjdpbhfaaDoor
