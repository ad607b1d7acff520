/- The contract of the law Cut. -/
import Derived.Test.YtmlkhhhjdpbhfaaDoorCutPick
import Derived.Test.YtmlkhhhjdpbhfaaDoorNmNamed
namespace Go.Proofs.YtmlkhhhjdpbhfaaDoor
open Go.RowKit

theorem cut_pre (l : List UInt8) (k : Nat) : (bs l).extract 0 k = bs (l.take k) := by
  apply ByteArray.ext
  apply Array.ext'
  simp [bs]

theorem ptr_conv (w : World) (a n : Nat) (h : a + n < 16384) : (convert 39 9 (.slice (some ⟨w.heap.size, 0, none⟩) 2 2)).run Tryd.prog (w.alloc (.cells #[.int .u8 (192 + ((a : Int) + (n : Int)) / 256), .int .u8 (((a : Int) + (n : Int)) % 256)] 5)) =
    .ok (.string (bs (ptrB (a + n)))) (w.alloc (.cells #[.int .u8 (192 + ((a : Int) + (n : Int)) / 256), .int .u8 (((a : Int) + (n : Int)) % 256)] 5)) := by
  have e1 : (192 + ((a : Int) + (n : Int)) / 256) = ((UInt8.ofNat (192 + (a + n) / 256)).toNat : Int) := by
    rw [UInt8.toNat_ofNat']; omega
  have e2 : (((a : Int) + (n : Int)) % 256) = ((UInt8.ofNat ((a + n) % 256)).toNat : Int) := by
    rw [UInt8.toNat_ofNat']; omega
  rw [e1, e2]
  refine nm_conv0 (B := w.heap.size) (l := ptrB (a + n)) ⟨by simp [ptrB, byC], Or.inr ⟨w.heap.size, 2, _, rfl, Nat.le_refl _, heap_alloc_new w _, by simp [ptrB], by unfold maxLen; omega, by simp, ?_⟩⟩
  simp [ptrB, byC]

set_option maxRecDepth 100000 in
set_option maxHeartbeats 1000000 in
theorem cut_calls (w : World) (v : Value) (l : List ByteArray) (at' to' : Int) (ha1 : -9223372036854775808 ≤ at') (ha2 : at' ≤ 9223372036854775807) (ht1 : -9223372036854775808 ≤ to') (ht2 : to' ≤ 9223372036854775807) (hv : RowS w v l) (hn : l.length ≤ 8796093021960) (hs : ∀ b ∈ l, b.size ≤ maxLen) (hM : MxW w) :
    Calls Tryd.prog 6 #[v, .int .i64 at', .int .i64 to'] w fun e w' => e = .returned (.bool true) ∧ Below w.heap.size w w' := by
  obtain ⟨i0, hi0, hz0, hz1, hz2⟩ := info_parts3 Tryd.infoStr
  have h1w := hM.lt
  have HV := hid_of hv
  have HVB := hid_of (p := l ≠ [] → ∀ g, v.ownBlock = some g → g < w.heap.size) hv.lt
  have HS := hid_of hs
  have HM := hid_of hM
  have HAt := hid_of (And.intro ha1 ha2)
  have HTo := hid_of (And.intro ht1 ht2)
  obtain ⟨p, cap, hpv⟩ := hv.form
  subst hpv
  clear hv hs hM ha1 ha2 ht1 ht2
  have HA0 := hid_of (p := MkAt w.heap.size w [] (.slice none 0 0) w) ⟨rfl, World.ownsRow_nil _ _ _ _, Below.refl _ _⟩
  go_enter Tryd.func6, Tryd.ntmps6
  go_wp2_with fail
  go_loopw [7, 8, 9] (fun v7 v8 _ wr => ∃ (vv : Value) (W : World) (ns : List (List UInt8)) (k : Nat), vv = v7 ∧ W = wr ∧ v8 = .int .i64 k ∧ k ≤ l.length ∧ k ≤ 39 ∧ Hid (k = ns.length) ∧ Hid (MkAt w.heap.size w ns vv W)) (fun _ v8 _ _ => l.length - (intOf v8).toNat)
  case atStart => exact ⟨_, _, [], 0, rfl, rfl, rfl, by omega, by omega, rfl, HA0⟩
  case round =>
    obtain ⟨vv, wr, ns, k, hvv, hwr, rfl, hkl, hk39, HK, HA⟩ := hrel
    subst hvv hwr
    have HR := hid_of (HV.out.below HA.out.fr HVB.out)
    obtain ⟨np, ncap, hnv⟩ := owns_slice HA.out.row
    rw [← HK.out] at hnv
    subst hnv
    have hsz := HA.out.fr.size
    have HO := hid_of (p := wr.ownsRow w.heap.size 9 1 (.slice np k ncap) k (strC (ns.map bs))) (by have := HA.out.row; rw [← HK.out] at this; exact this)
    by_cases hgo : k < l.length ∧ k < 39
    · obtain ⟨hlt, hlt39⟩ := hgo
      have hlt' : (k : Int) < (l.length : Int) := by omega
      have hlt39' : (k : Int) < 39 := by omega
      rcases HR.out with ⟨_, rfl⟩ | ⟨g, o, cap', hveq, hc⟩
      · simp at hlt
      injection hveq with e1 e2 e3
      subst e1 e3
      have cI := hc k hlt
      have hsk := HS.out l[k] (List.getElem_mem hlt)
      generalize l[k] = x at cI hsk
      clear hc
      go_wp2_with fail
      refine (name_keep x hsk wr).mono ?_
      rintro e w1 ⟨y, rfl, hy, hw1⟩
      rw [hw1]
      clear hw1 cI
      have HY := hid_of hy
      clear hy
      simp only
      go_wp2_with
        (at_builtin
         refine wpList_append_lies _ rfl _ _ _ rfl w.heap.size 9 i0 _ 1 16 Tryd.underlying24 hi0 hz0 hz1 hz2 rfl (by omega) (.slice np k ncap) k (strC (ns.map bs)) rfl (HO.out.alloc _) ⟨wr.heap.size, 0, none⟩ 1 1 [.string (bs y)] rfl rfl (World.news_of_block (cs := #[.string (bs y)]) (t := 9) (fr := (0, 0)) (heap_alloc_new wr _)) (by simp [Value.oneCell']) (by omega) (by unfold maxLen; omega) (by omega) (by simp; omega) (wr.heap.size + 1) (by simp) ?_
         intro g4 cap4 w4 hown4 hgrow4 hat4 hlt4
         have HA4 := hid_of (p := MkAt w.heap.size w (ns ++ [y]) (.slice (some ⟨g4, 0, none⟩) (k + 1) cap4) w4) (by
           have hA := HA.out
           have hk := HK.out
           subst hk
           exact hA.step (by omega) HY.out _ hown4 hgrow4)
         clear hown4 hgrow4 hat4 hlt4)
      go_roundw
      case rel => exact ⟨_, _, ns ++ [y], k + 1, rfl, rfl, by go_num, by omega, by omega, hid_of (by rw [List.length_append, ← HK.out]; rfl), HA4⟩
      case measure => simp [intOf]; omega
    · have hx : (¬ (k : Int) < (l.length : Int)) ∨ ((k : Int) < (l.length : Int) ∧ ¬ (k : Int) < 39) := by omega
      clear hgo HR HV HVB HS
      rcases hx with hlt' | ⟨hlt', hlt39'⟩
      all_goals
        go_wp2_with
          (at_builtin
           refine wpList_append_lies _ rfl _ _ _ rfl w.heap.size 9 i0 _ 1 16 Tryd.underlying24 hi0 hz0 hz1 hz2 rfl (by omega) (.slice np k ncap) k (strC (ns.map bs)) rfl (HO.out.alloc _) ⟨wr.heap.size, 0, none⟩ 1 1 [.string (bs [122, 122])] rfl rfl (World.news_of_block (cs := #[.string (bs [122, 122])]) (t := 9) (fr := (0, 0)) (heap_alloc_new wr _)) (by simp [Value.oneCell']) (by omega) (by unfold maxLen; omega) (by omega) (by simp; omega) (wr.heap.size + 1) (by simp) ?_
           intro g4 cap4 w4 hown4 hgrow4 hat4 hlt4
           have HA4 := hid_of (p := MkAt w.heap.size w (ns ++ [[122, 122]]) (.slice (some ⟨g4, 0, none⟩) (k + 1) cap4) w4) (by
             have hA := HA.out
             have hk := HK.out
             subst hk
             exact hA.step (by omega) (by decide) _ hown4 hgrow4)
           clear hown4 hgrow4 hat4 hlt4)
        have HK4 := hid_of (p := k + 1 = (ns ++ [[122, 122]]).length) (by rw [List.length_append, ← HK.out]; rfl)
        have HOpen := hid_of (p := ns ++ [[122, 122]] ≠ []) (by simp)
        clear HA HK HO HA0
        generalize ns ++ [[122, 122]] = nz at HA4 HK4 HOpen
        have HOk := hid_of HA4.out.ok
        have h40 : nz.length ≤ 40 := by rw [← HK4.out]; omega
        have HPk := hid_of (mk_pack HA4.out.ok h40)
        have HSzb := hid_of (bs_size (packL nz).1)
        have HL := hid_of (packL_len nz HOk.out h40)
        have HShort := hid_of (unp_short nz HOk.out h40 HOpen.out)
        have HBad := hid_of (unp_bad nz HOk.out h40)
        have HPos := hid_of (p := 0 < (packL nz).1.length) (by
          cases hz : nz with
          | nil => exact absurd hz HOpen.out
          | cons a r =>
            obtain ⟨p1, p2, h1, h2⟩ := pack_open a r (by rw [← hz]; exact HOk.out) (by rw [← hz]; exact h40)
            rw [h1]; simp; omega)
        obtain ⟨b, hb⟩ : ∃ b, bs (packL nz).1 = b := ⟨_, rfl⟩
        have HBe := hid_of hb
        rw [hb] at HPk HSzb
        have hb0 : 0 < (b.size : Int) := by have h1 := HSzb.out; have h2 := HPos.out; omega
        have hbl : (b.size : Int) ≤ 2480 := by have h1 := HSzb.out; have h2 := HL.out; omega
        have hb0' : ((b.size : Int) == 0) = false := by rw [beq_eq_false_iff_ne]; omega
        have hs4 := HA4.out.fr.size
        clear hb h40
        refine (packNames_calls w4 _ (nz.map bs) (mk_all HA4.out) (by rw [List.length_map, ← HK4.out]; unfold maxLen; omega) (mk_sz HOk.out) (HM.out.below HA4.out.fr h1w)).mono ?_
        rintro e w5 ⟨rfl, hb5⟩
        rw [HPk.out]
        have HE5 := hid_of (p := Below w.heap.size w w5) (HA4.out.fr.trans (low_of hb5 hs4))
        clear hb5
        simp only
        go_wp2_with fail
        refine (pick_calls at' b.size HAt.out.1 HAt.out.2 hb0 (by omega) w5).mono ?_
        rintro e w6 ⟨q, hq, rfl, hw6⟩
        rw [hw6]
        clear hw6
        simp only
        go_wp2_with fail
        have HCut := hid_of (p := b.extract 0 q = bs ((packL nz).1.take q)) (by rw [← HBe.out, cut_pre])
        have hq2 := HShort.out q (by have := HSzb.out; omega)
        rw [← HCut.out] at hq2
        have hcm : (b.extract 0 q).size ≤ maxLen := by unfold maxLen; rw [ByteArray.size_extract]; omega
        refine (unpackNames_calls (b.extract 0 q) hcm w5).mono ?_
        rintro e w7 ⟨hb7, m, rfl, hown7⟩
        obtain ⟨mp, mcap, hmv⟩ := owns_slice hown7
        subst hmv
        have HE7 := hid_of (p := Below w.heap.size w w7) (HE5.out.trans (low_of hb7 HE5.out.size))
        clear hown7 hb7 hcm HCut HShort
        generalize unpV (b.extract 0 q) = r at hq2 ⊢
        obtain ⟨hq1, hf⟩ := hq2
        rw [← HK4.out] at hq1
        generalize r.1.length = rl at hq1 ⊢
        generalize r.2.1 = f1 at hf ⊢
        generalize r.2.2 = pl
        have hq1' : ¬ ((k : Int) + 1 ≤ (rl : Int)) := by omega
        rcases hf with rfl | rfl
        all_goals
          simp only
          go_wp2_with fail
          refine (pick_calls to' (16384 - (b.size : Int)) HTo.out.1 HTo.out.2 (by omega) (by omega) w7).mono ?_
          rintro e w8 ⟨q2, hq2, rfl, hw8⟩
          rw [hw8]
          clear hw8
          have hp2 : b.size + q2 < 16384 := by omega
          have hcv := ptr_conv w7 b.size q2 hp2
          have HBd := hid_of (HBad.out (b.size + q2) (by have := HSzb.out; omega) hp2)
          have HPt := hid_of (p := b ++ bs (ptrB (b.size + q2)) = bs ((packL nz).1 ++ ptrB (b.size + q2))) (by rw [← HBe.out, bs_app])
          have HPs := hid_of (p := (bs (ptrB (b.size + q2))).size = 2) rfl
          generalize ptrB (b.size + q2) = pt at hcv HBd HPt HPs
          have hps := HPs.out
          simp only
          go_wp2_with fail
          refine (unpackNames_calls _ (by rw [HPt.out, bs_size, List.length_append]; have h1 := HSzb.out; have h2 := HPs.out; rw [bs_size] at h2; unfold maxLen; omega) _).mono ?_
          rintro e w9 ⟨hb9, m9, rfl, hown9⟩
          rw [HPt.out, HBd.out] at hown9 ⊢
          rw [← HSzb.out]
          obtain ⟨mp9, mcap9, hmv9⟩ := owns_slice hown9
          subst hmv9
          have HE9 := hid_of (p := Below w.heap.size w w9) (((HE7.out).alloc HE7.out.size _).trans (low_of hb9 (by have := HE7.out.size; simp; omega)))
          clear hown9 hb9 hcv
          simp only
          go_wp2_with fail
          go_ret
          exact ⟨rfl, HE9.out⟩

end Go.Proofs.YtmlkhhhjdpbhfaaDoor
