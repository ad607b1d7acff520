/- The contract of the law Named. -/
import Derived.Test.YtmlkhhhjdpbhfaaDoorNmLaw
import Derived.Test.YtmlkhhhjdpbhfaaDoorPkLaw
namespace Go.Proofs.YtmlkhhhjdpbhfaaDoor
open Go.RowKit

theorem mk_all {B : Nat} {w0 w : World} {ns : List (List UInt8)} {lv : Value} (h : MkAt B w0 ns lv w) : RowS w lv (ns.map bs) := RowS.of_owns (by rw [List.length_map]; exact h.row)
theorem mk_sz {ns : List (List UInt8)} (h : ns.all nmOk = true) : ∀ b ∈ ns.map bs, b.size ≤ maxLen := by
  intro b hb
  obtain ⟨n, hn, rfl⟩ := List.mem_map.1 hb
  have hn : nmOk n = true := List.all_eq_true.1 h _ hn
  have hn60 : n.length ≤ 60 := by unfold nmOk at hn; simp at hn; exact hn.1
  rw [bs_size]; unfold maxLen; omega
theorem mk_pack {ns : List (List UInt8)} (h : ns.all nmOk = true) (h40 : ns.length ≤ 40) : packV (listsOf (ns.map bs)) = (bs (packL ns).1, 0) := by
  rw [listsOf_bs, packV_ok (by omega) h]

/-- the list of three -/
def abcL : List ByteArray := [⟨#[97, 46, 98]⟩, ⟨#[99, 46, 98]⟩, ⟨#[98]⟩]
theorem abc_row (w : World) : RowS (w.alloc (.cells #[.string ⟨#[97, 46, 98]⟩, .string ⟨#[99, 46, 98]⟩, .string ⟨#[98]⟩] 9)) (.slice (some ⟨w.heap.size, 0, none⟩) 3 3) abcL := by
  refine Or.inr ⟨_, 0, 3, rfl, fun i hi => ?_⟩
  have hb : Blk (w.alloc (.cells #[.string ⟨#[97, 46, 98]⟩, .string ⟨#[99, 46, 98]⟩, .string ⟨#[98]⟩] 9)) w.heap.size _ 9 := Blk.new w _ _
  rw [Nat.zero_add, hb.cell i]
  have hi3 : i < 3 := hi
  have h : i = 0 ∨ i = 1 ∨ i = 2 := by omega
  rcases h with rfl | rfl | rfl <;> rfl
theorem abc_sz : ∀ b ∈ abcL, b.size ≤ maxLen := by
  intro b hb
  unfold abcL at hb
  simp at hb
  rcases hb with rfl | rfl | rfl <;> decide

theorem row_news {w : World} {g o : Nat} {l : List ByteArray} (hc : ∀ i (h : i < l.length), w.cell? ⟨g, o + i, none⟩ = some (.string l[i])) : ∀ j u, (strC l)[j]? = some u → w.cell? ((⟨g, o, none⟩ : Addr).add j) = some u := by
  intro j u hu
  have hj : j < l.length := by have := (List.getElem?_eq_some_iff.1 hu).1; rwa [strC_length] at this
  have hadd : (⟨g, o, none⟩ : Addr).add j = ⟨g, o + j, none⟩ := by unfold Addr.add; split <;> simp_all
  rw [hadd, hc j hj, ← hu]
  simp only [strC]
  rw [List.getElem?_map, List.getElem?_eq_getElem hj]
  rfl
theorem strC_one (l : List ByteArray) : ∀ u ∈ strC l, u.oneCell' = true := by
  intro u hu
  simp only [strC, List.mem_map] at hu
  obtain ⟨x, _, rfl⟩ := hu
  rfl

set_option maxRecDepth 100000 in
set_option maxHeartbeats 1000000 in
theorem named_calls (w : World) (v : Value) (l : List ByteArray) (hv : RowS w v l) (hn : l.length ≤ 8796093021960) (hs : ∀ b ∈ l, b.size ≤ maxLen) (hM : MxW w) :
    Calls Tryd.prog 5 #[v] w fun e w' => e = .returned (.bool true) ∧ Below w.heap.size w w' := by
  obtain ⟨i0, hi0, hz0, hz1, hz2⟩ := info_parts3 Tryd.infoStr
  have h1w := hM.lt
  have HV := hid_of hv
  have HVB := hid_of (p := l ≠ [] → ∀ g, v.ownBlock = some g → g < w.heap.size) hv.lt
  have HS := hid_of hs
  have HM := hid_of hM
  obtain ⟨p, cap, hpv⟩ := hv.form
  subst hpv
  clear hv hs hM
  have HA0 := hid_of (p := MkAt w.heap.size w [] (.slice none 0 0) w) ⟨rfl, World.ownsRow_nil _ _ _ _, Below.refl _ _⟩
  go_enter Tryd.func5, Tryd.ntmps5
  go_wp2_with fail
  go_loopw [3, 4, 5, 6] (fun v3 v4 v5 _ wr => ∃ (vv : Value) (W : World) (ns : List (List UInt8)) (k fl : Nat), vv = v3 ∧ W = wr ∧ v4 = .int .i64 fl ∧ v5 = .int .i64 k ∧ k ≤ l.length ∧ k ≤ 39 ∧ fl ≤ 62 * k ∧ Hid (fl = fullN ns) ∧ Hid (k = ns.length) ∧ Hid (MkAt w.heap.size w ns vv W)) (fun _ _ v5 _ _ => l.length - (intOf v5).toNat)
  case atStart => exact ⟨_, _, [], 0, 0, rfl, rfl, rfl, rfl, by omega, by omega, by omega, rfl, rfl, HA0⟩
  case round =>
    obtain ⟨vv, wr, ns, k, fl, hvv, hwr, rfl, rfl, hkl, hk39, hfl, HFl, HK, HA⟩ := hrel
    subst hvv hwr
    have HR := hid_of (HV.out.below HA.out.fr HVB.out)
    obtain ⟨np, ncap, hnv⟩ := owns_slice HA.out.row
    rw [← HK.out] at hnv
    subst hnv
    by_cases hgo : k < l.length ∧ k < 39
    · obtain ⟨hlt, hlt39⟩ := hgo
      have hlt' : (k : Int) < (l.length : Int) := by omega
      have hlt39' : (k : Int) < 39 := by omega
      have hsz := HA.out.fr.size
      rcases HR.out with ⟨_, rfl⟩ | ⟨g, o, cap', hveq, hc⟩
      · simp at hlt
      injection hveq with e1 e2 e3
      subst e1 e3
      have cI := hc k hlt
      have hsk := HS.out l[k] (List.getElem_mem hlt)
      generalize l[k] = x at cI hsk
      clear hc
      go_wp2_with fail
      refine (name_keep x hsk wr).mono ?_
      rintro e w1 ⟨y, rfl, hy, hw1⟩
      rw [hw1]
      clear hw1 cI
      have HO := hid_of (p := wr.ownsRow w.heap.size 9 1 (.slice np k ncap) k (strC (ns.map bs))) (by have := HA.out.row; rw [← HK.out] at this; exact this)
      have HY := hid_of hy
      have hy60 : (bs y).size ≤ 60 := by rw [bs_size]; unfold nmOk at hy; simp at hy; exact hy.1
      have HSy := hid_of (bs_size y)
      clear hy
      simp only
      go_wp2_with
        (at_builtin
         refine wpList_append_lies _ rfl _ _ _ rfl w.heap.size 9 i0 _ 1 16 Tryd.underlying24 hi0 hz0 hz1 hz2 rfl (by omega) (.slice np k ncap) k (strC (ns.map bs)) rfl (HO.out.alloc _) ⟨wr.heap.size, 0, none⟩ 1 1 [.string (bs y)] rfl rfl (World.news_of_block (cs := #[.string (bs y)]) (t := 9) (fr := (0, 0)) (heap_alloc_new wr _)) (by simp [Value.oneCell']) (by omega) (by unfold maxLen; omega) (by omega) (by simp; omega) (wr.heap.size + 1) (by simp) ?_
         intro g4 cap4 w4 hown4 hgrow4 hat4 hlt4
         have HA4 := hid_of (p := MkAt w.heap.size w (ns ++ [y]) (.slice (some ⟨g4, 0, none⟩) (k + 1) cap4) w4) (by
           have hA := HA.out
           have hk := HK.out
           subst hk
           exact hA.step (by omega) HY.out _ hown4 hgrow4)
         clear hown4 hgrow4 hat4 hlt4)
      go_roundw
      case rel => exact ⟨_, _, ns ++ [y], k + 1, fl + (bs y).size + 2, rfl, rfl, by go_num, by go_num, by omega, by omega, by omega, hid_of (by rw [fullN_snoc, ← HFl.out, HSy.out]; omega), hid_of (by rw [List.length_append, ← HK.out]; rfl), HA4⟩
      case measure => simp [intOf]; omega
    · have hx : (¬ (k : Int) < (l.length : Int)) ∨ ((k : Int) < (l.length : Int) ∧ ¬ (k : Int) < 39) := by omega
      have HOk := hid_of HA.out.ok
      have h40 : ns.length ≤ 40 := by rw [← HK.out]; omega
      have HPk := hid_of (mk_pack HA.out.ok h40)
      have HUn := hid_of (unp_back ns HA.out.ok h40)
      have HLe := hid_of (pack_le ns)
      have HSzb := hid_of (bs_size (packL ns).1)
      obtain ⟨b, hb⟩ : ∃ b, bs (packL ns).1 = b := ⟨_, rfl⟩
      have HBe := hid_of hb
      rw [hb] at HPk HUn HSzb
      have hbf : ¬ ((fl : Int) < (b.size : Int)) := by have h1 := HSzb.out; have h2 := HLe.out; have h3 := HFl.out; omega
      have hbm : b.size ≤ maxLen := by unfold maxLen; omega
      have HMk := hid_of (mk_all HA.out)
      have hsz := HA.out.fr.size
      have HAbc := hid_of (p := packV (listsOf abcL) = (⟨#[1, 97, 1, 98, 0, 1, 99, 192, 2, 192, 2]⟩, 0)) abc_pack
      clear hb hgo h40 HLe HFl HR HV HVB HS
      rcases hx with hlt' | ⟨hlt', hlt39'⟩
      all_goals
        go_wp2_with fail
        refine (packNames_calls wr (.slice np k ncap) (ns.map bs) HMk.out (by rw [List.length_map, ← HK.out]; unfold maxLen; omega) (mk_sz HOk.out) (HM.out.below HA.out.fr h1w)).mono ?_
        rintro e w1 ⟨rfl, hb1⟩
        rw [HPk.out]
        have HB1 := hid_of hb1
        clear hb1
        simp only
        go_wp2_with fail
        refine (unpackNames_calls b hbm w1).mono ?_
        rintro e w2 ⟨hb2, m, rfl, hown2⟩
        rw [HUn.out] at hown2 ⊢
        obtain ⟨mp, mcap, hmv⟩ := owns_slice hown2
        simp only [List.length_map] at hmv hown2
        rw [← HK.out] at hmv hown2
        subst hmv
        have HB2 := hid_of (p := Below wr.heap.size wr w2) (HB1.out.trans (low_of hb2 HB1.out.size))
        have HM2 := hid_of (p := RowS w2 (.slice mp k mcap) (ns.map bs)) (RowS.of_owns (by rw [List.length_map, ← HK.out]; exact hown2))
        clear hb2 hown2 HB1
        simp only
        go_wp2_with fail
        have HB2a := hid_of (p := Below w2.heap.size w2 (w2.alloc (.cells #[.string ⟨#[97, 46, 98]⟩, .string ⟨#[99, 46, 98]⟩, .string ⟨#[98]⟩] 9))) ((Below.refl _ _).alloc (Nat.le_refl _) _)
        refine (packNames_calls _ _ abcL (abc_row w2) (by decide) abc_sz (HM.out.below ((HA.out.fr.trans (low_of HB2.out hsz)).trans (low_of HB2a.out (by have := HB2.out.size; omega))) h1w)).mono ?_
        rintro e w3 ⟨rfl, hb3⟩
        rw [HAbc.out]
        have HB3 := hid_of (p := Below w2.heap.size w2 w3) (HB2a.out.trans (low_of hb3 HB2a.out.size))
        clear hb3
        simp only
        go_wp2_with fail
        have HE3 := hid_of (p := Below wr.heap.size wr w3) (HB2.out.trans (low_of HB3.out HB2.out.size))
        have HL3 := hid_of (p := RowS w3 (.slice np k ncap) (ns.map bs)) (HMk.out.below HE3.out HMk.out.lt)
        have HM3 := hid_of (p := RowS w3 (.slice mp k mcap) (ns.map bs)) (HM2.out.below HB3.out HM2.out.lt)
        have HLm := hid_of (p := (ns.map bs).length = k) (by rw [List.length_map, HK.out])
        clear HB2 HB2a HB3 HM2
        go_loopw [14] (fun v14 wq => ∃ (j n : Nat), v14 = .int .i64 j ∧ j ≤ k ∧ wq = w3.drewN n) (fun v14 _ => k - (intOf v14).toNat)
        case atStart => exact ⟨0, 0, rfl, by omega, rfl⟩
        case round =>
          obtain ⟨j, n, rfl, hj, hwq⟩ := hrel
          subst hwq
          by_cases hlt : j < k
          · have hltj : (j : Int) < (k : Int) := by omega
            rcases HL3.out with ⟨_, he⟩ | ⟨g, o, cap', hveq, hc⟩
            · have := HLm.out; rw [he] at this; simp at this; omega
            rcases HM3.out with ⟨_, he⟩ | ⟨mg, mo, mcap', hmeq, hmc⟩
            · have := HLm.out; rw [he] at this; simp at this; omega
            injection hveq with e1 e2 e3
            injection hmeq with f1 f2 f3
            subst e1 f1
            have hjl : j < (ns.map bs).length := by rw [HLm.out]; exact hlt
            have c1 := hc j hjl
            have c2 := hmc j hjl
            generalize (ns.map bs)[j] = x at c1 c2
            clear hc hmc e2 e3 f2 f3 hjl
            go_wp2_with fail
            go_quiet (fail)
            go_wp2_with fail
            go_roundw
            case rel => exact ⟨j + 1, _, by go_num, by omega, rfl⟩
            case measure => simp [intOf]; omega
          · have hltj : ¬ (j : Int) < (k : Int) := by omega
            have HE4 := hid_of (p := Below w.heap.size w (w3.drewN n)) ((HA.out.fr.trans (low_of HE3.out hsz)).trans ⟨rfl, rfl, rfl, Nat.le_refl _, fun _ _ => rfl⟩)
            have HL4 := hid_of (p := RowS (w3.drewN n) (.slice np k ncap) (ns.map bs)) (HL3.out.below (B := w3.heap.size) ⟨rfl, rfl, rfl, Nat.le_refl _, fun _ _ => rfl⟩ HL3.out.lt)
            generalize w3.drewN n = w4 at *
            by_cases hk0 : k = 0
            · have hk0' : ((k : Int) == 0) = true := by simp; omega
              have hbe : b.toList.isEmpty = true := by
                have hn0 : ns = [] := List.length_eq_zero_iff.1 (by rw [← HK.out]; exact hk0)
                rw [← HBe.out, hn0, ByteArray.toList_eq, bs_list]; rfl
              clear hk0
              go_wp2_with fail
              go_ret
              exact ⟨rfl, HE4.out⟩
            · have hk0' : ((k : Int) == 0) = false := by simp; omega
              have hkp : 0 < k := by omega
              clear hk0
              obtain ⟨n0, ns', hns⟩ : ∃ n0 ns', ns = n0 :: ns' := by
                cases hh : ns with
                | nil => have := HK.out; rw [hh] at this; simp at this; omega
                | cons a r => exact ⟨a, r, rfl⟩
              have HNs := hid_of hns
              clear hns
              have h0l : 0 < (ns.map bs).length := by rw [HLm.out]; exact hkp
              have hx0 : (ns.map bs)[0] = bs n0 := by simp [HNs.out]
              rcases HL4.out with ⟨_, he⟩ | ⟨g, o, cap', hveq, hc⟩
              · rw [he] at h0l; simp at h0l
              injection hveq with e1 e2 e3
              subst e1
              have c0 := hc 0 h0l
              rw [hx0, Nat.add_zero] at c0
              have hgl : g < w4.heap.size := HL4.out.lt (by intro e; rw [e] at h0l; simp at h0l) g rfl
              have HC := hid_of hc
              have HOpen := hid_of (pack_open n0 ns' (by rw [← HNs.out]; exact HOk.out) (by rw [← HNs.out, ← HK.out]; omega))
              have HAgain := hid_of (pack_again n0 ns')
              have hn0ok : nmOk n0 = true := List.all_eq_true.1 HOk.out n0 (by rw [HNs.out]; simp)
              have HN0 := hid_of hn0ok
              have hx60 : (bs n0).size ≤ 60 := by rw [bs_size]; unfold nmOk at hn0ok; simp at hn0ok; exact hn0ok.1
              have hbi : ∃ h : (bs n0).size + 1 < b.size, b[(bs n0).size + 1] = 0 := by
                obtain ⟨p1, p2, h1, h2⟩ := HOpen.out
                have hbb : b = bs (p1 ++ [0] ++ p2) := by rw [← HBe.out, HNs.out, h1]
                subst hbb
                have hz : (bs n0).size + 1 = p1.length := by rw [bs_size, h2]
                have hlt2 : p1.length < (bs (p1 ++ [0] ++ p2)).size := by rw [bs_size]; simp
                refine ⟨by rw [hz]; exact hlt2, ?_⟩
                have key : ∀ q (hq : q < (bs (p1 ++ [0] ++ p2)).size), q = p1.length → (bs (p1 ++ [0] ++ p2))[q] = 0 := fun q hq e => by
                  subst e
                  show (p1 ++ [0] ++ p2).toArray[p1.length] = 0
                  simp
                exact key _ _ hz
              obtain ⟨hbi1, hbi2⟩ := hbi
              have hs4 := HE4.out.size
              clear hn0ok hc hx0 h0l e2 e3 HL3 HM3 HE3
              go_wp2_with
                (at_builtin
                 first
                 | (refine wpList_append_lies _ rfl _ _ _ rfl w.heap.size 9 i0 _ 1 16 Tryd.underlying24 hi0 hz0 hz1 hz2 rfl (by omega) (.slice none 0 0) 0 [] rfl (World.ownsRow_nil _ _ _ _) ⟨g, o, none⟩ k ncap (strC (ns.map bs)) rfl (by rw [strC_length, HLm.out]; omega) (row_news HC.out) (strC_one _) (by omega) (by unfold maxLen; omega) (by omega) (by omega) w4.heap.size rfl ?_
                    intro g5 cap5 w5 hown5 hgrow5 hat5 hlt5
                    rw [Nat.zero_add, List.nil_append] at hown5
                    rw [Nat.zero_add]
                    have c5 : w5.cell? ⟨g, o, none⟩ = some (.string (bs n0)) := by rw [World.cell?_of_block (w := w4) (hgrow5.block g hgl (by simp [Value.ownBlock]))]; exact c0
                    have HO5 := hid_of hown5
                    have HE5 := hid_of (p := Below w.heap.size w w5) (HE4.out.trans ⟨hgrow5.os, hgrow5.tape, hgrow5.output, hgrow5.size, fun q hq => hgrow5.block q (by omega) (by simp [Value.ownBlock])⟩)
                    have hs5 := hgrow5.size
                    have hg5 : w4.heap.size ≤ g5 := by
                      rcases hat5 with h | h
                      · simp [Value.ownBlock] at h
                      · omega
                    clear hown5 hgrow5 hat5 hlt5)
                 | (refine wpList_append_lies _ rfl _ _ _ rfl w.heap.size 9 i0 _ 1 16 Tryd.underlying24 hi0 hz0 hz1 hz2 rfl (by omega) (.slice (some ⟨g5, 0, none⟩) k cap5) k (strC (ns.map bs)) rfl (HO5.out.alloc _) ⟨w5.heap.size, 0, none⟩ 1 1 [.string (bs n0)] rfl rfl (World.news_of_block (cs := #[.string (bs n0)]) (t := 9) (fr := (0, 0)) (heap_alloc_new w5 _)) (by simp [Value.oneCell']) (by omega) (by unfold maxLen; omega) (by omega) (by simp; omega) (w5.heap.size + 1) (by simp) ?_
                    intro g6 cap6 w6 hown6 hgrow6 hat6 hlt6
                    have hz6 := hgrow6.size
                    simp at hz6
                    have hk6 : ∀ q, q < w4.heap.size → w6.heap[q]? = w5.heap[q]? := fun q hq => by
                      rw [hgrow6.block q (by simp; omega) (fun e => by simp [Value.ownBlock] at e; omega), Below.heap_alloc _ _ _ (by omega)]
                    have c6 : w6.cell? ⟨g, o, none⟩ = some (.string (bs n0)) := by rw [World.cell?_of_block (w := w5) (hk6 g hgl)]; exact c5
                    have HO6 := hid_of hown6
                    have HE6 := hid_of (p := Below w.heap.size w w6) (HE5.out.trans ⟨hgrow6.os, hgrow6.tape, hgrow6.output, by omega, fun q hq => hk6 q (by omega)⟩)
                    clear hown6 hgrow6 hat6 hlt6 hk6))
              have HOk2 := hid_of (p := (ns ++ [n0]).all nmOk = true) (by rw [List.all_append, HOk.out]; simpa using HN0.out)
              have HMore := hid_of (p := packV (listsOf ((ns ++ [n0]).map bs)) = (b ++ ⟨#[192, 0]⟩, 0)) (by
                rw [mk_pack HOk2.out (by rw [List.length_append, ← HK.out]; simp; omega), HNs.out, HAgain.out, ← HNs.out, ← bs_app, HBe.out]
                rfl)
              have HR6 := hid_of (p := RowS w6 (.slice (some ⟨g6, 0, none⟩) (k + 1) cap6) ((ns ++ [n0]).map bs)) (RowS.of_owns (B := w.heap.size) (by
                have h1 := HO6.out
                have h2 : ((ns ++ [n0]).map bs).length = k + 1 := by rw [List.length_map, List.length_append, ← HK.out]; rfl
                rw [h2]
                simpa [strC] using h1))
              refine (packNames_calls w6 _ ((ns ++ [n0]).map bs) HR6.out (by rw [List.length_map, List.length_append, ← HK.out]; unfold maxLen; simp; omega) (mk_sz HOk2.out) (HM.out.below HE6.out h1w)).mono ?_
              rintro e w7 ⟨rfl, hb7⟩
              rw [HMore.out]
              have c7 : w7.cell? ⟨g, o, none⟩ = some (.string (bs n0)) := by rw [World.cell?_of_block (w := w6) (hb7.block g (by omega))]; exact c6
              have HE7 := hid_of (p := Below w.heap.size w w7) (HE6.out.trans (low_of hb7 HE6.out.size))
              clear hb7 c6 c5 c0
              generalize bs n0 = x0 at *
              simp only
              go_wp2_with fail
              go_ret
              exact ⟨rfl, HE7.out⟩

end Go.Proofs.YtmlkhhhjdpbhfaaDoor
