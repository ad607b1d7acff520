/- The contract of the document's answer's PackNames. -/
import Derived.Test.YtmlkhhhjdpbhfaaDoorPkRef2
namespace Go.Proofs.YtmlkhhhjdpbhfaaDoor
open Go.RowKit

theorem bs_append (a b : List UInt8) : bs a ++ bs b = bs (a ++ b) := by
  apply ByteArray.ext
  apply Array.ext'
  simp [bs]

theorem conv_new (w W : World) (l : List UInt8) (n : Nat) (hn : l.length = n) (cs : Array Value) (hc : cs.toList = byC l) (hW : W.heap = (w.alloc (.cells cs 5)).heap) : (convert 39 9 (.slice (some ⟨w.heap.size, 0, none⟩) n n)).run Tryd.prog W = .ok (.string (bs l)) W := by
  subst hn
  have hb : Blk W w.heap.size cs 5 := by
    have := Blk.new w cs 5
    unfold Blk at *
    rw [hW]; exact this
  refine run_convert_bytes_back _ 39 9 5 ⟨w.heap.size, 0, none⟩ l.length l Tryd.underlying39 Tryd.underlying5 Tryd.underlying9 fun j hj => ?_
  have hadd : (⟨w.heap.size, 0, none⟩ : Addr).add j = ⟨w.heap.size, j, none⟩ := by unfold Addr.add; split <;> simp_all
  rw [hadd, hb.cell j, ← Array.getElem?_toList, hc]
  simp [byC, hj]

theorem Tryd.infoEnd : (Tryd.prog.info? 65).map (fun i => (i.zero, i.size, i.bytes)) = some (some (.agg #[.string ByteArray.empty, .int .i64 0]), 2, 24) := by kernel_rfl

/-- where the loop over a name's endings stands -/
structure PrAt (B : Nat) (w0 : World) (R : List UInt8 × List (List UInt8 × Nat)) (l : List UInt8) (st : List UInt8 × List (List UInt8 × Nat)) (x : ByteArray) (lv : Value) (w : World) : Prop where
  out : x = bs st.1
  row : w.ownsRow B 65 2 lv st.2.length (endC st.2)
  fr : Below B w0 w
  inn : EndsIn st
  len : st.1.length + l.length ≤ 15999
  l60 : l.length ≤ 60
  ok : (pieces l).all (fun p => lblOk (bs p)) = true
  go : packF (l.length + 1) l st = R

/-- between two names -/
structure PrB (B : Nat) (w0 : World) (st : List UInt8 × List (List UInt8 × Nat)) (x : ByteArray) (lv : Value) (w : World) : Prop where
  out : x = bs st.1
  row : w.ownsRow B 65 2 lv st.2.length (endC st.2)
  fr : Below B w0 w

theorem PrB.size {B : Nat} {w0 : World} {st : List UInt8 × List (List UInt8 × Nat)} {x : ByteArray} {lv : Value} {w : World} (h : PrB B w0 st x lv w) : x.size = st.1.length := by rw [h.out, bs_size]

set_option maxRecDepth 100000 in
set_option maxHeartbeats 4000000 in
theorem packR_calls (w : World) (v : Value) (l : List ByteArray) (hv : RowS w v l) (hlm : l.length ≤ maxLen) (hsz : ∀ b ∈ l, b.size ≤ maxLen) :
    Calls Tryd.prog 17 #[v] w fun e w' => PkRes (packV (listsOf l)) w e w' := by
  obtain ⟨i0, hi0, hz0, hz1, hz2⟩ := info_parts3 Tryd.infoEnd
  unfold maxLen at hlm
  obtain ⟨p, cap, rfl⟩ := hv.form
  have HLo := hid_of (listsOf_length l)
  by_cases h40 : 40 < l.length
  · have h40' : 40 < (l.length : Int) := by omega
    have HV := hid_of (packV_long (ns := listsOf l) (by rw [HLo.out]; exact h40))
    go_enter Tryd.func17, Tryd.ntmps17
    go_wp2_with fail
    go_ret2
    exact ⟨by rw [HV.out]; rfl, Below.refl _ _⟩
  have h40' : ¬ 40 < (l.length : Int) := by omega
  have HRow := hid_of hv
  have HSz := hid_of hsz
  clear hv hsz
  have hcell : ∀ (w1 : World), Below w.heap.size w w1 → ∀ i (hi : i < l.length), ∃ g o, p = some ⟨g, o, none⟩ ∧ w1.cell? ⟨g, o + i, none⟩ = some (.string l[i]) := fun w1 hb i hi => by
    rcases HRow.out with ⟨h1, h2⟩ | ⟨g, o, cap', h1, h2⟩
    · rw [h2] at hi; simp at hi
    · injection h1 with h1
      refine ⟨g, o, h1, ?_⟩
      have hc := h2 i hi
      rw [World.cell?_of_block (w := w) (hb.block g (World.block_lt_of_cell? w _ hc))]
      exact hc
  have HCell := hid_of hcell
  clear hcell
  have hl40 : l.length ≤ 40 := by omega
  go_enter Tryd.func17, Tryd.ntmps17
  go_wp2_with fail
  go_loop [4, 5] (fun v4 _ => ∃ (i : Nat), v4 = .int .i64 i ∧ i ≤ l.length ∧ Hid (nmTo (listsOf l) i = true)) (fun v4 _ => l.length - (intOf v4).toNat)
  case atStart => exact ⟨0, rfl, by omega, (show nmTo (listsOf l) 0 = true by rfl)⟩
  case round =>
    obtain ⟨i, rfl, hi, h1⟩ := hrel
    by_cases hlt : i < l.length
    · have hlt' : (i : Int) < (l.length : Int) := by omega
      obtain ⟨g, o, hp, ci⟩ := HCell.out w (Below.refl _ _) i hlt
      subst hp
      have HSu := hid_of (p := nmTo (listsOf l) (i + 1) = (nmTo (listsOf l) i && nmOk l[i].data.toList)) (by rw [nmTo_succ _ _ (by rw [HLo.out]; exact hlt), listsOf_get l i hlt])
      have HSi := hid_of (HSz.out l[i] (List.getElem_mem hlt))
      generalize hb : l[i] = b at *
      clear hb
      have HC := hid_of (p := ∀ W, Calls Tryd.prog 25 #[.string b] W fun e w' => e = .returned (.bool (nmOk b.data.toList)) ∧ w' = W) (fun W => isNameR_calls b.data.toList (by rw [size_list]; exact HSi.out) W)
      cases ho : nmOk b.data.toList
      · have HO := hid_of ho
        clear ho
        have HV := hid_of (p := packV (listsOf l) = (ByteArray.empty, 14)) (packV_no (by rw [HLo.out]; omega) (nmTo_no _ (i + 1) (by rw [HSu.out, HO.out, Bool.and_false])))
        go_wp2_with (go_at_call 25; refine (HC.out _).mono ?_; rintro e w' ⟨rfl, rfl⟩; rw [HO.out])
        go_ret2
        exact ⟨by rw [HV.out]; rfl, Below.refl _ _⟩
      · have HO := hid_of ho
        clear ho
        go_wp2_with (go_at_call 25; refine (HC.out _).mono ?_; rintro e w' ⟨rfl, rfl⟩; rw [HO.out])
        go_round
        case rel => exact ⟨i + 1, by go_num, by omega, (show nmTo (listsOf l) (i + 1) = true by rw [HSu.out, HO.out, h1.out]; rfl)⟩
        case measure => simp [intOf]; omega
    · have hlt' : ¬ (i : Int) < (l.length : Int) := by omega
      have HAll := hid_of (p := (listsOf l).all nmOk = true) (by rw [← nmTo_all _ i (by rw [HLo.out]; omega)]; exact h1.out)
      go_wp2_with fail
      have HB0 := hid_of (p := PrB w.heap.size w (packL ((listsOf l).take 0)) ByteArray.empty (.slice none 0 0) w) ⟨rfl, World.ownsRow_nil _ _ _ _, Below.refl _ _⟩
      go_loopw [6, 7, 8, 9, 10, 11] (fun v6 v7 v8 _ _ _ w' => ∃ (W : World) (j : Nat) (x : ByteArray) (lv : Value), W = w' ∧ v8 = .int .i64 j ∧ j ≤ l.length ∧ v6 = .string x ∧ lv = v7 ∧ Hid (PrB w.heap.size w (packL ((listsOf l).take j)) x lv W)) (fun _ _ v8 _ _ _ _ => l.length - (intOf v8).toNat)
      case atStart => exact ⟨_, 0, _, _, rfl, rfl, by omega, rfl, rfl, HB0⟩
      case round =>
        obtain ⟨w1, j, x, lv, hw1, rfl, hj, rfl, hlv, HB⟩ := hrel
        subst hw1 hlv
        clear HB0
        have hinv := packL_inv (listsOf l) HAll.out j (by rw [HLo.out]; exact hj)
        obtain ⟨hin, hlen⟩ := hinv
        have HIn := hid_of hin
        clear hin
        have hxs := HB.out.size
        have hxl : x.size ≤ 62 * j := by omega
        have HXs := hid_of hxs
        clear hxs
        by_cases hjl : j < l.length
        · have hjl' : (j : Int) < (l.length : Int) := by omega
          obtain ⟨g, o, hp, cj⟩ := HCell.out w1 HB.out.fr j hjl
          subst hp
          have HTk := hid_of (p := packL ((listsOf l).take (j + 1)) = packN l[j].data.toList (packL ((listsOf l).take j))) (by rw [packL_take _ _ (by rw [HLo.out]; exact hjl), listsOf_get l j hjl])
          have hnm : nmOk l[j].data.toList = true := by
            have := List.all_eq_true.1 HAll.out l[j].data.toList (by unfold listsOf; exact List.mem_map.2 ⟨_, List.getElem_mem hjl, rfl⟩)
            exact this
          have hnl : l[j].data.toList.length ≤ 60 ∧ (pieces l[j].data.toList).all (fun p => lblOk (bs p)) = true := by unfold nmOk at hnm; simpa using hnm
          have HA0 := hid_of (p := PrAt w.heap.size w (packL ((listsOf l).take (j + 1))) l[j].data.toList (packL ((listsOf l).take j)) x lv w1) ⟨HB.out.out, HB.out.row, HB.out.fr, HIn.out, by omega, hnl.1, hnl.2, HTk.out.symm⟩
          clear hnm hnl
          generalize hb : l[j] = b at *
          clear hb
          go_wp2_with fail
          go_loopw [6, 7, 9, 10, 11] (fun v6 v7 v9 _ _ w' => ∃ (W : World) (x : ByteArray) (lv : Value) (l' : List UInt8) (st : List UInt8 × List (List UInt8 × Nat)), W = w' ∧ v6 = .string x ∧ lv = v7 ∧ v9 = .string (bs l') ∧ Hid (PrAt w.heap.size w (packL ((listsOf l).take (j + 1))) l' st x lv W)) (fun _ _ v9 _ _ _ => msS v9)
          case atStart => exact ⟨_, x, lv, b.data.toList, _, rfl, rfl, rfl, rfl, HA0⟩
          case round =>
            obtain ⟨w2, y, lv', l', st, hw2, rfl, hlv', rfl, HA⟩ := hrel
            subst hw2 hlv'
            clear HA0
            have hph := pieces_head HA.out.ok
            have hlb := lbl_len hph.1
            rw [List.length_take] at hlb
            have hdl := dotAt_le l'
            have hl60 := HA.out.l60
            have hlen2 := HA.out.len
            have hstl := HA.out.inn.1
            have hys : y.size = st.1.length := by rw [HA.out.out, bs_size]
            have hyl : y.size ≤ 16000 := by omega
            have HYs := hid_of hys
            clear hys
            have hne : (bs l').toList.isEmpty = false := by
              rw [ByteArray.toList_eq, bs_list]
              cases l' with
              | nil => simp at hlb
              | cons c r => rfl
            have HPh := hid_of hph
            clear hph
            obtain ⟨ep, ecap, hev⟩ := owns_slice HA.out.row
            subst hev
            have hfrs := HA.out.fr.size
            cases hf : findE st.2 l' with
            | some p =>
              have hp := findE_lt HA.out.inn hf
              have HR := hid_of (p := packL ((listsOf l).take (j + 1)) = (st.1 ++ ptrB p, st.2)) (by rw [← HA.out.go, packF_hit hf])
              have HBe := hid_of (p := begV (findE st.2 l') = (p : Int)) (by rw [hf]; rfl)
              clear hf
              obtain ⟨mb, hmb, hms, hcv⟩ : ∃ mb : ByteArray, mb = bs (ptrB p) ∧ mb.size = 2 ∧ (convert 39 9 (.slice (some ⟨w2.heap.size, 0, none⟩) 2 2)).run Tryd.prog (w2.alloc (.cells #[.int .u8 (192 + (p : Int) / 256), .int .u8 ((p : Int) % 256)] 5)) = .ok (.string mb) (w2.alloc (.cells #[.int .u8 (192 + (p : Int) / 256), .int .u8 ((p : Int) % 256)] 5)) := ⟨_, rfl, rfl, conv_new w2 _ (ptrB p) 2 rfl _ (byC_ptr p (by omega)).symm rfl⟩
              have HMb := hid_of hmb
              clear hmb
              go_wp2_with (go_at_call 26; refine (began_calls _ _ _ _ HA.out.row (by omega) l').mono ?_; rintro e w' ⟨rfl, hw'⟩; rw [hw', HBe.out]; clear hw' w')
              have HB2 := hid_of (p := PrB w.heap.size w (packL ((listsOf l).take (j + 1))) (y ++ mb) (.slice ep st.2.length ecap) (w2.alloc (.cells #[.int .u8 (192 + (p : Int) / 256), .int .u8 ((p : Int) % 256)] 5))) (by
                rw [HR.out]
                exact ⟨by rw [HA.out.out, HMb.out, bs_append], HA.out.row.alloc _, HA.out.fr.alloc (by omega) _⟩)
              go_roundw
              case rel => exact ⟨_, j + 1, _, _, rfl, by go_num, by omega, rfl, rfl, HB2⟩
              case measure => simp [intOf]; omega
            | none =>
              have HF := hid_of hf
              have HBe := hid_of (p := begV (findE st.2 l') = -1) (by rw [hf]; rfl)
              clear hf
              go_wp2_with (first
                | (go_at_call 26; refine (began_calls _ _ _ _ HA.out.row (by omega) l').mono ?_; rintro e w' ⟨rfl, hw'⟩; rw [hw', HBe.out]; clear hw' w')
                | (at_builtin
                   refine wpList_append_lies _ rfl _ _ _ rfl w.heap.size 65 i0 _ 2 24 Tryd.underlying62 hi0 hz0 hz1 hz2 rfl (by omega) (.slice ep st.2.length ecap) st.2.length (endC st.2) rfl (HA.out.row.alloc _) ⟨w2.heap.size, 0, none⟩ 1 1 [.string (bs l'), .int .i64 y.size] rfl rfl (World.news_of_block (cs := #[.string (bs l'), .int .i64 y.size]) (t := 65) (fr := (0, 0)) (heap_alloc_new w2 _)) (by simp [Value.oneCell']) (by omega) (by unfold maxLen; omega) (by omega) (by simp; omega) (w2.heap.size + 1) (by simp) ?_
                   intro g4 cap4 w4 hown4 hgrow4 hat4 hlt4)
                | (go_at_call 27; refine (dot_calls l' hl60 _).mono ?_; rintro e w' ⟨rfl, hw'⟩; rw [hw']; clear hw' w'))
              have hz4 := hgrow4.size
              simp at hz4
              obtain ⟨kb, hkb, hks, hcv⟩ : ∃ kb : ByteArray, kb = bs [UInt8.ofNat (dotAt l')] ∧ kb.size = 1 ∧ (convert 39 9 (.slice (some ⟨w4.heap.size, 0, none⟩) 1 1)).run Tryd.prog (w4.alloc (.cells #[.int .u8 (dotAt l' : Nat)] 5)).drew = .ok (.string kb) (w4.alloc (.cells #[.int .u8 (dotAt l' : Nat)] 5)).drew := ⟨_, rfl, rfl, conv_new w4 _ [UInt8.ofNat (dotAt l')] 1 rfl _ (byC_one (dotAt l') (by omega)).symm rfl⟩
              have HKb := hid_of hkb
              have hls : (bs l').size = l'.length := bs_size l'
              have hxz : ((bs l').extract 0 (dotAt l')).size ≤ 60 := by rw [ByteArray.size_extract]; omega
              have hdl2 : (dotAt l' : Int) ≤ ((bs l').size : Int) := by omega
              have HEx := hid_of (p := (bs l').extract 0 (dotAt l') = bs (l'.take (dotAt l'))) (by rw [bs_extract]; simp)
              have HEx2 := hid_of (p := (bs l').extract (dotAt l' + 1) (bs l').size = bs (l'.drop (dotAt l' + 1))) (by rw [bs_extract, List.take_of_length_le (by rw [List.length_drop, bs_size]; omega)])
              have HLs := hid_of hls
              have hls60 : (bs l').size ≤ 60 := by omega
              have HOw := hid_of (p := (w4.alloc (.cells #[.int .u8 (dotAt l' : Nat)] 5)).drew.ownsRow w.heap.size 65 2 (.slice (some ⟨g4, 0, none⟩) (st.2.length + 1) cap4) (st.2.length + 1) (endC (st.2 ++ [(l', st.1.length)]))) (by
                have h5 : endC (st.2 ++ [(l', st.1.length)]) = endC st.2 ++ [.string (bs l'), .int .i64 y.size] := by rw [endC_append, HYs.out]; rfl
                rw [h5]
                exact (hown4.alloc _).drew)
              have HBw := hid_of (p := Below w.heap.size w (w4.alloc (.cells #[.int .u8 (dotAt l' : Nat)] 5)).drew) (by
                refine HA.out.fr.trans ⟨hgrow4.os, hgrow4.tape, hgrow4.output, by simp; omega, fun k hk => ?_⟩
                show (w4.alloc _).heap[k]? = _
                rw [Below.heap_alloc _ _ _ (by omega), hgrow4.block k (by simp; omega) (fun e => by have := (HA.out.row.lt k e.symm).1; omega), Below.heap_alloc _ _ _ (by omega)])
              clear hkb hls hown4 hgrow4 hat4 hlt4
              by_cases hde : dotAt l' = l'.length
              · have hde' : ((dotAt l' : Int) == ((bs l').size : Int)) = true := by have := HLs.out; simp; omega
                have HR := hid_of (p := packL ((listsOf l).take (j + 1)) = (st.1 ++ UInt8.ofNat (dotAt l') :: l'.take (dotAt l') ++ [0], st.2 ++ [(l', st.1.length)])) (by rw [← HA.out.go, packF_stop HF.out hde])
                clear hde
                go_region
                go_wp2_with fail
                have HB2 := hid_of (p := PrB w.heap.size w (packL ((listsOf l).take (j + 1))) (y ++ kb ++ (bs l').extract 0 (dotAt l') ++ { data := #[0] }) (.slice (some ⟨g4, 0, none⟩) (st.2.length + 1) cap4) (w4.alloc (.cells #[.int .u8 (dotAt l' : Nat)] 5)).drew) (by
                  rw [HR.out]
                  refine ⟨?_, by rw [List.length_append]; exact HOw.out, HBw.out⟩
                  rw [HA.out.out, HKb.out, HEx.out, show (ByteArray.mk #[0]) = bs [0] from rfl, bs_append, bs_append, bs_append]
                  congr 1
                  simp)
                go_roundw
                case rel => exact ⟨_, j + 1, _, _, rfl, by go_num, by omega, rfl, rfl, HB2⟩
                case measure => simp [intOf]; omega
              · have hde' : ((dotAt l' : Int) == ((bs l').size : Int)) = false := by have := HLs.out; simp; omega
                have hdl3 : (dotAt l' : Int) + 1 ≤ ((bs l').size : Int) := by have := HLs.out; omega
                have HR := hid_of (p := packL ((listsOf l).take (j + 1)) = packF l'.length (l'.drop (dotAt l' + 1)) (st.1 ++ UInt8.ofNat (dotAt l') :: l'.take (dotAt l'), st.2 ++ [(l', st.1.length)])) (by rw [← HA.out.go, packF_go HF.out hde])
                have hdlt : dotAt l' < l'.length := by omega
                have HDe := hid_of hde
                clear hde
                go_region
                go_wp2_with fail
                have HA2 := hid_of (p := PrAt w.heap.size w (packL ((listsOf l).take (j + 1))) (l'.drop (dotAt l' + 1)) (st.1 ++ UInt8.ofNat (dotAt l') :: l'.take (dotAt l'), st.2 ++ [(l', st.1.length)]) (y ++ kb ++ (bs l').extract 0 (dotAt l')) (.slice (some ⟨g4, 0, none⟩) (st.2.length + 1) cap4) (w4.alloc (.cells #[.int .u8 (dotAt l' : Nat)] 5)).drew) (by
                  refine ⟨?_, by rw [List.length_append]; exact HOw.out, HBw.out, HA.out.inn.lab l' (l'.take (dotAt l')) _, by simp; omega, by simp; omega, HPh.out.2 HDe.out, ?_⟩
                  · rw [HA.out.out, HKb.out, HEx.out, bs_append, bs_append]
                    congr 1
                    simp
                  · rw [HR.out]
                    exact packF_same _ _ _ _ (by omega) (by rw [List.length_drop]; omega))
                go_roundw
                case rel => exact ⟨_, _, _, _, _, rfl, rfl, rfl, by rw [← HEx2.out], HA2⟩
                case measure =>
                  show ((bs l').extract (dotAt l' + 1) (bs l').size).size < (bs l').size
                  rw [ByteArray.size_extract]; have := HLs.out; omega
        · have hjl' : ¬ (j : Int) < (l.length : Int) := by omega
          have HV := hid_of (p := packV (listsOf l) = (x, 0)) (by rw [packV_ok (by rw [HLo.out]; omega) HAll.out, HB.out.out, List.take_of_length_le (by rw [HLo.out]; omega)])
          go_wp2_with fail
          go_ret2
          exact ⟨by rw [HV.out]; rfl, HB.out.fr⟩

end Go.Proofs.YtmlkhhhjdpbhfaaDoor
