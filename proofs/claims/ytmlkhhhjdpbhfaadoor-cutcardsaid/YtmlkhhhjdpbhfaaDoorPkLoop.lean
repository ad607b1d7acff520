/- The contract of the packing's pack: one name more. -/
import Derived.Test.YtmlkhhhjdpbhfaaDoorPkPack
import Derived.Deep.WholeRow
namespace Go.Proofs.YtmlkhhhjdpbhfaaDoor
open Go.RowKit

theorem isMap_put {H : Type} {D : DataW H} (h : Maps.IsMap D) (k : Lit) (d : DataW H) : Maps.IsMap (D.put k d) := by
  obtain ⟨es, rfl⟩ := h
  exact ⟨_, rfl⟩

/-- a new ending is noted -/
theorem MapV.put {w' : World} {b : Nat} {ends : List (List UInt8 × Nat)} {D : DataW Unit} {l : List UInt8} {p : Nat} (hm : Maps.IsMap D) (hh : ∀ l, Maps.has D (.string l) = (findE ends l).isSome ∧ ∀ p, findE ends l = some p → ∀ z, D.atKey (.string l) z = .lit (.int .i64 p))
    (hf : findE ends l = none) (hown : w'.ownsMap Tryd.prog 9 (plainElem Tryd.prog 3) b (ends.length + 1) (D.put (.string l) (.lit (.int .i64 p)))) : MapV w' b (ends ++ [(l, p)]) := by
  refine ⟨_, by rw [List.length_append]; exact hown, isMap_put hm _ _, fun x => ?_⟩
  rw [findE_none_append hf]
  by_cases hx : x = l
  · subst hx
    rw [if_pos rfl]
    have hk : WideAt.IsKeyLit (.string x) := trivial
    exact ⟨Maps.has_put_same hm hk _, fun q hq z => by cases hq; exact Maps.atKey_put_same hm hk _ _⟩
  · rw [if_neg hx]
    have hne : (Lit.string x) ≠ .string l := fun e => hx (by injection e)
    refine ⟨by rw [Maps.has_put_other hne]; exact (hh x).1, fun q hq z => by rw [Maps.atKey_put_other hne]; exact (hh x).2 q hq z⟩

/-- where the loop over a name's endings stands -/
structure PkAt (w0 : World) (B pb mb : Nat) (R : List UInt8 × List (List UInt8 × Nat)) (more : Bool) (l : List UInt8) (st : List UInt8 × List (List UInt8 × Nat)) (bv : Value) (w : World) : Prop where
  pk : PkV w B pb mb bv st
  fr : Below B w0 w
  mx : MxW w
  inn : EndsIn st
  len : st.1.length + l.length ≤ if more = true then 15999 else 16000
  l60 : l.length ≤ 60
  ok : more = true → (pieces l).all (fun p => lblOk (bs p)) = true
  go : more = true → packF (l.length + 1) l st = R
  stop : more = false → (st.1 ++ [0], st.2) = R

theorem packF_stop {l : List UInt8} {f : Nat} {st : List UInt8 × List (List UInt8 × Nat)} (h : findE st.2 l = none) (hd : dotAt l = l.length) : packF (f + 1) l st = (st.1 ++ UInt8.ofNat (dotAt l) :: l.take (dotAt l) ++ [0], st.2 ++ [(l, st.1.length)]) := by
  unfold packF; rw [h]; simp only; rw [if_pos hd]
theorem packF_go {l : List UInt8} {f : Nat} {st : List UInt8 × List (List UInt8 × Nat)} (h : findE st.2 l = none) (hd : ¬ dotAt l = l.length) : packF (f + 1) l st = packF f (l.drop (dotAt l + 1)) (st.1 ++ UInt8.ofNat (dotAt l) :: l.take (dotAt l), st.2 ++ [(l, st.1.length)]) := by
  rw [packF, h]; simp only; rw [if_neg hd]
theorem packF_hit {l : List UInt8} {f p : Nat} {st : List UInt8 × List (List UInt8 × Nat)} (h : findE st.2 l = some p) : packF (f + 1) l st = (st.1 ++ ptrB p, st.2) := by
  unfold packF; rw [h]

/-- more fuel than bytes changes nothing -/
theorem packF_same : ∀ (f g : Nat) (l : List UInt8) (st : List UInt8 × List (List UInt8 × Nat)), l.length < f → l.length < g → packF f l st = packF g l st := by
  intro f
  induction f with
  | zero => intro g l st h; omega
  | succ f ih =>
    intro g l st h1 h2
    cases g with
    | zero => omega
    | succ g =>
      cases hf : findE st.2 l with
      | some p => rw [packF_hit hf, packF_hit hf]
      | none =>
        by_cases hd : dotAt l = l.length
        · rw [packF_stop hf hd, packF_stop hf hd]
        · have := dotAt_le l
          rw [packF_go hf hd, packF_go hf hd, ih g _ _ (by rw [List.length_drop]; omega) (by rw [List.length_drop]; omega)]

theorem PkV.drewN {w : World} {B pb mb : Nat} {bv : Value} {st : List UInt8 × List (List UInt8 × Nat)} (h : PkV w B pb mb bv st) (n : Nat) : PkV (w.drewN n) B pb mb bv st := ⟨h.blk, h.row, h.map.of rfl, h.nb, h.hp, h.hm⟩

def msP : Value → Value → Nat
  | .string b, .bool true => b.size + 1
  | _, _ => 0
theorem msP_true (b : ByteArray) : msP (.string b) (.bool true) = b.size + 1 := rfl
theorem msP_false (b : ByteArray) : msP (.string b) (.bool false) = 0 := rfl

set_option maxRecDepth 100000 in
set_option maxHeartbeats 4000000 in
theorem pack_calls (w : World) (B pb mb : Nat) (bv : Value) (st : List UInt8 × List (List UInt8 × Nat)) (h : PkV w B pb mb bv st) (hM : MxW w) (hB1 : 1 < B) (hin : EndsIn st) (l : List UInt8) (hl : nmOk l = true) (hst : st.1.length + l.length + 2 ≤ 16000) (_hB : B ≤ w.heap.size) :
    Calls Tryd.prog 29 #[.pointer (some ⟨pb, 0, none⟩), .string (bs l)] w fun e w' => PkPost B pb mb (packN l st) w e w' := by
  obtain ⟨i0, hi0, hz0, hz1, hz2⟩ := info_parts3 Tryd.infoU8
  have hl60 : l.length ≤ 60 ∧ (pieces l).all (fun p => lblOk (bs p)) = true := by unfold nmOk at hl; simpa using hl
  have HA0 := hid_of (p := PkAt w B pb mb (packN l st) true l st bv w) ⟨h, Below.refl _ _, hM, hin, by rw [if_pos rfl]; omega, hl60.1, fun _ => hl60.2, fun _ => rfl, fun e => by cases e⟩
  have hpB := h.hp
  have hzero : ∀ w : World, (zeroValue 3).run Tryd.prog w = .ok (.int .i64 0) w := by
    intro w
    exact (zero_of_info (show (Tryd.prog.info? 3).map (fun i => (i.zero, i.size)) = some (some (.int .i64 0), 1) by kernel_rfl)).1 w
  clear h hM hin hl hl60 hst
  go_enter Tryd.func29, Tryd.ntmps29
  go_wp2_with fail
  go_loopw [4, 5, 6, 7, 8] (fun v4 v5 _ _ _ wr => ∃ (W : World) (more : Bool) (l' : List UInt8) (st' : List UInt8 × List (List UInt8 × Nat)) (bv' : Value), W = wr ∧ v4 = .string (bs l') ∧ v5 = .bool more ∧ Hid (PkAt w B pb mb (packN l st) more l' st' bv' W)) (fun v4 v5 _ _ _ _ => msP v4 v5)
  case atStart => exact ⟨_, true, l, st, bv, rfl, rfl, rfl, HA0⟩
  case round =>
    obtain ⟨wr, more, l', st', bv', hwr, rfl, rfl, HA⟩ := hrel
    subst hwr
    clear HA0
    have hlen : st'.1.length + l'.length ≤ 16000 := by have := HA.out.len; split at this <;> omega
    have hl60 := HA.out.l60
    cases more with
    | false =>
      have HSt := hid_of (HA.out.stop rfl)
      have hpk := HA.out.pk
      have c0 : wr.cell? ⟨pb, 0, none⟩ = some bv' := hpk.blk.cell 0
      have c0a : ∀ o, (wr.alloc o).cell? ⟨pb, 0, none⟩ = some bv' := fun o => (Blk.alloc hpk.blk o).cell 0
      have hpl := hpk.blk.lt
      have HO := hid_of hpk.row
      clear hpk
      go_wp2_with
        (at_builtin
         refine wpList_append_lies _ rfl _ _ _ rfl B 5 i0 _ 1 1 Tryd.underlying39 hi0 hz0 hz1 hz2 rfl (by omega) bv' st'.1.length (byC st'.1) rfl (HO.out.alloc _) ⟨wr.heap.size, 0, none⟩ 1 1 [.int .u8 0] rfl rfl (World.news_of_block (cs := #[.int .u8 0]) (t := 5) (fr := (0, 0)) (heap_alloc_new wr _)) (by simp [Value.oneCell']) (by omega) (by unfold maxLen; omega) (by omega) (by simp; omega) (wr.heap.size + 1) (by simp) ?_
         intro g2 cap2 w2 hown2 hgrow2 hat2 hlt2
         have hA := HA.out.pk.app1 (g := g2) (cap := cap2) _ [0] hown2 hgrow2 hat2
         have c2 : w2.cell? ⟨pb, 0, none⟩ = some bv' := hA.2.2.cell 0
         have f2 : w2.frozen? ⟨pb, 0, none⟩ = false := hA.2.2.frozen 0
         have HA2 := hid_of hA.1
         have HAB := hid_of hA.2.1
         clear hA hown2 hgrow2 hat2 hlt2)
      go_end0
      refine ⟨rfl, HA.out.fr.trans HAB.out, ?_⟩
      rw [← HSt.out]
      exact ⟨_, HA2.out⟩
    | true =>
      have hlen2 : st'.1.length + l'.length ≤ 15999 := by have := HA.out.len; rwa [if_pos rfl] at this
      have HGo := hid_of (HA.out.go rfl)
      have HOk := hid_of (HA.out.ok rfl)
      have hpk := HA.out.pk
      have c1 : wr.cell? ⟨pb, 1, none⟩ = some (.map (some mb)) := hpk.blk.cell 1
      have c0 : wr.cell? ⟨pb, 0, none⟩ = some bv' := hpk.blk.cell 0
      obtain ⟨D, hD, hDm, hDh⟩ := hpk.map
      have hpl := hpk.blk.lt
      have hml := hpk.map.lt
      have hnm : mb ≠ pb := hpk.map.ne hpk.blk
      have hstl := HA.out.inn.1
      have hkey : keyOf Tryd.prog 9 (.string (bs l')) = some (.string l') := WideMaps.keyOf_string_mk Tryd.underlying9 (by rw [bs_size]; unfold maxLen; omega)
      have HD := hid_of hD
      have HDh := hid_of hDh
      have HDm := hid_of hDm
      have HPk := hid_of hpk
      clear hD hDh hDm hpk
      cases hf : findE st'.2 l' with
      | some p =>
        have hp := findE_lt HA.out.inn hf
        have hhas : Maps.has D (.string l') = true := by rw [(HDh.out l').1, hf]; rfl
        have HAt := hid_of ((HDh.out l').2 p hf)
        have HR := hid_of (packF_hit (f := l'.length) hf)
        clear hf
        go_wp2_with
          (at_lookup
           refine wpList_lookup_own_ok_int _ rfl _ _ 68 rfl 9 3 .i64 (Maps.string_keyed Tryd.underlying9) Tryd.underlying68 Tryd.underlying3 (hzero _) mb st'.2.length D rfl HD.out (.string (bs l')) (.string l') rfl hkey ?_
           intro c hc hwc
           rw [HAt.out] at hc
           obtain rfl : (p : Int) = c := by injection hc with hc; injection hc)
        refine (point_calls wr B pb mb bv' st' HPk.out p (by omega) (by omega) (by omega)).mono ?_
        rintro e w2 ⟨rfl, hb2, bv2, hp2⟩
        have HB2 := hid_of hb2
        have HP2 := hid_of hp2
        clear hb2 hp2
        simp only
        go_wp2_with fail
        go_end0
        refine ⟨rfl, HA.out.fr.trans HB2.out, bv2, ?_⟩
        rw [← HGo.out, HR.out]
        exact HP2.out
      | none =>
        have hhas : Maps.has D (.string l') = false := by rw [(HDh.out l').1, hf]; rfl
        have HF := hid_of hf
        clear hf
        go_wp2_with
          (at_lookup
           refine wpList_lookup_own_ok_int _ rfl _ _ 68 rfl 9 3 .i64 (Maps.string_keyed Tryd.underlying9) Tryd.underlying68 Tryd.underlying3 (hzero _) mb st'.2.length D rfl HD.out (.string (bs l')) (.string l') rfl hkey ?_
           intro c hc hwc)
        obtain ⟨np, capv, hnv⟩ := owns_slice HPk.out.row
        subst hnv
        have HPut := hid_of (p := ∀ w2 : World, w2.ownsMap Tryd.prog 9 (plainElem Tryd.prog 3) mb (st'.2.length + 1) (D.put (.string l') (.lit (.int .i64 st'.1.length))) → wr.drew.grownBy w2 (some mb) → PkV w2 B pb mb (.slice np st'.1.length capv) (st'.1, st'.2 ++ [(l', st'.1.length)]) ∧ Below B wr w2) (by
          intro w2 ho hg
          have hk : ∀ k, k < wr.heap.size → k ≠ mb → w2.heap[k]? = wr.heap[k]? := fun k h1 h2 => hg.block k h1 (fun e => h2 (by injection e))
          have hm := HPk.out.hm
          refine ⟨⟨?_, owns_blocks HPk.out.row fun g e => hk g (HPk.out.row.lt g e).2 (fun e2 => owns_ne HPk.out.map HPk.out.row (by rw [e, e2])), MapV.put HDm.out HDh.out HF.out ho, HPk.out.nb, HPk.out.hp, HPk.out.hm⟩, ⟨hg.os, hg.tape, hg.output, hg.size, fun k h1 => hk k (by omega) (by omega)⟩⟩
          have := HPk.out.blk
          unfold Blk at *
          rw [hk pb hpl (fun e => hnm e.symm)]; exact this)
        obtain ⟨w2, hrun, ho, hg⟩ := (HD.out.drew).update (t := 68) (Maps.string_keyed Tryd.underlying9) Tryd.underlying68 (by unfold maxLen; omega) hkey (plainElem_int (a := (st'.1.length : Int)) Tryd.underlying3 (WalkArith.wf_i64 (by omega)))
        have HP2 := hid_of (HPut.out w2 ho hg).1
        have HB2 := hid_of (HPut.out w2 ho hg).2
        clear ho hg
        go_region
        go_wp2_with fail
        clear hrun
        have hM2 : MxW w2 := HA.out.mx.below HB2.out hB1
        obtain ⟨mm, hmm⟩ := hM2
        have HM2 := hid_of (p := MxW w2) ⟨mm, hmm⟩
        refine (Tryd.strings_Cut (bs l') dotB mm w2 (by rw [bs_size]; omega) hmm).mono ?_
        rintro e w3 ⟨rfl, n3, hw3⟩
        have hcut : Lib.cut (bs l').data.toList dotB.data.toList = if dotAt l' = l'.length then (l', [], false) else (l'.take (dotAt l'), l'.drop (dotAt l' + 1), true) := cut_dot l'
        rw [hcut]
        have HP3 := hid_of (p := PkV w3 B pb mb (.slice np st'.1.length capv) (st'.1, st'.2 ++ [(l', st'.1.length)])) (by rw [hw3]; exact HP2.out.drewN _)
        have HB3 := hid_of (p := Below B wr w3) (by rw [hw3]; exact HB2.out.trans ⟨rfl, rfl, rfl, Nat.le_refl _, fun _ _ => rfl⟩)
        have hs3 := HB3.out.size
        have hph := pieces_head HOk.out
        have hdl := dotAt_le l'
        have hlb := lbl_len hph.1
        rw [List.length_take] at hlb
        clear hw3 hcut hmm
        by_cases hd : dotAt l' = l'.length
        · rw [if_pos hd]
          have HR := hid_of (packF_stop (f := l'.length) HF.out hd)
          have HD' := hid_of hd
          have hl15 : l'.length ≤ 15 := by omega
          clear hd hph
          simp only
          go_wp2_with fail
          refine (write_calls w3 B pb mb _ _ HP3.out (bs l') (by rw [bs_size]; omega) (by simp only; omega) (by omega)).mono ?_
          rintro e w4 ⟨rfl, hb4, bv4, hp4⟩
          have HA4 := hid_of (p := PkAt w B pb mb (packN l st) false [] (st'.1 ++ UInt8.ofNat (bs l').size :: (bs l').data.toList, st'.2 ++ [(l', st'.1.length)]) bv4 w4) (by
            rw [bs_size, bs_list] at hp4 ⊢
            refine ⟨hp4, (HA.out.fr.trans HB3.out).trans hb4, HA.out.mx.below (HB3.out.trans hb4) hB1, HA.out.inn.lab l' l' _, by rw [if_neg (by simp)]; simp; omega, by simp, (fun e => by cases e), (fun e => by cases e), fun _ => ?_⟩
            rw [← HGo.out, HR.out, HD'.out, List.take_of_length_le (Nat.le_refl _)])
          clear hb4 hp4
          simp only
          go_wp2_with fail
          go_roundw
          case rel => exact ⟨_, false, [], _, _, rfl, rfl, rfl, HA4⟩
          case measure => exact Nat.succ_pos _
        · rw [if_neg hd]
          have HR := hid_of (packF_go (f := l'.length) HF.out hd)
          have hl15 : dotAt l' ≤ 15 := by omega
          have hdlt : dotAt l' < l'.length := by omega
          have HPh := hid_of (hph.2 hd)
          clear hd hph
          simp only
          go_wp2_with fail
          refine (write_calls w3 B pb mb _ _ HP3.out (bs (l'.take (dotAt l'))) (by rw [bs_size, List.length_take]; omega) (by simp only; omega) (by omega)).mono ?_
          rintro e w4 ⟨rfl, hb4, bv4, hp4⟩
          have HA4 := hid_of (p := PkAt w B pb mb (packN l st) true (l'.drop (dotAt l' + 1)) (st'.1 ++ UInt8.ofNat (dotAt l') :: l'.take (dotAt l'), st'.2 ++ [(l', st'.1.length)]) bv4 w4) (by
            rw [bs_size, bs_list, List.length_take, Nat.min_eq_left (by omega)] at hp4
            refine ⟨hp4, (HA.out.fr.trans HB3.out).trans hb4, HA.out.mx.below (HB3.out.trans hb4) hB1, HA.out.inn.lab l' (l'.take (dotAt l')) _, by rw [if_pos rfl]; simp; omega, by simp; omega, (fun _ => HPh.out), (fun _ => ?_), fun e => by cases e⟩
            rw [← HGo.out, HR.out]
            exact packF_same _ _ _ _ (by omega) (by rw [List.length_drop]; omega))
          clear hb4 hp4
          simp only
          go_wp2_with fail
          go_roundw
          case rel => exact ⟨_, true, _, _, _, rfl, rfl, rfl, HA4⟩
          case measure =>
            show (bs (l'.drop (dotAt l' + 1))).size + 1 < (bs l').size + 1
            rw [bs_size, bs_size, List.length_drop]; omega

end Go.Proofs.YtmlkhhhjdpbhfaaDoor
