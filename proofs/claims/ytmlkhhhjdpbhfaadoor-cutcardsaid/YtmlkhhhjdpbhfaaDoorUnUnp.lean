/- Contracts of the reader's name, labels.Unpack and press.UnpackNames. -/
import Derived.Test.YtmlkhhhjdpbhfaaDoorUnEnd2
import Derived.Test.YtmlkhhhjdpbhfaaDoorUnRow
import Derived.Laws.IdiomStrings
namespace Go.Proofs.YtmlkhhhjdpbhfaaDoor
open Go.RowKit

set_option maxRecDepth 100000 in
/-- string(b) of a row of one's own -/
theorem nm_conv {w : World} {p : Option Addr} {n cap : Nat} {l : List UInt8} (h : NmV w (.slice p n cap) l) (h0 : 0 < l.length) : (convert 39 9 (.slice p n cap)).run Tryd.prog w = .ok (.string ⟨l.toArray⟩) w := by
  rcases h.2 with ⟨_, e⟩ | ⟨g, cap', cur, e, _⟩
  · omega
  · injection e with e1 e2 e3
    subst e1 e2 e3
    refine run_convert_bytes_back w 39 9 5 ⟨g, 0, none⟩ cap l Tryd.underlying39 Tryd.underlying5 Tryd.underlying9 fun j hj => ?_
    have := World.ownsRow.cells h (g := g) rfl j (.int .u8 (l[j].toNat : Int)) (by simp [byC, hj])
    exact this

def NamePost (t : TypeId) (s : ByteArray) (rb : Nat) (w : World) (r : Option (ByteArray × Nat)) (e : Ending) (w' : World) : Prop :=
  Fr w.heap.size rb w w' ∧ ((∃ x p, r = some (x, p) ∧ e = .returned (.tuple #[.string x, .bool true]) ∧ RdT t w' rb s p) ∨ (r = none ∧ e = .returned (.tuple #[.string ByteArray.empty, .bool false])))

theorem NFr.toFr {rb : Nat} {w w' : World} (h : NFr rb none w w') : Fr w.heap.size rb w w' := ⟨h.os, h.tape, h.output, h.size, fun k h1 h2 => h.block k h1 h2 (by simp)⟩

set_option maxHeartbeats 1000000 in
theorem name_calls (s : ByteArray) (hs : s.size ≤ 8000) (t : TypeId) (w : World) (rb a : Nat) (hr : RdT t w rb s a) (ha : a ≤ s.size) :
    Calls Tryd.prog 31 #[.pointer (some ⟨rb, 0, none⟩)] w fun e w' => NamePost t s rb w (nameT s a) e w' := by
  have HR := hid_of hr
  clear hr
  go_enter Tryd.func31, Tryd.ntmps31
  go_wp2_with fail
  refine (ending_calls s hs a t w rb (.slice none 0 0) [] HR.out (World.ownsRow_nil _ _ _ _) (by simp [Value.ownBlock]) ha (by simp)).mono ?_
  rintro e w1 ⟨hfr, ⟨ls, p, nv, hr', rfl, hrd, hnm, _, _⟩ | ⟨hr', rfl⟩⟩
  · have HF := hid_of (NFr.toFr hfr)
    obtain ⟨np, capv, hnv⟩ := owns_slice hnm
    subst hnv
    have HRd := hid_of hrd
    by_cases h1 : (joinN [] ls).length < 1
    · have h1' : ((joinN [] ls).length : Int) < 1 := by omega
      have HT := hid_of (p := nameT s a = none) (by unfold nameT; rw [hr']; simp only; rw [if_neg (by omega)])
      clear hr' hrd hnm hfr
      simp only
      go_wp2_with fail
      go_ret2
      exact ⟨HF.out, Or.inr ⟨HT.out, rfl⟩⟩
    by_cases h2 : 60 < (joinN [] ls).length
    · have h1' : ¬ ((joinN [] ls).length : Int) < 1 := by omega
      have h2' : 60 < ((joinN [] ls).length : Int) := by omega
      have HT := hid_of (p := nameT s a = none) (by unfold nameT; rw [hr']; simp only; rw [if_neg (by omega)])
      clear hr' hrd hnm hfr
      simp only
      go_wp2_with fail
      go_ret2
      exact ⟨HF.out, Or.inr ⟨HT.out, rfl⟩⟩
    have h1' : ¬ ((joinN [] ls).length : Int) < 1 := by omega
    have h2' : ¬ 60 < ((joinN [] ls).length : Int) := by omega
    have HT := hid_of (p := nameT s a = some (⟨(joinN [] ls).toArray⟩, p)) (by unfold nameT; rw [hr']; simp only; rw [if_pos (by omega)])
    have hcv := nm_conv hnm (by omega)
    clear hr' hrd hnm hfr
    simp only
    go_wp2_with fail
    go_ret2
    exact ⟨HF.out, Or.inl ⟨_, _, HT.out, rfl, HRd.out⟩⟩
  · have HF := hid_of (NFr.toFr hfr)
    have HT := hid_of (p := nameT s a = none) (by unfold nameT; rw [hr'])
    clear hr' hfr
    simp only
    go_wp2_with fail
    go_ret2
    exact ⟨HF.out, Or.inr ⟨HT.out, rfl⟩⟩

/-- what Unpack answers -/
def unpV (s : ByteArray) : List ByteArray × Int × Int :=
  if 4000 < s.size then ([], 1, 0) else match namesF s 0 0 with | .inl l => (l, 0, 0) | .inr p => ([], 14, p)

def UnpPost (B : Nat) (r : List ByteArray × Int × Int) (w : World) (e : Ending) (w' : World) : Prop :=
  Below w.heap.size w w' ∧ ∃ v, e = .returned (.tuple #[v, .int .i64 r.2.1, .int .i64 r.2.2]) ∧ w'.ownsRow B 9 1 v r.1.length (strC r.1)

/-- where Unpack's loop stands -/
structure UnpAt (s : ByteArray) (w : World) (v : Value) (p : Nat) (done : List ByteArray) (wr : World) : Prop where
  hi : p ≤ s.size
  rd : RdT 76 wr w.heap.size s p
  row : wr.ownsRow (w.heap.size + 1) 9 1 v done.length (strC done)
  len : done.length ≤ 40
  fr : Below w.heap.size w wr
  eq : namesF s 0 0 = match namesF s p done.length with | .inl l => .inl (done ++ l) | .inr q => .inr q

theorem unpV_inl {s : ByteArray} {l : List ByteArray} (h : ¬ 4000 < s.size) (hn : namesF s 0 0 = .inl l) : unpV s = (l, 0, 0) := by unfold unpV; rw [if_neg h, hn]
theorem unpV_inr {s : ByteArray} {p : Nat} (h : ¬ 4000 < s.size) (hn : namesF s 0 0 = .inr p) : unpV s = ([], 14, (p : Int)) := by unfold unpV; rw [if_neg h, hn]

set_option maxRecDepth 100000 in
set_option maxHeartbeats 2000000 in
theorem unpack_calls (s : ByteArray) (hsl : s.size ≤ maxLen) (w : World) :
    Calls Tryd.prog 21 #[.string s] w fun e w' => UnpPost w.heap.size (unpV s) w e w' := by
  obtain ⟨i0, hi0, hz0, hz1, hz2⟩ := info_parts3 Tryd.infoStr
  unfold maxLen at hsl
  by_cases hlong : 4000 < s.size
  · have hlong' : 4000 < (s.size : Int) := by omega
    have HV := hid_of (p := unpV s = ([], 1, 0)) (by unfold unpV; rw [if_pos hlong])
    go_enter Tryd.func21, Tryd.ntmps21
    go_wp2_with fail
    refine bodyPost_ret (v := .tuple #[.slice none 0 0, .int .i64 1, .int .i64 0]) (by simp [results, Tryd.results21, go_sem]) rfl ?_
    rw [HV.out]
    exact ⟨Below.refl _ _, _, rfl, World.ownsRow_nil _ _ _ _⟩
  have hlong' : ¬ 4000 < (s.size : Int) := by omega
  have HL := hid_of hlong
  have hrd0 : RdT 76 (w.alloc (.cells #[.string s, .int .i64 ((0 : Nat) : Int)] 76)) w.heap.size s 0 := Blk.new w _ _
  have HA0 := hid_of (p := UnpAt s w (.slice none 0 0) 0 [] (w.alloc (.cells #[.string s, .int .i64 ((0 : Nat) : Int)] 76))) ⟨by omega, hrd0, World.ownsRow_nil _ _ _ _, by simp, (Below.refl _ _).alloc (Nat.le_refl _) _, by simp; split <;> rename_i h <;> rw [h]⟩
  clear hrd0
  go_enter Tryd.func21, Tryd.ntmps21
  go_wp2_with fail
  go_loopw [6, 7, 8, 9] (fun v6 _ _ _ wr => ∃ (vv : Value) (W : World) (p : Nat) (done : List ByteArray), vv = v6 ∧ W = wr ∧ Hid (UnpAt s w vv p done W)) (fun _ _ _ _ wr => s.size - rdPlT wr w.heap.size)
  case atStart => exact ⟨_, _, 0, [], rfl, rfl, HA0⟩
  case round =>
    obtain ⟨vv, wr, p, done, hvv, hwr, HA⟩ := hrel
    subst hvv hwr
    have hrd := HA.out.rd
    have hp2 := HA.out.hi
    have hdl := HA.out.len
    have HPl := hid_of (rdPlT_of hrd)
    obtain ⟨np, capv, hnv⟩ := owns_slice HA.out.row
    subst hnv
    have HRd := hid_of hrd
    clear hrd
    go_wp2_with fail
    refine (atEndT_calls _ wr w.heap.size s p HRd.out (by omega) hp2).mono ?_
    rintro e w1 ⟨rfl, hsm, hrd1⟩
    have HA1 := hid_of (p := UnpAt s w (.slice np done.length capv) p done w1) ⟨hp2, hrd1, owns_blocks HA.out.row (fun g eg => hsm.block g (by have := (HA.out.row.lt g eg).1; omega)), hdl, HA.out.fr.trans ⟨hsm.os, hsm.tape, hsm.output, by rw [hsm.size]; exact Nat.le_refl _, fun k hk => hsm.block k (by omega)⟩, HA.out.eq⟩
    have c1 : w1.cell? ⟨w.heap.size, 1, none⟩ = some (.int .i64 p) := hrd1.cell 1
    have HRd1 := hid_of hrd1
    clear hsm hrd1
    by_cases hp : p = s.size
    · rw [decide_eq_true hp]
      have HV := hid_of (p := unpV s = (done, 0, 0)) (unpV_inl HL.out (by rw [HA.out.eq, namesF_end (by omega)]; simp))
      clear hp
      simp only
      go_wp2_with fail
      refine bodyPost_ret (v := .tuple #[.slice np done.length capv, .int .i64 0, .int .i64 0]) (by simp [results, Tryd.results21, go_sem]) rfl ?_
      rw [HV.out]
      exact ⟨HA1.out.fr, _, rfl, owns_low HA1.out.row (by omega)⟩
    · rw [decide_eq_false hp]
      have hps : p < s.size := by omega
      clear hp
      simp only
      go_wp2_with fail
      refine (name_calls s (by omega) _ w1 w.heap.size p HRd1.out hp2).mono ?_
      rintro e w2 ⟨hfr, ⟨x, q, hr', rfl, hrd2⟩ | ⟨hr', rfl⟩⟩
      · have hfr1 : Below w.heap.size w w2 := HA1.out.fr.trans ⟨hfr.os, hfr.tape, hfr.output, hfr.size, fun k hk => hfr.block k (by have := HA1.out.fr.size; omega) (by omega)⟩
        have hown2 : w2.ownsRow (w.heap.size + 1) 9 1 (.slice np done.length capv) done.length (strC done) := owns_blocks HA1.out.row (fun g eg => hfr.block g (HA1.out.row.lt g eg).2 (by have := (HA1.out.row.lt g eg).1; omega))
        by_cases h40 : done.length = 40
        · have h40' : ((done.length : Int) == 40) = true := by simp; omega
          have HV := hid_of (p := unpV s = ([], 14, (p : Int))) (unpV_inr HL.out (by rw [HA.out.eq, h40, namesF_full hps]))
          have HB := hid_of hfr1
          clear hfr hfr1 hr' hrd2 h40 hown2
          simp only
          go_wp2_with fail
          refine bodyPost_ret (v := .tuple #[.slice none 0 0, .int .i64 14, .int .i64 p]) (by simp [results, Tryd.results21, go_sem]) rfl ?_
          rw [HV.out]
          exact ⟨HB.out, _, rfl, World.ownsRow_nil _ _ _ _⟩
        · have h40' : ((done.length : Int) == 40) = false := by simp; omega
          have HE := hid_of (namesF_some (k := done.length) hps hr' h40)
          have hpq := (nameT_ok s p _ hr')
          simp only at hpq
          have HB := hid_of hfr1
          have HRd2 := hid_of hrd2
          have HO2 := hid_of hown2
          have hws := hfr1.size
          have hrl : w.heap.size < w2.heap.size := hrd2.lt
          clear hfr hfr1 hr' hrd2 hown2
          simp only
          go_wp2_with
            (at_builtin
             refine wpList_append_lies _ rfl _ _ _ rfl (w.heap.size + 1) 9 i0 _ 1 16 Tryd.underlying24 hi0 hz0 hz1 hz2 rfl (by omega) (.slice np done.length capv) done.length (strC done) rfl (HO2.out.alloc _) ⟨w2.heap.size, 0, none⟩ 1 1 [.string x] rfl rfl (World.news_of_block (cs := #[.string x]) (t := 9) (fr := (0, 0)) (heap_alloc_new w2 _)) (by simp [Value.oneCell']) (by omega) (by unfold maxLen; omega) (by omega) (by simp; omega) (w2.heap.size + 1) (by simp) ?_
             intro g4 cap4 w4 hown4 hgrow4 hat4 hlt4)
          have HA4 := hid_of (p := UnpAt s w (.slice (some ⟨g4, 0, none⟩) (done.length + 1) cap4) q (done ++ [x]) w4) (by
            have hz4 := hgrow4.size
            simp at hz4
            have hk : ∀ k, k ≤ w.heap.size → w4.heap[k]? = w2.heap[k]? := fun k hk => by
              rw [hgrow4.block k (by simp; omega) (fun e => by have := (HO2.out.lt k e.symm).1; omega), Below.heap_alloc _ _ _ (by omega)]
            refine ⟨hpq.2, ?_, ?_, by simp; omega, ?_, ?_⟩
            · have := HRd2.out
              unfold RdT Blk at *
              rw [hk _ (Nat.le_refl _)]; exact this
            · simpa [strC] using hown4
            · exact HB.out.trans ⟨hgrow4.os, hgrow4.tape, hgrow4.output, by omega, fun k h => hk k (by omega)⟩
            · rw [HA.out.eq, HE.out]
              simp
              cases namesF s q (done.length + 1) <;> simp [preS])
          go_roundw
          case rel => exact ⟨_, _, _, _, rfl, rfl, HA4⟩
          case measure => rw [rdPlT_of HA4.out.rd, HPl.out]; omega
      · have hfr1 : Below w.heap.size w w2 := HA1.out.fr.trans ⟨hfr.os, hfr.tape, hfr.output, hfr.size, fun k hk => hfr.block k (by have := HA1.out.fr.size; omega) (by omega)⟩
        have HV := hid_of (p := unpV s = ([], 14, (p : Int))) (unpV_inr HL.out (by rw [HA.out.eq, namesF_none hps hr']))
        have HB := hid_of hfr1
        clear hfr hfr1 hr'
        simp only
        go_wp2_with fail
        refine bodyPost_ret (v := .tuple #[.slice none 0 0, .int .i64 14, .int .i64 p]) (by simp [results, Tryd.results21, go_sem]) rfl ?_
        rw [HV.out]
        exact ⟨HB.out, _, rfl, World.ownsRow_nil _ _ _ _⟩

set_option maxHeartbeats 1000000 in
theorem unpackNames_calls (s : ByteArray) (hsl : s.size ≤ maxLen) (w : World) :
    Calls Tryd.prog 12 #[.string s] w fun e w' => UnpPost w.heap.size (unpV s) w e w' := by
  go_enter Tryd.func12, Tryd.ntmps12
  go_wp2_with fail
  refine (unpack_calls s hsl w).mono ?_
  rintro e w1 ⟨hb, v, rfl, hown⟩
  obtain ⟨np, capv, hnv⟩ := owns_slice hown
  subst hnv
  have HB := hid_of hb
  have HO := hid_of hown
  clear hb hown
  simp only
  go_wp2_with fail
  refine bodyPost_ret (v := .tuple #[.slice np (unpV s).1.length capv, .int .i64 (unpV s).2.1, .int .i64 (unpV s).2.2]) (by simp [results, Tryd.results12, go_sem]) rfl ?_
  exact ⟨HB.out, _, rfl, HO.out⟩

end Go.Proofs.YtmlkhhhjdpbhfaaDoor
