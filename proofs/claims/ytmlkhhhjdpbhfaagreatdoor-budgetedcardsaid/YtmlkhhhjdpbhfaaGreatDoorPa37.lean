import Derived.Test.YtmlkhhhjdpbhfaaGreatDoorPa22
import Derived.Test.YtmlkhhhjdpbhfaaGreatDoorPa23
import Derived.Test.YtmlkhhhjdpbhfaaGreatDoorPa24
import Derived.Test.YtmlkhhhjdpbhfaaGreatDoorPa36
import Derived.Test.YtmlkhhhjdpbhfaaGreatDoorPa04
import Derived.Test.YtmlkhhhjdpbhfaaGreatDoorShelf
import Derived.Lib.ItoaMem
import Derived.Lib.ItoaLen
namespace Go.Proofs.YtmlkhhhjdpbhfaaGreatDoor
open Go.RowKit
theorem set_same {w : World} {b : Nat} {v : Value} {t : TypeId} (h : Blk w b #[v] t) : w.setCell ⟨b, 0, none⟩ v = w := by
 rw [setCell_eq_setRow w b 0 #[v] t (0, 0) v h]
 exact setRow_self w b #[v] t (0, 0) h
structure EP (W : World) (eb pb e1 e2 : Nat) : Prop where
 e : W.cell? ⟨eb, 0, none⟩ = some (.int .i64 e1)
 p : W.cell? ⟨pb, 0, none⟩ = some (.int .i64 e2)
set_option maxRecDepth 100000 in
set_option maxHeartbeats 1000000 in
theorem pparse_calls (w : World) (gb : Nat) (bs : ByteArray) (fuel N : Nat) (o : PO) (_hgb : gb < w.heap.size) (hF : ∀ w', Below w.heap.size w w' → FmtC w') (ht : o.ok = true → o.t.length ≤ 1000000000)
 (hcall : ∀ W, Below w.heap.size w W → Calls Tryz.prog 41 #[.pointer (some ⟨gb, 0, none⟩), .string bs, .int .i64 fuel, .int .i64 N] W fun e w' => ParsePost W o e w') (hee : o.e ≠ 0 → (endT o) = ([], o.e, 0)) (hok : (endT o).2.1 = 0 → o.ok = true) :
 Calls Tryz.prog 27 #[.pointer (some ⟨gb, 0, none⟩), .string bs, .int .i64 fuel, .int .i64 N] w fun e w' => e = .returned (.tuple #[.string ⟨(endT o).1.toArray⟩, .int .i64 ((endT o).2.1 : Int), .int .i64 ((endT o).2.2 : Int)]) ∧ Below w.heap.size w w' := by
 have hmf : ∀ (fn : Fn) (first cap : Array Value) (w : World), (Instr.makeFunc fn first cap).run Tryz.prog w = .ok (.func fn first cap) w := fun _ _ _ _ => rfl
 have HF := hide' hF
 have HT := hide' ht
 have HCall := hide' hcall
 have HE := hide' hee
 have HK := hide' hok
 clear hF ht hcall hee hok
 go_enter_defers Tryz.func27, Tryz.ntmps27
 go_wp2_with fail
 have hS : Blk (((w.alloc (.cells #[.string ⟨#[]⟩] 9)).alloc (.cells #[.int .i64 0] 27)).alloc (.cells #[.int .i64 0] 3)) w.heap.size #[.string ⟨#[]⟩] 9 := Blk.alloc (Blk.alloc (Blk.new w _ _) _) _
 have hE : Blk (((w.alloc (.cells #[.string ⟨#[]⟩] 9)).alloc (.cells #[.int .i64 0] 27)).alloc (.cells #[.int .i64 0] 3)) (w.heap.size + 1) #[.int .i64 0] 27 := by
  have := Blk.new (w.alloc (.cells #[.string ⟨#[]⟩] 9)) #[.int .i64 0] 27
  rw [show (w.alloc (.cells #[.string ⟨#[]⟩] 9)).heap.size = w.heap.size + 1 by simp] at this
  exact Blk.alloc this _
 have hP : Blk (((w.alloc (.cells #[.string ⟨#[]⟩] 9)).alloc (.cells #[.int .i64 0] 27)).alloc (.cells #[.int .i64 0] 3)) (w.heap.size + 1 + 1) #[.int .i64 0] 3 := by
  have := Blk.new ((w.alloc (.cells #[.string ⟨#[]⟩] 9)).alloc (.cells #[.int .i64 0] 27)) #[.int .i64 0] 3
  rw [show ((w.alloc (.cells #[.string ⟨#[]⟩] 9)).alloc (.cells #[.int .i64 0] 27)).heap.size = w.heap.size + 1 + 1 by simp] at this
  exact this
 have hB0 : Below w.heap.size w (((w.alloc (.cells #[.string ⟨#[]⟩] 9)).alloc (.cells #[.int .i64 0] 27)).alloc (.cells #[.int .i64 0] 3)) := (((Below.refl _ _).alloc (Nat.le_refl _) _).alloc (by simp) _).alloc (by simp; omega) _
 have hs0 : (((w.alloc (.cells #[.string ⟨#[]⟩] 9)).alloc (.cells #[.int .i64 0] 27)).alloc (.cells #[.int .i64 0] 3)).heap.size = w.heap.size + 1 + 1 + 1 := by simp
 generalize ((w.alloc (.cells #[.string ⟨#[]⟩] 9)).alloc (.cells #[.int .i64 0] 27)).alloc (.cells #[.int .i64 0] 3) = W0 at *
 refine (HCall.out W0 hB0).mono ?_
 rintro e w2 ⟨hb2, ⟨hoe, rfl⟩ | ⟨hoe, v, rfl, hyes, hno⟩⟩
 · have hbw : Below w.heap.size w w2 := hB0.trans (hb2.mono (by omega))
   have H1 := hS.below hb2 (by omega)
   have H2 := hE.below hb2 (by omega)
   have H3 := hP.below hb2 (by omega)
   have HEE := HE.out hoe
   go_wp2_with fail
   refine leaves_cons (f := 40) (args := #[.pointer (some ⟨w.heap.size, 0, none⟩), .pointer (some ⟨w.heap.size + 1, 0, none⟩), .pointer (some ⟨w.heap.size + 1 + 1, 0, none⟩)]) (by simp) (by simp [go_sem]) ?_
   refine (rec_out w.heap.size (w.heap.size + 1) (w.heap.size + 1 + 1) o.e w2 ⟨#[]⟩ 0 0 H1 H2 H3 (by omega) (by omega)).mono ?_
   rintro e u' w3 ⟨rfl, rfl, k1, k2, k3, k4⟩
   have r1 : w3.cell? ⟨w.heap.size, 0, none⟩ = some (.string ⟨#[]⟩) := k1.cell 0
   have r2 : w3.cell? ⟨w.heap.size + 1, 0, none⟩ = some (.int .i64 o.e) := k2.cell 0
   have r3 : w3.cell? ⟨w.heap.size + 1 + 1, 0, none⟩ = some (.int .i64 0) := k3.cell 0
   have hb3 : Below w.heap.size w w3 := hbw.trans k4
   rw [HEE]
   simp [Leaves, settle, results, Tryz.results27, go_sem, r1, r2, r3, hb3]
 · have hbw : Below w.heap.size w w2 := hB0.trans (hb2.mono (by omega))
   have H1 := hide' (hS.below hb2 (by omega))
   have H2 := hide' (hE.below hb2 (by omega))
   have H3 := hide' (hP.below hb2 (by omega))
   have hs2 := hb2.size
   have c1 : w2.cell? ⟨w.heap.size, 0, none⟩ = some (.string ⟨#[]⟩) := H1.out.cell 0
   have c2 : w2.cell? ⟨w.heap.size + 1, 0, none⟩ = some (.int .i64 0) := H2.out.cell 0
   have c3 : w2.cell? ⟨w.heap.size + 1 + 1, 0, none⟩ = some (.int .i64 0) := H3.out.cell 0
   have f1 : w2.frozen? ⟨w.heap.size, 0, none⟩ = false := H1.out.frozen 0
   have f2 : w2.frozen? ⟨w.heap.size + 1, 0, none⟩ = false := H2.out.frozen 0
   have f3 : w2.frozen? ⟨w.heap.size + 1 + 1, 0, none⟩ = false := H3.out.frozen 0
   have HBw := hide' hbw
   have HY := hide' hyes
   clear hyes hno hS hE hP hB0 hb2 hbw
   by_cases hz : (endT o).2.1 = 0
   · have he2 : endT o = (o.t, 0, 0) := by
      unfold endT at hz ⊢
      rw [if_neg (fun h => h hoe)] at hz ⊢
      split at hz
      · simp at hz
      · rw [if_neg (by assumption)]
        split at hz
        · simp at hz
        · rfl
     obtain ⟨_, vb, fv, lo, hi, sb, hv, hrep, hhi⟩ := HY.out hz
     subst hv
     have HE2 := hide' he2
     rw [he2]
     have hsame1 : w2.setCell ⟨w.heap.size + 1, 0, none⟩ (.int .i64 0) = w2 := set_same H2.out
     have hsame2 : w2.setCell ⟨w.heap.size + 1 + 1, 0, none⟩ (.int .i64 0) = w2 := set_same H3.out
     have HTx := hide' (text_calls w2 fv lo hi vb sb o.t hrep hhi (fun w' hb => HF.out w' (HBw.out.trans (hb.mono (by omega)))) (HT.out (HK.out hz)))
     clear hz he2 hrep HY
     simp only
     go_wp2_with fail
     refine HTx.out.mono ?_
     rintro e w5 ⟨rfl, hb5⟩
     have hs5 := hb5.size
     have K1 := hide' (H1.out.below hb5 (by omega))
     have K2 := hide' (H2.out.below hb5 (by omega))
     have K3 := hide' (H3.out.below hb5 (by omega))
     have K4 := hide' (HBw.out.trans (hb5.mono (by omega)))
     clear c1 c2 c3 f1 f2 f3 hsame1 hsame2
     have c1 : w5.cell? ⟨w.heap.size, 0, none⟩ = some (.string ⟨#[]⟩) := K1.out.cell 0
     have c2 : w5.cell? ⟨w.heap.size + 1, 0, none⟩ = some (.int .i64 0) := K2.out.cell 0
     have c3 : w5.cell? ⟨w.heap.size + 1 + 1, 0, none⟩ = some (.int .i64 0) := K3.out.cell 0
     have f1 : w5.frozen? ⟨w.heap.size, 0, none⟩ = false := K1.out.frozen 0
     have f2 : w5.frozen? ⟨w.heap.size + 1, 0, none⟩ = false := K2.out.frozen 0
     have f3 : w5.frozen? ⟨w.heap.size + 1 + 1, 0, none⟩ = false := K3.out.frozen 0
     have HB6 : Hid (Below w.heap.size w (((w5.setCell ⟨w.heap.size, 0, none⟩ (.string ⟨o.t.toArray⟩)).setCell ⟨w.heap.size + 1, 0, none⟩ (.int .i64 0)).setCell ⟨w.heap.size + 1 + 1, 0, none⟩ (.int .i64 0))) := ((K4.out.setCell (p := ⟨w.heap.size, 0, none⟩) (Nat.le_refl _) _).setCell (p := ⟨w.heap.size + 1, 0, none⟩) (by simp only; omega) _).setCell (p := ⟨w.heap.size + 1 + 1, 0, none⟩) (by simp only; omega) _
     have HS1 : Hid (Blk (((w5.setCell ⟨w.heap.size, 0, none⟩ (.string ⟨o.t.toArray⟩)).setCell ⟨w.heap.size + 1, 0, none⟩ (.int .i64 0)).setCell ⟨w.heap.size + 1 + 1, 0, none⟩ (.int .i64 0)) w.heap.size #[.string ⟨o.t.toArray⟩] 9) := ((K1.out.set 0 _).setOther ⟨w.heap.size + 1, 0, none⟩ (by simp only; omega) _).setOther ⟨w.heap.size + 1 + 1, 0, none⟩ (by simp only; omega) _
     have HS2 : Hid (Blk (((w5.setCell ⟨w.heap.size, 0, none⟩ (.string ⟨o.t.toArray⟩)).setCell ⟨w.heap.size + 1, 0, none⟩ (.int .i64 0)).setCell ⟨w.heap.size + 1 + 1, 0, none⟩ (.int .i64 0)) (w.heap.size + 1) #[.int .i64 0] 27) := ((K2.out.setOther ⟨w.heap.size, 0, none⟩ (by simp only; omega) _).set 0 _).setOther ⟨w.heap.size + 1 + 1, 0, none⟩ (by simp only; omega) _
     have HS3 : Hid (Blk (((w5.setCell ⟨w.heap.size, 0, none⟩ (.string ⟨o.t.toArray⟩)).setCell ⟨w.heap.size + 1, 0, none⟩ (.int .i64 0)).setCell ⟨w.heap.size + 1 + 1, 0, none⟩ (.int .i64 0)) (w.heap.size + 1 + 1) #[.int .i64 0] 3) := ((K3.out.setOther ⟨w.heap.size, 0, none⟩ (by simp only; omega) _).setOther ⟨w.heap.size + 1, 0, none⟩ (by simp only; omega) _).set 0 _
     go_wp2_with fail
     refine leaves_cons (f := 40) (args := #[.pointer (some ⟨w.heap.size, 0, none⟩), .pointer (some ⟨w.heap.size + 1, 0, none⟩), .pointer (some ⟨w.heap.size + 1 + 1, 0, none⟩)]) (by simp) (by simp [go_sem]) ?_
     refine (rec_idle _ _ _ _).mono ?_
     rintro e u' w7 ⟨rfl, rfl, rfl⟩
     rw [HE2.out]
     have r1 := HS1.out.cell 0
     have r2 := HS2.out.cell 0
     have r3 := HS3.out.cell 0
     have hb6 := HB6.out
     generalize ((w5.setCell ⟨w.heap.size, 0, none⟩ (.string ⟨o.t.toArray⟩)).setCell ⟨w.heap.size + 1, 0, none⟩ (.int .i64 0)).setCell ⟨w.heap.size + 1 + 1, 0, none⟩ (.int .i64 0) = W7 at *
     simp only [List.getElem?_toArray, List.getElem?_cons_zero] at r1 r2 r3
     simp [Leaves, settle, results, Tryz.results27, go_sem, r1, r2, r3, hb6]
   · have hz' : ¬ ((endT o).2.1 : Int) = 0 := by omega
     have HZ : Hid ((endT o).1 = []) := by
      have : (endT o).1 = [] := by
       unfold endT at hz ⊢
       split at hz
       · rw [if_pos (by assumption)]
       · rw [if_neg (by assumption)]
         split at hz
         · rw [if_pos (by assumption)]
         · rw [if_neg (by assumption)]
           split at hz
           · rfl
           · simp at hz
      exact this
     obtain ⟨e1, he1⟩ : ∃ e1, (endT o).2.1 = e1 := ⟨_, rfl⟩
     obtain ⟨e2, he2⟩ : ∃ e2, (endT o).2.2 = e2 := ⟨_, rfl⟩
     rw [he1] at hz'
     rw [he1, he2]
     have HE1 := hide' he1
     have HE2 := hide' he2
     clear hz he1 he2
     go_wp2_with fail
     have k1 := (H1.out.setOther ⟨w.heap.size + 1, 0, none⟩ (by simp only; omega) (.int .i64 e1)).setOther ⟨w.heap.size + 1 + 1, 0, none⟩ (by simp only; omega) (.int .i64 e2)
     have k2 := (H2.out.set 0 (.int .i64 e1)).setOther ⟨w.heap.size + 1 + 1, 0, none⟩ (by simp only; omega) (.int .i64 e2)
     have k3 := (H3.out.setOther ⟨w.heap.size + 1, 0, none⟩ (by simp only; omega) (.int .i64 e1)).set 0 (.int .i64 e2)
     have k4 := (HBw.out.setCell (p := ⟨w.heap.size + 1, 0, none⟩) (by simp only; omega) (.int .i64 e1)).setCell (p := ⟨w.heap.size + 1 + 1, 0, none⟩) (by simp only; omega) (.int .i64 e2)
     have K1 : Hid (Blk ((w2.setCell ⟨w.heap.size + 1, 0, none⟩ (.int .i64 e1)).setCell ⟨w.heap.size + 1 + 1, 0, none⟩ (.int .i64 e2)) w.heap.size #[.string ⟨#[]⟩] 9) := k1
     have K2 : Hid (Blk ((w2.setCell ⟨w.heap.size + 1, 0, none⟩ (.int .i64 e1)).setCell ⟨w.heap.size + 1 + 1, 0, none⟩ (.int .i64 e2)) (w.heap.size + 1) #[.int .i64 e1] 27) := k2
     have K3 : Hid (Blk ((w2.setCell ⟨w.heap.size + 1, 0, none⟩ (.int .i64 e1)).setCell ⟨w.heap.size + 1 + 1, 0, none⟩ (.int .i64 e2)) (w.heap.size + 1 + 1) #[.int .i64 e2] 3) := k3
     have K4 := hide' k4
     clear k1 k2 k3 k4 c1 c2 c3 f1 f2 f3
     generalize (w2.setCell ⟨w.heap.size + 1, 0, none⟩ (.int .i64 e1)).setCell ⟨w.heap.size + 1 + 1, 0, none⟩ (.int .i64 e2) = W3 at *
     have c1 : W3.cell? ⟨w.heap.size, 0, none⟩ = some (.string ⟨#[]⟩) := K1.out.cell 0
     have c2 : W3.cell? ⟨w.heap.size + 1, 0, none⟩ = some (.int .i64 e1) := K2.out.cell 0
     have c3 : W3.cell? ⟨w.heap.size + 1 + 1, 0, none⟩ = some (.int .i64 e2) := K3.out.cell 0
     have f1 : W3.frozen? ⟨w.heap.size, 0, none⟩ = false := K1.out.frozen 0
     have f2 : W3.frozen? ⟨w.heap.size + 1, 0, none⟩ = false := K2.out.frozen 0
     have f3 : W3.frozen? ⟨w.heap.size + 1 + 1, 0, none⟩ = false := K3.out.frozen 0
     have n12 : ¬ w.heap.size + 1 = w.heap.size := by omega
     have HB6 : Hid (Below w.heap.size w (((W3.setCell ⟨w.heap.size, 0, none⟩ (.string ⟨#[]⟩)).setCell ⟨w.heap.size + 1, 0, none⟩ (.int .i64 e1)).setCell ⟨w.heap.size + 1 + 1, 0, none⟩ (.int .i64 e2)).drew) := (((K4.out.setCell (p := ⟨w.heap.size, 0, none⟩) (Nat.le_refl _) _).setCell (p := ⟨w.heap.size + 1, 0, none⟩) (by simp only; omega) _).setCell (p := ⟨w.heap.size + 1 + 1, 0, none⟩) (by simp only; omega) _).drew
     have HS1 : Hid (Blk (((W3.setCell ⟨w.heap.size, 0, none⟩ (.string ⟨#[]⟩)).setCell ⟨w.heap.size + 1, 0, none⟩ (.int .i64 e1)).setCell ⟨w.heap.size + 1 + 1, 0, none⟩ (.int .i64 e2)).drew w.heap.size #[.string ⟨#[]⟩] 9) := ((K1.out.set 0 (.string ⟨#[]⟩)).setOther ⟨w.heap.size + 1, 0, none⟩ (by simp only; omega) _).setOther ⟨w.heap.size + 1 + 1, 0, none⟩ (by simp only; omega) _
     have HS2 : Hid (Blk (((W3.setCell ⟨w.heap.size, 0, none⟩ (.string ⟨#[]⟩)).setCell ⟨w.heap.size + 1, 0, none⟩ (.int .i64 e1)).setCell ⟨w.heap.size + 1 + 1, 0, none⟩ (.int .i64 e2)).drew (w.heap.size + 1) #[.int .i64 e1] 27) := ((K2.out.setOther ⟨w.heap.size, 0, none⟩ (by simp only; omega) _).set 0 _).setOther ⟨w.heap.size + 1 + 1, 0, none⟩ (by simp only; omega) _
     have HS3 : Hid (Blk (((W3.setCell ⟨w.heap.size, 0, none⟩ (.string ⟨#[]⟩)).setCell ⟨w.heap.size + 1, 0, none⟩ (.int .i64 e1)).setCell ⟨w.heap.size + 1 + 1, 0, none⟩ (.int .i64 e2)).drew (w.heap.size + 1 + 1) #[.int .i64 e2] 3) := ((K3.out.setOther ⟨w.heap.size, 0, none⟩ (by simp only; omega) _).setOther ⟨w.heap.size + 1, 0, none⟩ (by simp only; omega) _).set 0 _
     go_region
     go_wp2_with fail
     refine leaves_cons (f := 40) (args := #[.pointer (some ⟨w.heap.size, 0, none⟩), .pointer (some ⟨w.heap.size + 1, 0, none⟩), .pointer (some ⟨w.heap.size + 1 + 1, 0, none⟩)]) (by simp) (by simp [go_sem]) ?_
     refine (rec_idle _ _ _ _).mono ?_
     rintro e u' w7 ⟨rfl, rfl, rfl⟩
     rw [HE1.out, HE2.out, HZ.out]
     have r1 := HS1.out.cell 0
     have r2 := HS2.out.cell 0
     have r3 := HS3.out.cell 0
     have hb6 := HB6.out
     generalize (((W3.setCell ⟨w.heap.size, 0, none⟩ (.string ⟨#[]⟩)).setCell ⟨w.heap.size + 1, 0, none⟩ (.int .i64 e1)).setCell ⟨w.heap.size + 1 + 1, 0, none⟩ (.int .i64 e2)).drew = W7 at *
     simp only [List.getElem?_toArray, List.getElem?_cons_zero] at r1 r2 r3
     simp [Leaves, settle, results, Tryz.results27, go_sem, r1, r2, r3, hb6]
end Go.Proofs.YtmlkhhhjdpbhfaaGreatDoor
namespace Go.Proofs.YtmlkhhhjdpbhfaaGreatDoor
open Go.RowKit Go.Sort Go.Lib
def PowW (w : World) : Prop := Lib.TabIs Tryz.prog w "internal/strconv.uint64pow10" .u64 Lib.pow10Tab
theorem holds_z24 (w : World) (T : TypeId) (nd : Nat) (hs : nd ≤ 24) : Holds (fun (b : UInt8) => Value.int .u8 b.toNat) (w.alloc (.cells Lib.zeros24 T)) w.heap.size 0 (Array.replicate nd (0 : UInt8)) := fun j hj => by
 have hj' : j < nd := by simpa using hj
 refine ⟨?_, World.frozen?_alloc_new _ _ _ _⟩
 rw [World.cell?_alloc_new, Lib.zeros24_at _ (by omega), getElem!_pos _ j hj]
 simp
theorem fin20 (w : World) (o : Obj) (dk : Array UInt8) (k : Nat) : ∃ os, (putRow (fun (b : UInt8) => Value.int .u8 b.toNat) (w.alloc o) w.heap.size 0 dk).drewN k = grow (w.drewN k) os := by
 rw [alloc_eq_grow]
 obtain ⟨os', _, e⟩ := putRow_grow_new (fun (b : UInt8) => Value.int .u8 b.toNat) w #[o] w.heap.size 0 dk (Nat.le_refl _)
 exact ⟨os', by rw [e]; rfl⟩
set_option maxRecDepth 100000 in
set_option maxHeartbeats 1000000 in
theorem fmtU_calls (u : Nat) (hu : u < 4294967296) (w : World) (hP : PowW w) :
 Calls Tryz.prog 175 #[.int .u64 u, .int .i64 10] w fun e w' => e = .returned (.string ⟨(Lib.decDigits u).toArray⟩) ∧ ∃ k os, w' = grow (w.drewN k) os := by
 by_cases hs : u < 100
 · have hs' : (u : Int) < 100 := by omega
   go_enter Tryz.func175, Tryz.ntmps175
   go_wp2_with fail
   refine (Tryz.internal_strconv_small u hs _).mono ?_
   rintro e w' ⟨rfl, hw'⟩
   rw [hw']
   clear hw'
   simp only
   go_wp2_with fail
   go_ret
   exact ⟨rfl, 0, #[], by simp [World.drewN_zero]⟩
 · have hs' : ¬ (u : Int) < 100 := by omega
   have hu1 : 1 ≤ u := by omega
   have hu64 : u < 18446744073709551616 := by omega
   have hnd20 : Lib.nDigits u ≤ 20 := Lib.nDigits_le20 u hu64
   have hal : Tryz.prog.arrayLen 282 = 24 := by simp [Program.arrayLen, Tryz.underlying282]
   have hsl : ∀ W, (Instr.sliceAt 282 (.pointer (some ⟨w.heap.size, 0, none⟩)) none (some (.int .i64 (Lib.nDigits u : Int))) none).run Tryz.prog W = .ok (.slice (some ⟨w.heap.size, 0, none⟩) (Lib.nDigits u) 24) W := fun W => by
    rw [run_sliceAt_array_h W 282 ⟨w.heap.size, 0, none⟩ (by simp [Program.arrayLen, Program.elem, Tryz.underlying282]) .i64 (Lib.nDigits u : Int) (by omega) (by rw [hal]; omega)]
    go_simp
   have hH0 := holds_z24 w 282 (Lib.nDigits u) (by omega)
   have hfmt := Tryz.internal_strconv_formatBase10 w.heap.size 0 24 u (Array.replicate (Lib.nDigits u) 0) (w.alloc (.cells Lib.zeros24 282)) hH0 (by rw [Array.size_replicate]; exact Lib.lt_pow_nDigits u) hu64 (by rw [Array.size_replicate]; omega)
   rw [Array.size_replicate] at hfmt
   have HH0 := Lib.hid hH0
   have HP := Lib.hid hP
   clear hH0 hal hP
   go_enter Tryz.func175, Tryz.ntmps175
   go_wp2_with fail
   refine (Tryz.internal_strconv_numDigits u hu1 hu64 _ (Lib.tabIs_alloc HP.out _)).mono ?_
   rintro e w' ⟨rfl, hw'⟩
   rw [hw']
   clear hw'
   simp only
   go_wp2_with fail
   refine hfmt.mono ?_
   rintro e w' ⟨rfl, k, v', dk, rfl, hF⟩
   have hcv : (convert 40 9 (.slice (some ⟨w.heap.size, 0, none⟩) (Lib.nDigits u) 24)).run Tryz.prog ((putRow (fun (b : UInt8) => Value.int .u8 b.toNat) (w.alloc (.cells Lib.zeros24 282)) w.heap.size 0 dk).drewN k) = .ok (.string ⟨(Lib.decDigits u).toArray⟩) ((putRow (fun (b : UInt8) => Value.int .u8 b.toNat) (w.alloc (.cells Lib.zeros24 282)) w.heap.size 0 dk).drewN k) := by
    have h := run_convert_bytes_back (P := Tryz.prog) ((putRow (fun (b : UInt8) => Value.int .u8 b.toNat) (w.alloc (.cells Lib.zeros24 282)) w.heap.size 0 dk).drewN k) 40 9 5 ⟨w.heap.size, 0, none⟩ 24 (Lib.decDigits u) Tryz.underlying40 Tryz.underlying5 Tryz.underlying9 (fun j hj => by
     rw [Lib.row_is_numeral hF j hj, Lib.add_plain, World.cell?_drewN]
     exact cell?_putRow (fun (b : UInt8) => Value.int .u8 b.toNat) _ w.heap.size 0 _ dk HH0.out (by rw [hF.size, Array.size_replicate]) j (by rw [hF.size]; rw [Lib.decDigits_length] at hj; exact hj))
    rw [Lib.decDigits_length] at h
    exact h
   simp only
   go_wp2_with fail
   go_ret
   obtain ⟨os, eo⟩ := fin20 w (.cells Lib.zeros24 282) dk k
   exact ⟨rfl, k, os, eo⟩
theorem grow_below (w : World) (k : Nat) (os : Array Obj) : Below w.heap.size w (grow (w.drewN k) os) := by
 refine ⟨rfl, rfl, rfl, ?_, fun j hj => ?_⟩
 · simp [grow]
 · simp only [grow]
   exact Array.getElem?_append_left hj
set_option maxHeartbeats 400000 in
theorem fmt_calls (n : Nat) (hn : n < 4294967296) (w : World) (hP : PowW w) :
 Calls Tryz.prog 106 #[.int .u64 n, .int .i64 10] w fun e w' => e = .returned (.string ⟨(decT n).toArray⟩) ∧ Below w.heap.size w w' := by
 go_enter Tryz.func106, Tryz.ntmps106
 go_wp2_with fail
 refine (fmtU_calls n hn w hP).mono ?_
 rintro e w' ⟨rfl, k, os, hw'⟩
 have HW := Lib.hid hw'
 clear hw'
 simp only
 go_wp2_with fail
 go_ret
 exact ⟨rfl, by rw [HW.out]; exact grow_below w k os⟩
theorem PowW.below {w w' : World} (h : PowW w) (hb : Below w.heap.size w w') : PowW w' := by
 unfold PowW TabIs World.var? at *
 cases hg : Tryz.prog.globalNamed "internal/strconv.uint64pow10" with
 | none => simp [hg] at h
 | some g =>
  simp only [hg, Option.bind_some] at h ⊢
  have hlt : g < w.heap.size := by
   rcases Nat.lt_or_ge g w.heap.size with h' | h'
   · exact h'
   · rw [Array.getElem?_eq_none h'] at h; simp at h
  rw [hb.block g hlt]
  exact h
end Go.Proofs.YtmlkhhhjdpbhfaaGreatDoor
namespace Go.Proofs.YtmlkhhhjdpbhfaaGreatDoor
open Go.RowKit
theorem Shp.below {w w' : World} (h : Shp w) (hb : Below w.heap.size w w') : Shp w' :=
 h.fr (B := w.heap.size) (rb := w.heap.size) ⟨hb.os, hb.tape, hb.output, hb.size, fun k hk _ => hb.block k hk⟩ h.2 h.2
abbrev rlsOf (s : ByteArray) : List Rl := (formV s).rls
def outT (s bs : ByteArray) (fuel N : Nat) : PO := tryT (rulePt (rlsOf s)) bs N (fuel + 1) fuel 0 false (rulePt (rlsOf s) 0) (st0 bs)
def badBud (bs : ByteArray) (fuel N : Int) : Bool := decide (4000 < bs.size) || !(budB fuel 100000) || !(budB N 10000)
def parseV (s bs : ByteArray) (fuel N : Int) : List UInt8 × Int × Int :=
 if (pressV s).1 ≠ 0 then ([], (pressV s).1, (pressV s).2) else if badBud bs fuel N = true then ([], 5, 0)
 else ((endT (outT s bs fuel.toNat N.toNat)).1, ((endT (outT s bs fuel.toNat N.toNat)).2.1 : Int), ((endT (outT s bs fuel.toNat N.toNat)).2.2 : Int))
theorem form_head (s : ByteArray) (h : (formV s).ok = true) : ∃ x t, rlsOf s = x :: t ∧ x.r = 0 := by
 unfold rlsOf
 unfold formV at h ⊢
 rw [rulesV] at h ⊢
 split
 · rename_i h1; rw [if_pos h1] at h; cases h
 · rename_i h1
   rw [if_neg h1] at h
   have h65 : bt s 0 - 65 = 0 := by
    have : ¬ ¬ (65 ≤ bt s 0 ∧ bt s 0 ≤ 65) := h1
    omega
   split
   · rename_i h2; rw [if_pos h2] at h; cases h
   · rename_i h2
     rw [if_neg h2] at h
     split
     · rename_i h3; rw [if_pos h3] at h; cases h
     · rename_i h3
       rw [if_neg h3] at h
       split
       · exact ⟨_, _, rfl, h65⟩
       · rename_i h4
         rw [if_neg h4] at h
         split
         · rename_i h5; rw [if_pos h5] at h; cases h
         · exact ⟨_, _, rfl, h65⟩
theorem rulePt_head {x : Rl} {t : List Rl} (h : x.r = 0) : rulePt (x :: t) 0 = x.its := by
 unfold rulePt; rw [List.find?_cons_of_pos (by simpa using h)]
theorem cx_of (s : ByteArray) (W : World) (gb : Nat) (hg : GrAt s W gb) (hp : (pressV s).1 = 0) (bs : ByteArray) (N : Nat) (hbs : bs.size ≤ 4000) (hN : N ≤ 10000) (rb tb : Nat) (h1 : W.heap.size ≤ rb) (h2 : rb < tb) : CxOk ⟨W, gb, rb, tb, bs, N, rulePt (rlsOf s), ruleHas (rlsOf s), s⟩ := by
 obtain ⟨v, l, g1, g2, g3⟩ := hg.ex
 refine ⟨h1, h2, hbs, hN, ⟨v, l, g1, g2, fun r hr => ?_⟩, fun r hr => rule_wf s hp r hr⟩
 obtain ⟨i, hi, e1, e2, e3⟩ := ruleHas_find hr
 have hl : (l.map Prod.fst).length = (rlsOf s).length := by rw [g3]
 have hil : i < l.length := by simpa using (by omega : i < (l.map Prod.fst).length)
 have hgt : ∀ j (h : j < l.length) (h' : j < (rlsOf s).length), l[j].1 = (rlsOf s)[j] := fun j h h' => by
  have : (l.map Prod.fst)[j]'(by simpa using h) = (rlsOf s)[j] := by congr 1
  simpa using this
 refine ⟨i, hil, by rw [hgt i hil hi]; exact e1, fun j hj hjl => ?_, by rw [hgt i hil hi]; exact e3⟩
 have hjr : j < (rlsOf s).length := by omega
 rw [hgt j hjl hjr]
 exact e2 j hj hjr
theorem fmt_of {w : World} (hP : PowW w) : FmtC w := fun n hn => fmt_calls n hn w hP
theorem out_call (s : ByteArray) (w : World) (gb : Nat) (hg : GrAt s w gb) (hp : (pressV s).1 = 0) (hform : (formV s).ok = true) (bs : ByteArray) (fuel N : Nat) (hbs : bs.size ≤ 4000) (hfu : fuel ≤ 100000) (hN : N ≤ 10000) (W : World) (hb : Below w.heap.size w W) :
 Calls Tryz.prog 41 #[.pointer (some ⟨gb, 0, none⟩), .string bs, .int .i64 fuel, .int .i64 N] W fun e w' => ParsePost W (outT s bs fuel N) e w' := by
 have hgW := hg.below hb
 obtain ⟨x, t, hx, hr0⟩ := form_head s hform
 obtain ⟨v, l, g1, g2, g3⟩ := hgW.ex
 refine parseP_calls gb bs s hbs fuel N hfu hN _ _ W g1.lt (fun rb tb h1 h2 => cx_of s W gb hgW hp bs N hbs hN rb tb h1 h2) ?_ (rule_wf s hp 0 (form_first s hform))
 obtain ⟨g, cap, e1, e2, e3⟩ := g2.shape
 obtain ⟨q, qs, rfl⟩ : ∃ q qs, l = q :: qs := by
  cases l with
  | nil => rw [show (formV s).rls = x :: t from hx] at g3; cases g3
  | cons q qs => exact ⟨q, qs, rfl⟩
 have hq : q.1 = x := by
  rw [show (formV s).rls = x :: t from hx] at g3
  simpa using (List.cons.inj g3).1
 obtain ⟨lo, hi, _, r2, r3⟩ := g2.rep q List.mem_cons_self
 have hc := (e3 0 (by simp)).2.2
 refine ⟨v, g, _, cap, q.2, s.size + 1, lo, hi, g1, e1, by simp, e2, by simpa using hc, ?_, r2⟩
 rw [show rulePt (rlsOf s) 0 = q.1.its by rw [hx, hq]; exact rulePt_head hr0]
 exact r3
theorem pressV_zero (s : ByteArray) (h : (pressV s).1 = 0) : pressV s = (0, 0) := by
 obtain ⟨h1, h2, h3, h4⟩ := pressV_ok s h
 unfold pressV
 rw [if_neg (by omega), if_neg (by rw [h2]; simp), if_neg (by rw [h3]; simp), if_neg (by rw [h4]; simp)]
theorem outT_len (s bs : ByteArray) (hp : (pressV s).1 = 0) (hform : (formV s).ok = true) (fuel N : Nat) (hbs : bs.size ≤ 4000) (hN : N ≤ 10000) (hok : (outT s bs fuel N).ok = true) : (outT s bs fuel N).t.length ≤ 1000000000 := by
 have hi : PInv bs N (st0 bs) := ⟨Nat.zero_le _, Nat.le_refl _, by simp [st0], Nat.zero_le _, fun d => ⟨by simp [st0], by simp [st0]⟩⟩
 have hw := rule_wf s hp 0 (form_first s hform)
 have hl := tryT_lng hbs (rulePt (rlsOf s)) (fun r hr => rule_wf s hp r hr) (fuel + 1) fuel 0 false false false _ (st0 bs) hw hi hok
 have hk := (tryT_ok (R := ruleHas (rlsOf s)) (rulePt (rlsOf s)) (fun r hr => rule_wf s hp r hr) (fuel + 1)).fit fuel 0 false false false _ (st0 bs) hw hi hok
 have h1 : (outT s bs fuel N).t.length + (if silK false (rulePt (rlsOf s) 0) then 0 else 1) ≤ 8011 * ((outT s bs fuel N).st.vals - (st0 bs).vals) := hl.len
 have h2 : (outT s bs fuel N).st.vals ≤ N := hk.1.inv.vals
 generalize outT s bs fuel N = o at *
 have h3 : o.st.vals - (st0 bs).vals ≤ 10000 := by omega
 have h4 : 8011 * (o.st.vals - (st0 bs).vals) ≤ 8011 * 10000 := Nat.mul_le_mul_left _ h3
 omega
theorem endT_e (o : PO) (h : o.e ≠ 0) : endT o = ([], o.e, 0) := by unfold endT; rw [if_pos h]
theorem endT_ok (o : PO) (h : (endT o).2.1 = 0) : o.ok = true := by
 unfold endT at h
 split at h
 · rename_i h1; exact absurd h h1
 · split at h
   · simp at h
   · rename_i h2; simpa using h2
set_option maxRecDepth 100000 in
set_option maxHeartbeats 1000000 in
theorem pface_calls (s bs : ByteArray) (hsl : s.size ≤ maxLen) (hbl : bs.size ≤ maxLen) (fuel N : Int) (w : World) (hS : Shp w) (hP : PowW w) :
 Calls Tryz.prog 14 #[.string s, .string bs, .int .i64 fuel, .int .i64 N] w fun e w' => e = .returned (.tuple #[.string ⟨(parseV s bs fuel N).1.toArray⟩, .int .i64 (parseV s bs fuel N).2.1, .int .i64 (parseV s bs fuel N).2.2]) ∧ Below w.heap.size w w' := by
 have HC := hide' (sread_calls s hsl w hS (fun h1 h2 => form_ok s h1 h2))
 have HP := hide' hP
 unfold maxLen at hbl
 clear hS hP
 go_enter Tryz.func14, Tryz.ntmps14
 go_wp2_with fail
 refine HC.out.mono ?_
 rintro e w1 ⟨p, rfl, hb, hpost⟩
 have HB := hide' hb
 have HPo := hide' hpost
 clear hb hpost
 by_cases hz : (pressV s).1 = 0
 · obtain ⟨gb, rfl, hgl, hg⟩ := HPo.out hz
   obtain ⟨_, hform, _, _⟩ := pressV_ok s hz
   have hzz := pressV_zero s hz
   rw [hzz]
   have HG := hide' hg
   have hs1 := HB.out.size
   have hgb : gb < w1.heap.size := by obtain ⟨v, l, g1, _, _⟩ := hg.ex; exact g1.lt
   have hP1 := hide' (HP.out.below HB.out)
   cases hbud : badBud bs fuel N
   · have HV : Hid (parseV s bs fuel N = ((endT (outT s bs fuel.toNat N.toNat)).1, ((endT (outT s bs fuel.toNat N.toNat)).2.1 : Int), ((endT (outT s bs fuel.toNat N.toNat)).2.2 : Int))) := by
      have : parseV s bs fuel N = ((endT (outT s bs fuel.toNat N.toNat)).1, ((endT (outT s bs fuel.toNat N.toNat)).2.1 : Int), ((endT (outT s bs fuel.toNat N.toNat)).2.2 : Int)) := by unfold parseV; rw [if_neg (fun h => h hz), if_neg (by rw [hbud]; simp)]
      exact this
     have hb3 : bs.size ≤ 4000 ∧ (0 ≤ fuel ∧ fuel ≤ 100000) ∧ 0 ≤ N ∧ N ≤ 10000 := by
      unfold badBud budB at hbud
      simp at hbud
      omega
     obtain ⟨k1, ⟨k2, k3⟩, k4, k5⟩ := hb3
     obtain ⟨fu, rfl⟩ : ∃ fu : Nat, fuel = (fu : Int) := ⟨fuel.toNat, by omega⟩
     obtain ⟨n, rfl⟩ : ∃ n : Nat, N = (n : Int) := ⟨N.toNat, by omega⟩
     simp only [Int.toNat_natCast] at HV
     have hq1 : budB (fu : Int) 100000 = true := by unfold budB; simp; omega
     have hq2 : budB (n : Int) 10000 = true := by unfold budB; simp; omega
     have HPP := hide' (pparse_calls w1 gb bs fu n (outT s bs fu n) hgb (fun w' hb' => fmt_of (hP1.out.below hb')) (fun hok => outT_len s bs hz hform fu n k1 (by omega) hok) (fun W hW => out_call s w1 gb HG.out hz hform bs fu n k1 (by omega) (by omega) W hW) (endT_e _) (endT_ok _))
     have HQ := hide' (fun (a b : Int) (W : World) => isBudget_calls a b W)
     clear hbud hg
     simp only
     go_wp2_with (first
      | (go_at_call 26; refine (HQ.out _ _ _).mono ?_; rintro e w9 ⟨rfl, hw9⟩; subst hw9))
     refine HPP.out.mono ?_
     rintro e w2 ⟨rfl, hb2⟩
     have HB2 := hide' hb2
     clear hb2
     simp only
     go_wp2_with fail
     go_ret3
     rw [HV.out]
     exact ⟨rfl, HB.out.trans (HB2.out.mono (by omega))⟩
   · have HV : Hid (parseV s bs fuel N = ([], 5, 0)) := by
      have : parseV s bs fuel N = ([], 5, 0) := by unfold parseV; rw [if_neg (fun h => h hz), if_pos hbud]
      exact this
     have HQ := hide' (fun (a b : Int) (W : World) => isBudget_calls a b W)
     have hthree : 4000 < bs.size ∨ (¬ 4000 < bs.size ∧ budB fuel 100000 = false) ∨ (¬ 4000 < bs.size ∧ budB fuel 100000 = true ∧ budB N 10000 = false) := by
      unfold badBud at hbud
      by_cases h1 : 4000 < bs.size
      · exact Or.inl h1
      · cases h2 : budB fuel 100000
        · exact Or.inr (Or.inl ⟨h1, rfl⟩)
        · cases h3 : budB N 10000
          · exact Or.inr (Or.inr ⟨h1, rfl, rfl⟩)
          · rw [h2, h3] at hbud; simp [h1] at hbud
     clear hbud hg
     simp only
     rcases hthree with h1 | ⟨h1, h2⟩ | ⟨h1, h2, h3⟩
     · have h1' : (4000 : Int) < (bs.size : Int) := by omega
       go_wp2_with (first
        | (go_at_call 26; refine (HQ.out _ _ _).mono ?_; rintro e w9 ⟨rfl, hw9⟩; subst hw9))
       go_ret3
       rw [HV.out]
       exact ⟨rfl, HB.out⟩
     · have h1' : ¬ (4000 : Int) < (bs.size : Int) := by omega
       go_wp2_with (first
        | (go_at_call 26; refine (HQ.out _ _ _).mono ?_; rintro e w9 ⟨rfl, hw9⟩; subst hw9))
       go_ret3
       rw [HV.out]
       exact ⟨rfl, HB.out⟩
     · have h1' : ¬ (4000 : Int) < (bs.size : Int) := by omega
       go_wp2_with (first
        | (go_at_call 26; refine (HQ.out _ _ _).mono ?_; rintro e w9 ⟨rfl, hw9⟩; subst hw9))
       go_ret3
       rw [HV.out]
       exact ⟨rfl, HB.out⟩
 · have HV : Hid (parseV s bs fuel N = ([], (pressV s).1, (pressV s).2)) := by
    have : parseV s bs fuel N = ([], (pressV s).1, (pressV s).2) := by unfold parseV; rw [if_pos hz]
    exact this
   clear HPo
   simp only
   go_wp2_with fail
   go_ret3
   rw [HV.out]
   exact ⟨rfl, HB.out⟩
end Go.Proofs.YtmlkhhhjdpbhfaaGreatDoor
