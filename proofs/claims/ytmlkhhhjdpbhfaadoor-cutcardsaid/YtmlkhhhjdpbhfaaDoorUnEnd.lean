/- Contracts of the reader's ending and led: a name's labels, on through pointers. -/
import Derived.Test.YtmlkhhhjdpbhfaaDoorUnLab
import Derived.Lib.AppendStr
namespace Go.Proofs.YtmlkhhhjdpbhfaaDoor
open Go.RowKit

/-- but for the blocks rb and ob nothing old has turned -/
structure NFr (rb : Nat) (ob : Option Nat) (w w' : World) : Prop where
  os : w'.os = w.os
  tape : w'.tape = w.tape
  output : w'.output = w.output
  size : w.heap.size ≤ w'.heap.size
  block : ∀ k, k < w.heap.size → k ≠ rb → some k ≠ ob → w'.heap[k]? = w.heap[k]?

theorem NFr.refl (rb : Nat) (ob : Option Nat) (w : World) : NFr rb ob w w := ⟨rfl, rfl, rfl, Nat.le_refl _, fun _ _ _ _ => rfl⟩
theorem NFr.fr {rb : Nat} {ob : Option Nat} {w a b : World} (h : NFr rb ob w a) (k : Fr a.heap.size rb a b) : NFr rb ob w b :=
  ⟨k.os.trans h.os, k.tape.trans h.tape, k.output.trans h.output, Nat.le_trans h.size k.size, fun j h1 h2 h3 => (k.block j (by have := h.size; omega) h2).trans (h.block j h1 h2 h3)⟩
/-- onward with what was the name's block, or a new one -/
theorem NFr.next {rb : Nat} {ob ob1 : Option Nat} {w a b : World} (h : NFr rb ob w a) (k : NFr rb ob1 a b) (ho : ob1 = ob ∨ ∃ g, ob1 = some g ∧ w.heap.size ≤ g) : NFr rb ob w b :=
  ⟨k.os.trans h.os, k.tape.trans h.tape, k.output.trans h.output, Nat.le_trans h.size k.size, fun j h1 h2 h3 => (k.block j (by have := h.size; omega) h2 (fun e => by
    rcases ho with ho | ⟨g, ho, hg⟩
    · rw [ho] at e; exact h3 e
    · rw [ho] at e; cases e; omega)).trans (h.block j h1 h2 h3)⟩

def byC (l : List UInt8) : List Value := l.map fun c => .int .u8 (c.toNat : Int)
theorem byC_length (l : List UInt8) : (byC l).length = l.length := by simp [byC]

/-- a slice of bytes that lies in a row of its own -/
def NmV (w : World) (v : Value) (l : List UInt8) : Prop := w.ownsRow 0 5 1 v l.length (byC l)

theorem owns_blocks {w w' : World} {B : Nat} {e : TypeId} {size n : Nat} {v : Value} {xs : List Value} (h : w.ownsRow B e size v n xs) (hw : ∀ g, v.ownBlock = some g → w'.heap[g]? = w.heap[g]?) : w'.ownsRow B e size v n xs := by
  refine ⟨h.1, ?_⟩
  rcases h.2 with ⟨h1, h2⟩ | ⟨g, cap, cur, h1, h2, h3, h4⟩
  · exact Or.inl ⟨h1, h2⟩
  · exact Or.inr ⟨g, cap, cur, h1, h2, by rw [hw g (by rw [h1]; rfl)]; exact h3, h4⟩

theorem owns_low {w : World} {B C : Nat} {e : TypeId} {size n : Nat} {v : Value} {xs : List Value} (h : w.ownsRow C e size v n xs) (hB : B ≤ C) : w.ownsRow B e size v n xs := by
  refine ⟨h.1, ?_⟩
  rcases h.2 with h1 | ⟨g, cap, cur, h1, h2, h3⟩
  · exact Or.inl h1
  · exact Or.inr ⟨g, cap, cur, h1, Nat.le_trans hB h2, h3⟩

theorem owns_slice {w : World} {B : Nat} {e : TypeId} {size n : Nat} {v : Value} {xs : List Value} (h : w.ownsRow B e size v n xs) : ∃ p cap, v = .slice p n cap := by
  rcases h.2 with ⟨h1, h2⟩ | ⟨g, cap, cur, h1, _⟩
  · exact ⟨none, 0, by rw [h1, h2]⟩
  · exact ⟨_, _, h1⟩

/-- behind ending (and led): r: what the name comes to -/
def EndPost (t : TypeId) (s : ByteArray) (rb : Nat) (nv : Value) (nm : List UInt8) (w : World) (r : Option (List ByteArray × Nat)) (e : Ending) (w' : World) : Prop :=
  NFr rb nv.ownBlock w w' ∧
  ((∃ ls p nv', r = some (ls, p) ∧ e = .returned (.tuple #[nv', .bool true]) ∧ RdT t w' rb s p ∧ NmV w' nv' (joinN nm ls) ∧ nv'.ownBlock ≠ some rb ∧ (nv'.ownBlock = nv.ownBlock ∨ ∃ g, nv'.ownBlock = some g ∧ w.heap.size ≤ g)) ∨
    (r = none ∧ e = .returned (.tuple #[.slice none 0 0, .bool false])))

def EndS (s : ByteArray) (a : Nat) : Prop := ∀ (t : TypeId) (w : World) (rb : Nat) (nv : Value) (nm : List UInt8), RdT t w rb s a → NmV w nv nm → nv.ownBlock ≠ some rb → a ≤ s.size → nm.length ≤ (8001 - a) * 20000 →
  Calls Tryd.prog 50 #[.pointer (some ⟨rb, 0, none⟩), nv] w fun e w' => EndPost t s rb nv nm w (nameF s a a) e w'

/-- what a pointer at p comes to, its first byte being right -/
def ledF (s : ByteArray) (p below : Nat) : Option (List ByteArray × Nat) :=
  if p + 1 < s.size ∧ ptrV s p < below then (nameF s (ptrV s p) (ptrV s p)).map fun r => (r.1, p + 2) else none

set_option maxRecDepth 100000 in
set_option maxHeartbeats 2000000 in
theorem led_calls (s : ByteArray) (hs : s.size ≤ 8000) (t : TypeId) (w : World) (rb p a : Nat) (nv : Value) (nm : List UInt8) (hr : RdT t w rb s (p + 1)) (hn : NmV w nv nm) (hne : nv.ownBlock ≠ some rb) (hp : p < s.size) (h192 : 192 ≤ bt s p) (ha : a ≤ s.size)
    (hl : nm.length ≤ (8001 - a) * 20000 + 16000) (ih : ∀ to, to < a → EndS s to) :
    Calls Tryd.prog 61 #[.pointer (some ⟨rb, 0, none⟩), .int .u8 (bt s p), .int .i64 a, nv] w fun e w' => EndPost t s rb nv nm w (ledF s p a) e w' := by
  have HR := hid_of hr
  have HN := hid_of hn
  have HI := hid_of ih
  have hlt := hr.lt
  have hb255 := bt_hi s p
  obtain ⟨np, capv, hnv⟩ := owns_slice hn
  subst hnv
  clear hr hn ih
  obtain ⟨n, hbn, hnn⟩ : ∃ n : Nat, bt s p = (n : Int) ∧ btN s p = n := ⟨btN s p, (btN_eq s p).symm, rfl⟩
  rw [hbn] at h192 hb255 ⊢
  have HNn := hid_of hnn
  clear hbn hnn
  go_enter Tryd.func61, Tryd.ntmps61
  go_wp2_with fail
  refine (takeT_calls t w rb s (p + 1) 0 255 HR.out hs (by omega)).mono ?_
  rintro e w1 ⟨hsm, ⟨h1, rfl, h3⟩ | ⟨h1, rfl, h3⟩⟩
  rotate_left
  · have HL : Hid (ledF s p a = none) := by
      have : ledF s p a = none := by
        unfold tkOk at h1; unfold ledF
        simp at h1
        rw [if_neg]
        rintro ⟨x, _⟩
        have := h1 x (bt_lo _ _)
        have := bt_hi s (p + 1)
        omega
      exact this
    clear h1
    simp only
    go_wp2_with fail
    go_ret2
    exact ⟨(NFr.refl _ _ _).fr (hsm.fr _), Or.inr ⟨HL.out, rfl⟩⟩
  · have hp1 : p + 1 < s.size := by unfold tkOk at h1; simp at h1; omega
    have hm0 := bt_lo s (p + 1)
    have hm1 := bt_hi s (p + 1)
    obtain ⟨m, hbm, hmm⟩ : ∃ m : Nat, bt s (p + 1) = (m : Int) ∧ btN s (p + 1) = m := ⟨btN s (p + 1), (btN_eq s (p + 1)).symm, rfl⟩
    rw [hbm] at hm0 hm1 ⊢
    have HMm := hid_of hmm
    have HR1 := hid_of h3
    have HSm := hid_of hsm
    have HZ := hid_of hsm.size
    have c0 : w1.cell? ⟨rb, 0, none⟩ = some (.string s) := h3.cell 0
    clear h1 h3 hsm hbm hmm
    have HTo := hid_of (p := ptrV s p = (n - 192) * 256 + m) (by unfold ptrV; rw [HNn.out, HMm.out])
    simp only
    by_cases hto : (n - 192) * 256 + m < a
    · have hto' : ¬ (a : Int) ≤ ((n : Int) - 192) * 256 + (m : Int) := by omega
      go_wp2_with fail
      have e1 : ((n : Int) - 192) * 256 + (m : Int) = (((n - 192) * 256 + m : Nat) : Int) := by omega
      rw [e1]
      have hn1 : NmV (w1.alloc (.cells #[.string s, .int .i64 (((n - 192) * 256 + m : Nat) : Int)] 76)) (.slice np nm.length capv) nm := by
        refine owns_blocks HN.out fun g eg => ?_
        have := (HN.out.lt g eg).2
        rw [Below.heap_alloc _ _ _ (by rw [HZ.out]; exact this)]
        exact HSm.out.block g (fun e2 => hne (by rw [eg, e2]))
      have hne1 : (Value.slice np nm.length capv).ownBlock ≠ some w1.heap.size := by
        intro e2
        have := (HN.out.lt _ e2).2
        rw [HZ.out] at this
        omega
      have hrd1 : RdT 76 (w1.alloc (.cells #[.string s, .int .i64 (((n - 192) * 256 + m : Nat) : Int)] 76)) w1.heap.size s ((n - 192) * 256 + m) := Blk.new w1 _ _
      refine (HI.out _ hto 76 _ w1.heap.size _ nm hrd1 hn1 hne1 (by omega) (by omega)).mono ?_
      rintro e w2 ⟨hfr, ⟨ls, q, nv', hr', rfl, hrd, hnm', hne', hob⟩ | ⟨hr', rfl⟩⟩
      · have HL := hid_of (p := ledF s p a = some (ls, p + 2)) (by unfold ledF; rw [HTo.out, if_pos ⟨hp1, hto⟩, hr']; rfl)
        obtain ⟨np', capv', hnv'⟩ := owns_slice hnm'
        subst hnv'
        have HF := hid_of hfr
        have HNm := hid_of hnm'
        have HOb := hid_of hob
        clear hr' hrd hne' hob hnm' hfr
        simp only
        go_wp2_with fail
        go_ret2
        have hs1 := HZ.out
        have hf := HF.out
        have hs2 := hf.size
        simp at hs2
        refine ⟨⟨?_, ?_, ?_, by omega, fun k k1 k2 k3 => ?_⟩, Or.inl ⟨ls, p + 2, .slice np' (joinN nm ls).length capv', HL.out, rfl, ?_, HNm.out, ?_, ?_⟩⟩
        · exact hf.os.trans HSm.out.os
        · exact hf.tape.trans HSm.out.tape
        · exact hf.output.trans HSm.out.output
        · rw [hf.block k (by simp; omega) (by omega) k3, Below.heap_alloc _ _ _ (by omega)]
          exact HSm.out.block k k2
        · have := HR1.out
          unfold RdT Blk at *
          rw [hf.block rb (by simp; omega) (by omega) (fun e => hne e.symm), Below.heap_alloc _ _ _ (by omega)]
          exact this
        · rcases HOb.out with h | ⟨g, h, hg⟩
          · rw [h]; exact hne
          · rw [h]; simp at hg; intro e; cases e; omega
        · rcases HOb.out with h | ⟨g, h, hg⟩
          · exact Or.inl h
          · refine Or.inr ⟨g, h, ?_⟩; simp at hg; omega
      · have HL := hid_of (p := ledF s p a = none) (by unfold ledF; rw [HTo.out, if_pos ⟨hp1, hto⟩, hr']; rfl)
        have HF := hid_of hfr
        clear hr' hfr
        simp only
        go_wp2_with fail
        go_ret2
        have hs1 := HZ.out
        have hf := HF.out
        have hs2 := hf.size
        simp at hs2
        refine ⟨⟨?_, ?_, ?_, by omega, fun k k1 k2 k3 => ?_⟩, Or.inr ⟨HL.out, rfl⟩⟩
        · exact hf.os.trans HSm.out.os
        · exact hf.tape.trans HSm.out.tape
        · exact hf.output.trans HSm.out.output
        · rw [hf.block k (by simp; omega) (by omega) k3, Below.heap_alloc _ _ _ (by omega)]
          exact HSm.out.block k k2
    · have hto' : (a : Int) ≤ ((n : Int) - 192) * 256 + (m : Int) := by omega
      go_wp2_with fail
      go_ret2
      refine ⟨(NFr.refl _ _ _).fr (HSm.out.fr _), Or.inr ⟨?_, rfl⟩⟩
      unfold ledF
      rw [HTo.out, if_neg (by omega)]

end Go.Proofs.YtmlkhhhjdpbhfaaDoor
