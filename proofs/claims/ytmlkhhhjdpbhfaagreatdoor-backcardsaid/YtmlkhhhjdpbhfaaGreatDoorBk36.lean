import Derived.Test.YtmlkhhhjdpbhfaaGreatDoorBk35
import Derived.Test.YtmlkhhhjdpbhfaaGreatDoorBk27
namespace Go.Proofs.YtmlkhhhjdpbhfaaGreatDoor
open Go.RowKit
theorem run_putLow : ∀ args W, Sem.run Tryz.prog (callFunc 183 args) W = .ok (.enter 183 args) W := fun args W => by
 unfold callFunc
 go_simp
 simp [Tryz.f183]
theorem run_putHigh : ∀ args W, Sem.run Tryz.prog (callFunc 180 args) W = .ok (.enter 180 args) W := fun args W => by
 unfold callFunc
 go_simp
 simp [Tryz.f180]
def putF (low : Bool) : Nat := if low then 183 else 180
theorem run_putF (low : Bool) : ∀ args W, Sem.run Tryz.prog (callFunc (putF low) args) W = .ok (.enter (putF low) args) W := by
 cases low
 · exact run_putHigh
 · exact run_putLow
theorem putF_calls (w : World) (low : Bool) (g off m cp n : Nat) (t : TypeId) (cur : Array Value) (hb : Blk w g cur t) (hm : m ≤ 4) (hfit : off + m ≤ cur.size) (hn : n < 4294967296) :
 Calls Tryz.prog (putF low) #[.slice (some ⟨g, off, none⟩) m cp, .int .u32 (n : Nat)] w fun e w' => e = .returned (.tuple #[]) ∧ PutS w w' g off t cur (numB low m n) := by
 cases low
 · exact putHigh_calls w g off m cp n t cur hb hm hfit hn
 · exact putLow_calls w g off m cp n t cur hb hm hfit hn
structure HoOk (h : Ho) (n : Nat) : Prop where
 lt : h.pl + h.w ≤ n
 pos : 1 ≤ h.w
 le : h.w ≤ 4
set_option maxRecDepth 100000 in
set_option maxHeartbeats 1000000 in
theorem put_callsK (c : Cx) (B : Nat) (w : World) (wb : Nat) (bv tv sv : Value) (svs : List Value) (hbs : List Nat) (st : Wr) (h : WrM c B w wb bv tv sv svs hbs st) (ho : Ho) (hh : HoOk ho st.out.length) (n : Nat) (hn : n < 4294967296) (hl : st.out.length ≤ 1000000000) :
 Calls Tryz.prog 80 #[.pointer (some ⟨wb, 0, none⟩), .agg #[.int .i64 (ho.pl : Nat), .int .i64 (ho.w : Nat), .func (.func (putF ho.low)) #[] #[]], .int .u32 (n : Nat)] w fun e w' => e = .returned (.tuple #[]) ∧ WrM c B w' wb bv tv sv svs hbs (wPut st ho n) ∧ Below B w w' ∧ ∀ k, k < w.heap.size → some k ≠ bv.ownBlock → w'.heap[k]? = w.heap[k]? := by
 have h1 := hh.lt
 have h2 := hh.pos
 have h3 := hh.le
 have hwb := h.ge wb List.mem_cons_self
 rcases h.out.2 with ⟨e, h0⟩ | ⟨g, cap, cur, hbv, hb', hg', hn', hm', hs', ht'⟩
 · omega
 have hgl := h.out.lt g (by rw [hbv]; rfl)
 have hA := Blk.new w #[.int .i64 (ho.pl : Nat), .int .i64 (ho.w : Nat), .func (.func (putF ho.low)) #[] #[]] 190
 have hbel := (Below.refl w.heap.size w).alloc (Nat.le_refl _) (.cells #[.int .i64 (ho.pl : Nat), .int .i64 (ho.w : Nat), .func (.func (putF ho.low)) #[] #[]] 190)
 have a0 : (w.alloc (.cells #[.int .i64 (ho.pl : Nat), .int .i64 (ho.w : Nat), .func (.func (putF ho.low)) #[] #[]] 190)).cell? ⟨w.heap.size, 0, none⟩ = some (.int .i64 (ho.pl : Nat)) := hA.cell 0
 have a1 : (w.alloc (.cells #[.int .i64 (ho.pl : Nat), .int .i64 (ho.w : Nat), .func (.func (putF ho.low)) #[] #[]] 190)).cell? ⟨w.heap.size, 1, none⟩ = some (.int .i64 (ho.w : Nat)) := hA.cell 1
 have a2 : (w.alloc (.cells #[.int .i64 (ho.pl : Nat), .int .i64 (ho.w : Nat), .func (.func (putF ho.low)) #[] #[]] 190)).cell? ⟨w.heap.size, 2, none⟩ = some (.func (.func (putF ho.low)) #[] #[]) := hA.cell 2
 have c46 : (w.alloc (.cells #[.int .i64 (ho.pl : Nat), .int .i64 (ho.w : Nat), .func (.func (putF ho.low)) #[] #[]] 190)).cell? ⟨wb, 46, none⟩ = some (.slice (some ⟨g, 0, none⟩) st.out.length cap) := by
  rw [World.cell?_of_block (w := w) (Below.heap_alloc _ _ _ hwb.2), ← hbv]; exact h.blk.cell 46
 have hg1 : (w.alloc (.cells #[.int .i64 (ho.pl : Nat), .int .i64 (ho.w : Nat), .func (.func (putF ho.low)) #[] #[]] 190)).heap[g]? = some (.cells cur 5 (0, 0)) := by rw [Below.heap_alloc _ _ _ hgl.2]; exact hg'
 have HM := hide' h
 have HG1 := hide' hg1
 have HBel := hide' hbel
 have HBv := hide' hbv
 have hrun := run_putF ho.low
 have hcs : ho.pl + ho.w ≤ cur.size := by omega
 have hwr : IntKind.i64.wrap ((ho.pl : Int) + (ho.w : Int)) = (ho.pl : Int) + (ho.w : Int) := by rw [IntKind.wrap_i64]; omega
 have hc1 : (ho.pl : Int) + (ho.w : Int) ≤ (cap : Int) := by omega
 have hc2 : ho.pl + ho.w ≤ cap := by omega
 have hc3 : ¬ (cap < ho.pl + ho.w) := by omega
 have hc4 : ¬ ((cap : Int) < (ho.pl : Int) + (ho.w : Int)) := by omega
 have hc5 : ¬ ((ho.pl : Int) + (ho.w : Int) < (ho.pl : Int)) := by omega
 have hc6 : ¬ ((ho.pl : Int) + (ho.w : Int) < 0) := by omega
 have hne : (if cap = ho.pl then some (⟨g, 0, none⟩ : Addr) else some ⟨g, ho.pl, none⟩) = some ⟨g, ho.pl, none⟩ := if_neg (by omega)
 have htn : ((ho.pl : Int) + (ho.w : Int)).toNat - ho.pl = ho.w := by omega
 clear h hA hbel hg1 hg' ht' hbv hs'
 go_enter Tryz.func80, Tryz.ntmps80
 go_wp2_with fail
 generalize (w.alloc (.cells #[.int .i64 (ho.pl : Nat), .int .i64 (ho.w : Nat), .func (.func (putF ho.low)) #[] #[]] 190)) = W at *
 refine wp_region_mid 15 _ rfl rfl (by kernel_rfl) (by kernel_rfl) ?_
 simp only [List.take_succ_cons, List.take_zero, List.drop_succ_cons, List.drop_zero]
 repeat still_step
 refine wpStill_nil ?_
 unfold Oper.wp
 go_simp
 refine (putF_calls (W.drewN 1) ho.low g ho.pl ho.w (cap - ho.pl) n 5 cur HG1.out h3 hcs hn).mono ?_
 rintro e w2 ⟨rfl, hput⟩
 have HP := hide' (HM.out.put (w1 := W.drewN 1) ho n g cap cur HBv.out ⟨HBel.out.os, HBel.out.tape, HBel.out.output, HBel.out.size, HBel.out.block⟩ HG1.out hput h1)
 have HKp : Hid (∀ k, k < w.heap.size → some k ≠ bv.ownBlock → w2.heap[k]? = w.heap[k]?) := by
  have : ∀ k, k < w.heap.size → some k ≠ bv.ownBlock → w2.heap[k]? = w.heap[k]? := fun k hk hne2 => by
   rw [hput.same.block k (fun e => hne2 (by rw [HBv.out, e]; rfl))]
   exact HBel.out.block k hk
  exact this
 clear hput
 simp only
 refine wpStill_nil ?_
 go_wp2_with fail
 go_end0
 exact ⟨rfl, HP.out.1, HP.out.2, HKp.out⟩
theorem WrM.wider {c : Cx} {B : Nat} {w w1 : World} {wb : Nat} {bv tv sv : Value} {svs : List Value} {hbs : List Nat} {st : Wr} (h : WrM c B w wb bv tv sv svs hbs st) (b : Bool) (hb1 : Below w.heap.size w w1) :
 WrM c B (w1.setCell ⟨wb, 47, none⟩ (.bool b)) wb bv tv sv svs hbs { st with wide := b } ∧ Below B w (w1.setCell ⟨wb, 47, none⟩ (.bool b)) := by
 have hwb := h.ge wb List.mem_cons_self
 have hbel : Below B w (w1.setCell ⟨wb, 47, none⟩ (.bool b)) := ⟨hb1.os, hb1.tape, hb1.output, by have := hb1.size; simp [World.setCell]; omega, fun k hk => by rw [Below.heap_setCell _ _ _ _ (by simp only; omega)]; exact hb1.block k (by omega)⟩
 have hblk1 : Blk w1 wb (wrC c.gb bv st.wide tv sv) 120 := by have := h.blk; unfold Blk at *; rw [hb1.block wb hwb.2]; exact this
 refine ⟨?_, hbel⟩
 have hk : ∀ q, q < w.heap.size → q ≠ wb → (w1.setCell ⟨wb, 47, none⟩ (.bool b)).heap[q]? = w.heap[q]? := fun q h1 h2 => by rw [Below.heap_setCell _ _ _ _ h2]; exact hb1.block q h1
 refine WrM.next (bv' := bv) (wide := b) (out := st.out) h hbel (fun q hm => ?_) (by have := hblk1.set 47 (.bool b); rw [wrC_wide] at this; exact this) (ownsRow_blocks h.out fun q e => ?_) h.nb
 · exact hk q (h.ge q (List.mem_cons_of_mem _ hm)).2 (fun e => by have := h.nd; rw [List.nodup_cons] at this; exact this.1 (e ▸ hm))
 · exact hk q (h.out.lt q e).2 (fun e2 => h.nb q e (e2 ▸ List.mem_cons_self))
def KOk (k : List It) : Prop := k.length ≤ 1000 ∧ ∀ x ∈ k, kW x.c = true → 1 ≤ x.w.toNat ∧ x.w.toNat ≤ 4
theorem KOk.sub {k l : List It} (h : KOk l) (hs : k.Sublist l) : KOk k := ⟨Nat.le_trans hs.length_le h.1, fun x hx => h.2 x (hs.subset hx)⟩
theorem KOk.tail {x : It} {r : List It} (h : KOk (x :: r)) : KOk r := h.sub (List.sublist_cons_self x r)
theorem hides_kW {c : Int} (h : hidesB c = true) : kW c = true := by
 simp only [hidesB, Bool.or_eq_true, beq_iff_eq] at h
 rcases h with rfl | rfl <;> rfl
theorem segs_all (f : Nat) : ∀ l : List It, l.length ≤ f → (segs f l).flatten = l := by
 induction f with
 | zero => intro l h; cases l with
  | nil => rfl
  | cons x r => simp at h
 | succ f ih => intro l h; cases l with
  | nil => rfl
  | cons x r =>
   simp only [segs, List.flatten_cons]
   rw [ih _ (by simp at h ⊢; omega), List.cons_append, List.take_append_drop]
theorem TrW.widths {R : Nat → Bool} : ∀ (f : Nat) (own ctx : Bool) (k : List It), TWf R f own ctx k → ∀ x ∈ k, kW x.c = true → 1 ≤ x.w.toNat ∧ x.w.toNat ≤ 4
 | 0, _, _, _, h, _, _, _ => h.elim
 | _ + 1, _, _, [], h, _, _, _ => h.elim
 | f + 1, own, ctx, y :: r, h, x, hx, hw => by
  obtain ⟨h1, _, _, _, _, _, h7⟩ := h
  rcases List.mem_cons.1 hx with rfl | hx
  · have := h1.w hw; omega
  · rw [← segs_all r.length r (Nat.le_refl _)] at hx
    obtain ⟨k, hk, hxk⟩ := List.mem_flatten.1 hx
    exact TrW.widths f _ _ k (h7 k hk) x hxk hw
theorem TrW.kok {R : Nat → Bool} {own ctx : Bool} {k : List It} (h : TrW R own ctx k) (hl : k.length ≤ 1000) : KOk k := ⟨hl, by obtain ⟨f, h⟩ := h; exact TrW.widths f own ctx k h⟩
theorem segs_le (f : Nat) : ∀ l : List It, (segs f l).length ≤ f := by
 induction f with
 | zero => intro l; simp [segs]
 | succ f ih => intro l; cases l with
  | nil => simp [segs]
  | cons x r => simp only [segs, List.length_cons]; exact Nat.succ_le_succ (ih _)
theorem segs_subl (f : Nat) : ∀ l k : List It, k ∈ segs f l → k.Sublist l := by
 induction f with
 | zero => intro l k h; simp [segs] at h
 | succ f ih => intro l k h; cases l with
  | nil => simp [segs] at h
  | cons x r =>
   simp only [segs, List.mem_cons] at h
   rcases h with rfl | h
   · exact (List.take_sublist _ _).cons_cons x
   · exact ((ih _ _ h).trans (List.drop_sublist _ _)).cons x
structure WInv (st : Wr) : Prop where
 hole : ∀ (i : Nat) (f : Nat → Option Ho) (d : Nat) (ho : Ho), st.hol[i]? = some f → f d = some ho → HoOk ho st.out.length
 sums : st.sums ≠ []
structure WUp (N g : Nat) (st st' : Wr) : Prop where
 inv : WInv st'
 ge : st.out.length ≤ st'.out.length
 le : st'.out.length ≤ st.out.length + g
 hol : ∀ i, i < N → st'.hol[i]? = st.hol[i]?
 holL : st.hol.length ≤ st'.hol.length
 sums : st'.sums.length = st.sums.length
 sum : (st'.sums.getLastD []).length ≤ (st.sums.getLastD []).length + g
 wait : st'.wait.length ≤ st.wait.length + g
 set : ∀ (i : Nat) (f : Nat → Option Ho) (d : Nat) (ho : Ho), st.hol[i]? = some f → f d = some ho → ∃ f' ho', st'.hol[i]? = some f' ∧ f' d = some ho'
theorem WUp.refl {N : Nat} {st : Wr} (h : WInv st) : WUp N 0 st st := ⟨h, Nat.le_refl _, Nat.le_refl _, fun _ _ => rfl, Nat.le_refl _, rfl, Nat.le_refl _, Nat.le_refl _, fun _ f _ ho a b => ⟨f, ho, a, b⟩⟩
theorem WUp.trans {N g g' : Nat} {a b c : Wr} (h : WUp N g a b) (h' : WUp N g' b c) : WUp N (g + g') a c :=
 ⟨h'.inv, Nat.le_trans h.ge h'.ge, by have := h.le; have := h'.le; omega, fun i hi => (h'.hol i hi).trans (h.hol i hi), Nat.le_trans h.holL h'.holL, h'.sums.trans h.sums, by have := h.sum; have := h'.sum; omega, by have := h.wait; have := h'.wait; omega, fun i f d ho a b => by
  obtain ⟨f', ho', a', b'⟩ := h.set i f d ho a b
  exact h'.set i f' d ho' a' b'⟩
theorem WUp.mono {N N' g g' : Nat} {a b : Wr} (h : WUp N g a b) (hN : N' ≤ N) (hg : g ≤ g') : WUp N' g' a b :=
 ⟨h.inv, h.ge, by have := h.le; omega, fun i hi => h.hol i (by omega), h.holL, h.sums, by have := h.sum; omega, by have := h.wait; omega, h.set⟩
theorem HoOk.more {h : Ho} {n m : Nat} (a : HoOk h n) (b : n ≤ m) : HoOk h m := ⟨Nat.le_trans a.lt b, a.pos, a.le⟩
theorem holeOf_le {st : Wr} (h : WInv st) (hid : Option Nat) (d : Nat) : (holeOf st hid d).pl + (holeOf st hid d).w ≤ st.out.length := by
 unfold holeOf
 cases hid with
 | none => simp [ho0]
 | some i =>
  simp only
  cases hf : st.hol[i]? with
  | none => simp [List.getD_eq_getElem?_getD, hf, ho0]
  | some f =>
   simp only [List.getD_eq_getElem?_getD, hf, Option.getD_some]
   cases hd : f d with
   | none => simp [ho0]
   | some ho => exact (h.hole i f d ho hf hd).lt
theorem wOut_up {N : Nat} {st : Wr} (h : WInv st) (l : List UInt8) : WUp N l.length st (wOut st l) :=
 ⟨⟨fun i f d ho a b => (h.hole i f d ho a b).more (by simp [wOut]), h.sums⟩, by simp [wOut], by simp [wOut], fun _ _ => rfl, Nat.le_refl _, rfl, by simp [wOut], by simp [wOut], fun _ f _ ho a b => ⟨f, ho, a, b⟩⟩
theorem wTell_len {st : Wr} (ho : Ho) (n : Nat) (hl : ho.pl + ho.w ≤ st.out.length) : (wTell st ho n).out.length = st.out.length := putAt_length _ _ _ hl
theorem wTell_up {N : Nat} {st : Wr} (h : WInv st) (ho : Ho) (n : Nat) (hl : ho.pl + ho.w ≤ st.out.length) : WUp N 0 st (wTell st ho n) := by
 have e := wTell_len (st := st) ho n hl
 exact ⟨⟨fun i f d k a b => (h.hole i f d k a b).more (Nat.le_of_eq e.symm), h.sums⟩, by omega, by omega, fun _ _ => rfl, Nat.le_refl _, rfl, Nat.le_refl _, Nat.le_refl _, fun _ f _ ho a b => ⟨f, ho, a, b⟩⟩
theorem wSum_up {N : Nat} {st : Wr} (h : WInv st) (s : Sp) : WUp N 1 st (wSum st s) := by
 refine ⟨⟨h.hole, by simp [wSum]⟩, Nat.le_refl _, by simp [wSum], fun _ _ => rfl, Nat.le_refl _, ?_, ?_, by simp [wSum], fun _ f _ ho a b => ⟨f, ho, a, b⟩⟩
 · have : 0 < st.sums.length := List.length_pos_iff.2 h.sums
   simp only [wSum, List.length_append, List.length_dropLast, List.length_singleton]; omega
 · simp [wSum, List.getLastD_eq_getLast?]
theorem wWait_up {N : Nat} {st : Wr} (h : WInv st) (e : Wt) : WUp N 1 st (wWait st e) :=
 ⟨⟨h.hole, h.sums⟩, Nat.le_refl _, by simp [wWait], fun _ _ => rfl, Nat.le_refl _, rfl, by simp [wWait], by simp [wWait], fun _ f _ ho a b => ⟨f, ho, a, b⟩⟩
theorem wSil_up {k : List It} {i : Nat} {st : Wr} (h : WInv st) (hk : KOk k) (hs : silV k = true) : WUp i 8 st (wSil k i st) := by
 cases k with
 | nil => cases hs
 | cons x r =>
  unfold wSil
  simp only
  by_cases h39 : x.c = 39
  · rw [if_pos h39]
    exact (wOut_up h _).mono (Nat.le_refl _) (by simp)
  · rw [if_neg h39]
    have hh : hidesB x.c = true := by simpa [silV, h39] using hs
    obtain ⟨w1, w2⟩ := hk.2 x List.mem_cons_self (hides_kW hh)
    refine ⟨⟨fun j f d ho a b => ?_, h.sums⟩, by simp [wOut, wHide], by simp [wOut, wHide]; omega, fun j hj => ?_, by simp [wOut, wHide], rfl, by simp [wOut, wHide], by simp [wOut, wHide], fun j f d ho a b => ?_⟩
    · simp only [wOut, wHide, List.length_append, List.length_replicate] at a ⊢
      rw [List.getElem?_modify] at a
      cases hf : st.hol[j]? with
      | none => rw [hf] at a; cases a
      | some f0 =>
       rw [hf] at a
       have a' := Option.some.inj a
       dsimp only at a'
       by_cases hij : i = j
       · rw [if_pos hij] at a'
         subst a'
         dsimp only at b
         by_cases hd : d = x.d.toNat
         · rw [if_pos hd] at b
           cases b
           exact ⟨Nat.le_refl _, w1, w2⟩
         · rw [if_neg hd] at b
           exact (h.hole j f0 d ho hf b).more (by omega)
       · rw [if_neg hij] at a'
         subst a'
         exact (h.hole j f0 d ho hf b).more (by omega)
    · simp only [wOut, wHide]
      rw [List.getElem?_modify]
      cases hf : st.hol[j]? with
      | none => rfl
      | some f0 =>
       show some _ = some _
       dsimp only
       rw [if_neg (by omega)]
    · simp only [wOut, wHide]
      rw [List.getElem?_modify, a]
      by_cases hij : i = j
      · by_cases hd : d = x.d.toNat
        · exact ⟨_, ⟨st.out.length, x.w.toNat, decide (x.c = 107)⟩, rfl, by dsimp only; rw [if_pos hij, if_pos hd]⟩
        · exact ⟨_, ho, rfl, by dsimp only; rw [if_pos hij, if_neg hd]; exact b⟩
      · exact ⟨_, ho, rfl, by dsimp only; rw [if_neg hij]; exact b⟩
def WOk {T : Type} (s : T → Nat) (W : List It → Option Nat → T → Wr → Wr) : Prop := ∀ k hid y st, KOk k → WInv st → WUp st.hol.length (10000 * s y) st (W k hid y st)
theorem wKids_up {T : Type} {s : T → Nat} {W : List It → Option Nat → T → Wr → Wr} (hW : WOk s W) (i : Nat) : ∀ (ks : List (List It)) (vs : List T) (st : Wr), (∀ k ∈ ks, KOk k) → WInv st → i ≤ st.hol.length →
 WUp i (8 * ks.length + 10000 * (vs.map s).sum) st (wKids W i ks vs st)
 | [], vs, st, _, h, _ => (WUp.refl h).mono (Nat.le_refl _) (Nat.zero_le _)
 | k :: ks, vs, st, hk, h, hi => by
  unfold wKids
  by_cases hs : silV k = true
  · rw [if_pos hs]
    have a := wSil_up (i := i) h (hk k List.mem_cons_self) hs
    have b := wKids_up hW i ks vs _ (fun k h => hk k (List.mem_cons_of_mem _ h)) a.inv (Nat.le_trans hi a.holL)
    exact (a.trans b).mono (Nat.le_refl _) (by simp only [List.length_cons]; omega)
  · rw [if_neg hs]
    cases vs with
    | nil => exact (WUp.refl h).mono (Nat.le_refl _) (Nat.zero_le _)
    | cons y ys =>
     have a := (hW k (some i) y st (hk k List.mem_cons_self) h).mono hi (Nat.le_refl _)
     have b := wKids_up hW i ks ys _ (fun k h => hk k (List.mem_cons_of_mem _ h)) a.inv (Nat.le_trans hi a.holL)
     exact (a.trans b).mono (Nat.le_refl _) (by simp only [List.length_cons, List.map_cons, List.sum_cons]; omega)
theorem wMany_up {T : Type} {s : T → Nat} {W : List It → Option Nat → T → Wr → Wr} (hW : WOk s W) (k : List It) (hk : KOk k) (N : Nat) : ∀ (vs : List T) (st : Wr), WInv st → N ≤ st.hol.length →
 WUp N (10000 * (vs.map s).sum) st (wMany W k vs st)
 | [], st, h, _ => (WUp.refl h).mono (Nat.le_refl _) (Nat.zero_le _)
 | y :: ys, st, h, hN => by
  have a := (hW k none y st hk h).mono hN (Nat.le_refl _)
  have b := wMany_up hW k hk N ys _ a.inv (Nat.le_trans hN a.holL)
  exact (a.trans b).mono (Nat.le_refl _) (by simp only [List.map_cons, List.sum_cons]; omega)
theorem wTop_up {T : Type} {s : T → Nat} {W : List It → Option Nat → T → Wr → Wr} (hW : WOk s W) (k : List It) (hid : Option Nat) (v : Nd T) (st : Wr) (hk : KOk k) (h : WInv st) :
 WUp st.hol.length (8008 + v.run.length + 10000 * (v.kids.map s).sum) st (wTop W k hid v st) := by
 unfold wTop
 cases k with
 | nil => exact (WUp.refl h).mono (Nat.le_refl _) (Nat.zero_le _)
 | cons x r =>
  have hw := hk.2 x List.mem_cons_self
  have hr := hk.tail
  have hseg : ∀ k ∈ segs r.length r, KOk k := fun k hm => hr.sub (segs_subl _ _ _ hm)
  simp only
  split
  · rename_i hc
    have := hw (by rw [hc]; rfl)
    exact (wOut_up h _).mono (Nat.le_refl _) (by rw [numB_length]; omega)
  split
  · rename_i hc
    have := hw (by rw [hc]; rfl)
    exact (wOut_up h _).mono (Nat.le_refl _) (by rw [numB_length]; omega)
  split
  · exact (wOut_up h _).mono (Nat.le_refl _) (by simp; omega)
  split
  · exact (wOut_up h _).mono (Nat.le_refl _) (by omega)
  split
  · have a := wTell_up (N := st.hol.length) h _ v.run.length (holeOf_le h hid x.d.toNat)
    exact (a.trans (wOut_up a.inv _)).mono (Nat.le_refl _) (by omega)
  split
  · have h2 : WInv { st with hol := st.hol ++ [fun _ => none] } := ⟨fun i f d ho a b => by
     by_cases hi : i < st.hol.length
     · simp only [List.getElem?_append_left hi] at a
       exact h.hole i f d ho a b
     · simp only [List.getElem?_append_right (Nat.le_of_not_lt hi)] at a
       have h0 : i - st.hol.length = 0 := by
        have := (List.getElem?_eq_some_iff.1 a).1
        simp at this; omega
       rw [h0] at a
       cases a
       exact absurd b (by simp), h.sums⟩
    have b := wKids_up hW st.hol.length (segs r.length r) v.kids _ hseg h2 (by simp)
    have c := segs_le r.length r
    have d := hr.1
    refine (WUp.trans (g := 0) ?_ b).mono (Nat.le_refl _) (by omega)
    exact ⟨h2, Nat.le_refl _, Nat.le_refl _, fun i hi => List.getElem?_append_left hi, by simp, rfl, Nat.le_refl _, Nat.le_refl _, fun i f d ho a b => ⟨f, ho, by rw [List.getElem?_append_left (List.getElem?_eq_some_iff.1 a).1]; exact a, b⟩⟩
  split
  · cases hv : v.kids with
    | nil => exact (WUp.refl h).mono (Nat.le_refl _) (Nat.zero_le _)
    | cons y ys =>
     have hK : KOk ((segs r.length r).getD v.n []) := by
      rw [List.getD_eq_getElem?_getD]
      cases hg : (segs r.length r)[v.n]? with
      | none => exact ⟨by simp, by simp⟩
      | some k => exact hseg k (List.mem_of_getElem? hg)
     exact (hW _ none y st hK h).mono (Nat.le_refl _) (by simp only [List.map_cons, List.sum_cons]; omega)
  split
  · exact (wMany_up hW r hr st.hol.length v.kids st h (Nat.le_refl _)).mono (Nat.le_refl _) (by omega)
  split
  · have a := wTell_up (N := st.hol.length) h _ v.kids.length (holeOf_le h hid x.d.toNat)
    have b := wMany_up hW r hr st.hol.length v.kids _ a.inv a.holL
    exact (a.trans b).mono (Nat.le_refl _) (by omega)
  · exact (WUp.refl h).mono (Nat.le_refl _) (Nat.zero_le _)
theorem ruleEnd_ok {G : Nat → List It} (hG : ∀ i, KOk (G i)) : ∀ (n : Nat) (k q : List It), ruleEnd G n k = some q → KOk q
 | 0, _, _, e => by cases e
 | _ + 1, [], _, e => by cases e
 | n + 1, x :: r, q, e => by
  unfold ruleEnd at e
  have hg := hG x.r.toNat
  cases hk : G x.r.toNat with
  | nil => rw [hk] at e; cases e
  | cons y z =>
   rw [hk] at e hg
   simp only at e
   split at e
   · exact ruleEnd_ok hG n _ q e
   · cases e; exact hg
theorem wIn_up {n : Nat} {s : Tr n → Nat} {G : Nat → List It} (hG : ∀ i, KOk (G i)) {W : List It → Option Nat → Tr n → Wr → Wr} (hW : WOk s W) (hid : Option Nat) (v : Nd (Tr n)) (st : Wr) (h : WInv st) : ∀ k, KOk k →
 WUp st.hol.length (k.length + (8008 + v.run.length + 10000 * (v.kids.map s).sum)) st (wIn G W k hid v st)
 | [], _ => (WUp.refl h).mono (Nat.le_refl _) (Nat.zero_le _)
 | x :: r, hk => by
  have ih := wIn_up hG hW hid v st h r hk.tail
  unfold wIn
  split
  · exact (ih.trans (wTell_up ih.inv _ _ (holeOf_le ih.inv hid x.d.toNat))).mono (Nat.le_refl _) (by simp only [List.length_cons]; omega)
  split
  · exact (ih.trans (wSum_up ih.inv _)).mono (Nat.le_refl _) (by simp only [List.length_cons]; omega)
  split
  · exact (wWait_up h _).mono (Nat.le_refl _) (by simp only [List.length_cons]; omega)
  split
  · split
    · exact (WUp.refl h).mono (Nat.le_refl _) (Nat.zero_le _)
    · rename_i q hq
      exact (wTop_up hW q none v st (ruleEnd_ok hG 8 _ q hq) h).mono (Nat.le_refl _) (by omega)
  · exact (wTop_up hW (x :: r) hid v st hk h).mono (Nat.le_refl _) (by omega)
theorem writeT_up {G : Nat → List It} (hG : ∀ i, KOk (G i)) : ∀ n, WOk (szT n) (writeT G n)
 | 0 => fun _ _ _ _ _ h => (WUp.refl h).mono (Nat.le_refl _) (Nat.zero_le _)
 | n + 1 => fun k hid y st hk h => by
  have a := wIn_up hG (writeT_up hG n) hid y st h k hk
  have b := hk.1
  refine a.mono (Nat.le_refl _) ?_
  unfold szT
  omega
theorem foldl_keep {α β : Type} (P : β → Prop) (g : β → α → β) (h : ∀ b a, P b → P (g b a)) : ∀ (l : List α) (b : β), P b → P (l.foldl g b)
 | [], _, hb => hb
 | a :: l, b, hb => foldl_keep P g h l (g b a) (h b a hb)
theorem bwV_flag (st : Int × Bool) (d : Int) : (bwV st d).2 = true := by
 unfold bwV
 by_cases h : st.2 = true
 · by_cases h2 : d < st.1 <;> simp [h, h2]
 · simp [h]
theorem endV_keep (sc : Sc) (st : Int × Bool) (h : st.2 = true) : (endV sc st).2 = true := by
 unfold endV
 refine foldl_keep (fun z : Int × Bool => z.2 = true) _ (fun b a hb => ?_) _ _ h
 unfold endStep
 split
 · split
   · exact hb
   · exact bwV_flag _ _
 · exact hb
theorem stepV_keep (own ar : Bool) (x : It) (q : Sc × (Int × Bool)) (h : q.2.2 = true) : (stepV own ar x q).2.2 = true := by
 unfold stepV hideV useV
 split
 · split
   · exact h
   · exact bwV_flag _ _
 split
 · split
   · exact h
   · exact bwV_flag _ _
 · exact h
theorem walkV_keep : ∀ (f : Nat) (own ar : Bool) (k : List It) (q : Sc × (Int × Bool)), q.2.2 = true → (walkV f own ar k q).2.2 = true
 | 0, _, _, _, _, h => h
 | _ + 1, _, _, [], _, h => h
 | f + 1, own, ar, x :: r, q, h => by
  unfold walkV
  split
  · exact endV_keep _ _ (foldl_keep (fun z : Sc × (Int × Bool) => z.2.2 = true) _ (fun b a hb => walkV_keep f _ _ a b hb) _ _ h)
  · exact foldl_keep (fun z : Sc × (Int × Bool) => z.2.2 = true) _ (fun b a hb => walkV_keep f _ _ a b hb) _ _ (stepV_keep own ar x q h)
def foldW (f : Nat) (own ar : Bool) (ks : List (List It)) (q : Sc × (Int × Bool)) : Sc × (Int × Bool) := ks.foldl (fun z s => walkV f own ar s z) q
theorem foldW_cons (f : Nat) (own ar : Bool) (k : List It) (ks : List (List It)) (q : Sc × (Int × Bool)) : foldW f own ar (k :: ks) q = foldW f own ar ks (walkV f own ar k q) := rfl
theorem foldW_keep (f : Nat) (own ar : Bool) (ks : List (List It)) (q : Sc × (Int × Bool)) (h : q.2.2 = true) : (foldW f own ar ks q).2.2 = true :=
 foldl_keep (fun z : Sc × (Int × Bool) => z.2.2 = true) _ (fun b a hb => walkV_keep f _ _ a b hb) _ _ h
theorem foldW_ok {f : Nat} {own ar : Bool} {ks : List (List It)} {q : Sc × (Int × Bool)} (h : (foldW f own ar ks q).2.2 = false) : q.2.2 = false := by
 cases e : q.2.2 with
 | false => rfl
 | true => rw [foldW_keep f own ar ks q e] at h; exact h
theorem walkV_struct' (f : Nat) (own ar : Bool) (x : It) (r : List It) (q : Sc × (Int × Bool)) (hc : x.c = 40) :
 walkV (f + 1) own ar (x :: r) q = (q.1, endV (foldW f true true (segs r.length r) (Sc0, q.2)).1 (foldW f true true (segs r.length r) (Sc0, q.2)).2) := by
 rw [walkV, if_pos hc]; rfl
theorem walkV_else (f : Nat) (own ar : Bool) (x : It) (r : List It) (q : Sc × (Int × Bool)) (hc : x.c ≠ 40) :
 walkV (f + 1) own ar (x :: r) q = foldW f false (ar && inB [119, 64, 115] x.c) (segs r.length r) (stepV own ar x q) := by
 rw [walkV, if_neg hc]; rfl
theorem stepV_hid {own ar : Bool} {x : It} {q : Sc × (Int × Bool)} (hh : hidesB x.c = false) : (stepV own ar x q).1.hid = q.1.hid := by
 unfold stepV useV
 rw [if_neg (by simp [hh])]
 split
 · split <;> rfl
 · rfl
theorem walkV_hid : ∀ (f : Nat) (own ar : Bool) (k : List It) (q : Sc × (Int × Bool)), (walkV f own ar k q).2.2 = false → (own = true → ∀ x r, k = x :: r → hidesB x.c = false) → (walkV f own ar k q).1.hid = q.1.hid
 | 0, _, _, _, _, _, _ => rfl
 | _ + 1, _, _, [], _, _, _ => rfl
 | f + 1, own, ar, x :: r, q, h, hn => by
  by_cases hc : x.c = 40
  · rw [walkV_struct' f own ar x r q hc]
  · rw [walkV_else f own ar x r q hc] at h ⊢
    have hf : ∀ (ks : List (List It)) (z : Sc × (Int × Bool)), (foldW f false (ar && inB [119, 64, 115] x.c) ks z).2.2 = false → (foldW f false (ar && inB [119, 64, 115] x.c) ks z).1.hid = z.1.hid := by
     intro ks
     induction ks with
     | nil => intro z _; rfl
     | cons k ks ih =>
      intro z hz
      rw [foldW_cons] at hz ⊢
      rw [ih _ hz]
      exact walkV_hid f false _ k z (foldW_ok hz) (fun e => by cases e)
    rw [hf _ _ h]
    have h0 := foldW_ok h
    cases hh : hidesB x.c with
    | false => exact stepV_hid hh
    | true =>
     cases own with
     | true => rw [hn rfl x r rfl] at hh; cases hh
     | false =>
      unfold stepV hideV at h0
      rw [if_pos hh] at h0
      simp [bwV_flag] at h0
theorem foldW_hid {f : Nat} {ar : Bool} : ∀ (ks : List (List It)) (z : Sc × (Int × Bool)), (foldW f false ar ks z).2.2 = false → (foldW f false ar ks z).1.hid = z.1.hid
 | [], _, _ => rfl
 | k :: ks, z, hz => by
  rw [foldW_cons] at hz ⊢
  rw [foldW_hid ks _ hz]
  exact walkV_hid f false ar k z (foldW_ok hz) (fun e => by cases e)
theorem walkV_sets {f : Nat} {ar : Bool} {x : It} {r : List It} {q : Sc × (Int × Bool)} (hh : hidesB x.c = true) (h : (walkV (f + 1) true ar (x :: r) q).2.2 = false) :
 (walkV (f + 1) true ar (x :: r) q).1.hid = fun k => if k = x.d.toNat then some x.pl else q.1.hid k := by
 have hc : x.c ≠ 40 := fun e => by rw [e] at hh; revert hh; decide
 rw [walkV_else f true ar x r q hc] at h ⊢
 rw [foldW_hid _ _ h]
 have h0 := foldW_ok h
 unfold stepV hideV at h0 ⊢
 rw [if_pos hh] at h0 ⊢
 split
 · rfl
 · rename_i h1
   rw [if_neg h1] at h0
   simp [bwV_flag] at h0
theorem walkV_use {f : Nat} {own ar : Bool} {x : It} {r : List It} {q : Sc × (Int × Bool)} (hu : usesB x.c = true) (h : (walkV (f + 1) own ar (x :: r) q).2.2 = false) : ar = true ∧ q.1.hid x.d.toNat ≠ none := by
 have hh : hidesB x.c = false := by
  cases hh : hidesB x.c with
  | false => rfl
  | true =>
   simp only [hidesB, Bool.or_eq_true, beq_iff_eq] at hh
   rcases hh with e | e <;> (rw [e] at hu; exact absurd hu (by decide))
 have hc : x.c ≠ 40 := fun e => by rw [e] at hu; exact absurd hu (by decide)
 rw [walkV_else f own ar x r q hc] at h
 have h0 := foldW_ok h
 unfold stepV useV at h0
 rw [if_neg (by simp [hh]), if_pos hu] at h0
 split at h0
 · rename_i h1
   simp only [Bool.and_eq_true, Bool.not_eq_true', Option.isNone_eq_false_iff] at h1
   exact ⟨h1.1.1, fun e => by rw [e] at h1; exact absurd h1.1.2 (by simp)⟩
 · simp [bwV_flag] at h0
def ScG (own ar : Bool) (k : List It) (sc : Sc) : Prop := ∃ F z, k.length ≤ F ∧ (walkV F own ar k (sc, z)).2.2 = false
def HolAt (st : Wr) (hid : Option Nat) (sc : Sc) : Prop := ∀ d, sc.hid d ≠ none → ∃ i f ho, hid = some i ∧ st.hol[i]? = some f ∧ f d = some ho
theorem HolAt.up {N g : Nat} {st st' : Wr} {hid : Option Nat} {sc sc' : Sc} (h : HolAt st hid sc) (hu : WUp N g st st') (he : sc'.hid = sc.hid) : HolAt st' hid sc' := fun d hd => by
 rw [he] at hd
 obtain ⟨i, f, ho, a, b, c⟩ := h d hd
 obtain ⟨f', ho', b', c'⟩ := hu.set i f d ho b c
 exact ⟨i, f', ho', a, b', c'⟩
theorem HolAt.hole {st : Wr} {hid : Option Nat} {sc : Sc} (h : HolAt st hid sc) {d : Nat} (hd : sc.hid d ≠ none) : ∃ i f, hid = some i ∧ st.hol[i]? = some f ∧ f d = some (holeOf st hid d) := by
 obtain ⟨i, f, ho, rfl, b, c⟩ := h d hd
 refine ⟨i, f, rfl, b, ?_⟩
 rw [c]
 simp [holeOf, List.getD_eq_getElem?_getD, b, c]
theorem ScG.use {own ar : Bool} {x : It} {r : List It} {sc : Sc} (h : ScG own ar (x :: r) sc) (hu : usesB x.c = true) : ar = true ∧ sc.hid x.d.toNat ≠ none := by
 obtain ⟨F, z, hl, hw⟩ := h
 cases F with
 | zero => simp at hl
 | succ f => exact walkV_use hu hw
theorem foldW_one {f : Nat} {own ar : Bool} {k : List It} {q : Sc × (Int × Bool)} : foldW f own ar [k] q = walkV f own ar k q := rfl
theorem ScG.inner {own ar : Bool} {x : It} {r : List It} {sc : Sc} (h : ScG own ar (x :: r) sc) (hi : inB [119, 64, 115] x.c = true) (hs : segs r.length r = [r]) : ∃ sc', sc'.hid = sc.hid ∧ ScG false true r sc' := by
 obtain ⟨F, z, hl, hw⟩ := h
 cases F with
 | zero => simp at hl
 | succ f =>
  have hu : usesB x.c = true := by
   simp only [inB, List.any_cons, List.any_nil, Bool.or_false, Bool.or_eq_true, beq_iff_eq] at hi
   rcases hi with e | e | e <;> (rw [← e]; decide)
  have hh : hidesB x.c = false := by
   simp only [inB, List.any_cons, List.any_nil, Bool.or_false, Bool.or_eq_true, beq_iff_eq] at hi
   rcases hi with e | e | e <;> (rw [← e]; decide)
  have hc : x.c ≠ 40 := fun e => by rw [e] at hu; exact absurd hu (by decide)
  have har := (walkV_use hu hw).1
  rw [walkV_else f own ar x r _ hc, hs, foldW_one, hi, har] at hw
  refine ⟨(stepV own ar x (sc, z)).1, stepV_hid hh, f, (stepV own ar x (sc, z)).2, by simp at hl; omega, ?_⟩
  rw [har]
  exact hw
theorem foldW_take {f : Nat} {own ar : Bool} : ∀ (ks : List (List It)) (q : Sc × (Int × Bool)), (foldW f own ar ks q).2.2 = false → ∀ i (hi : i < ks.length), (walkV f own ar ks[i] (foldW f own ar (ks.take i) q)).2.2 = false ∧ foldW f own ar (ks.take (i + 1)) q = walkV f own ar ks[i] (foldW f own ar (ks.take i) q)
 | [], _, _, i, hi => by simp at hi
 | k :: ks, q, h, 0, _ => ⟨foldW_ok (ks := ks) h, by simp [foldW]⟩
 | k :: ks, q, h, i + 1, hi => by
  have := foldW_take ks (walkV f own ar k q) h i (by simpa using hi)
  simpa [foldW] using this
theorem ScG.other {own ar : Bool} {x : It} {r : List It} {sc : Sc} (h : ScG own ar (x :: r) sc) (hc : x.c ≠ 40) (hi : inB [119, 64, 115] x.c = false) : ∀ k ∈ segs r.length r, ∃ sc', ScG false false k sc' := by
 intro k hk
 obtain ⟨F, z, hl, hw⟩ := h
 cases F with
 | zero => simp at hl
 | succ f =>
  rw [walkV_else f own ar x r _ hc, hi, Bool.and_false] at hw
  obtain ⟨i, hlt, rfl⟩ := List.getElem_of_mem hk
  have := (foldW_take _ _ hw i hlt).1
  have hl2 := (segs_subl _ _ _ hk).length_le
  exact ⟨_, f, _, by simp at hl; omega, this⟩
def ScKs : List (List It) → Sc → Prop
 | [], _ => True
 | k :: ks, sc => ScG true true k sc ∧ ∃ sc', ((∀ y t, k = y :: t → hidesB y.c = false) → sc'.hid = sc.hid) ∧ (∀ y t, k = y :: t → hidesB y.c = true → sc'.hid = fun d => if d = y.d.toNat then some y.pl else sc.hid d) ∧ ScKs ks sc'
theorem ScKs.of {f : Nat} : ∀ (ks : List (List It)) (sc : Sc) (z : Int × Bool), (∀ k ∈ ks, k.length ≤ f) → (foldW f true true ks (sc, z)).2.2 = false → ScKs ks sc
 | [], _, _, _, _ => trivial
 | k :: ks, sc, z, hl, h => by
  rw [foldW_cons] at h
  have a := foldW_ok h
  have hk := hl k List.mem_cons_self
  refine ⟨⟨f, z, hk, a⟩, (walkV f true true k (sc, z)).1, fun hn => walkV_hid f true true k _ a (fun _ => hn), fun y t e hh => ?_, ScKs.of ks _ (walkV f true true k (sc, z)).2 (fun k h => hl k (List.mem_cons_of_mem _ h)) h⟩
  subst e
  cases f with
  | zero => simp at hk
  | succ f => exact walkV_sets hh a
theorem ScG.kids {own ar : Bool} {x : It} {r : List It} {sc : Sc} (h : ScG own ar (x :: r) sc) (hc : x.c = 40) : ScKs (segs r.length r) Sc0 := by
 obtain ⟨F, z, hl, hw⟩ := h
 cases F with
 | zero => simp at hl
 | succ f =>
  rw [walkV_struct' f own ar x r _ hc] at hw
  have hw2 : (foldW f true true (segs r.length r) (Sc0, z)).2.2 = false := by
   cases e : (foldW f true true (segs r.length r) (Sc0, z)).2.2 with
   | false => rfl
   | true => have := endV_keep (foldW f true true (segs r.length r) (Sc0, z)).1 _ e; rw [this] at hw; exact hw
  exact ScKs.of _ _ z (fun k hk => by have := (segs_subl _ _ _ hk).length_le; simp at hl; omega) hw2
theorem wrongD_rule {F : Nat} : ∀ (rls : List Rl) (st : Int × Bool), (wrongD F rls st).2 = false → ∀ r ∈ rls, ∃ z, (walkV F false false r.its (Sc0, z)).2.2 = false
 | [], _, _, r, hr => by simp at hr
 | q :: rls, st, h, r, hr => by
  have hk : ∀ (l : List Rl) (z : Int × Bool), z.2 = true → (wrongD F l z).2 = true := fun l z hz => foldl_keep (fun z : Int × Bool => z.2 = true) _ (fun b a hb => walkV_keep F false false a.its (Sc0, b) hb) l z hz
  have h' : (wrongD F rls (walkV F false false q.its (Sc0, st)).2).2 = false := h
  rcases List.mem_cons.1 hr with rfl | hr
  · refine ⟨st, ?_⟩
    cases e : (walkV F false false r.its (Sc0, st)).2.2 with
    | false => rfl
    | true => rw [hk rls _ e] at h'; exact h'
  · exact wrongD_rule rls _ h' r hr
end Go.Proofs.YtmlkhhhjdpbhfaaGreatDoor
