import Derived.Test.YtmlkhhhjdpbhfaaGreatDoorPa30
import Derived.Test.YtmlkhhhjdpbhfaaGreatDoorPa01
import Derived.Deep.RegionHeld3
import Derived.Deep.LoopGhost
import Derived.Deep.DeepCutAuto
import Derived.Deep.RegionLaw
import Derived.Deep.DrawnRows
import Derived.Test.YtmlkhhhjdpbhfaaGreatDoorPa29
namespace Go.Proofs.YtmlkhhhjdpbhfaaGreatDoor
open Go.RowKit
theorem Tryz.infoPart : (Tryz.prog.info? 132).map (fun i => (i.zero, i.size, i.bytes)) = some (some (.agg #[.int .u8 0, .int .i64 0, .int .i64 0, .int .i64 0, .int .i64 0, .int .i64 0, .int .i64 0, .int .i64 0, .int .i64 0]), 9, 72) := by kernel_rfl
def PartPost (r : Res) (w : World) (B gb : Nat) (fi tw : Value) (its0 : List It) (e : Ending) (w' : World) : Prop :=
 e = .returned (.tuple #[.int .i64 r.i, .bool r.ok]) ∧ Fr B gb w w' ∧
  (r.ok = true → ∃ v', Blk w' gb #[v', fi, tw] 130 ∧ w'.ownsRow B 132 9 v' (its0 ++ r.its).length (cellsL 0 (its0 ++ r.its)))
def PartC (s : ByteArray) (rule : Int) (f : Nat) : Prop :=
 ∀ (a : Int) (w : World) (B gb : Nat) (v fi tw : Value) (its0 : List It), 0 ≤ a → a.toNat ≤ s.size → s.size + 1 - a.toNat ≤ f → gb < B → B ≤ w.heap.size →
  Blk w gb #[v, fi, tw] 130 → w.ownsRow B 132 9 v its0.length (cellsL 0 its0) → its0.length ≤ a.toNat →
  Calls Tryz.prog 84 #[.pointer (some ⟨gb, 0, none⟩), .string s, .int .i64 a, .int .i64 rule] w fun e w' => PartPost (prs s rule f a.toNat) w B gb fi tw its0 e w'
set_option maxHeartbeats 1000000 in
theorem part_fail (s : ByteArray) (rule : Int) (hs : s.size ≤ 400) (f : Nat) (n : Nat) (w : World) (B gb : Nat) (fi tw : Value) (its0 : List It) (hn : n ≤ s.size)
 (hB : B ≤ w.heap.size) (hok : (headV s n).ok = false) :
 Calls Tryz.prog 84 #[.pointer (some ⟨gb, 0, none⟩), .string s, .int .i64 n, .int .i64 rule] w fun e w' => PartPost (prs s rule (f + 1) n) w B gb fi tw its0 e w' := by
 have H : Hid (prs s rule (f + 1) n = ⟨false, (headV s n).i, []⟩) := by
  have : prs s rule (f + 1) n = ⟨false, (headV s n).i, []⟩ := by rw [prs, if_neg (by simp [hok])]
  exact this
 have HO := hok
 have Hok : Hid ((headV s n).ok = false) := hok
 clear hok HO
 go_enter Tryz.func84, Tryz.ntmps84
 go_wp2_with fail
 refine (head_calls s n w (by unfold maxLen; omega) (by omega) (by omega)).mono ?_
 rintro e w1 ⟨it, hit, rfl, hb⟩
 rw [Int.toNat_natCast, Hok.out]
 simp only [It.cells]
 clear hit
 have hsz := hb.size
 go_wp2
 refine bodyPost_ret (v := .tuple #[.int .i64 (headV s n).i, .bool false]) (by simp [results, Tryz.results84, go_sem]) rfl ?_
 rw [H.out]
 exact ⟨rfl, (Fr.refl B gb w).below (hb.alloc hsz _) hB, fun h => by cases h⟩
def rest (p : Nat → Res) (s : ByteArray) (f : Nat) (q : Int) (j i : Nat) : Res :=
 if q < 0 then (if j = 0 then loopB p s f i else if bt s i = 41 then ⟨true, i + 1, []⟩ else loopB p s (f - j) i) else loopN p (q.toNat - j) i
theorem Res.pre_nil (q : Res) : q.pre [] = q := by simp [Res.pre]
theorem Res.pre_pre (l m : List It) (q : Res) : (q.pre m).pre l = q.pre (l ++ m) := by simp [Res.pre]
theorem rest_step (p : Nat → Res) (s : ByteArray) (f : Nat) (q : Int) (j i : Nat) (h : (q < 0 ∧ (j = 0 ∨ bt s i ≠ 41) ∧ j < f) ∨ (0 ≤ q ∧ (j : Int) < q)) :
 rest p s f q j i = if (p i).ok = true then (rest p s f q (j + 1) (p i).i).pre (p i).its else ⟨false, (p i).i, []⟩ := by
 rcases h with ⟨hq, hj, hf⟩ | ⟨hq, hj⟩
 · have e1 : rest p s f q j i = loopB p s (f - j) i := by
    unfold rest
    rw [if_pos hq]
    by_cases h0 : j = 0
    · rw [if_pos h0, h0, Nat.sub_zero]
    · rw [if_neg h0, if_neg (by rcases hj with h | h; exact absurd h h0; exact h)]
   have e2 : rest p s f q (j + 1) (p i).i = if bt s (p i).i = 41 then ⟨true, (p i).i + 1, []⟩ else loopB p s (f - (j + 1)) (p i).i := by
    unfold rest
    rw [if_pos hq, if_neg (by omega)]
   rw [e1, e2, show f - j = (f - (j + 1)) + 1 by omega, loopB]
   split
   · split
     · simp [Res.pre]
     · rfl
   · rfl
 · have e1 : rest p s f q j i = loopN p (q.toNat - j) i := by unfold rest; rw [if_neg (by omega)]
   have e2 : rest p s f q (j + 1) (p i).i = loopN p (q.toNat - (j + 1)) (p i).i := by unfold rest; rw [if_neg (by omega)]
   rw [e1, e2, show q.toNat - j = (q.toNat - (j + 1)) + 1 by omega, loopN]
theorem rest_stopN (p : Nat → Res) (s : ByteArray) (f : Nat) (q : Int) (j i : Nat) (h0 : 0 ≤ q) (h : (j : Int) = q) : rest p s f q j i = ⟨true, i, []⟩ := by
 unfold rest
 rw [if_neg (by omega), show q.toNat - j = 0 by omega, loopN]
theorem rest_stopB (p : Nat → Res) (s : ByteArray) (f : Nat) (q : Int) (j i : Nat) (h0 : q < 0) (h : 0 < j) (hb : bt s i = 41) : rest p s f q j i = ⟨true, i + 1, []⟩ := by
 unfold rest
 rw [if_pos h0, if_neg (by omega), if_pos hb]
theorem rest_start (p : Nat → Res) (s : ByteArray) (f : Nat) (q : Int) (m : Nat) (it : It) : inner p s f ⟨true, m, q, it⟩ = rest p s f q 0 m := by
 unfold inner rest
 simp
structure AtHead (s : ByteArray) (rule : Int) (f : Nat) (w : World) (B gb : Nat) (fi tw : Value) (its0 : List It) (n m : Nat) (q : Int) (X : It) (R : Res) (j i : Nat) (its : List It) (g c : Nat) (wr : World) : Prop where
 hi : i ≤ s.size
 hj : its.length + m ≤ i
 hjj : j + m ≤ i
 hq : 0 ≤ q → (j : Int) ≤ q
 blk : Blk wr gb #[.slice (some ⟨g, 0, none⟩) (its0 ++ X :: its).length c, fi, tw] 130
 row : wr.ownsRow B 132 9 (.slice (some ⟨g, 0, none⟩) (its0 ++ X :: its).length c) (its0 ++ X :: its).length (cellsL 0 (its0 ++ X :: its))
 fr : Fr B gb w wr
 hB : B ≤ wr.heap.size
 eq : R = (rest (prs s rule f) s f q j i).pre its
theorem part_fin (rule : Int) (it : It) (its0 its : List It) (X : It) (hX : X = { it with rl := rule, nx := -(its0.length : Int) }) (i : Nat) (a : Int) (ha : a = i) (L : Nat) (hL : L = its0.length + 1 + its.length)
 {w wr : World} {B gb g c : Nat} {fi tw : Value} (hfr : Fr B gb w wr) (hgB : B ≤ g)
 (hG : Blk (wr.setCell ⟨g, its0.length * 9 + 6, none⟩ (.int .i64 L)) gb #[.slice (some ⟨g, 0, none⟩) L c, fi, tw] 130)
 (hrow : (wr.setCell ⟨g, its0.length * 9 + 6, none⟩ (.int .i64 L)).ownsRow B 132 9 (.slice (some ⟨g, 0, none⟩) L c) L ((cellsL 0 (its0 ++ X :: its)).set (its0.length * 9 + 6) (.int .i64 L))) :
 PartPost ⟨true, i, { it with rl := rule, nx := 1 + (its.length : Int) } :: its⟩ w B gb fi tw its0 (.returned (.tuple #[.int .i64 a, .bool true])) (wr.setCell ⟨g, its0.length * 9 + 6, none⟩ (.int .i64 L)).drew := by
 subst ha
 refine ⟨rfl, (hfr.setCell (Or.inr hgB) _).drew, fun _ => ⟨.slice (some ⟨g, 0, none⟩) L c, hG.drew, ?_⟩⟩
 have e1 : (its0 ++ { it with rl := rule, nx := 1 + (its.length : Int) } :: its).length = L := by simp; omega
 have e2 := cellsL_next its0 { it with rl := rule } its (1 + its.length)
 have e3 : ((its0.length : Int) + (1 + its.length)) = (L : Int) := by omega
 rw [e3] at e2
 simp only at e2 ⊢
 rw [e1, ← e2]
 subst hX
 exact hrow.drew
set_option maxRecDepth 100000 in
set_option maxHeartbeats 2000000 in
theorem part_ok (s : ByteArray) (rule : Int) (hs : s.size ≤ 400) (f : Nat) (ih : PartC s rule f) (n : Nat) (w : World) (B gb : Nat) (v fi tw : Value) (its0 : List It) (hn : n ≤ s.size) (hf : s.size ≤ f + n)
 (hgb : gb < B) (hB0 : B ≤ w.heap.size) (hG : Blk w gb #[v, fi, tw] 130) (hrow : w.ownsRow B 132 9 v its0.length (cellsL 0 its0)) (hlen : its0.length ≤ n)
 (m : Nat) (q : Int) (it : It) (hh : headV s n = ⟨true, m, q, it⟩) (R : Res) (hR : inner (prs s rule f) s f ⟨true, m, q, it⟩ = R) :
 Calls Tryz.prog 84 #[.pointer (some ⟨gb, 0, none⟩), .string s, .int .i64 n, .int .i64 rule] w fun e w' => PartPost (prs s rule (f + 1) n) w B gb fi tw its0 e w' := by
 obtain ⟨hb1, hb2, hb3, hb4⟩ := headV_bd s n hn
 obtain ⟨hq1, hq2⟩ := headV_inn s n
 rw [hh] at hb1 hb2 hb3 hb4 hq1 hq2
 simp only at hb1 hb2 hb3 hb4 hq1 hq2
 have hb4 := hb4 trivial
 have H : Hid (prs s rule (f + 1) n = ⟨R.ok, R.i, { it with rl := rule, nx := 1 + R.its.length } :: R.its⟩) := by
  have : prs s rule (f + 1) n = ⟨R.ok, R.i, { it with rl := rule, nx := 1 + R.its.length } :: R.its⟩ := by rw [prs, hh, if_pos rfl, hR]
  exact this
 have HR : Hid (inner (prs s rule f) s f ⟨true, m, q, it⟩ = R) := hR
 clear hR
 have Hh : Hid (headV s n = ⟨true, m, q, it⟩) := hh
 have IH : Hid (PartC s rule f) := ih
 have Hnx : Hid (it.nx = 0) := hb3
 clear hh ih hb3
 obtain ⟨i0, hi0, hz0, hz1, hz2⟩ := info_parts Tryz.infoPart
 have hrl : v.ownBlock ≠ some gb := fun e => by have := hrow.lt gb e; omega
 obtain ⟨ao, cap, rfl⟩ : ∃ ao cap, v = .slice ao its0.length cap := by
  rcases hrow.2 with ⟨rfl, h⟩ | ⟨g, c, _, rfl, _⟩
  · exact ⟨none, 0, by rw [h]⟩
  · exact ⟨_, _, rfl⟩
 go_enter Tryz.func84, Tryz.ntmps84
 go_wp2_with fail
 refine (head_calls s n w (by unfold maxLen; omega) (by omega) (by omega)).mono ?_
 rintro e w1 ⟨it', hit, rfl, hb⟩
 rw [Int.toNat_natCast, Hh.out] at hit ⊢
 obtain rfl : it = it' := (hit rfl).symm
 simp only [It.cells, Hnx.out]
 clear hit
 have hsz := hb.size
 have hG1 := hG.below hb (by omega)
 have hrow1 := hrow.kept (w' := w1) (row := none) ⟨hb.os, hb.tape, hb.output, hb.size, fun k hk _ => hb.block k hk⟩ (by cases hv : (Value.slice ao its0.length cap).ownBlock <;> simp)
 have hFr : Fr B gb w w1 := (Fr.refl B gb w).below hb hB0
 have c1 : ∀ o, (w1.alloc o).cell? ⟨gb, 0, none⟩ = some (.slice ao its0.length cap) := fun o => (hG1.alloc o).cell 0
 have f1 : ∀ o, (w1.alloc o).frozen? ⟨gb, 0, none⟩ = false := fun o => (hG1.alloc o).frozen 0
 have hgl := hG1.lt
 go_wp2_with fail
 have hP := Blk.new w1 #[.int .u8 it.c, .int .i64 it.w, .int .i64 it.b, .int .i64 it.r, .int .i64 it.d, .int .i64 it.pl, .int .i64 0, .int .i64 rule, .int .i64 0] 132
 have hG2 := hG1.alloc (.cells #[.int .u8 it.c, .int .i64 it.w, .int .i64 it.b, .int .i64 it.r, .int .i64 it.d, .int .i64 it.pl, .int .i64 0, .int .i64 rule, .int .i64 0] 132)
 have hrow2 := hrow1.alloc (.cells #[.int .u8 it.c, .int .i64 it.w, .int .i64 it.b, .int .i64 it.r, .int .i64 it.d, .int .i64 it.pl, .int .i64 0, .int .i64 rule, .int .i64 0] 132)
 have hFr2 := hFr.alloc (by omega) (.cells #[.int .u8 it.c, .int .i64 it.w, .int .i64 it.b, .int .i64 it.r, .int .i64 it.d, .int .i64 it.pl, .int .i64 0, .int .i64 rule, .int .i64 0] 132)
 have hrb : (Value.slice ao its0.length cap).ownBlock ≠ some w1.heap.size := fun e => by have := hrow1.lt _ e; omega
 have hb1B : B ≤ w1.heap.size := by omega
 clear c1 f1 hsz hb hG hrow hG1 hrow1 hFr hgl
 generalize w1.heap.size = b1 at *
 generalize w1.alloc (.cells #[.int .u8 it.c, .int .i64 it.w, .int .i64 it.b, .int .i64 it.r, .int .i64 it.d, .int .i64 it.pl, .int .i64 0, .int .i64 rule, .int .i64 0] 132) = w2 at *
 have hG2l := hG2.lt
 have hPl := hP.lt
 have HGC : Hid (Blk w2 gb #[.slice ao its0.length cap, fi, tw] 130) := hG2
 have c0 : w2.cell? ⟨gb, 0, none⟩ = some (.slice ao its0.length cap) := hG2.cell 0
 have f0 : w2.frozen? ⟨gb, 0, none⟩ = false := hG2.frozen 0
 have fa0 : ∀ o, (w2.alloc o).frozen? ⟨gb, 0, none⟩ = false := fun o => (hG2.alloc o).frozen 0
 have fa1 : ∀ o, (w2.alloc o).drew.frozen? ⟨gb, 0, none⟩ = false := fun o => (hG2.alloc o).frozen 0
 have p0 : w2.cell? ⟨b1, 0, none⟩ = some (.int .u8 it.c) := hP.cell 0
 have p1 : w2.cell? ⟨b1, 1, none⟩ = some (.int .i64 it.w) := hP.cell 1
 have p2 : w2.cell? ⟨b1, 2, none⟩ = some (.int .i64 it.b) := hP.cell 2
 have p3 : w2.cell? ⟨b1, 3, none⟩ = some (.int .i64 it.r) := hP.cell 3
 have p4 : w2.cell? ⟨b1, 4, none⟩ = some (.int .i64 it.d) := hP.cell 4
 have p5 : w2.cell? ⟨b1, 5, none⟩ = some (.int .i64 it.pl) := hP.cell 5
 have p6 : w2.cell? ⟨b1, 6, none⟩ = some (.int .i64 0) := hP.cell 6
 have p7 : w2.cell? ⟨b1, 7, none⟩ = some (.int .i64 rule) := hP.cell 7
 have p8 : w2.cell? ⟨b1, 8, none⟩ = some (.int .i64 0) := hP.cell 8
 have pa0 : ∀ o, (w2.alloc o).cell? ⟨gb, 0, none⟩ = some (.slice ao its0.length cap) := fun o => (hG2.alloc o).cell 0
 go_cut [] (fun wc => ∃ gg cap1, Blk wc gb #[.slice (some ⟨gg, 0, none⟩) (its0.length + 1) cap1, fi, tw] 130 ∧
  wc.ownsRow B 132 9 (.slice (some ⟨gg, 0, none⟩) (its0.length + 1) cap1) (its0.length + 1) (cellsL 0 its0 ++ [.int .u8 it.c, .int .i64 it.w, .int .i64 it.b, .int .i64 it.r, .int .i64 it.d, .int .i64 it.pl, .int .i64 0, .int .i64 rule, .int .i64 0]) ∧
  Fr B gb w wc)
 case first =>
  go_region_law (
   (refine step_append_lies _ (by rfl) _ _ _ (by rfl) B 132 i0 _ 9 72 Tryz.underlying128 hi0 hz0 hz1 hz2 rfl (by omega) (.slice ao its0.length cap) its0.length (cellsL 0 its0) (by rfl) ((hrow2.alloc _).drew)
     ⟨w2.heap.size, 0, none⟩ 1 1 [.int .u8 it.c, .int .i64 it.w, .int .i64 it.b, .int .i64 it.r, .int .i64 it.d, .int .i64 it.pl, .int .i64 0, .int .i64 rule, .int .i64 0] (by rfl) (by rfl)
     (World.news_of_block (cs := #[.int .u8 it.c, .int .i64 it.w, .int .i64 it.b, .int .i64 it.r, .int .i64 it.d, .int .i64 it.pl, .int .i64 0, .int .i64 rule, .int .i64 0]) (t := 132) (fr := (0, 0)) (heap_alloc_new w2 _)) (by simp [Value.oneCell'])
     (by omega) (by unfold maxLen; omega) (by omega) (by simp; omega) (w2.heap.size + 1) (by simp) ?_
    intro gg cap1 w3 hown1 hgrow hat hlt
    have hG3 := ((hG2.alloc _).drew).grown hgrow (Ne.symm hrl)
    have c3 : w3.cell? ⟨gb, 0, none⟩ = some (.slice ao its0.length cap) := hG3.cell 0
    have f3 : w3.frozen? ⟨gb, 0, none⟩ = false := hG3.frozen 0))
  all_goals
   go_wp2_with fail
   go_meet
   case rel =>
    exact ⟨gg, cap1, hG3.set 0 _, ownsRow_setCell_below hown1 hgb _, ((((hFr2.alloc (by omega) _).drew).grown hgrow (by simp; omega) (fun k e => (hrow2.lt k e).1)).setCell (Or.inl rfl) _)⟩
 case rest =>
  obtain ⟨gg, cap1, hG3, hown3, hFr3⟩ := hcut
  clear hG2 hP hrow2 hFr2 hrb hG2l hPl HGC c0 f0 fa0 fa1 p0 p1 p2 p3 p4 p5 p6 p7 p8 pa0 hrl hb1B
  have HS : Hid (AtHead s rule f w B gb fi tw its0 n m q { it with rl := rule, nx := -(its0.length : Int) } R 0 m [] gg cap1 wc) := by
   refine ⟨hb2, by simp, by omega, fun h => by omega, by simpa using hG3, ?_, hFr3, by have := hFr3.size; omega, ?_⟩
   · have : cellsL 0 (its0 ++ [{ it with rl := rule, nx := -(its0.length : Int) }]) = cellsL 0 its0 ++ [.int .u8 it.c, .int .i64 it.w, .int .i64 it.b, .int .i64 it.r, .int .i64 it.d, .int .i64 it.pl, .int .i64 0, .int .i64 rule, .int .i64 0] := by
      rw [cellsL_append]
      simp [cellsL, It.cells, It.off]
      omega
     rw [this]
     simpa using hown3
   · rw [← HR.out, rest_start, Res.pre_nil]
  clear hG3 hown3 hFr3 HR
  obtain ⟨X, HX⟩ : ∃ X : It, Hid (X = { it with rl := rule, nx := -(its0.length : Int) }) := ⟨_, rfl⟩
  rw [← HX.out] at HS
  go_wp2_with fail
  go_loopw [11, 15] (fun vi vn wr => ∃ (j i : Nat) (its : List It) (g c : Nat), vi = .int .i64 i ∧ vn = .int .i64 j ∧ Hid (AtHead s rule f w B gb fi tw its0 n m q X R j i its g c wr)) (fun vi _ _ => s.size + 1 - (intOf vi).toNat)
  case atStart => exact ⟨0, m, [], gg, cap1, rfl, rfl, HS⟩
  case round =>
   clear HS
   obtain ⟨j, i, its, g, c, rfl, rfl, hS⟩ := hrel
   obtain ⟨hi, hj, hjj, hjq, hblk, hrow, hfr, hB, heq⟩ := hS.out
   have Hblk : Hid (Blk wr gb #[.slice (some ⟨g, 0, none⟩) (its0 ++ X :: its).length c, fi, tw] 130) := hblk
   have Heq : Hid (R = (rest (prs s rule f) s f q j i).pre its) := heq
   have Hlen : Hid ((its0 ++ X :: its).length = its0.length + 1 + its.length) := by
    have : (its0 ++ X :: its).length = its0.length + 1 + its.length := by simp; omega
    exact this
   clear heq hblk hS
   by_cases hgo : (q < 0 ∧ (j = 0 ∨ bt s i ≠ 41)) ∨ (0 ≤ q ∧ (j : Int) < q)
   · have HST : Hid (rest (prs s rule f) s f q j i = if (prs s rule f i).ok = true then (rest (prs s rule f) s f q (j + 1) (prs s rule f i).i).pre (prs s rule f i).its else ⟨false, (prs s rule f i).i, []⟩) :=
      rest_step (prs s rule f) s f q j i (by rcases hgo with ⟨h1, h2⟩ | h; exact Or.inl ⟨h1, h2, by omega⟩; exact Or.inr h)
     have hne : ((j : Int) != q) = true := by rw [bne_iff_ne]; omega
     have hcase : (q < 0 ∧ j = 0) ∨ (q < 0 ∧ 0 < j ∧ (bt s i == 41) = false) ∨ (0 ≤ q ∧ (j : Int) < q) := by
      rcases hgo with ⟨h1, h2⟩ | h
      · by_cases h0 : j = 0
        · exact Or.inl ⟨h1, h0⟩
        · exact Or.inr (Or.inl ⟨h1, by omega, by rcases h2 with h2 | h2; exact absurd h2 h0; simpa using h2⟩)
      · exact Or.inr (Or.inr h)
     clear hgo
     rcases hcase with ⟨hq, h0⟩ | ⟨hq, h0, h41⟩ | ⟨hq, h0⟩
     · have h00 : (j : Int) ≤ 0 := by omega
       clear h0
       go_wp2_with fail
       refine (IH.out i wr B gb _ fi tw (its0 ++ X :: its) (by omega) (by simpa using hi) (by simp only [Int.toNat_natCast]; omega) hgb hB Hblk.out hrow (by rw [Hlen.out]; simp only [Int.toNat_natCast]; omega)).mono ?_
       rintro e w4 ⟨rfl, hfr4, hok4⟩
       rw [Int.toNat_natCast] at hok4 ⊢
       obtain ⟨pg1, pg2, pg3⟩ := prs_good s rule f i hi
       generalize prs s rule f i = r at pg1 pg2 pg3 HST hok4 ⊢
       obtain ⟨rok, ri, rits⟩ := r
       cases rok
       · have HF : Hid (R = ⟨false, ri, its⟩) := by
          have h1 := HST.out
          have : R = ⟨false, ri, its⟩ := by rw [Heq.out, h1]; simp [Res.pre]
          exact this
         clear HST Heq hok4 pg3
         simp only
         go_wp2_with fail
         refine bodyPost_ret (v := .tuple #[.int .i64 ri, .bool false]) (by simp [results, Tryz.results84, go_sem]) rfl ?_
         rw [H.out, HF.out]
         exact ⟨rfl, hfr.trans hfr4, fun h => by cases h⟩
       · obtain ⟨v4, hblk4, hrow4⟩ := hok4 rfl
         obtain ⟨g4, c4, rfl, _, _⟩ := hrow4.form (by simp; omega)
         obtain ⟨pg3, pg4⟩ := pg3 rfl
         simp only at pg1 pg2 pg3 pg4 hblk4 hrow4
         have HN : Hid (AtHead s rule f w B gb fi tw its0 n m q X R (j + 1) ri (its ++ rits) g4 c4 w4) := by
          refine ⟨pg1, by simp only [List.length_append]; omega, by omega, fun h => by omega, by simpa using hblk4, by simpa using hrow4, hfr.trans hfr4, by have := hfr4.size; omega, ?_⟩
          have h1 := HST.out
          rw [Heq.out, h1, if_pos rfl, Res.pre_pre]
         clear HST Heq hok4 hblk4 hrow4 hfr4 Hblk hrow hfr
         simp only
         go_wp2_with fail
         go_roundw
         case rel => exact ⟨j + 1, ri, its ++ rits, g4, c4, rfl, by go_num, HN⟩
         case measure => simp [intOf]; omega
     · go_wp2_with (go_at_call 83; refine (byteAt_calls _ _ _ (by unfold maxLen; omega) (by omega)).mono ?_; rintro e w9 ⟨rfl, h9⟩; have h9 := h9.symm; subst h9; simp only [Int.toNat_natCast])
       refine (IH.out i wr B gb _ fi tw (its0 ++ X :: its) (by omega) (by simpa using hi) (by simp only [Int.toNat_natCast]; omega) hgb hB Hblk.out hrow (by rw [Hlen.out]; simp only [Int.toNat_natCast]; omega)).mono ?_
       rintro e w4 ⟨rfl, hfr4, hok4⟩
       rw [Int.toNat_natCast] at hok4 ⊢
       obtain ⟨pg1, pg2, pg3⟩ := prs_good s rule f i hi
       generalize prs s rule f i = r at pg1 pg2 pg3 HST hok4 ⊢
       obtain ⟨rok, ri, rits⟩ := r
       cases rok
       · have HF : Hid (R = ⟨false, ri, its⟩) := by
          have h1 := HST.out
          have : R = ⟨false, ri, its⟩ := by rw [Heq.out, h1]; simp [Res.pre]
          exact this
         clear HST Heq hok4 pg3
         simp only
         go_wp2_with fail
         refine bodyPost_ret (v := .tuple #[.int .i64 ri, .bool false]) (by simp [results, Tryz.results84, go_sem]) rfl ?_
         rw [H.out, HF.out]
         exact ⟨rfl, hfr.trans hfr4, fun h => by cases h⟩
       · obtain ⟨v4, hblk4, hrow4⟩ := hok4 rfl
         obtain ⟨g4, c4, rfl, _, _⟩ := hrow4.form (by simp; omega)
         obtain ⟨pg3, pg4⟩ := pg3 rfl
         simp only at pg1 pg2 pg3 pg4 hblk4 hrow4
         have HN : Hid (AtHead s rule f w B gb fi tw its0 n m q X R (j + 1) ri (its ++ rits) g4 c4 w4) := by
          refine ⟨pg1, by simp only [List.length_append]; omega, by omega, fun h => by omega, by simpa using hblk4, by simpa using hrow4, hfr.trans hfr4, by have := hfr4.size; omega, ?_⟩
          have h1 := HST.out
          rw [Heq.out, h1, if_pos rfl, Res.pre_pre]
         clear HST Heq hok4 hblk4 hrow4 hfr4 Hblk hrow hfr
         simp only
         go_wp2_with fail
         go_roundw
         case rel => exact ⟨j + 1, ri, its ++ rits, g4, c4, rfl, by go_num, HN⟩
         case measure => simp [intOf]; omega
     · go_wp2_with fail
       refine (IH.out i wr B gb _ fi tw (its0 ++ X :: its) (by omega) (by simpa using hi) (by simp only [Int.toNat_natCast]; omega) hgb hB Hblk.out hrow (by rw [Hlen.out]; simp only [Int.toNat_natCast]; omega)).mono ?_
       rintro e w4 ⟨rfl, hfr4, hok4⟩
       rw [Int.toNat_natCast] at hok4 ⊢
       obtain ⟨pg1, pg2, pg3⟩ := prs_good s rule f i hi
       generalize prs s rule f i = r at pg1 pg2 pg3 HST hok4 ⊢
       obtain ⟨rok, ri, rits⟩ := r
       cases rok
       · have HF : Hid (R = ⟨false, ri, its⟩) := by
          have h1 := HST.out
          have : R = ⟨false, ri, its⟩ := by rw [Heq.out, h1]; simp [Res.pre]
          exact this
         clear HST Heq hok4 pg3
         simp only
         go_wp2_with fail
         refine bodyPost_ret (v := .tuple #[.int .i64 ri, .bool false]) (by simp [results, Tryz.results84, go_sem]) rfl ?_
         rw [H.out, HF.out]
         exact ⟨rfl, hfr.trans hfr4, fun h => by cases h⟩
       · obtain ⟨v4, hblk4, hrow4⟩ := hok4 rfl
         obtain ⟨g4, c4, rfl, _, _⟩ := hrow4.form (by simp; omega)
         obtain ⟨pg3, pg4⟩ := pg3 rfl
         simp only at pg1 pg2 pg3 pg4 hblk4 hrow4
         have HN : Hid (AtHead s rule f w B gb fi tw its0 n m q X R (j + 1) ri (its ++ rits) g4 c4 w4) := by
          refine ⟨pg1, by simp only [List.length_append]; omega, by omega, fun h => by omega, by simpa using hblk4, by simpa using hrow4, hfr.trans hfr4, by have := hfr4.size; omega, ?_⟩
          have h1 := HST.out
          rw [Heq.out, h1, if_pos rfl, Res.pre_pre]
         clear HST Heq hok4 hblk4 hrow4 hfr4 Hblk hrow hfr
         simp only
         go_wp2_with fail
         go_roundw
         case rel => exact ⟨j + 1, ri, its ++ rits, g4, c4, rfl, by go_num, HN⟩
         case measure => simp [intOf]; omega
   · have hcase : (q < 0 ∧ 0 < j ∧ (bt s i == 41) = true) ∨ (0 ≤ q ∧ ((j : Int) != q) = false) := by
      by_cases h1 : q < 0
      · refine Or.inl ⟨h1, ?_, ?_⟩
        · by_cases h0 : j = 0
          · exact absurd (Or.inl ⟨h1, Or.inl h0⟩) hgo
          · omega
        · by_cases h0 : bt s i = 41
          · simpa using h0
          · exact absurd (Or.inl ⟨h1, Or.inr h0⟩) hgo
      · refine Or.inr ⟨by omega, ?_⟩
        have h2 := hjq (by omega)
        by_cases h3 : (j : Int) = q
        · simpa using h3
        · exact absurd (Or.inr ⟨by omega, by omega⟩) hgo
     clear hgo
     rcases hcase with ⟨hq, h0, h41⟩ | ⟨hq, h0⟩
     · have HE : Hid (R = ⟨true, i + 1, its⟩) := by
        have : R = ⟨true, i + 1, its⟩ := by rw [Heq.out, rest_stopB _ _ _ _ _ _ hq h0 (by simpa using h41)]; simp [Res.pre]
        exact this
       have hne : ((j : Int) != q) = true := by rw [bne_iff_ne]; omega
       clear Heq
       go_wp2_with (go_at_call 83; refine (byteAt_calls _ _ _ (by unfold maxLen; omega) (by omega)).mono ?_; rintro e w9 ⟨rfl, h9⟩; have h9 := h9.symm; subst h9; simp only [Int.toNat_natCast])
       have hl1 : its0.length < (its0 ++ X :: its).length := by rw [Hlen.out]; omega
       have hl2 : (its0 ++ X :: its).length ≤ 1000 := by rw [Hlen.out]; omega
       have c0 : wr.cell? ⟨gb, 0, none⟩ = some (.slice (some ⟨g, 0, none⟩) (its0 ++ X :: its).length c) := Hblk.out.cell 0
       have hgB : B ≤ g := (hrow.lt g rfl).1
       have cN : wr.cell? ⟨g, its0.length * 9 + 6, none⟩ = some (.int .i64 (its0.length + X.nx)) := by
        rw [hrow.cellAt _ (by omega), cellsL_get 0 _ _ 6 (by omega)]
        simp [It.off, It.cells]
       have fN : wr.frozen? ⟨g, its0.length * 9 + 6, none⟩ = false := hrow.frozenAt _
       have HST := hrow.stored (its0.length * 9 + 6) (.int .i64 ((its0 ++ X :: its).length : Int))
       have HGS := Hblk.out.setOther ⟨g, its0.length * 9 + 6, none⟩ (by simp; omega) (.int .i64 ((its0 ++ X :: its).length : Int))
       have hne2 : ¬ gb = g := by omega
       have hne3 : ¬ g = gb := by omega
       generalize (its0 ++ X :: its).length = L at *
       have hi1 : (its0.length : Int) < (L : Int) := by omega
       have hi2 : (0 : Int) ≤ (its0.length : Int) := by omega
       go_region_held3 (fun w' => w'.cell? ⟨gb, 0, none⟩ = some (.slice (some ⟨g, 0, none⟩) L c)) (first | go_keep | (simp [*]; done)) (fail)
       go_wp2_with fail
       refine bodyPost_ret (v := .tuple #[.int .i64 ((i : Int) + 1), .bool true]) (by simp [results, Tryz.results84, go_sem]) rfl ?_
       rw [H.out, HE.out]
       exact part_fin rule it its0 its X HX.out (i + 1) ((i : Int) + 1) (by omega) L Hlen.out hfr hgB HGS HST.1
     · have HE : Hid (R = ⟨true, i, its⟩) := by
        have : R = ⟨true, i, its⟩ := by rw [Heq.out, rest_stopN _ _ _ _ _ _ hq (by simpa using h0)]; simp [Res.pre]
        exact this
       clear Heq
       go_wp2_with fail
       have hl1 : its0.length < (its0 ++ X :: its).length := by rw [Hlen.out]; omega
       have hl2 : (its0 ++ X :: its).length ≤ 1000 := by rw [Hlen.out]; omega
       have c0 : wr.cell? ⟨gb, 0, none⟩ = some (.slice (some ⟨g, 0, none⟩) (its0 ++ X :: its).length c) := Hblk.out.cell 0
       have hgB : B ≤ g := (hrow.lt g rfl).1
       have cN : wr.cell? ⟨g, its0.length * 9 + 6, none⟩ = some (.int .i64 (its0.length + X.nx)) := by
        rw [hrow.cellAt _ (by omega), cellsL_get 0 _ _ 6 (by omega)]
        simp [It.off, It.cells]
       have fN : wr.frozen? ⟨g, its0.length * 9 + 6, none⟩ = false := hrow.frozenAt _
       have HST := hrow.stored (its0.length * 9 + 6) (.int .i64 ((its0 ++ X :: its).length : Int))
       have HGS := Hblk.out.setOther ⟨g, its0.length * 9 + 6, none⟩ (by simp; omega) (.int .i64 ((its0 ++ X :: its).length : Int))
       have hne2 : ¬ gb = g := by omega
       have hne3 : ¬ g = gb := by omega
       generalize (its0 ++ X :: its).length = L at *
       have hi1 : (its0.length : Int) < (L : Int) := by omega
       have hi2 : (0 : Int) ≤ (its0.length : Int) := by omega
       go_region_held3 (fun w' => w'.cell? ⟨gb, 0, none⟩ = some (.slice (some ⟨g, 0, none⟩) L c)) (first | go_keep | (simp [*]; done)) (fail)
       go_wp2_with fail
       refine bodyPost_ret (v := .tuple #[.int .i64 ((i : Int)), .bool true]) (by simp [results, Tryz.results84, go_sem]) rfl ?_
       rw [H.out, HE.out]
       exact part_fin rule it its0 its X HX.out i ((i : Int)) (by omega) L Hlen.out hfr hgB HGS HST.1
theorem part_calls (s : ByteArray) (rule : Int) (hs : s.size ≤ 400) (f : Nat) : PartC s rule f := by
 induction f with
 | zero =>
  intro a w B gb v fi tw its0 h0 h1 h2
  omega
 | succ f ih =>
  intro a w B gb v fi tw its0 h0 h1 h2 hgb hB hG hrow hlen
  obtain ⟨n, rfl⟩ := Int.eq_ofNat_of_zero_le h0
  rw [Int.toNat_natCast] at h1 h2 hlen ⊢
  rcases hh : headV s n with ⟨ok, m, q, it⟩
  cases ok
  · exact part_fail s rule hs f n w B gb fi tw its0 h1 hB (by rw [hh])
  · exact part_ok s rule hs f ih n w B gb v fi tw its0 h1 (by omega) hgb hB hG hrow hlen m q it hh _ rfl
def Ints (w : World) (v : Value) (l : List Nat) : Prop :=
 (v = .slice none 0 0 ∧ l = []) ∨ ∃ g cap, v = .slice (some ⟨g, 0, none⟩) l.length cap ∧ g < w.heap.size ∧ l.length ≤ cap ∧ cap ≤ maxLen ∧ ∀ j, j < l.length → w.cell? ⟨g, j, none⟩ = some (.int .i64 (l.getD j 0 : Nat))
theorem Ints.below {w w' : World} {v : Value} {l : List Nat} (h : Ints w v l) (hb : Below w.heap.size w w') : Ints w' v l := by
 rcases h with h | ⟨g, cap, rfl, hg, h1, h2, h3⟩
 · exact Or.inl h
 · exact Or.inr ⟨g, cap, rfl, by have := hb.size; omega, h1, h2, fun j hj => by rw [hb.cell (p := ⟨g, j, none⟩) hg]; exact h3 j hj⟩
structure Grm (w : World) (gb g c : Nat) (fi tw : Value) (its : List It) : Prop where
 blk : Blk w gb #[.slice (some ⟨g, 0, none⟩) its.length c, fi, tw] 130
 lt : g < w.heap.size
 cell : ∀ k q, k < its.length → q < 9 → w.cell? ⟨g, k * 9 + q, none⟩ = ((itd its k).off k).cells[q]?
theorem Grm.below {w w' : World} {gb g c : Nat} {fi tw : Value} {its : List It} (h : Grm w gb g c fi tw its) (hb : Below w.heap.size w w') : Grm w' gb g c fi tw its :=
 ⟨h.blk.below hb h.blk.lt, by have := hb.size; have := h.lt; omega, fun k q hk hq => by rw [hb.cell (p := ⟨g, k * 9 + q, none⟩) h.lt]; exact h.cell k q hk hq⟩
theorem Grm.c {w : World} {gb g c : Nat} {fi tw : Value} {its : List It} (h : Grm w gb g c fi tw its) (k : Nat) (hk : k < its.length) : w.cell? ⟨g, k * 9, none⟩ = some (.int .u8 (itd its k).c) := by
 have := h.cell k 0 hk (by omega); simpa [It.cells, It.off] using this
theorem Grm.nx {w : World} {gb g c : Nat} {fi tw : Value} {its : List It} (h : Grm w gb g c fi tw its) (hwf : Wf its) (k : Nat) (hk : k < its.length) : w.cell? ⟨g, k * 9 + 6, none⟩ = some (.int .i64 (nxt its k : Nat)) := by
 have := h.cell k 6 hk (by omega)
 rw [this]
 have hp := (hwf.pos k hk).1
 simp [It.cells, It.off, nxt]
 omega
theorem Grm.top {w : World} {gb g c : Nat} {fi tw : Value} {its : List It} (h : Grm w gb g c fi tw its) : w.cell? ⟨gb, 0, none⟩ = some (.slice (some ⟨g, 0, none⟩) its.length c) := h.blk.cell 0
set_option maxHeartbeats 1000000 in
theorem among_calls (v : Value) (l : List Nat) (k : Nat) (w : World) (hl : Ints w v l) (hlen : l.length ≤ 2000000) (_hk : k ≤ 100000) (hlk : ∀ x, x ∈ l → x ≤ 100000) :
 Calls Tryz.prog 89 #[v, .int .i64 k] w fun e w' => e = .returned (.bool (memB l k)) ∧ w' = w := by
 obtain ⟨ao, cap, rfl, hcell⟩ : ∃ ao cap, v = .slice ao l.length cap ∧ (∀ j, j < l.length → ∃ g, ao = some ⟨g, 0, none⟩ ∧ w.cell? ⟨g, j, none⟩ = some (.int .i64 (l.getD j 0 : Nat))) := by
  rcases hl with ⟨rfl, rfl⟩ | ⟨g, cap, rfl, _, _, _, h⟩
  · exact ⟨none, 0, rfl, fun j hj => by simp at hj⟩
  · exact ⟨_, _, rfl, fun j hj => ⟨g, rfl, h j hj⟩⟩
 have HC : Hid (∀ j, j < l.length → ∃ g, ao = some ⟨g, 0, none⟩ ∧ w.cell? ⟨g, j, none⟩ = some (.int .i64 (l.getD j 0 : Nat))) := hcell
 clear hcell hl
 have HK : Hid (∀ x, x ∈ l → x ≤ 100000) := hlk
 clear hlk
 go_enter Tryz.func89, Tryz.ntmps89
 go_wp2
 go_loop [5] (fun i => ∃ j : Nat, j ≤ l.length ∧ i = .int .i64 j ∧ Hid (memB (l.take j) k = false)) (fun i => l.length - (intOf i).toNat)
 case atStart => exact ⟨0, Nat.zero_le _, rfl, (show memB (l.take 0) k = false by simp [memB])⟩
 case round =>
  obtain ⟨j, hj, rfl, hf⟩ := hrel
  by_cases hlt : j < l.length
  · obtain ⟨g, rfl, hc⟩ := HC.out j hlt
    have hx0 := HK.out (l.getD j 0) (by rw [getD_lt _ _ _ hlt]; exact List.getElem_mem hlt)
    have hts : l.take (j + 1) = l.take j ++ [l.getD j 0] := by rw [List.take_succ_eq_append_getElem hlt, getD_lt _ _ _ hlt]
    have HT : Hid (l.take (j + 1) = l.take j ++ [l.getD j 0]) := hts
    clear hts
    have hmem : Hid (l.getD j 0 ∈ l) := by
     have : l.getD j 0 ∈ l := by rw [getD_lt _ _ _ hlt]; exact List.getElem_mem hlt
     exact this
    generalize l.getD j 0 = x at *
    by_cases he : x = k
    · have heb : ((x : Int) == (k : Int)) = true := by simp; omega
      have HR : Hid (memB l k = true) := by
       have : memB l k = true := by rw [← he]; simpa [memB] using hmem.out
       exact this
      clear he
      go_wp2
      go_ret
      exact ⟨ret_bool HR.out.symm, rfl⟩
    · have heb : ((x : Int) == (k : Int)) = false := by simp; omega
      have HN : Hid (memB (l.take (j + 1)) k = false) := by
       have : memB (l.take (j + 1)) k = false := by
        have h1 := hf.out
        rw [HT.out]
        simp only [memB, decide_eq_false_iff_not, List.mem_append, List.mem_singleton] at h1 ⊢
        intro h
        rcases h with h | h
        · exact h1 h
        · exact he h.symm
       exact this
      clear he
      go_wp2
      exact ⟨⟨j + 1, by omega, by go_num, HN⟩, by simp [intOf]; omega⟩
  · go_wp2
    go_ret
    exact ⟨ret_bool (by have := hf.out; rw [List.take_of_length_le (by omega)] at this; rw [this]), rfl⟩
end Go.Proofs.YtmlkhhhjdpbhfaaGreatDoor
