import Derived.Test.YtmlkhhhjdpbhfaaGreatDoorPa42
import Derived.Test.YtmlkhhhjdpbhfaaGreatDoorPa39
namespace Go.Proofs.YtmlkhhhjdpbhfaaGreatDoor
open Go.RowKit
set_option maxRecDepth 100000 in
set_option maxHeartbeats 1000000 in
theorem try_bytes (c : Rx) (hc : RxOk c) (w : World) (st : PS) (rb db fuel far : Nat) (hp : RPre c w st rb db (fuel + 1) far) (b : Nat) (x : It) (r : List It) (ha : At c.its b (x :: r)) (q : Bool) (hfu : fuel ≤ 100000) (o : PO) (hcc : x.c = 110 ∨ x.c = 108 ∨ x.c = 104 ∨ x.c = 107 ∨ x.c = 39 ∨ x.c = 114 ∨ x.c = 46)
 (hcall : ∀ W, RPre c W st rb db fuel far → Calls Tryz.prog 91 #[.pointer (some ⟨c.pb, 0, none⟩), .int .i64 b, .agg (rsC st rb c.bs.size db), .bool q] W fun e w' => RPost c W o e w') :
 Calls Tryz.prog 56 #[.pointer (some ⟨c.pb, 0, none⟩), .int .i64 b, .agg (rsC st rb c.bs.size db), .bool q] w fun e w' => RPost c w o e w' := by
 have hG := hp.grm hc
 have hq := hG.nine ha
 have hgl := hG.lt
 have hgbl := hG.blk.lt
 have hpl := hp.pg.lt
 have hgp : c.g ≠ c.pb := by have := hc.grm.lt; have := hc.pb; omega
 have hgbp : c.gb ≠ c.pb := by have := hc.grm.blk.lt; have := hc.pb; omega
 have hpre := RPre.less hc hp
 have hG2 := hpre.grm hc
 have hbl : b < c.its.length := by have := ha.le; simp at this; omega
 have hlen := hc.len
 have hsz : (w.setCell ⟨c.pb, 2, none⟩ (.int .i64 fuel)).heap.size = w.heap.size := by simp [World.setCell]
 have p2 : ∀ o1 o2, ((w.alloc o1).alloc o2).cell? ⟨c.pb, 2, none⟩ = some (.int .i64 ((fuel : Int) + 1)) := fun o1 o2 => by
  have := (Blk.alloc (Blk.alloc hp.pg o1) o2).cell 2
  simpa [pgC] using this
 have f2 : ∀ o1 o2, ((w.alloc o1).alloc o2).frozen? ⟨c.pb, 2, none⟩ = false := fun o1 o2 => (Blk.alloc (Blk.alloc hp.pg o1) o2).frozen 2
 obtain ⟨q0, q1, q2, q3, q4, q5, q6, q7, q8⟩ := hG2.nine ha
 have c0 : (w.setCell ⟨c.pb, 2, none⟩ (.int .i64 fuel)).cell? ⟨c.gb, 0, none⟩ = some (.slice (some ⟨c.g, 0, none⟩) c.its.length c.cap) := hG2.top
 have p0 : (w.setCell ⟨c.pb, 2, none⟩ (.int .i64 fuel)).cell? ⟨c.pb, 0, none⟩ = some (.pointer (some ⟨c.gb, 0, none⟩)) := hpre.pg.cell 0
 have HC := hide' hc
 have HBel := hide' hpre.bel
 have HIn := hide' hpre.inv
 have HB0 := hide' (BAt.new hpre)
 have HCall := hide' hcall
 clear hG hG2 hq hp hpre hc ha hcall
 unfold rsC zero5 at HB0
 unfold rsC
 rcases hcc with hcc | hcc | hcc | hcc | hcc | hcc | hcc
 all_goals
  rw [hcc] at q0
  clear hcc
  go_enter Tryz.func56, Tryz.ntmps56
  go_wp2_with fail
  have hB3 := fun ob => HB0.out.below ((Below.refl _ _).alloc (Nat.le_refl _) ob)
  unfold rsC at HCall
  refine (HCall.out _ ((hB3 _).pre HC.out HBel.out HIn.out)).mono ?_
  clear HCall
  intro e w5 hpo
  obtain ⟨st', rb', db', t', he, hz5, hpost⟩ := rpost_up (hB3 _) hpo
  have HPost := hide' (rpost_less hpost)
  rw [hsz] at HPost hz5
  subst he
  obtain ⟨zz0, zz1, zz2, zz3, zz4, zzf⟩ := hz5.five
  clear hpo hz5 hpost
  unfold rsR rsC
  go_wp2_with fail
  refine bodyPost_ret (v := .tuple #[.agg (rsC st' rb' c.bs.size db'), .string ⟨t'.toArray⟩, .bool o.ok]) (by simp [results, Tryz.results56, go_sem, rsC, zz0, zz1, zz2, zz3, zz4]) rfl ?_
  exact HPost.out
set_option maxRecDepth 100000 in
set_option maxHeartbeats 1000000 in
theorem try_of (c : Rx) (hc : RxOk c) (w : World) (st : PS) (rb db fuel far : Nat) (hp : RPre c w st rb db (fuel + 1) far) (b : Nat) (x : It) (r : List It) (ha : At c.its b (x :: r)) (q : Bool) (hfu : fuel ≤ 100000) (o : PO) (fn : Nat) (hcc : x.c = 40 ∧ fn = 92 ∨ x.c = 47 ∧ fn = 93 ∨ x.c = 42 ∧ fn = 94 ∨ x.c = 116 ∧ fn = 95)
 (hcall : ∀ W, RPre c W st rb db fuel far → Calls Tryz.prog fn #[.pointer (some ⟨c.pb, 0, none⟩), .int .i64 b, .agg (rsC st rb c.bs.size db)] W fun e w' => RPost c W o e w') :
 Calls Tryz.prog 56 #[.pointer (some ⟨c.pb, 0, none⟩), .int .i64 b, .agg (rsC st rb c.bs.size db), .bool q] w fun e w' => RPost c w o e w' := by
 have hG := hp.grm hc
 have hq := hG.nine ha
 have hgl := hG.lt
 have hgbl := hG.blk.lt
 have hpl := hp.pg.lt
 have hgp : c.g ≠ c.pb := by have := hc.grm.lt; have := hc.pb; omega
 have hgbp : c.gb ≠ c.pb := by have := hc.grm.blk.lt; have := hc.pb; omega
 have hpre := RPre.less hc hp
 have hG2 := hpre.grm hc
 have hbl : b < c.its.length := by have := ha.le; simp at this; omega
 have hlen := hc.len
 have hsz : (w.setCell ⟨c.pb, 2, none⟩ (.int .i64 fuel)).heap.size = w.heap.size := by simp [World.setCell]
 have p2 : ∀ o1 o2, ((w.alloc o1).alloc o2).cell? ⟨c.pb, 2, none⟩ = some (.int .i64 ((fuel : Int) + 1)) := fun o1 o2 => by
  have := (Blk.alloc (Blk.alloc hp.pg o1) o2).cell 2
  simpa [pgC] using this
 have f2 : ∀ o1 o2, ((w.alloc o1).alloc o2).frozen? ⟨c.pb, 2, none⟩ = false := fun o1 o2 => (Blk.alloc (Blk.alloc hp.pg o1) o2).frozen 2
 obtain ⟨q0, q1, q2, q3, q4, q5, q6, q7, q8⟩ := hG2.nine ha
 have c0 : (w.setCell ⟨c.pb, 2, none⟩ (.int .i64 fuel)).cell? ⟨c.gb, 0, none⟩ = some (.slice (some ⟨c.g, 0, none⟩) c.its.length c.cap) := hG2.top
 have p0 : (w.setCell ⟨c.pb, 2, none⟩ (.int .i64 fuel)).cell? ⟨c.pb, 0, none⟩ = some (.pointer (some ⟨c.gb, 0, none⟩)) := hpre.pg.cell 0
 have HC := hide' hc
 have HBel := hide' hpre.bel
 have HIn := hide' hpre.inv
 have HB0 := hide' (BAt.new hpre)
 have HCall := hide' hcall
 clear hG hG2 hq hp hpre hc ha hcall
 unfold rsC zero5 at HB0
 unfold rsC
 rcases hcc with ⟨hcc, rfl⟩ | ⟨hcc, rfl⟩ | ⟨hcc, rfl⟩ | ⟨hcc, rfl⟩
 all_goals
  rw [hcc] at q0
  clear hcc
  go_enter Tryz.func56, Tryz.ntmps56
  go_wp2_with fail
  have hB3 := fun ob => HB0.out.below ((Below.refl _ _).alloc (Nat.le_refl _) ob)
  unfold rsC at HCall
  refine (HCall.out _ ((hB3 _).pre HC.out HBel.out HIn.out)).mono ?_
  clear HCall
  intro e w5 hpo
  obtain ⟨st', rb', db', t', he, hz5, hpost⟩ := rpost_up (hB3 _) hpo
  have HPost := hide' (rpost_less hpost)
  rw [hsz] at HPost hz5
  subst he
  obtain ⟨zz0, zz1, zz2, zz3, zz4, zzf⟩ := hz5.five
  clear hpo hz5 hpost
  unfold rsR rsC
  go_wp2_with fail
  refine bodyPost_ret (v := .tuple #[.agg (rsC st' rb' c.bs.size db'), .string ⟨t'.toArray⟩, .bool o.ok]) (by simp [results, Tryz.results56, go_sem, rsC, zz0, zz1, zz2, zz3, zz4]) rfl ?_
  exact HPost.out
set_option maxRecDepth 100000 in
set_option maxHeartbeats 1000000 in
theorem try_within (c : Rx) (hc : RxOk c) (w : World) (st : PS) (rb db fuel far : Nat) (hp : RPre c w st rb db (fuel + 1) far) (b : Nat) (x : It) (r : List It) (ha : At c.its b (x :: r)) (q : Bool) (hfu : fuel ≤ 100000) (o : PO) (hcc : x.c = 119 ∨ x.c = 64 ∨ x.c = 115)
 (hcall : ∀ W, RPre c W st rb db fuel far → Calls Tryz.prog 96 #[.pointer (some ⟨c.pb, 0, none⟩), .int .i64 b, .agg (rsC st rb c.bs.size db)] W fun e w' => RPost c W o e w') :
 Calls Tryz.prog 56 #[.pointer (some ⟨c.pb, 0, none⟩), .int .i64 b, .agg (rsC st rb c.bs.size db), .bool q] w fun e w' => RPost c w o e w' := by
 have hG := hp.grm hc
 have hq := hG.nine ha
 have hgl := hG.lt
 have hgbl := hG.blk.lt
 have hpl := hp.pg.lt
 have hgp : c.g ≠ c.pb := by have := hc.grm.lt; have := hc.pb; omega
 have hgbp : c.gb ≠ c.pb := by have := hc.grm.blk.lt; have := hc.pb; omega
 have hpre := RPre.less hc hp
 have hG2 := hpre.grm hc
 have hbl : b < c.its.length := by have := ha.le; simp at this; omega
 have hlen := hc.len
 have hsz : (w.setCell ⟨c.pb, 2, none⟩ (.int .i64 fuel)).heap.size = w.heap.size := by simp [World.setCell]
 have p2 : ∀ o1 o2, ((w.alloc o1).alloc o2).cell? ⟨c.pb, 2, none⟩ = some (.int .i64 ((fuel : Int) + 1)) := fun o1 o2 => by
  have := (Blk.alloc (Blk.alloc hp.pg o1) o2).cell 2
  simpa [pgC] using this
 have f2 : ∀ o1 o2, ((w.alloc o1).alloc o2).frozen? ⟨c.pb, 2, none⟩ = false := fun o1 o2 => (Blk.alloc (Blk.alloc hp.pg o1) o2).frozen 2
 obtain ⟨q0, q1, q2, q3, q4, q5, q6, q7, q8⟩ := hG2.nine ha
 have c0 : (w.setCell ⟨c.pb, 2, none⟩ (.int .i64 fuel)).cell? ⟨c.gb, 0, none⟩ = some (.slice (some ⟨c.g, 0, none⟩) c.its.length c.cap) := hG2.top
 have p0 : (w.setCell ⟨c.pb, 2, none⟩ (.int .i64 fuel)).cell? ⟨c.pb, 0, none⟩ = some (.pointer (some ⟨c.gb, 0, none⟩)) := hpre.pg.cell 0
 have HC := hide' hc
 have HBel := hide' hpre.bel
 have HIn := hide' hpre.inv
 have HB0 := hide' (BAt.new hpre)
 have HCall := hide' hcall
 clear hG hG2 hq hp hpre hc ha hcall
 unfold rsC zero5 at HB0
 unfold rsC
 rcases hcc with hcc | hcc | hcc
 all_goals
  rw [hcc] at q0
  clear hcc
  go_enter Tryz.func56, Tryz.ntmps56
  go_wp2_with fail
  have hB3 := fun ob => HB0.out.below ((Below.refl _ _).alloc (Nat.le_refl _) ob)
  unfold rsC at HCall
  refine (HCall.out _ ((hB3 _).pre HC.out HBel.out HIn.out)).mono ?_
  clear HCall
  intro e w5 hpo
  obtain ⟨st', rb', db', t', he, hz5, hpost⟩ := rpost_up (hB3 _) hpo
  have HPost := hide' (rpost_less hpost)
  rw [hsz] at HPost hz5
  subst he
  obtain ⟨zz0, zz1, zz2, zz3, zz4, zzf⟩ := hz5.five
  clear hpo hz5 hpost
  unfold rsR rsC
  go_wp2_with fail
  refine bodyPost_ret (v := .tuple #[.agg (rsC st' rb' c.bs.size db'), .string ⟨t'.toArray⟩, .bool o.ok]) (by simp [results, Tryz.results56, go_sem, rsC, zz0, zz1, zz2, zz3, zz4]) rfl ?_
  exact HPost.out
structure RRd (W : World) (pb gb fb xb rr b2 bx : Nat) (v0 v1 v2 v3 v4 : Value) : Prop where
 p0 : W.cell? ⟨pb, 0, none⟩ = some (.pointer (some ⟨gb, 0, none⟩))
 g1 : W.cell? ⟨gb, 1, none⟩ = some (.slice (some ⟨fb, 0, none⟩) 8 8)
 x3 : W.cell? ⟨xb, 3, none⟩ = some (.int .i64 rr)
 f : W.cell? ⟨fb, rr, none⟩ = some (.int .i64 b2)
 box : U5 W bx v0 v1 v2 v3 v4
set_option maxRecDepth 100000 in
set_option maxHeartbeats 1000000 in
theorem try_rule (c : Rx) (hc : RxOk c) (w : World) (st : PS) (rb db fuel far : Nat) (hp : RPre c w st rb db (fuel + 1) far) (b : Nat) (x : It) (r : List It) (ha : At c.its b (x :: r)) (q : Bool) (hfu : fuel ≤ 100000) (o : PO) (rr b2 : Nat) (hrr : x.r = (rr : Int)) (hr8 : rr < 8) (hb2 : c.fl.getD rr 0 = (b2 : Int)) (hcc : x.c = 82)
 (hcall : ∀ W, RPre c W st rb db fuel far → Calls Tryz.prog 56 #[.pointer (some ⟨c.pb, 0, none⟩), .int .i64 b2, .agg (rsC st rb c.bs.size db), .bool false] W fun e w' => RPost c W o e w') :
 Calls Tryz.prog 56 #[.pointer (some ⟨c.pb, 0, none⟩), .int .i64 b, .agg (rsC st rb c.bs.size db), .bool q] w fun e w' => RPost c w o e w' := by
 have hG := hp.grm hc
 have hq := hG.nine ha
 have hgl := hG.lt
 have hgbl := hG.blk.lt
 have hpl := hp.pg.lt
 have hgp : c.g ≠ c.pb := by have := hc.grm.lt; have := hc.pb; omega
 have hgbp : c.gb ≠ c.pb := by have := hc.grm.blk.lt; have := hc.pb; omega
 have hpre := RPre.less hc hp
 have hG2 := hpre.grm hc
 have hbl : b < c.its.length := by have := ha.le; simp at this; omega
 have hlen := hc.len
 have hsz : (w.setCell ⟨c.pb, 2, none⟩ (.int .i64 fuel)).heap.size = w.heap.size := by simp [World.setCell]
 have p2 : ∀ o1 o2, ((w.alloc o1).alloc o2).cell? ⟨c.pb, 2, none⟩ = some (.int .i64 ((fuel : Int) + 1)) := fun o1 o2 => by
  have := (Blk.alloc (Blk.alloc hp.pg o1) o2).cell 2
  simpa [pgC] using this
 have f2 : ∀ o1 o2, ((w.alloc o1).alloc o2).frozen? ⟨c.pb, 2, none⟩ = false := fun o1 o2 => (Blk.alloc (Blk.alloc hp.pg o1) o2).frozen 2
 obtain ⟨q0, q1, q2, q3, q4, q5, q6, q7, q8⟩ := hG2.nine ha
 have c0 : (w.setCell ⟨c.pb, 2, none⟩ (.int .i64 fuel)).cell? ⟨c.gb, 0, none⟩ = some (.slice (some ⟨c.g, 0, none⟩) c.its.length c.cap) := hG2.top
 have p0 : (w.setCell ⟨c.pb, 2, none⟩ (.int .i64 fuel)).cell? ⟨c.pb, 0, none⟩ = some (.pointer (some ⟨c.gb, 0, none⟩)) := hpre.pg.cell 0
 have HC := hide' hc
 have HBel := hide' hpre.bel
 have HIn := hide' hpre.inv
 have HB0 := hide' (BAt.new hpre)
 have HCall := hide' hcall
 clear hG hG2 hq hp hpre hc ha hcall
 unfold rsC zero5 at HB0
 unfold rsC
 rcases hcc with hcc
 all_goals
  rw [hcc] at q0
  rw [hrr] at q3
  have hr8' : (rr : Int) < 8 := by omega
  clear hcc hrr
  go_enter Tryz.func56, Tryz.ntmps56
  go_wp2_with fail
  have hX0 := Blk.new (((w.setCell ⟨c.pb, 2, none⟩ (.int .i64 fuel)).alloc (.cells #[.int .i64 st.pl, .int .i64 st.en, .slice (some ⟨rb, 0, none⟩) c.bs.size c.bs.size, .slice (some ⟨db, 0, none⟩) 8 8, .int .i64 st.vals] 140)).alloc (.cells #[.int .i64 0, .int .i64 0, .slice none 0 0, .slice none 0 0, .int .i64 0] 140)) #[.int .u8 82, .int .i64 x.w, .int .i64 x.b, .int .i64 rr, .int .i64 x.d, .int .i64 x.pl, .int .i64 (b + x.nx), .int .i64 x.rl, .int .i64 0] 132
  have hsx : (((w.setCell ⟨c.pb, 2, none⟩ (.int .i64 fuel)).alloc (.cells #[.int .i64 st.pl, .int .i64 st.en, .slice (some ⟨rb, 0, none⟩) c.bs.size c.bs.size, .slice (some ⟨db, 0, none⟩) 8 8, .int .i64 st.vals] 140)).alloc (.cells #[.int .i64 0, .int .i64 0, .slice none 0 0, .slice none 0 0, .int .i64 0] 140)).heap.size = w.heap.size + 1 + 1 := by simp [World.setCell]
  rw [hsx] at hX0
  have HX := hide' hX0
  have HB3 := hide' (HB0.out.below ((Below.refl _ _).alloc (Nat.le_refl _) (.cells #[.int .u8 82, .int .i64 x.w, .int .i64 x.b, .int .i64 rr, .int .i64 x.d, .int .i64 x.pl, .int .i64 (b + x.nx), .int .i64 x.rl, .int .i64 0] 132)))
  clear hX0 hsx HB0 q0 q1 q2 q3 q4 q5 q6 q7 q8 c0 p0 p2 f2
  generalize (((w.setCell ⟨c.pb, 2, none⟩ (.int .i64 fuel)).alloc (.cells #[.int .i64 st.pl, .int .i64 st.en, .slice (some ⟨rb, 0, none⟩) c.bs.size c.bs.size, .slice (some ⟨db, 0, none⟩) 8 8, .int .i64 st.vals] 140)).alloc (.cells #[.int .i64 0, .int .i64 0, .slice none 0 0, .slice none 0 0, .int .i64 0] 140)).alloc (.cells #[.int .u8 82, .int .i64 x.w, .int .i64 x.b, .int .i64 rr, .int .i64 x.d, .int .i64 x.pl, .int .i64 (b + x.nx), .int .i64 x.rl, .int .i64 0] 132) = W3 at *
  have HRd : Hid (∀ W, PgAt W c.pb c.gb c.bs fuel c.N far 0 ∨ (∃ fu fa e, PgAt W c.pb c.gb c.bs fu c.N fa e) → W.cell? ⟨c.gb, 1, none⟩ = some (.slice (some ⟨c.fb, 0, none⟩) 8 8) → W.cell? ⟨c.fb, rr, none⟩ = some (.int .i64 b2) → Blk W (w.heap.size + 1 + 1) #[.int .u8 82, .int .i64 x.w, .int .i64 x.b, .int .i64 rr, .int .i64 x.d, .int .i64 x.pl, .int .i64 (b + x.nx), .int .i64 x.rl, .int .i64 0] 132 → Blk W w.heap.size (rsC st rb c.bs.size db) 140 → RRd W c.pb c.gb c.fb (w.heap.size + 1 + 1) rr b2 w.heap.size (.int .i64 st.pl) (.int .i64 st.en) (.slice (some ⟨rb, 0, none⟩) c.bs.size c.bs.size) (.slice (some ⟨db, 0, none⟩) 8 8) (.int .i64 st.vals)) := fun W h1 h2 h3 h4 h5 =>
   ⟨by rcases h1 with h | ⟨_, _, _, h⟩ <;> exact h.cell 0, h2, h4.cell 3, h3, ⟨h5.cell 0, h5.cell 1, h5.cell 2, h5.cell 3, h5.cell 4⟩⟩
  have hbx : Blk W3 w.heap.size (rsC st rb c.bs.size db) 140 := by have := HB3.out.box; rw [hsz] at this; exact this
  have hpre3 := HB3.out.pre HC.out HBel.out HIn.out
  have hG3 := hpre3.grm HC.out
  have hg1 : W3.cell? ⟨c.gb, 1, none⟩ = some (.slice (some ⟨c.fb, 0, none⟩) 8 8) := hG3.blk.cell 1
  have hf3b : Blk W3 c.fb (intsI c.fl) 3 := HC.out.fst.below hpre3.bel HC.out.fst.lt
  have hfc : W3.cell? ⟨c.fb, rr, none⟩ = some (.int .i64 b2) := by
   rw [hf3b.cell rr, ← hb2]
   have h8 := HC.out.fl
   simp [intsI, List.getD, show rr < c.fl.length by omega]
  have hgb3 := hG3.blk.lt
  have hfb3 := hf3b.lt
  have hfp : c.fb ≠ c.pb := blk_ne hf3b HB3.out.pg (by decide)
  refine wp_region_seg (fun W => RRd W c.pb c.gb c.fb (w.heap.size + 1 + 1) rr b2 w.heap.size (.int .i64 st.pl) (.int .i64 st.en) (.slice (some ⟨rb, 0, none⟩) c.bs.size c.bs.size) (.slice (some ⟨db, 0, none⟩) 8 8) (.int .i64 st.vals)) [([0, 1, 2, 3, 4, 5, 6, 7, 8, 9, 10, 11, 12], 13), ([14, 15, 16], 17), ([], 18), ([], 19)] rfl (by kernel_rfl) (fun _ _ d _ _ h => by cases d <;> exact h) (HRd.out _ (Or.inl HB3.out.pg) hg1 hfc HX.out hbx) ?_
  simp only [wpSeg, List.filterMap_cons, List.filterMap_nil, List.getElem?_toArray, List.getElem?_cons_zero, List.getElem?_cons_succ]
  refine wpX_step _ rfl (fun W hW => rfl) ?_
  refine wpX_step _ rfl (fun W hW => rfl) ?_
  refine wpX_step (.pointer (some ⟨c.pb, 0, none⟩)) rfl (fun W hW => by go_simp) ?_
  refine wpX_step (.pointer (some ⟨c.pb, 0, none⟩)) rfl (fun W hW => by go_simp) ?_
  refine wpX_step (.pointer (some ⟨c.gb, 0, none⟩)) rfl (fun W hW => by have h1 := hW.p0; go_simp) ?_
  refine wpX_step (.pointer (some ⟨c.gb, 0, none⟩)) rfl (fun W hW => by go_simp) ?_
  refine wpX_step (.pointer (some ⟨c.gb, 1, none⟩)) rfl (fun W hW => by go_simp) ?_
  refine wpX_step (.slice (some ⟨c.fb, 0, none⟩) 8 8) rfl (fun W hW => by have h1 := hW.g1; go_simp) ?_
  refine wpX_step (.pointer (some ⟨w.heap.size + 1 + 1, 3, none⟩)) rfl (fun W hW => by go_simp) ?_
  refine wpX_step (.int .i64 rr) rfl (fun W hW => by have h1 := hW.x3; go_simp) ?_
  refine wpX_step (.pointer (some ⟨c.fb, rr, none⟩)) rfl (fun W hW => by go_simp) ?_
  refine wpX_step (.int .i64 b2) rfl (fun W hW => by have h1 := hW.f; go_simp) ?_
  refine wpX_step (.agg #[.int .i64 st.pl, .int .i64 st.en, .slice (some ⟨rb, 0, none⟩) c.bs.size c.bs.size, .slice (some ⟨db, 0, none⟩) 8 8, .int .i64 st.vals]) rfl (fun W hW => by obtain ⟨h1, h2, h3, h4, h5⟩ := hW.box; go_simp) ?_
  refine wpX_nil ⟨_, rfl, rfl, ?_⟩
  unfold Oper.wp
  go_simp
  have hB4 := HB3.out.drewN 1
  unfold rsC at HCall
  refine (HCall.out _ (hB4.pre HC.out HBel.out HIn.out)).mono ?_
  clear HCall
  intro e w5 hpo
  obtain ⟨st', rb', db', t', he, hz5, hpost⟩ := rpost_up hB4 hpo
  obtain ⟨hf5, _, _, _, fu5, fa5, _, _, hp5, _, _⟩ := hpo
  have hlt := HB3.out.lt
  rw [hsz] at hlt
  have hXl := HX.out.lt
  have k1 : w5.cell? ⟨c.gb, 1, none⟩ = some (.slice (some ⟨c.fb, 0, none⟩) 8 8) := (hf5.cellK hgb3 hgbp 1).trans hg1
  have k2 : w5.cell? ⟨c.fb, rr, none⟩ = some (.int .i64 b2) := (hf5.cellK hfb3 hfp rr).trans hfc
  have k3 := hf5.blk (show Blk (W3.drewN 1) (w.heap.size + 1 + 1) _ _ from HX.out) hXl (by omega)
  have k4 := hf5.blk (show Blk (W3.drewN 1) w.heap.size _ _ from hbx) hbx.lt (by omega)
  have HPost := hide' (rpost_less hpost)
  rw [hsz] at HPost hz5
  have n1 : c.gb ≠ w.heap.size + 1 := by omega
  have n2 : c.fb ≠ w.heap.size + 1 := blk_ne (hf5.blk (show Blk (W3.drewN 1) c.fb _ _ from hf3b) hfb3 hfp) hz5 (by decide)
  have HR2 := hide' (HRd.out w5 (Or.inr ⟨_, _, _, hp5⟩) k1 k2 k3 k4)
  have HR4 := hide' (HRd.out (st5 w5 (w.heap.size + 1) (.int .i64 st'.pl) (.int .i64 st'.en) (.slice (some ⟨rb', 0, none⟩) c.bs.size c.bs.size) (.slice (some ⟨db', 0, none⟩) 8 8) (.int .i64 st'.vals)) (Or.inr ⟨_, _, _, Blk.other5 hp5 (by omega) _ _ _ _ _⟩) (by rw [cell5 _ _ _ _ n1]; exact k1) (by rw [cell5 _ _ _ _ n2]; exact k2) (Blk.other5 k3 (by omega) _ _ _ _ _) (Blk.other5 k4 (by omega) _ _ _ _ _))
  subst he
  obtain ⟨zz0, zz1, zz2, zz3, zz4, zzf⟩ := hz5.five
  clear hz5 hpost hf5 hp5 k1 k2 k3 k4
  unfold rsR rsC
  simp only
  refine ⟨HR2.out, ?_⟩
  refine wpX_step (.agg #[.int .i64 st'.pl, .int .i64 st'.en, .slice (some ⟨rb', 0, none⟩) c.bs.size c.bs.size, .slice (some ⟨db', 0, none⟩) 8 8, .int .i64 st'.vals]) rfl (fun W hW => by go_simp) ?_
  refine wpX_step (.string ⟨t'.toArray⟩) rfl (fun W hW => by go_simp) ?_
  refine wpX_step (.bool o.ok) rfl (fun W hW => by go_simp) ?_
  refine wpX_nil ⟨_, rfl, rfl, ?_⟩
  unfold Oper.wp
  go_simp
  refine ⟨HR4.out, ?_⟩
  refine wpX_nil ⟨_, rfl, rfl, ?_⟩
  unfold Oper.wp
  go_simp
  refine ⟨HR4.out, ?_⟩
  refine wpX_nil ⟨_, rfl, rfl, ?_⟩
  unfold Oper.wp
  go_simp
  refine ⟨HR4.out, ?_⟩
  go_wp2_with fail
  refine bodyPost_ret (v := .tuple #[.agg (rsC st' rb' c.bs.size db'), .string ⟨t'.toArray⟩, .bool o.ok]) (by simp [results, Tryz.results56, go_sem, rsC, zz0, zz1, zz2, zz3, zz4]) rfl ?_
  exact HPost.out
set_option maxRecDepth 100000 in
set_option maxHeartbeats 1000000 in
theorem bytes_rest (c : Rx) (hc : RxOk c) (w : World) (st : PS) (rb db fuel far : Nat) (hp : RPre c w st rb db fuel far) (b : Nat) (x : It) (r : List It) (ha : At c.its b (x :: r)) (hcc : x.c = 46) (q : Bool) :
 Calls Tryz.prog 91 #[.pointer (some ⟨c.pb, 0, none⟩), .int .i64 b, .agg (rsC st rb c.bs.size db), .bool q] w fun e w' => RPost c w (bytesT c.bs c.N x q fuel far st) e w' := by
 have hG := hp.grm hc
 obtain ⟨q0, q1, q2, q3, q4, q5, q6, q7, q8⟩ := hG.nine ha
 have c0 : w.cell? ⟨c.gb, 0, none⟩ = some (.slice (some ⟨c.g, 0, none⟩) c.its.length c.cap) := hG.top
 have p0 : w.cell? ⟨c.pb, 0, none⟩ = some (.pointer (some ⟨c.gb, 0, none⟩)) := hp.pg.cell 0
 have hgl := hG.lt
 have hgbl := hG.blk.lt
 have hpl := hp.pg.lt
 have hbl : b < c.its.length := by have := ha.le; simp at this; omega
 have hlen := hc.len
 have hbs := hc.bs
 have i1 := hp.inv.pl
 have i2 := hp.inv.en
 have i3 := hp.inv.rd
 have i4 := hp.inv.vals
 have hN := hc.N
 rw [hcc] at q0
 have hn : lenT x st = st.en - st.pl := by unfold lenT; rw [if_neg (by omega), if_neg (by omega), if_pos hcc]
 have hni : ((st.en : Int) - (st.pl : Int)) = ((lenT x st : Nat) : Int) := by rw [hn]; omega
 have HT : Hid (bytesT c.bs c.N x q fuel far st = if canRead st.rd st.pl st.en (lenT x st) then madeO c.N fuel far (readS st (lenT x st)) (quoteT (c.bs.extract st.pl (st.pl + lenT x st))) else failO fuel far st.pl st) := by
  have : bytesT c.bs c.N x q fuel far st = if canRead st.rd st.pl st.en (lenT x st) then madeO c.N fuel far (readS st (lenT x st)) (quoteT (c.bs.extract st.pl (st.pl + lenT x st))) else failO fuel far st.pl st := by
   unfold bytesT; rw [if_neg (show ¬ x.c = 39 by omega), if_pos (show x.c = 114 ∨ x.c = 46 from Or.inr hcc)]
  exact this
 generalize lenT x st = n at *
 have HP := hide' hp
 have HC := hide' hc
 have HB0 := hide' (BAt.new hp)
 have hn2 : n ≤ c.bs.size := by omega
 clear hG ha hp hc hcc hn
 have hs0 : ((w.alloc (.cells (rsC st rb c.bs.size db) 140)).alloc (.cells zero5 140)).heap.size = w.heap.size + 1 + 1 := by simp
 unfold rsC zero5 at HB0 hs0
 unfold rsC
 go_enter Tryz.func91, Tryz.ntmps91
 go_wp2_with fail
 generalize (w.alloc (.cells #[.int .i64 st.pl, .int .i64 st.en, .slice (some ⟨rb, 0, none⟩) c.bs.size c.bs.size, .slice (some ⟨db, 0, none⟩) 8 8, .int .i64 st.vals] 140)).alloc (.cells #[.int .i64 0, .int .i64 0, .slice none 0 0, .slice none 0 0, .int .i64 0] 140) = W0 at *
 have HB1 := hide' (HB0.out.below ((Below.refl _ _).alloc (Nat.le_refl _) (.cells #[.int .u8 46, .int .i64 x.w, .int .i64 x.b, .int .i64 x.r, .int .i64 x.d, .int .i64 x.pl, .int .i64 (b + x.nx), .int .i64 x.rl, .int .i64 0] 132)))
 have HX1 := hide' (Blk.new W0 #[.int .u8 46, .int .i64 x.w, .int .i64 x.b, .int .i64 x.r, .int .i64 x.d, .int .i64 x.pl, .int .i64 (b + x.nx), .int .i64 x.rl, .int .i64 0] 132)
 rw [hs0] at HX1
 have hs1 : (W0.alloc (.cells #[.int .u8 46, .int .i64 x.w, .int .i64 x.b, .int .i64 x.r, .int .i64 x.d, .int .i64 x.pl, .int .i64 (b + x.nx), .int .i64 x.rl, .int .i64 0] 132)).heap.size = w.heap.size + 3 := by simp; omega
 generalize W0.alloc (.cells #[.int .u8 46, .int .i64 x.w, .int .i64 x.b, .int .i64 x.r, .int .i64 x.d, .int .i64 x.pl, .int .i64 (b + x.nx), .int .i64 x.rl, .int .i64 0] 132) = W1 at *
 clear HB0 q0 q1 q2 q3 q4 q5 q6 q7 q8 c0 p0
 refine (reads_calls W1 _ st rb c.bs.size db n HB1.out.sa.rd i3 hbs i1 i2 (by omega)).mono ?_
 rintro e w2 ⟨hb2, hyes, hno⟩
 have HB2 := hide' (HB1.out.below hb2)
 have hX2 := HX1.out.below hb2 HX1.out.lt
 have hs2 := hb2.size
 have hl0 : w.heap.size < w2.heap.size := by omega
 have hl1 : w.heap.size + 1 < w2.heap.size := by omega
 have hl2 : w.heap.size + 1 + 1 < w2.heap.size := by omega
 have hl3 : c.pb < w2.heap.size := by omega
 have hl4 : ¬ w2.heap.size = c.pb := by omega
 have f1 : w2.cell? ⟨c.pb, 1, none⟩ = some (.string c.bs) := HB2.out.pg.cell 1
 obtain ⟨b0, b1, b2, b3, b4, _⟩ := HB2.out.box.five
 have x0 : w2.cell? ⟨w.heap.size + 1 + 1, 0, none⟩ = some (.int .u8 46) := hX2.cell 0
 cases hcr : canRead st.rd st.pl st.en n
 · rw [hno hcr]
   rw [hcr] at HT
   clear hyes hno hcr
   unfold rsC
   go_wp2_with fail
   have HB3 := hide' (HB2.out.below ((Below.refl _ _).alloc (Nat.le_refl _) (.cells #[.int .i64 st.pl, .int .i64 st.en, .slice (some ⟨rb, 0, none⟩) c.bs.size c.bs.size, .slice (some ⟨db, 0, none⟩) 8 8, .int .i64 st.vals] 140)))
   refine (fails_calls _ c.pb c.gb c.bs fuel c.N far 0 st.pl st rb c.bs.size db HB3.out.pg).mono ?_
   rintro e w4 ⟨rfl, hp4, hf4⟩
   obtain ⟨g1, g2, g3, g4⟩ := HB3.out.next hf4 hp4
   obtain ⟨z0, z1, z2, z3, z4, zf⟩ := g4.five
   have HF4 := hide' g1
   have HP4 := hide' hp4
   clear g1 g2 g3 g4 hp4 hf4
   unfold rsR rsC
   go_wp2_with fail
   refine bodyPost_ret (v := .tuple #[.agg (rsC st rb c.bs.size db), .string ⟨#[]⟩, .bool false]) (by simp [results, Tryz.results91, go_sem, rsC, z0, z1, z2, z3, z4]) rfl ?_
   rw [HT.out]
   simp only [Bool.false_eq_true, if_false]
   exact RPost.fail (HF4.out.set5 (b := w.heap.size + 1) (by omega) _ _ _ _ _) rfl (Blk.other5 HP4.out (b := w.heap.size + 1) (by omega) _ _ _ _ _)
 · obtain ⟨rb', he, hrb', hrl'⟩ := hyes hcr
   rw [he]
   rw [hcr] at HT
   have HR' := hide' hrb'
   have hen3 : st.pl + n ≤ c.bs.size := by have := canRead_le hcr; omega
   clear hyes hno hcr hrb'
   have HB3 := hide' (HB2.out.below ((Below.refl _ _).alloc (Nat.le_refl _) (.cells (rsC (readS st n) rb' c.bs.size db) 140)))
   have HU3 := hide' (Blk.new w2 (rsC (readS st n) rb' c.bs.size db) 140)
   unfold rsC readS at HB3 HU3
   simp only [Int.natCast_add] at HB3 HU3
   unfold rsC readS
   go_wp2_with fail
   have HX3 := hide' (Blk.alloc hX2 (.cells #[.int .i64 ((st.pl : Int) + (n : Int)), .int .i64 st.en, .slice (some ⟨rb', 0, none⟩) c.bs.size c.bs.size, .slice (some ⟨db, 0, none⟩) 8 8, .int .i64 st.vals] 140))
   have HR3 := hide' (Blk.alloc HR'.out (.cells #[.int .i64 ((st.pl : Int) + (n : Int)), .int .i64 st.en, .slice (some ⟨rb', 0, none⟩) c.bs.size c.bs.size, .slice (some ⟨db, 0, none⟩) 8 8, .int .i64 st.vals] 140))
   generalize w2.alloc (.cells #[.int .i64 ((st.pl : Int) + (n : Int)), .int .i64 st.en, .slice (some ⟨rb', 0, none⟩) c.bs.size c.bs.size, .slice (some ⟨db, 0, none⟩) 8 8, .int .i64 st.vals] 140) = W3 at *
   have u0 : W3.cell? ⟨w2.heap.size, 0, none⟩ = some (.int .i64 ((st.pl : Int) + (n : Int))) := HU3.out.cell 0
   have v0 : W3.cell? ⟨w.heap.size, 0, none⟩ = some (.int .i64 st.pl) := HB3.out.box.cell 0
   have k1 : W3.cell? ⟨c.pb, 1, none⟩ = some (.string c.bs) := HB3.out.pg.cell 1
   have y0 : W3.cell? ⟨w.heap.size + 1 + 1, 0, none⟩ = some (.int .u8 46) := HX3.out.cell 0
   clear b0 b1 b2 b3 b4 f1 x0
   go_quiet (fail)
   go_wp2_with fail
   have HU := hide' (fun (W : World) (h : Blk W w2.heap.size #[.int .i64 ((st.pl : Int) + (n : Int)), .int .i64 st.en, .slice (some ⟨rb', 0, none⟩) c.bs.size c.bs.size, .slice (some ⟨db, 0, none⟩) 8 8, .int .i64 st.vals] 140) => (⟨h.cell 0, h.cell 1, h.cell 2, h.cell 3, h.cell 4⟩ : U5 W w2.heap.size (.int .i64 ((st.pl : Int) + (n : Int))) (.int .i64 st.en) (.slice (some ⟨rb', 0, none⟩) c.bs.size c.bs.size) (.slice (some ⟨db, 0, none⟩) 8 8) (.int .i64 st.vals)))
   refine wp_region_seg (fun W => U5 W w2.heap.size (.int .i64 ((st.pl : Int) + (n : Int))) (.int .i64 st.en) (.slice (some ⟨rb', 0, none⟩) c.bs.size c.bs.size) (.slice (some ⟨db, 0, none⟩) 8 8) (.int .i64 st.vals)) [([0, 1, 2], 3), ([], 4), ([5, 6, 7], 8), ([], 9), ([], 10)] rfl (by kernel_rfl) (fun _ _ d _ _ h => by cases d <;> exact h) (HU.out _ HU3.out) ?_
   simp only [wpSeg, List.filterMap_cons, List.filterMap_nil, List.getElem?_toArray, List.getElem?_cons_zero, List.getElem?_cons_succ]
   refine wpX_step _ rfl (fun W hW => rfl) ?_
   refine wpX_step (.agg #[.int .i64 ((st.pl : Int) + (n : Int)), .int .i64 st.en, .slice (some ⟨rb', 0, none⟩) c.bs.size c.bs.size, .slice (some ⟨db, 0, none⟩) 8 8, .int .i64 st.vals]) rfl (fun W hW => by obtain ⟨h0, h1, h2, h3, h4⟩ := hW; go_simp) ?_
   refine wpX_step _ rfl (fun W hW => rfl) ?_
   refine wpX_nil ⟨_, rfl, rfl, ?_⟩
   unfold Oper.wp
   go_simp
   refine (quoted_calls (c.bs.extract st.pl (st.pl + n)) ?_ _).mono ?_
   · rw [ByteArray.size_extract]; omega
   rintro e w4 ⟨rfl, m4, hw4⟩
   have HB4 : Hid (BAt c w st rb db fuel far w4) := by
    have h : BAt c w st rb db fuel far w4 := by rw [hw4]; exact ((HB3.out.drewN nq).drewN 1).drewN m4
    exact h
   have HU4 : Hid (Blk w4 w2.heap.size #[.int .i64 ((st.pl : Int) + (n : Int)), .int .i64 st.en, .slice (some ⟨rb', 0, none⟩) c.bs.size c.bs.size, .slice (some ⟨db, 0, none⟩) 8 8, .int .i64 st.vals] 140) := by rw [hw4]; exact HU3.out
   have HR4 : Hid (Blk w4 rb' (rdC (readS st n).rd) 4) := by rw [hw4]; exact HR3.out
   have hs4 : w2.heap.size < w4.heap.size := HU4.out.lt
   clear hw4
   refine ⟨HU.out _ HU4.out, ?_⟩
   refine wpX_nil ⟨_, rfl, rfl, ?_⟩
   unfold Oper.wp
   go_simp
   have hcall := made_calls' w4 c.pb c.gb c.bs fuel c.N far 0 (readS st n) rb' c.bs.size db (quoteT (c.bs.extract st.pl (st.pl + n))) HB4.out.pg hN i4
   unfold rsC readS at hcall
   simp only [Int.natCast_add] at hcall
   refine hcall.mono ?_
   clear hcall
   rintro e w5 ⟨he5, hp5, hf5⟩
   obtain ⟨g1, g2, g3, g4⟩ := HB4.out.next hf5 hp5
   have hU5 := hf5.blk HU4.out HU4.out.lt (by omega)
   have hR5 := hf5.blk HR4.out HR4.out.lt (blk_ne HR4.out HB4.out.pg (by decide))
   obtain ⟨s', t', ok', hform⟩ := madeR_form c.N 0 (readS st n) rb' c.bs.size db (quoteT (c.bs.extract st.pl (st.pl + n)))
   have hD5 := g2.dp
   have HPost : Hid (RPost c w (bytesT c.bs c.N x q fuel far st) (rsR s' rb' c.bs.size db t' ok') (st5 w5 (w.heap.size + 1) (.int .i64 s'.pl) (.int .i64 s'.en) (.slice (some ⟨rb', 0, none⟩) c.bs.size c.bs.size) (.slice (some ⟨db, 0, none⟩) 8 8) (.int .i64 s'.vals))) := by
    have h : RPost c w (bytesT c.bs c.N x q fuel far st) (rsR s' rb' c.bs.size db t' ok') (st5 w5 (w.heap.size + 1) (.int .i64 s'.pl) (.int .i64 s'.en) (.slice (some ⟨rb', 0, none⟩) c.bs.size c.bs.size) (.slice (some ⟨db, 0, none⟩) 8 8) (.int .i64 s'.vals)) := by
     rw [HT.out, if_pos trivial]
     refine RPost.made (st := readS st n) (rb := rb') (db := db) (g1.set5 (b := w.heap.size + 1) (by omega) _ _ _ _ _) hform.symm (Blk.other5 hp5 (b := w.heap.size + 1) (by omega) _ _ _ _ _) ⟨Blk.other5 hR5 (b := w.heap.size + 1) (by omega) _ _ _ _ _, Blk.other5 hD5 (b := w.heap.size + 1) (fun e => ?_) _ _ _ _ _, ?_, g2.dne⟩
     · exact blk_ne hD5 g4 (by decide) e
     · exact blk_ne hR5 hp5 (by decide)
    exact h
   have he6 : e = rsR s' rb' c.bs.size db t' ok' := he5.trans hform
   subst he6
   have HU5b := hide' (Blk.other5 hU5 (b := w.heap.size + 1) (by omega) (.int .i64 s'.pl) (.int .i64 s'.en) (.slice (some ⟨rb', 0, none⟩) c.bs.size c.bs.size) (.slice (some ⟨db, 0, none⟩) 8 8) (.int .i64 s'.vals))
   have HU5 := hide' hU5
   obtain ⟨z0, z1, z2, z3, z4, zf⟩ := g4.five
   clear g1 g2 g3 g4 hp5 hf5 hU5 hR5 hD5 hform he5
   unfold rsR rsC
   simp only
   refine ⟨HU.out _ HU5.out, ?_⟩
   refine wpX_step (.agg #[.int .i64 s'.pl, .int .i64 s'.en, .slice (some ⟨rb', 0, none⟩) c.bs.size c.bs.size, .slice (some ⟨db, 0, none⟩) 8 8, .int .i64 s'.vals]) rfl (fun W hW => by go_simp) ?_
   refine wpX_step (.string ⟨t'.toArray⟩) rfl (fun W hW => by go_simp) ?_
   refine wpX_step (.bool ok') rfl (fun W hW => by go_simp) ?_
   refine wpX_nil ⟨_, rfl, rfl, ?_⟩
   unfold Oper.wp
   go_simp
   refine ⟨HU.out _ HU5b.out, ?_⟩
   refine wpX_nil ⟨_, rfl, rfl, ?_⟩
   unfold Oper.wp
   go_simp
   refine ⟨HU.out _ HU5b.out, ?_⟩
   refine wpX_nil ⟨_, rfl, rfl, ?_⟩
   unfold Oper.wp
   go_simp
   refine ⟨HU.out _ HU5b.out, ?_⟩
   go_wp2_with fail
   refine bodyPost_ret (v := .tuple #[.agg (rsC s' rb' c.bs.size db), .string ⟨t'.toArray⟩, .bool ok']) (by simp [results, Tryz.results91, go_sem, rsC, z0, z1, z2, z3, z4]) rfl ?_
   exact HPost.out
end Go.Proofs.YtmlkhhhjdpbhfaaGreatDoor
