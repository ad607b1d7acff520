import Derived.Test.YtmlkhhhjdpbhfaaGreatDoorPa03
import Derived.Test.YtmlkhhhjdpbhfaaGreatDoorPa32
import Derived.Laws.IdiomStrings
import Derived.Laws.Concat
import Derived.Deep.QuietTactic
import Derived.Test.YtmlkhhhjdpbhfaaGreatDoorPa01
import Derived.Test.YtmlkhhhjdpbhfaaGreatDoorPa24
import Derived.Test.YtmlkhhhjdpbhfaaGreatDoorPa36
import Derived.Laws.CopyOwn
namespace Go.Proofs.YtmlkhhhjdpbhfaaGreatDoor
open Go.RowKit
def silD (c : Int) : Bool := decide (c = 39) || hidesB c
set_option maxHeartbeats 400000 in
theorem silent_calls (c : Int) (w : World) :
 Calls Tryz.prog 169 #[.int .u8 c] w fun e w' => e = .returned (.bool (silD c)) ∧ w' = w := by
 go_enter Tryz.func169, Tryz.ntmps169
 go_wp2
 all_goals
  go_ret
  refine ⟨ret_bool ?_, rfl⟩
  unfold silD hidesB
  by_cases h39 : c = 39 <;> simp_all
theorem mk_app (a b : List UInt8) : (⟨a.toArray⟩ : ByteArray) ++ ⟨b.toArray⟩ = ⟨(a ++ b).toArray⟩ := by
 rw [ByteArray.mk_append_mk]
theorem mk_size (a : List UInt8) : (⟨a.toArray⟩ : ByteArray).size = a.length := by simp [ByteArray.size]
set_option maxHeartbeats 1000000 in
theorem joined_calls (a b : List UInt8) (w : World) (ha : a.length ≤ 1000000000) (hb : b.length ≤ 1000000000) :
 Calls Tryz.prog 170 #[.string ⟨a.toArray⟩, .string ⟨b.toArray⟩] w fun e w' => e = .returned (.string ⟨(joinT a b).toArray⟩) ∧ w' = w := by
 cases a with
 | nil =>
  go_enter Tryz.func170, Tryz.ntmps170
  go_wp2_with fail
  go_ret
  exact ⟨rfl, rfl⟩
 | cons x r =>
  have hJ : joinT (x :: r) b = ((x :: r) ++ [32]) ++ b := by simp [joinT]
  rw [hJ]
  rw [← mk_app, ← mk_app]
  have s1 : (⟨(x :: r).toArray⟩ : ByteArray).size ≤ 1000000000 := by rw [mk_size]; exact ha
  have s2 : (⟨b.toArray⟩ : ByteArray).size ≤ 1000000000 := by rw [mk_size]; exact hb
  have hne : (⟨(x :: r).toArray⟩ : ByteArray).toList.isEmpty = false := by rw [ByteArray.toList_eq]; rfl
  clear hJ ha hb
  generalize (⟨(x :: r).toArray⟩ : ByteArray) = A at *
  generalize (⟨b.toArray⟩ : ByteArray) = B at *
  have s3 : A.size + 1 ≤ 9223372036854775807 := by omega
  have s4 : A.size + 1 + B.size ≤ 9223372036854775807 := by omega
  go_enter Tryz.func170, Tryz.ntmps170
  go_wp2_with fail
  go_ret
  exact ⟨rfl, rfl⟩
set_option maxHeartbeats 1000000 in
theorem pow_calls (k : Nat) (hk : k ≤ 4) (w : World) :
 Calls Tryz.prog 45 #[.int .i64 k] w fun e w' => e = .returned (.int .i64 ((256 ^ k : Nat) : Int)) ∧ w' = w := by
 have h5 : k = 0 ∨ k = 1 ∨ k = 2 ∨ k = 3 ∨ k = 4 := by omega
 go_enter Tryz.func45, Tryz.ntmps45
 go_wp2_with fail
 go_loop [3, 4] (fun vn vi => ∃ i x : Nat, vi = .int .i64 i ∧ vn = .int .i64 x ∧ i ≤ k ∧ x ≤ 4294967296 ∧ (i < k → x ≤ 16777216) ∧ Hid (x = 256 ^ i)) (fun _ vi => k - (intOf vi).toNat)
 case atStart => exact ⟨0, 1, rfl, rfl, by omega, by omega, by omega, (rfl : (1 : Nat) = 256 ^ 0)⟩
 case round =>
  obtain ⟨i, x, rfl, rfl, hi, hx, hx2, hp⟩ := hrel
  by_cases hlt : i < k
  · have hlt' : (i : Int) < (k : Int) := by omega
    have h3 := hx2 hlt
    have hp2 : 256 * x = 256 ^ (i + 1) := by rw [hp.out, Nat.pow_succ]; omega
    have h4 : i + 1 < k → 256 * x ≤ 16777216 := fun h => by rw [hp2]; exact pow_le3 _ (by omega)
    have HP := hide hp2
    have H4 := hide h4
    clear hp hp2 hx2 h4
    go_wp2_with fail
    exact ⟨⟨i + 1, 256 * x, by go_num, by go_num, by omega, by omega, H4.out, HP⟩, by simp [intOf]; omega⟩
  · have hlt' : ¬ (i : Int) < (k : Int) := by omega
    have he : i = k := by omega
    subst he
    go_wp2_with fail
    go_ret
    exact ⟨ret_int (by rw [hp.out]; rfl), rfl⟩
set_option maxHeartbeats 2000000 in
theorem Sum_calls (b : ByteArray) (hb : b.size ≤ 4000) (k : Nat) (hk : k ≤ 4) (w : World) :
 Calls Tryz.prog 47 #[.string b, .int .i64 k] w fun e w' => e = .returned (.int .i64 ((sumV b k b.size : Nat) : Int)) ∧ ∃ n, w' = w.drewN n := by
 have hpl := pow_le4 k hk
 have hp0 : 0 < 256 ^ k := Nat.pow_pos (by omega)
 have HPC := hide (pow_calls k hk)
 have HL := hide (fun i => sumV_lt b k i)
 have HS : Hid (∀ i, sumV b k (i + 1) = (sumV b k i * 31 + bn b i) % 256 ^ k) := fun i => rfl
 generalize hP : 256 ^ k = P at *
 clear hP
 go_enter Tryz.func47, Tryz.ntmps47
 go_wp2_with fail
 go_loopw [5, 6] (fun vn vi wr => ∃ (i x n : Nat), vi = .int .i64 i ∧ vn = .int .i64 x ∧ i ≤ b.size ∧ x < P ∧ Hid (x = sumV b k i) ∧ Hid (wr = w.drewN n)) (fun _ vi _ => b.size - (intOf vi).toNat)
 case atStart => exact ⟨0, 0, 0, rfl, rfl, by omega, by omega, (rfl : (0 : Nat) = sumV b k 0), (rfl : w = w.drewN 0)⟩
 case round =>
  obtain ⟨i, x, n, rfl, rfl, hi, hx, hx2, hw⟩ := hrel
  by_cases hlt : i < b.size
  · have hlt' : (i : Int) < (b.size : Int) := by omega
    have hbt : Hid (bt b i = (b[i].toNat : Int)) := bt_in b i hlt
    have hbn : bn b i = b[i].toNat := by have := bn_cast b i; rw [hbt.out] at this; omega
    have hb8 : b[i].toNat < 256 := by rw [← hbn]; exact bn_lt b i
    have hS : sumV b k (i + 1) = (x * 31 + b[i].toNat) % P := by rw [HS.out, ← hx2.out, hbn]
    have hl : sumV b k (i + 1) < P := HL.out _
    have HE := hide hS
    have HL2 := hide hl
    have hP0 : ¬ (P : Int) = 0 := by omega
    clear hx2 hbn hS hl
    go_wp2_with fail
    go_quiet (first
     | (go_at_call 45
        exact Calls.quiet_of_same (HPC.out _)))
    go_wp2_with fail
    refine ⟨⟨i + 1, sumV b k (i + 1), n + nq, by go_num, ?_, by omega, HL2.out, rfl, (by rw [hw.out, World.drewN_drewN] : wr.drewN nq = w.drewN (n + nq))⟩, by simp [intOf]; omega⟩
    rw [HE.out]
    congr 1
    rw [Int.natCast_emod]
    congr 1
    omega
  · have hlt' : ¬ (i : Int) < (b.size : Int) := by omega
    have he : i = b.size := by omega
    subst he
    go_wp2_with fail
    go_ret
    exact ⟨ret_int (by rw [hx2.out]), n, hw.out⟩
theorem dec10 (k : Nat) (h : k < 10) : ({ data := #[48, 49, 50, 51, 52, 53, 54, 55, 56, 57] } : ByteArray).extract k (k + 1) = ⟨[UInt8.ofNat (48 + k)].toArray⟩ := by
 have h10 : k = 0 ∨ k = 1 ∨ k = 2 ∨ k = 3 ∨ k = 4 ∨ k = 5 ∨ k = 6 ∨ k = 7 ∨ k = 8 ∨ k = 9 := by omega
 rcases h10 with rfl | rfl | rfl | rfl | rfl | rfl | rfl | rfl | rfl | rfl <;> rfl
theorem hex16 (k : Nat) (h : k < 16) : ({ data := #[48, 49, 50, 51, 52, 53, 54, 55, 56, 57, 97, 98, 99, 100, 101, 102] } : ByteArray).extract k (k + 1) = ⟨[hexT k].toArray⟩ := by
 have h16 : k = 0 ∨ k = 1 ∨ k = 2 ∨ k = 3 ∨ k = 4 ∨ k = 5 ∨ k = 6 ∨ k = 7 ∨ k = 8 ∨ k = 9 ∨ k = 10 ∨ k = 11 ∨ k = 12 ∨ k = 13 ∨ k = 14 ∨ k = 15 := by omega
 rcases h16 with rfl | rfl | rfl | rfl | rfl | rfl | rfl | rfl | rfl | rfl | rfl | rfl | rfl | rfl | rfl | rfl <;> rfl
theorem nDig_le (n : Nat) : (decT n).length ≤ n + 1 := by
 unfold decT
 rw [Lib.decDigits_length]
 induction n using Nat.strongRecOn with
 | _ n ih =>
  by_cases h : n < 10
  · rw [Lib.nDigits_small h]; omega
  · rw [Lib.nDigits_big h]
    have := ih (n / 10) (by omega)
    omega
def decR (m : Nat) : List UInt8 := if m = 0 then [] else decT m
theorem decT_step (n : Nat) : decT n = decR (n / 10) ++ [UInt8.ofNat (48 + n % 10)] := by
 unfold decT decR
 rw [Lib.decDigits]
 by_cases h : n < 10
 · rw [dif_pos h, if_pos (by omega), show n % 10 = n by omega]; rfl
 · rw [dif_neg h, if_neg (by omega)]; rfl
theorem decR_step (n : Nat) (h : n ≠ 0) : decR n = decR (n / 10) ++ [UInt8.ofNat (48 + n % 10)] := by
 rw [show decR n = decT n by unfold decR; rw [if_neg h]]; exact decT_step n
set_option maxHeartbeats 1000000 in
theorem decimal_calls (n : Nat) (hn : n < 4294967296) (w : World) :
 Calls Tryz.prog 168 #[.int .i64 n] w fun e w' => e = .returned (.string ⟨(decT n).toArray⟩) ∧ ∃ m, w' = w.drewN m := by
 have hx := dec10 (n % 10) (by omega)
 have HD := hide (decT_step n)
 go_enter Tryz.func168, Tryz.ntmps168
 go_wp2_with fail
 rw [hx]
 clear hx
 have HN := hide (nDig_le n)
 go_loopw [0, 4] (fun v0 v4 wr => ∃ (m : Nat) (t : List UInt8), v0 = .int .i64 m ∧ v4 = .string ⟨t.toArray⟩ ∧ m ≤ 4294967296 ∧ Hid (decT n = decR m ++ t) ∧ wr = w) (fun v0 _ _ => (intOf v0).toNat)
 case atStart => exact ⟨n / 10, [UInt8.ofNat (48 + n % 10)], by go_num, rfl, by omega, HD, rfl⟩
 case round =>
  obtain ⟨m, t, rfl, rfl, hm, ht, rfl⟩ := hrel
  have hlt : t.length ≤ 4294967297 := by
   have h1 := congrArg List.length ht.out
   rw [List.length_append] at h1
   have h2 := HN.out
   omega
  by_cases h0 : m = 0
  · subst h0
    go_wp2_with fail
    go_ret
    refine ⟨?_, 0, rfl⟩
    rw [ht.out]; rfl
  · have hx := dec10 (m % 10) (by omega)
    have hpos : (0 : Int) < (m : Int) := by omega
    have HT : Hid (decT n = decR (m / 10) ++ (UInt8.ofNat (48 + m % 10) :: t)) := by
     have : decT n = decR (m / 10) ++ (UInt8.ofNat (48 + m % 10) :: t) := by rw [ht.out, decR_step m h0]; simp
     exact this
    have hs : (⟨t.toArray⟩ : ByteArray).size ≤ 4294967297 := by rw [mk_size]; exact hlt
    have HA : Hid ((⟨[UInt8.ofNat (48 + m % 10)].toArray⟩ : ByteArray) ++ ⟨t.toArray⟩ = ⟨(UInt8.ofNat (48 + m % 10) :: t).toArray⟩) := mk_app _ _
    clear ht h0 hlt
    generalize hTB : (⟨t.toArray⟩ : ByteArray) = TB at *
    clear hTB
    generalize hu : UInt8.ofNat (48 + m % 10) = u at *
    clear hu
    go_wp2_with fail
    exact ⟨⟨m / 10, u :: t, by go_num, by rw [HA.out], by omega, HT, trivial⟩, by simp [intOf]; omega⟩
def hexA (s : ByteArray) (j : Nat) : List UInt8 := (List.range j).flatMap fun i => [hexT (bn s i / 16), hexT (bn s i % 16)]
theorem hexA_step (s : ByteArray) (j : Nat) : hexA s (j + 1) = hexA s j ++ [hexT (bn s j / 16), hexT (bn s j % 16)] := by simp [hexA, List.range_succ]
theorem hexA_len (s : ByteArray) (j : Nat) : (hexA s j).length = 2 * j := by
 induction j with
 | zero => rfl
 | succ j ih => rw [hexA_step, List.length_append, ih]; simp; omega
theorem ret_str {a b : ByteArray} (h : a = b) : Ending.returned (.string a) = .returned (.string b) := by rw [h]
theorem quoteT_eq (b : ByteArray) : quoteT b = (34 :: hexA b b.size) ++ [34] := by simp [quoteT, hexA]
set_option maxHeartbeats 1000000 in
theorem quoted_calls (b : ByteArray) (hb : b.size ≤ 4000) (w : World) :
 Calls Tryz.prog 166 #[.string b] w fun e w' => e = .returned (.string ⟨(quoteT b).toArray⟩) ∧ ∃ m, w' = w.drewN m := by
 have HQ := hide (quoteT_eq b)
 go_enter Tryz.func166, Tryz.ntmps166
 go_wp2_with fail
 go_loopw [4, 5] (fun v4 v5 wr => ∃ (i n : Nat), v5 = .int .i64 i ∧ v4 = .string ⟨(34 :: hexA b i).toArray⟩ ∧ i ≤ b.size ∧ Hid (wr = w.drewN n)) (fun _ v5 _ => b.size - (intOf v5).toNat)
 case atStart => exact ⟨0, 0, rfl, rfl, by omega, (rfl : w = w.drewN 0)⟩
 case round =>
  obtain ⟨i, n, rfl, rfl, hi, hw⟩ := hrel
  have hs : (⟨(34 :: hexA b i).toArray⟩ : ByteArray).size = 1 + 2 * i := by rw [mk_size, List.length_cons, hexA_len]; omega
  by_cases hlt : i < b.size
  · have hlt' : (i : Int) < (b.size : Int) := by omega
    have hbt : Hid (bt b i = (b[i].toNat : Int)) := bt_in b i hlt
    have hbn : bn b i = b[i].toNat := by have := bn_cast b i; rw [hbt.out] at this; omega
    have hb8 : b[i].toNat < 256 := by rw [← hbn]; exact bn_lt b i
    have hx1 := hex16 (b[i].toNat / 16) (by omega)
    have hx2 := hex16 (b[i].toNat % 16) (by omega)
    have HA : Hid ((⟨(34 :: hexA b i).toArray⟩ : ByteArray) ++ ⟨[hexT (b[i].toNat / 16)].toArray⟩ ++ ⟨[hexT (b[i].toNat % 16)].toArray⟩ = ⟨(34 :: hexA b (i + 1)).toArray⟩) := by
     have : (⟨(34 :: hexA b i).toArray⟩ : ByteArray) ++ ⟨[hexT (b[i].toNat / 16)].toArray⟩ ++ ⟨[hexT (b[i].toNat % 16)].toArray⟩ = ⟨(34 :: hexA b (i + 1)).toArray⟩ := by
      rw [mk_app, mk_app, hexA_step, ← hbn]; simp
     exact this
    generalize (⟨(34 :: hexA b i).toArray⟩ : ByteArray) = S at *
    clear hbn hbt
    generalize hcc : b[i].toNat = cc at *
    go_wp2_with fail
    go_quiet (fail)
    go_wp2_with fail
    exact ⟨⟨i + 1, n + nq, by go_num, by rw [← HA.out], by omega, (by rw [hw.out, World.drewN_drewN] : wr.drewN nq = w.drewN (n + nq))⟩, by simp [intOf]; omega⟩
  · have hlt' : ¬ (i : Int) < (b.size : Int) := by omega
    have he : i = b.size := by omega
    subst he
    have HA : Hid ((⟨(34 :: hexA b b.size).toArray⟩ : ByteArray) ++ ⟨[34].toArray⟩ = ⟨(quoteT b).toArray⟩) := by
     have : (⟨(34 :: hexA b b.size).toArray⟩ : ByteArray) ++ ⟨[34].toArray⟩ = ⟨(quoteT b).toArray⟩ := by rw [mk_app, HQ.out]
     exact this
    generalize (⟨(34 :: hexA b b.size).toArray⟩ : ByteArray) = S at *
    go_wp2_with fail
    go_ret
    exact ⟨ret_str HA.out, n, hw.out⟩
theorem loV_split (b : ByteArray) (m : Nat) : loV b (m + 1) = loV b m + bn b m * 256 ^ m := rfl
set_option maxHeartbeats 1000000 in
theorem value_hi (b : ByteArray) (hb : b.size ≤ 4) (w : World) :
 Calls Tryz.prog 167 #[.string b, .bool false] w fun e w' => e = .returned (.int .i64 ((hiV b b.size : Nat) : Int)) ∧ w' = w := by
 go_enter Tryz.func167, Tryz.ntmps167
 go_wp2_with fail
 go_loopw [5, 6, 7] (fun v5 v6 _ wr => ∃ (i x : Nat), v6 = .int .i64 i ∧ v5 = .int .i64 x ∧ i ≤ b.size ∧ Hid (x = hiV b i) ∧ wr = w) (fun _ v6 _ _ => b.size - (intOf v6).toNat)
 case atStart => exact ⟨0, 0, rfl, rfl, by omega, (rfl : (0 : Nat) = hiV b 0), rfl⟩
 case round =>
  obtain ⟨i, x, rfl, rfl, hi, hx, rfl⟩ := hrel
  by_cases hlt : i < b.size
  · have hlt' : (i : Int) < (b.size : Int) := by omega
    have hbt : Hid (bt b i = (b[i].toNat : Int)) := bt_in b i hlt
    have hbn : bn b i = b[i].toNat := by have := bn_cast b i; rw [hbt.out] at this; omega
    have hb8 : b[i].toNat < 256 := by rw [← hbn]; exact bn_lt b i
    have hxl : x < 16777216 := by have := hiV_lt b i; have := pow_le3 i (by omega); have := hx.out; omega
    have HX : Hid (256 * x + b[i].toNat = hiV b (i + 1)) := by
     have : 256 * x + b[i].toNat = hiV b (i + 1) := by rw [hiV, ← hx.out, hbn]; omega
     exact this
    clear hx hbn hbt
    go_wp2_with fail
    exact ⟨⟨i + 1, 256 * x + b[i].toNat, by go_num, by go_num, by omega, HX, trivial⟩, by simp [intOf]; omega⟩
  · have hlt' : ¬ (i : Int) < (b.size : Int) := by omega
    have he : i = b.size := by omega
    subst he
    go_wp2_with fail
    go_ret
    exact ⟨ret_int (by rw [hx.out]), rfl⟩
set_option maxHeartbeats 1000000 in
theorem value_lo (b : ByteArray) (hb : b.size ≤ 4) (w : World) :
 Calls Tryz.prog 167 #[.string b, .bool true] w fun e w' => e = .returned (.int .i64 ((loV b b.size : Nat) : Int)) ∧ w' = w := by
 go_enter Tryz.func167, Tryz.ntmps167
 go_wp2_with fail
 go_loopw [5, 6, 7] (fun v5 v6 _ wr => ∃ (i x m : Nat), v6 = .int .i64 i ∧ v5 = .int .i64 x ∧ i + m = b.size ∧ x < 256 ^ i ∧ Hid (x * 256 ^ m + loV b m = loV b b.size) ∧ wr = w) (fun _ v6 _ _ => b.size - (intOf v6).toNat)
 case atStart => exact ⟨0, 0, b.size, rfl, rfl, by omega, by simp, (by simp : 0 * 256 ^ b.size + loV b b.size = loV b b.size), rfl⟩
 case round =>
  obtain ⟨i, x, m, rfl, rfl, hi, hxl, hx, rfl⟩ := hrel
  by_cases hlt : i < b.size
  · have hlt' : (i : Int) < (b.size : Int) := by omega
    obtain ⟨m, rfl⟩ : ∃ k, m = k + 1 := ⟨m - 1, by omega⟩
    have hml : m < b.size := by omega
    have hbt : Hid (bt b m = (b[m].toNat : Int)) := bt_in b m hml
    have hbn : bn b m = b[m].toNat := by have := bn_cast b m; rw [hbt.out] at this; omega
    have hb8 : b[m].toNat < 256 := by rw [← hbn]; exact bn_lt b m
    have hx3 : x < 16777216 := by have := pow_le3 i (by omega); omega
    have HX : Hid ((256 * x + b[m].toNat) * 256 ^ m + loV b m = loV b b.size) := by
     have : (256 * x + b[m].toNat) * 256 ^ m + loV b m = loV b b.size := by
      rw [← hx.out, loV_split, hbn, Nat.pow_succ, Nat.add_mul, Nat.mul_assoc]
      have : 256 * (x * 256 ^ m) = x * (256 ^ m * 256) := by rw [Nat.mul_comm 256, Nat.mul_assoc]
      omega
     exact this
    have HL : Hid (256 * x + b[m].toNat < 256 ^ (i + 1)) := by
     have : 256 * x + b[m].toNat < 256 ^ (i + 1) := by rw [Nat.pow_succ]; omega
     exact this
    have hidx : (b.size : Int) - 1 - (i : Int) = (m : Int) := by omega
    clear hx hbn hbt hxl
    go_wp2_with fail
    exact ⟨⟨i + 1, 256 * x + b[m].toNat, m, by go_num, by go_num, by omega, HL.out, HX, trivial⟩, by simp [intOf]; omega⟩
  · have hlt' : ¬ (i : Int) < (b.size : Int) := by omega
    have he : i = b.size := by omega
    have hm0 : m = 0 := by omega
    subst he
    subst hm0
    have h2 : x = loV b b.size := by have := hx.out; simpa [loV] using this
    clear hi
    go_wp2_with fail
    go_ret
    subst h2
    exact ⟨rfl, rfl⟩
theorem value_any (x : It) (b : ByteArray) (hb : b.size ≤ 4) (lo : Bool) (h : lo = (x.c == 108 || x.c == 107)) (w : World) :
 Calls Tryz.prog 167 #[.string b, .bool lo] w fun e w' => e = .returned (.int .i64 ((numT x b : Nat) : Int)) ∧ w' = w := by
 unfold numT
 cases lo
 · rw [if_neg (by simpa using h.symm)]; exact value_hi b hb w
 · rw [if_pos (by simpa using h.symm)]; exact value_lo b hb w
theorem hidR {p : Prop} (h : p) : Hid p := h
def rsC (st : PS) (rb n db : Nat) : Array Value := #[.int .i64 st.pl, .int .i64 st.en, .slice (some ⟨rb, 0, none⟩) n n, .slice (some ⟨db, 0, none⟩) 8 8, .int .i64 st.vals]
def pgC (gb : Nat) (bs : ByteArray) (fuel N far e : Nat) : Array Value := #[.pointer (some ⟨gb, 0, none⟩), .string bs, .int .i64 fuel, .int .i64 N, .int .i64 far, .int .i64 e]
def PgAt (w : World) (pb gb : Nat) (bs : ByteArray) (fuel N far e : Nat) : Prop := Blk w pb (pgC gb bs fuel N far e) 136
def rsR (st : PS) (rb n db : Nat) (t : List UInt8) (ok : Bool) : Ending := .returned (.tuple #[.agg (rsC st rb n db), .string ⟨t.toArray⟩, .bool ok])
set_option maxRecDepth 100000 in
set_option maxHeartbeats 400000 in
theorem fails_calls (w : World) (pb gb : Nat) (bs : ByteArray) (fuel N far e a : Nat) (st : PS) (rb n db : Nat) (h : PgAt w pb gb bs fuel N far e) :
 Calls Tryz.prog 164 #[.pointer (some ⟨pb, 0, none⟩), .agg (rsC st rb n db), .int .i64 a] w fun e' w' => e' = rsR st rb n db [] false ∧ PgAt w' pb gb bs fuel N (max far a) e ∧ Fr w.heap.size pb w w' := by
 have hlt := h.lt
 have hne : ¬ w.heap.size = pb := by omega
 have hne1 : ¬ w.heap.size + 1 = pb := by omega
 have c4 : ∀ o1 o2, ((w.alloc o1).alloc o2).cell? ⟨pb, 4, none⟩ = some (.int .i64 far) := fun o1 o2 => (Blk.alloc (Blk.alloc h o1) o2).cell 4
 have f4 : ∀ o1 o2, ((w.alloc o1).alloc o2).frozen? ⟨pb, 4, none⟩ = false := fun o1 o2 => (Blk.alloc (Blk.alloc h o1) o2).frozen 4
 have HG := hidR h
 clear h
 unfold rsC
 by_cases hgt : far < a
 · have hgt' : (far : Int) < (a : Int) := by omega
   have HM := hidR (Nat.max_eq_right (Nat.le_of_lt hgt))
   go_enter Tryz.func164, Tryz.ntmps164
   go_wp2_with fail
   refine bodyPost_ret (v := .tuple #[.agg (rsC st rb n db), .string ⟨#[]⟩, .bool false]) (by simp [results, Tryz.results164, go_sem, rsC]) rfl ?_
   refine ⟨rfl, ?_, ?_⟩
   · rw [HM.out]
     exact Blk.alloc (Blk.alloc (HG.out.set 4 (.int .i64 a)) _) _
   · exact (((Fr.refl w.heap.size pb w).setCell (Or.inl rfl) _).alloc (by simp [World.setCell]) _).alloc (by simp [World.setCell]) _
 · have hgt' : ¬ (far : Int) < (a : Int) := by omega
   have HM := hidR (Nat.max_eq_left (Nat.le_of_not_lt hgt))
   go_enter Tryz.func164, Tryz.ntmps164
   go_wp2_with fail
   refine bodyPost_ret (v := .tuple #[.agg (rsC st rb n db), .string ⟨#[]⟩, .bool false]) (by simp [results, Tryz.results164, go_sem, rsC]) rfl ?_
   refine ⟨rfl, ?_, ?_⟩
   · rw [HM.out]
     exact Blk.alloc (Blk.alloc HG.out _) _
   · exact ((Fr.refl w.heap.size pb w).alloc (by simp) _).alloc (by simp) _
theorem blkN {w : World} {b : Nat} {cs : Array Value} {t : TypeId} (h : Blk w b cs t) (n : Nat) : Blk (w.drewN n) b cs t := h
def madeR (N e : Nat) (st : PS) (rb n db : Nat) (t : List UInt8) : Ending × Nat :=
 if st.vals = N then (rsR st rb n db [] false, 7) else (rsR { st with vals := st.vals + 1 } rb n db t true, e)
set_option maxRecDepth 100000 in
set_option maxHeartbeats 400000 in
theorem made_calls' (w : World) (pb gb : Nat) (bs : ByteArray) (fuel N far e : Nat) (st : PS) (rb n db : Nat) (t : List UInt8) (h : PgAt w pb gb bs fuel N far e) (hN : N ≤ 10000) (hv : st.vals ≤ N) :
 Calls Tryz.prog 165 #[.pointer (some ⟨pb, 0, none⟩), .agg (rsC st rb n db), .string ⟨t.toArray⟩] w fun e' w' => e' = (madeR N e st rb n db t).1 ∧ PgAt w' pb gb bs fuel N far (madeR N e st rb n db t).2 ∧ Fr w.heap.size pb w w' := by
 have hlt := h.lt
 have hne : ¬ w.heap.size = pb := by omega
 have hne1 : ¬ w.heap.size + 1 = pb := by omega
 have c3 : ∀ o1 o2, ((w.alloc o1).alloc o2).cell? ⟨pb, 3, none⟩ = some (.int .i64 N) := fun o1 o2 => (Blk.alloc (Blk.alloc h o1) o2).cell 3
 have c5 : ∀ o1 o2, ((w.alloc o1).alloc o2).cell? ⟨pb, 5, none⟩ = some (.int .i64 e) := fun o1 o2 => (Blk.alloc (Blk.alloc h o1) o2).cell 5
 have f5 : ∀ o1 o2, ((w.alloc o1).alloc o2).frozen? ⟨pb, 5, none⟩ = false := fun o1 o2 => (Blk.alloc (Blk.alloc h o1) o2).frozen 5
 have HG := hidR h
 clear h
 by_cases hgt : st.vals = N
 · have hgt' : ((st.vals : Int) == (N : Int)) = true := by simp; omega
   have HM := hidR (p := madeR N e st rb n db t = (rsR st rb n db [] false, 7)) (by unfold madeR; rw [if_pos hgt])
   clear hgt
   rw [HM.out]
   unfold rsC
   go_enter Tryz.func165, Tryz.ntmps165
   go_wp2_with fail
   go_quiet (fail)
   go_wp2_with fail
   refine bodyPost_ret (v := .tuple #[.agg (rsC st rb n db), .string ⟨#[]⟩, .bool false]) (by simp [results, Tryz.results165, go_sem, rsC]) rfl ?_
   refine ⟨rfl, ?_, ?_⟩
   · have h1 : Blk ((w.alloc (.cells (rsC st rb n db) 140)).alloc (.cells #[.int .i64 0, .int .i64 0, .slice none 0 0, .slice none 0 0, .int .i64 0] 140)) pb (pgC gb bs fuel N far e) 136 := Blk.alloc (Blk.alloc HG.out _) _
     have h2 := (((((((blkN h1 nq).set 5 (.int .i64 7)).setOther ⟨w.heap.size + 1, 0, none⟩ (by simp only; omega) (.int .i64 st.pl)).setOther ⟨w.heap.size + 1, 1, none⟩ (by simp only; omega) (.int .i64 st.en)).setOther ⟨w.heap.size + 1, 2, none⟩ (by simp only; omega) (.slice (some ⟨rb, 0, none⟩) n n)).setOther ⟨w.heap.size + 1, 3, none⟩ (by simp only; omega) (.slice (some ⟨db, 0, none⟩) 8 8)).setOther ⟨w.heap.size + 1, 4, none⟩ (by simp only; omega) (.int .i64 st.vals))
     exact h2
   · have h1 := (((Fr.refl w.heap.size pb w).alloc (Nat.le_refl _) (.cells (rsC st rb n db) 140)).alloc (by simp) (.cells #[.int .i64 0, .int .i64 0, .slice none 0 0, .slice none 0 0, .int .i64 0] 140)).drewN nq
     exact (((((h1.setCell (p := ⟨pb, 5, none⟩) (Or.inl rfl) _).setCell (p := ⟨w.heap.size + 1, 0, none⟩) (Or.inr (Nat.le_succ _)) _).setCell (p := ⟨w.heap.size + 1, 1, none⟩) (Or.inr (Nat.le_succ _)) _).setCell (p := ⟨w.heap.size + 1, 2, none⟩) (Or.inr (Nat.le_succ _)) _).setCell (p := ⟨w.heap.size + 1, 3, none⟩) (Or.inr (Nat.le_succ _)) _).setCell (p := ⟨w.heap.size + 1, 4, none⟩) (Or.inr (Nat.le_succ _)) _
 · have hgt' : ((st.vals : Int) == (N : Int)) = false := by simp; omega
   have HM := hidR (p := madeR N e st rb n db t = (rsR { st with vals := st.vals + 1 } rb n db t true, e)) (by unfold madeR; rw [if_neg hgt])
   have hv2 : st.vals ≤ 10000 := by omega
   clear hgt
   rw [HM.out]
   unfold rsC
   go_enter Tryz.func165, Tryz.ntmps165
   go_wp2_with fail
   go_quiet (fail)
   go_wp2_with fail
   refine bodyPost_ret (v := .tuple #[.agg (rsC { st with vals := st.vals + 1 } rb n db), .string ⟨t.toArray⟩, .bool true]) (by simp [results, Tryz.results165, go_sem, rsC]) rfl ?_
   refine ⟨rfl, ?_, ?_⟩
   · have h1 : Blk ((w.alloc (.cells (rsC st rb n db) 140)).alloc (.cells #[.int .i64 0, .int .i64 0, .slice none 0 0, .slice none 0 0, .int .i64 0] 140)) pb (pgC gb bs fuel N far e) 136 := Blk.alloc (Blk.alloc HG.out _) _
     have h2 := (((((((blkN h1 nq).setOther ⟨w.heap.size, 4, none⟩ (by simp only; omega) (.int .i64 ((st.vals : Int) + 1))).setOther ⟨w.heap.size + 1, 0, none⟩ (by simp only; omega) (.int .i64 st.pl)).setOther ⟨w.heap.size + 1, 1, none⟩ (by simp only; omega) (.int .i64 st.en)).setOther ⟨w.heap.size + 1, 2, none⟩ (by simp only; omega) (.slice (some ⟨rb, 0, none⟩) n n)).setOther ⟨w.heap.size + 1, 3, none⟩ (by simp only; omega) (.slice (some ⟨db, 0, none⟩) 8 8)).setOther ⟨w.heap.size + 1, 4, none⟩ (by simp only; omega) (.int .i64 ((st.vals : Int) + 1)))
     exact h2
   · have h1 := (((Fr.refl w.heap.size pb w).alloc (Nat.le_refl _) (.cells (rsC st rb n db) 140)).alloc (by simp) (.cells #[.int .i64 0, .int .i64 0, .slice none 0 0, .slice none 0 0, .int .i64 0] 140)).drewN nq
     exact (((((h1.setCell (p := ⟨w.heap.size, 4, none⟩) (Or.inr (Nat.le_refl _)) _).setCell (p := ⟨w.heap.size + 1, 0, none⟩) (Or.inr (Nat.le_succ _)) _).setCell (p := ⟨w.heap.size + 1, 1, none⟩) (Or.inr (Nat.le_succ _)) _).setCell (p := ⟨w.heap.size + 1, 2, none⟩) (Or.inr (Nat.le_succ _)) _).setCell (p := ⟨w.heap.size + 1, 3, none⟩) (Or.inr (Nat.le_succ _)) _).setCell (p := ⟨w.heap.size + 1, 4, none⟩) (Or.inr (Nat.le_succ _)) _
def rdC (rd : List Bool) : Array Value := (rd.map Value.bool).toArray
def dpC (deps : Nat → Nat × Nat) : Array Value := ((List.range 8).flatMap fun d => [Value.int .i64 ((deps d).1 : Int), .int .i64 ((deps d).2 : Int)]).toArray
def RdAt (w : World) (rb : Nat) (rd : List Bool) : Prop := Blk w rb (rdC rd) 4
def DpAt (w : World) (db : Nat) (deps : Nat → Nat × Nat) : Prop := Blk w db (dpC deps) 240
theorem rdC_size (rd : List Bool) : (rdC rd).size = rd.length := by simp [rdC]
theorem rdC_get (rd : List Bool) (j : Nat) (h : j < rd.length) : (rdC rd)[j]? = some (.bool (rd.getD j false)) := by simp [rdC, h]
theorem dpC_size (deps : Nat → Nat × Nat) : (dpC deps).size = 16 := by rfl
theorem dpC_v (deps : Nat → Nat × Nat) (d : Nat) (h : d < 8) : (dpC deps)[2 * d]? = some (.int .i64 ((deps d).1 : Int)) ∧ (dpC deps)[2 * d + 1]? = some (.int .i64 ((deps d).2 : Int)) := by
 have h8 : d = 0 ∨ d = 1 ∨ d = 2 ∨ d = 3 ∨ d = 4 ∨ d = 5 ∨ d = 6 ∨ d = 7 := by omega
 rcases h8 with rfl | rfl | rfl | rfl | rfl | rfl | rfl | rfl <;> exact ⟨rfl, rfl⟩
theorem Grm.nine {w : World} {gb g c : Nat} {fi tw : Value} {its : List It} (h : Grm w gb g c fi tw its) {b : Nat} {x : It} {r : List It} (ha : At its b (x :: r)) :
 w.cell? ⟨g, b * 9, none⟩ = some (.int .u8 x.c) ∧ w.cell? ⟨g, b * 9 + 1, none⟩ = some (.int .i64 x.w) ∧ w.cell? ⟨g, b * 9 + 2, none⟩ = some (.int .i64 x.b) ∧ w.cell? ⟨g, b * 9 + 3, none⟩ = some (.int .i64 x.r) ∧ w.cell? ⟨g, b * 9 + 4, none⟩ = some (.int .i64 x.d) ∧
 w.cell? ⟨g, b * 9 + 5, none⟩ = some (.int .i64 x.pl) ∧ w.cell? ⟨g, b * 9 + 6, none⟩ = some (.int .i64 (b + x.nx)) ∧ w.cell? ⟨g, b * 9 + 7, none⟩ = some (.int .i64 x.rl) ∧ w.cell? ⟨g, b * 9 + 8, none⟩ = some (.int .i64 0) := by
 have hb : b < its.length := by have := ha.le; simp at this; omega
 have hh : itd its b = x := ha.head
 have hc : ∀ q, q < 9 → w.cell? ⟨g, b * 9 + q, none⟩ = ((itd its b).off b).cells[q]? := fun q hq => h.cell b q hb hq
 rw [hh] at hc
 exact ⟨by simpa [It.cells, It.off] using hc 0 (by omega), by simpa [It.cells, It.off] using hc 1 (by omega), by simpa [It.cells, It.off] using hc 2 (by omega), by simpa [It.cells, It.off] using hc 3 (by omega), by simpa [It.cells, It.off] using hc 4 (by omega), by simpa [It.cells, It.off] using hc 5 (by omega), by simpa [It.cells, It.off] using hc 6 (by omega), by simpa [It.cells, It.off] using hc 7 (by omega), by simpa [It.cells, It.off] using hc 8 (by omega)⟩
structure Rx where
 w0 : World
 gb : Nat
 g : Nat
 cap : Nat
 fb : Nat
 pb : Nat
 tw : Value
 its : List It
 fl : List Int
 bs : ByteArray
 N : Nat
 G : Nat → List It
 R : Nat → Bool
structure RxOk (c : Rx) : Prop where
 grm : Grm c.w0 c.gb c.g c.cap (.slice (some ⟨c.fb, 0, none⟩) 8 8) c.tw c.its
 fst : Blk c.w0 c.fb (intsI c.fl) 3
 fl : c.fl.length = 8
 pb : c.w0.heap.size ≤ c.pb
 bs : c.bs.size ≤ 4000
 N : c.N ≤ 10000
 wf : Wf c.its
 len : c.its.length ≤ 400
 rule : ∀ r, c.R r = true → r < 8 ∧ ∃ b : Nat, c.fl.getD r 0 = (b : Int) ∧ At c.its b (c.G r) ∧ ∃ f, TrS f (c.G r)
 trw : ∀ r, c.R r = true → TrW c.R false false (c.G r)
structure RPre (c : Rx) (w : World) (st : PS) (rb db fuel far : Nat) : Prop where
 pg : PgAt w c.pb c.gb c.bs fuel c.N far 0
 bel : Below c.w0.heap.size c.w0 w
 rd : RdAt w rb st.rd
 dp : DpAt w db st.deps
 inv : PInv c.bs c.N st
theorem blk_ne {w : World} {a b : Nat} {x y : Array Value} {s t : TypeId} (h : Blk w a x s) (k : Blk w b y t) (hne : s ≠ t) : a ≠ b := by
 rintro rfl
 unfold Blk at *
 rw [h] at k
 exact hne (by injection k with k; injection k)
theorem RPre.rne {c : Rx} {w : World} {st : PS} {rb db fuel far : Nat} (h : RPre c w st rb db fuel far) : rb ≠ c.pb := blk_ne h.rd h.pg (by decide)
theorem RPre.dne {c : Rx} {w : World} {st : PS} {rb db fuel far : Nat} (h : RPre c w st rb db fuel far) : db ≠ c.pb := blk_ne h.dp h.pg (by decide)
theorem Fr.blk {B g : Nat} {w w' : World} (h : Fr B g w w') {b : Nat} {x : Array Value} {t : TypeId} (k : Blk w b x t) (hb : b < B) (hne : b ≠ g) : Blk w' b x t := by
 unfold Blk at *; rw [h.block b hb hne]; exact k
structure StAt (c : Rx) (w : World) (st : PS) (rb db : Nat) : Prop where
 rd : RdAt w rb st.rd
 dp : DpAt w db st.deps
 rne : rb ≠ c.pb
 dne : db ≠ c.pb
theorem RPre.st {c : Rx} {w : World} {st : PS} {rb db fuel far : Nat} (h : RPre c w st rb db fuel far) : StAt c w st rb db := ⟨h.rd, h.dp, h.rne, h.dne⟩
theorem StAt.fr {c : Rx} {w w' : World} {st : PS} {rb db B : Nat} (h : StAt c w st rb db) (hf : Fr B c.pb w w') (hB : w.heap.size ≤ B) : StAt c w' st rb db :=
 ⟨hf.blk h.rd (Nat.lt_of_lt_of_le h.rd.lt hB) h.rne, hf.blk h.dp (Nat.lt_of_lt_of_le h.dp.lt hB) h.dne, h.rne, h.dne⟩
theorem RPre.fr {c : Rx} (hc : RxOk c) {w w' : World} {st st' : PS} {rb db rb' db' fuel far fuel' far' : Nat} (h : RPre c w st rb db fuel far) (hf : Fr w.heap.size c.pb w w') (hp : PgAt w' c.pb c.gb c.bs fuel' c.N far' 0) (hs : StAt c w' st' rb' db') (hi : PInv c.bs c.N st') : RPre c w' st' rb' db' fuel' far' := by
 have hpb := hc.pb
 have hlt := h.pg.lt
 refine ⟨hp, h.bel.trans ⟨hf.os, hf.tape, hf.output, hf.size, fun k hk => hf.block k (by omega) (by omega)⟩, hs.rd, hs.dp, hi⟩
theorem RPre.grm {c : Rx} (hc : RxOk c) {w : World} {st : PS} {rb db fuel far : Nat} (h : RPre c w st rb db fuel far) : Grm w c.gb c.g c.cap (.slice (some ⟨c.fb, 0, none⟩) 8 8) c.tw c.its := hc.grm.below h.bel
def RPost (c : Rx) (w : World) (o : PO) (e : Ending) (w' : World) : Prop :=
 Fr w.heap.size c.pb w w' ∧ ∃ (st' : PS) (rb db fuel far : Nat) (t : List UInt8), e = rsR st' rb c.bs.size db t o.ok ∧ PgAt w' c.pb c.gb c.bs fuel c.N far o.e ∧ (o.e = 0 → fuel = o.fuel ∧ far = o.far) ∧ (o.ok = true → st' = o.st ∧ t = o.t ∧ StAt c w' o.st rb db)
def RTry (c : Rx) (g : Nat) : Prop :=
 ∀ (w : World) (st : PS) (rb db fuel far : Nat) (k : List It) (b f : Nat) (own ctx q : Bool), RPre c w st rb db fuel far → At c.its b k → TrS f k → TrW c.R own ctx k → fuel ≤ 100000 → fuel < g →
  Calls Tryz.prog 56 #[.pointer (some ⟨c.pb, 0, none⟩), .int .i64 b, .agg (rsC st rb c.bs.size db), .bool q] w fun e w' => RPost c w (tryT c.G c.bs c.N g fuel far q k st) e w'
theorem RPost.fail {c : Rx} {w w' : World} {e : Ending} {st st' : PS} {rb db fuel far a : Nat} (hf : Fr w.heap.size c.pb w w') (he : e = rsR st' rb c.bs.size db [] false) (hp : PgAt w' c.pb c.gb c.bs fuel c.N (max far a) 0) : RPost c w (failO fuel far a st) e w' :=
 ⟨hf, st', rb, db, fuel, max far a, [], he, hp, fun _ => ⟨rfl, rfl⟩, fun h => by cases h⟩
theorem RPost.made {c : Rx} {w w' : World} {e : Ending} {st : PS} {rb db fuel far : Nat} {t : List UInt8} (hf : Fr w.heap.size c.pb w w') (he : e = (madeR c.N 0 st rb c.bs.size db t).1) (hp : PgAt w' c.pb c.gb c.bs fuel c.N far (madeR c.N 0 st rb c.bs.size db t).2) (hs : StAt c w' st rb db) : RPost c w (madeO c.N fuel far st t) e w' := by
 unfold madeR at he hp
 unfold madeO
 by_cases h : st.vals = c.N
 · rw [if_pos h] at he hp ⊢
   exact ⟨hf, st, rb, db, fuel, far, [], he, hp, fun h => absurd h (by simp [deadO]), fun h => absurd h (by simp [deadO])⟩
 · rw [if_neg h] at he hp ⊢
   exact ⟨hf, _, rb, db, fuel, far, t, he, hp, fun _ => ⟨rfl, rfl⟩, fun _ => ⟨rfl, rfl, ⟨hs.rd, hs.dp, hs.rne, hs.dne⟩⟩⟩
theorem Fr.low {B B' g : Nat} {a b : World} (h : Fr B g a b) (hB : B' ≤ B) : Fr B' g a b := ⟨h.os, h.tape, h.output, h.size, fun k hk => h.block k (by omega)⟩
abbrev st5 (w : World) (b : Nat) (v0 v1 v2 v3 v4 : Value) : World := ((((w.setCell ⟨b, 0, none⟩ v0).setCell ⟨b, 1, none⟩ v1).setCell ⟨b, 2, none⟩ v2).setCell ⟨b, 3, none⟩ v3).setCell ⟨b, 4, none⟩ v4
theorem below_set5 {B : Nat} {a w : World} (h : Below B a w) {b : Nat} (hb : B ≤ b) (v0 v1 v2 v3 v4 : Value) : Below B a (st5 w b v0 v1 v2 v3 v4) :=
 ((((h.setCell (p := ⟨b, 0, none⟩) hb v0).setCell (p := ⟨b, 1, none⟩) hb v1).setCell (p := ⟨b, 2, none⟩) hb v2).setCell (p := ⟨b, 3, none⟩) hb v3).setCell (p := ⟨b, 4, none⟩) hb v4
theorem Fr.set5 {B g : Nat} {a w : World} (h : Fr B g a w) {b : Nat} (hb : B ≤ b) (v0 v1 v2 v3 v4 : Value) : Fr B g a (st5 w b v0 v1 v2 v3 v4) :=
 ((((h.setCell (p := ⟨b, 0, none⟩) (Or.inr hb) v0).setCell (p := ⟨b, 1, none⟩) (Or.inr hb) v1).setCell (p := ⟨b, 2, none⟩) (Or.inr hb) v2).setCell (p := ⟨b, 3, none⟩) (Or.inr hb) v3).setCell (p := ⟨b, 4, none⟩) (Or.inr hb) v4
theorem Blk.other5 {w : World} {k : Nat} {cs : Array Value} {t : TypeId} (h : Blk w k cs t) {b : Nat} (hne : k ≠ b) (v0 v1 v2 v3 v4 : Value) : Blk (st5 w b v0 v1 v2 v3 v4) k cs t :=
 ((((h.setOther ⟨b, 0, none⟩ hne v0).setOther ⟨b, 1, none⟩ hne v1).setOther ⟨b, 2, none⟩ hne v2).setOther ⟨b, 3, none⟩ hne v3).setOther ⟨b, 4, none⟩ hne v4
theorem Blk.set5 {w : World} {b : Nat} {c0 c1 c2 c3 c4 : Value} {t : TypeId} (h : Blk w b #[c0, c1, c2, c3, c4] t) (v0 v1 v2 v3 v4 : Value) : Blk (st5 w b v0 v1 v2 v3 v4) b #[v0, v1, v2, v3, v4] t :=
 ((((h.set 0 v0).set 1 v1).set 2 v2).set 3 v3).set 4 v4
theorem st5_size (w : World) (b : Nat) (v0 v1 v2 v3 v4 : Value) : (st5 w b v0 v1 v2 v3 v4).heap.size = w.heap.size := by simp [World.setCell]
end Go.Proofs.YtmlkhhhjdpbhfaaGreatDoor
