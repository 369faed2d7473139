/- Bits are written. -/
import Derived.Test.YtgmigcmhnmmdkaaCoBwB5
import Derived.Test.YtgmigcmhnmmdkaaCoBwC4
set_option linter.all false
set_option maxRecDepth 100000
namespace Go.Proofs.Ytgmigcmhnmmdkaa
open Go.RowKit Go.Sep
attribute [local irreducible] Go.wpList Go.Code.wp

theorem num_step {cur R : List Bool} {k nn : Nat} (hk : k < 64) (hp : 2 ^ k ≤ nn) (h : cur ++ numW (64 - k) k nn = R) : (cur ++ putBits 1 1) ++ numW (64 - (k + 1)) (k + 1) (nn - 2 ^ k) = R := by
  have hd : nn / 2 ^ k ≠ 0 := fun q => by have := div_lt_pow q; omega
  rw [show 64 - k = (64 - (k + 1)) + 1 by omega, numW_go hd] at h
  rw [← h, List.append_assoc]; rfl
theorem num_end {cur R : List Bool} {f k nn : Nat} (hd : nn / 2 ^ k = 0) (h : cur ++ numW f k nn = R) : (cur ++ putBits 0 1) ++ putBits nn k = R := by
  rw [numW_stop hd] at h
  rw [← h, List.append_assoc]; rfl
theorem run_shl1 {w : World} {t : TypeId} {n : Nat} {yk : IntKind} (h : n < 64) : (binOp .shl t (.int .u64 1) (.int yk ((n : Nat) : Int))).run Try.prog w = .ok (.int .u64 ((2 ^ n : Nat) : Int)) w := by
  have e := run_shlU (w := w) (t := t) (a := 1) (n := n) (k := .u64) (yk := yk) (.inr (.inr (.inl rfl)))
  have e2 : bshl IntKind.u64.bits 1 n = 2 ^ n := by
    unfold bshl
    rw [Nat.one_mul]
    exact Nat.mod_eq_of_lt (Nat.pow_lt_pow_right (by decide) h)
  rw [e2] at e; exact e
theorem bor8_lt {a b : Nat} : bor 8 a b < 256 := BitVec.isLt _
theorem row_cast {v : Value} {n : Nat} {l l2 : List UInt8} {F : List OB} (h : RowH 5 1 v n (l.map bV) F) (e : l = l2) : RowH 5 1 v l2.length (l2.map bV) F := by
  subst e
  have : n = l.length := by have := h.1; simpa using this.symm
  subst this; exact h
theorem add_set0 {bs : List Bool} {cnt x : Nat} (hc : cnt = bs.length) (hx : x < 2) (h : cnt % 8 = 0) : (pk bs ++ [0]).set ((pk bs ++ [0]).length - 1) (UInt8.ofNat (bor 8 ((pk bs ++ [0]).getD ((pk bs ++ [0]).length - 1) 0).toNat (bshl 64 x (7 - cnt % 8) % 256))) = pk (bs ++ [decide (x = 1)]) := by
  rw [pk_snoc, bit_toNat hx, ← hc]; unfold addB; rw [if_pos h]
theorem add_set1 {bs : List Bool} {cnt x : Nat} (hc : cnt = bs.length) (hx : x < 2) (h : ¬ cnt % 8 = 0) : (pk bs).set ((pk bs).length - 1) (UInt8.ofNat (bor 8 ((pk bs).getD ((pk bs).length - 1) 0).toNat (bshl 64 x (7 - cnt % 8) % 256))) = pk (bs ++ [decide (x = 1)]) := by
  rw [pk_snoc, bit_toNat hx, ← hc]; unfold addB; rw [if_neg h]
def wr (bs : List Bool) (n k i : Nat) : List Bool := bs ++ (List.range i).map (bitF n k)
theorem wr_succ {bs : List Bool} {n k i : Nat} : wr bs n k i ++ [bitF n k i] = wr bs n k (i + 1) := by unfold wr; simp [List.range_succ]
theorem wr_zero {bs : List Bool} {n k : Nat} : wr bs n k 0 = bs := by unfold wr; simp
theorem wr_len {bs : List Bool} {n k i : Nat} : (wr bs n k i).length = bs.length + i := by unfold wr; simp

set_option maxHeartbeats 400000 in
theorem held_c {I : IM} {k : Nat} (hk : k ≤ 64) : Fun Try.prog 57 #[.int .i64 ((k : Nat) : Int)] I (fun v J => v = .int .i64 ((k : Nat) : Int)) := by
  refine enter_rule 6 [(0, .int .i64 ((k : Nat) : Int))] Try.func57 rfl (by kernel_rfl) ?_
  intro w s
  refine wp_seq ?_
  refine region_rule ?_
  refine ops_rule (C := []) [] [] 1 [] 0 (fun φ1 => [(2, .int .i64 0)]) (fun φ1 => []) (fun φ1 => []) s trivial (fun φ1 => by kernel_rfl) ?_
  intro φ1 w1 s
  refine ops_done (by kernel_rfl) ?_
  refine wp_seq ?_
  refine region_rule ?_
  refine ops_rule (C := []) [] [] 4 [] 0 (fun φ2 => [(2, .int .i64 (if ((64 : Nat) : Int) < (if ((0 : Nat) : Int) > ((k : Nat) : Int) then ((0 : Nat) : Int) else ((k : Nat) : Int)) then ((64 : Nat) : Int) else (if ((0 : Nat) : Int) > ((k : Nat) : Int) then ((0 : Nat) : Int) else ((k : Nat) : Int)))), (5, .int .i64 (if ((64 : Nat) : Int) < (if ((0 : Nat) : Int) > ((k : Nat) : Int) then ((0 : Nat) : Int) else ((k : Nat) : Int)) then ((64 : Nat) : Int) else (if ((0 : Nat) : Int) > ((k : Nat) : Int) then ((0 : Nat) : Int) else ((k : Nat) : Int)))), (4, .int .i64 (if ((0 : Nat) : Int) > ((k : Nat) : Int) then ((0 : Nat) : Int) else ((k : Nat) : Int))), (3, .int .i64 ((k : Nat) : Int))]) (fun φ2 => []) (fun φ2 => []) s trivial (fun φ2 => by kernel_rfl) ?_
  intro φ2 w2 s
  rw [nat_max (a := k) (b := 0)]
  rw [nat_min (a := (max k 0)) (b := 64)]
  refine ops_done (by kernel_rfl) ?_
  refine wp_ret ?_
  refine ret_rule (C := []) [] [] (.int .i64 ((min (max k 0) 64 : Nat) : Int)) [] [] s trivial (by kernel_rfl) ?_
  exact ⟨_, _, _, rfl, s, (by rw [show min (max k 0) 64 = k by omega])⟩

set_option maxHeartbeats 400000 in
theorem shift_c {I : IM} {n : Nat} : Fun Try.prog 83 #[.int .i64 ((n : Nat) : Int)] I (fun v J => v = .int .i64 ((7 - n % 8 : Nat) : Int)) := by
  refine enter_rule 6 [(0, .int .i64 ((n : Nat) : Int))] Try.func83 rfl (by kernel_rfl) ?_
  intro w s
  refine wp_seq ?_
  refine region_rule ?_
  refine ops_rule (C := []) [] [] 1 [] 0 (fun φ1 => [(2, .int .i64 0)]) (fun φ1 => []) (fun φ1 => []) s trivial (fun φ1 => by kernel_rfl) ?_
  intro φ1 w1 s
  refine ops_done (by kernel_rfl) ?_
  refine wp_seq ?_
  refine region_rule ?_
  refine ops_rule (C := []) [] [] 4 [] 0 (fun φ2 => [(2, .int .i64 (IntKind.wrap .i64 (((7 : Nat) : Int) - (Int.tmod ((n : Nat) : Int) ((8 : Nat) : Int))))), (5, .int .i64 (IntKind.wrap .i64 (((7 : Nat) : Int) - (Int.tmod ((n : Nat) : Int) ((8 : Nat) : Int))))), (4, .int .i64 (Int.tmod ((n : Nat) : Int) ((8 : Nat) : Int))), (3, .int .i64 ((n : Nat) : Int))]) (fun φ2 => []) (fun φ2 => []) s trivial (fun φ2 => by kernel_rfl) ?_
  intro φ2 w2 s
  rw [nat_rem (a := n) (b := 8)]
  rw [nat_subI (a := 7) (b := (n % 8)) (by   omega) (by   omega)]
  refine ops_done (by kernel_rfl) ?_
  refine wp_ret ?_
  refine ret_rule (C := []) [] [] (.int .i64 ((7 - (n % 8) : Nat) : Int)) [] [] s trivial (by kernel_rfl) ?_
  exact ⟨_, _, _, rfl, s, rfl⟩

set_option maxHeartbeats 2000000 in
theorem add_c {I : IM} {b cnt : Nat} {bs : List Bool} {v0 : Value} {F : List OB} (hc : cnt = bs.length) (hl9 : bs.length ≤ 1000000) (h : RowH 5 1 v0 (pk bs).length ((pk bs).map bV) F) {x : Nat} (hx : x < 2) : FunM Try.prog 58 #[.pointer (some ⟨b, 0, none⟩), .int .u64 ((x : Nat) : Int)] I ((b, .cells #[v0, .int .i64 ((cnt : Nat) : Int)] 91) :: F) (fun v J H' => ∃ (b' : OB) (F' : List OB), H' = b' :: F' ∧ b'.1 = b ∧ ∃ v', v = .tuple #[] ∧ b' = (b, .cells #[v', .int .i64 ((cnt + 1 : Nat) : Int)] 91) ∧ RowH 5 1 v' (pk (bs ++ [decide (x = 1)])).length ((pk (bs ++ [decide (x = 1)])).map bV) F') := by
  refine enterM_rule 48 [(0, .pointer (some ⟨b, 0, none⟩)), (1, .int .u64 ((x : Nat) : Int))] Try.func58 rfl (by kernel_rfl) ?_
  intro w s
  refine wp_seq ?_
  refine wp_seq ?_
  refine region_rule ?_
  refine ops_rule (C := []) [(b, .cells #[v0, .int .i64 ((cnt : Nat) : Int)] 91)] F 6 [.o 0] 0 (fun φ1 => [(9, .bool ((Int.tmod ((cnt : Nat) : Int) ((8 : Nat) : Int)) == ((0 : Nat) : Int))), (8, .int .i64 (Int.tmod ((cnt : Nat) : Int) ((8 : Nat) : Int))), (7, .int .i64 ((cnt : Nat) : Int)), (6, .pointer (some ⟨b, 1, none⟩)), (5, .pointer (some ⟨b, 0, none⟩)), (4, .pointer (some ⟨b, 0, none⟩))]) (fun φ1 => [(b, .cells #[v0, .int .i64 ((cnt : Nat) : Int)] 91)]) (fun φ1 => [b]) s trivial (fun φ1 => by kernel_rfl) ?_
  intro φ1 w1 s
  rw [nat_rem (a := cnt) (b := 8)]
  rw [nat_eql (a := (cnt % 8)) (b := 0)]
  refine ops_done (by kernel_rfl) ?_
  rcases Bool.eq_false_or_eq_true (decide ((cnt % 8) = 0)) with hc2 | hc2
  ·
    rw [hc2]
    refine cond_true_rule (b := true) (by kernel_rfl) rfl ?_
    refine region_rule ?_
    refine ops_rule (C := []) [(b, .cells #[v0, .int .i64 ((cnt : Nat) : Int)] 91)] F 6 [.o 0] 1 (fun φ3 => [(15, .slice (some ⟨(φ3 0), 0, none⟩) 1 1), (14, v0), (13, .pointer (some ⟨b, 0, none⟩)), (12, .pointer (some ⟨b, 0, none⟩)), (11, .pointer (some ⟨b, 0, none⟩)), (10, .pointer (some ⟨b, 0, none⟩))]) (fun φ3 => [(b, .cells #[v0, .int .i64 ((cnt : Nat) : Int)] 91), ((φ3 0), .cells #[.int .u8 0] 5)]) (fun φ3 => [b]) s trivial (fun φ3 => by kernel_rfl) ?_
    intro φ3 w3 s
    refine append_rule (H := [(b, .cells #[v0, .int .i64 ((cnt : Nat) : Int)] 91), ((φ3 0), .cells #[.int .u8 0] 5)]) (F := F) 22 22 5 Try.t5 (.int .u8 0) 1 1 (some 16) s Try.underlying22 (by kernel_rfl) (by kernel_rfl) (by kernel_rfl) (by kernel_rfl) (by kernel_rfl) (by decide) h (src_own (H := [(b, .cells #[v0, .int .i64 ((cnt : Nat) : Int)] 91), ((φ3 0), .cells #[.int .u8 0] 5)]) s 1 (φ3 0) #[.int .u8 0] 5 22 5 1 1 1 [.int .u8 0] (by kernel_rfl) under34 (by kernel_rfl) (by kernel_rfl) (by kernel_rfl)) (by simp only [maxLen, pk_len]; omega) (by simp only [maxLen, pk_len]; omega) (by kernel_rfl) ?_
    intro v4 w4 F4 s h4
    replace h4 : RowH 5 1 v4 ((pk bs ++ ([0] : List UInt8)).length) ((pk bs ++ ([0] : List UInt8)).map bV) F4 := row_snoc (x := (pk bs)) (y := ([0] : List UInt8)) h4 (by kernel_rfl)
    obtain ⟨g5, cap5, cur5, hv5, hF5, hc5, hrow5⟩ := row_open h4 (by simp)
    subst hv5
    subst hF5
    refine ops_rule (C := []) [(b, .cells #[v0, .int .i64 ((cnt : Nat) : Int)] 91), ((φ3 0), .cells #[.int .u8 0] 5), (g5, .cells cur5 5)] [] 3 [.o 0] 0 (fun φ6 => [(18, .pointer (some ⟨b, 0, none⟩)), (17, .pointer (some ⟨b, 0, none⟩))]) (fun φ6 => [(b, .cells #[.slice (some ⟨g5, 0, none⟩) ((pk bs ++ ([0] : List UInt8)).length) cap5, .int .i64 ((cnt : Nat) : Int)] 91), ((φ3 0), .cells #[.int .u8 0] 5), (g5, .cells cur5 5)]) (fun φ6 => [b]) s trivial (fun φ6 => by kernel_rfl) ?_
    intro φ6 w6 s
    refine ops_done (by kernel_rfl) ?_
    refine wp_seq ?_
    have hz7 := St.none0 s (g := g5) (o := .cells cur5 5) (by simp)
    have hT7 := IM.Le.refl I
    obtain ⟨I8, le8, hk8, s⟩ := s.freezeAt 2 g5 (.cells cur5 5) [(b, .cells #[.slice (some ⟨g5, 0, none⟩) ((pk bs ++ ([0] : List UInt8)).length) cap5, .int .i64 ((cnt : Nat) : Int)] 91), ((φ3 0), .cells #[.int .u8 0] 5)] (by kernel_rfl) (by kernel_rfl)
    replace hT7 := leMono le8 hT7
    refine drawL_rule (H := [(b, .cells #[.slice (some ⟨g5, 0, none⟩) ((pk bs ++ ([0] : List UInt8)).length) cap5, .int .i64 ((cnt : Nat) : Int)] 91), ((φ3 0), .cells #[.int .u8 0] 5)]) (C := []) ⟨(fun φ9 xs9 => [.look 0 [] [], .look 0 [] [], .look 0 [] [], .look 0 [.o 0] [b], .look 0 [] [], .look 0 [] [], .look 0 [] [], .look 0 [.o 0] [b], .look 0 [] [], .sub 0 [] [] (.int .i64 (IntKind.wrap .i64 ((((pk bs ++ ([0] : List UInt8)).length : Nat) : Int) - ((1 : Nat) : Int)))), .ran (Instr.indexAt 22 (.slice (some ⟨g5, 0, none⟩) ((pk bs ++ ([0] : List UInt8)).length) cap5) (.int .i64 ((((pk bs ++ ([0] : List UInt8)).length) - 1 : Nat) : Int))), .ran (Instr.loadAt 5 (.pointer (pAt (some ⟨g5, 0, none⟩) (((pk bs ++ ([0] : List UInt8)).length) - 1)))), .look 0 [] [], .look 0 [] [], .look 0 [] [], .look 0 [] [], .look 0 [.o 0] [b], .call 83 #[.int .i64 ((cnt : Nat) : Int)], .ran (binOp .shl 27 (.int .u64 ((x : Nat) : Int)) (.int .i64 ((7 - cnt % 8 : Nat) : Int))), .ran (convert 27 5 (.int .u64 ((bshl 64 x (7 - cnt % 8) : Nat) : Int))), .ran (binOp .or 5 (.int .u8 ((((pk bs ++ ([0] : List UInt8)).getD (((pk bs ++ ([0] : List UInt8)).length) - 1) 0).toNat : Nat) : Int)) (.int .u8 (((bshl 64 x (7 - cnt % 8)) % 256 : Nat) : Int))), .ran (Instr.indexAt 22 (.slice (some ⟨g5, 0, none⟩) ((pk bs ++ ([0] : List UInt8)).length) cap5) (.int .i64 ((((pk bs ++ ([0] : List UInt8)).length) - 1 : Nat) : Int)))]), (fun φ9 xs9 => [.pointer (some ⟨b, 0, none⟩), .pointer (some ⟨b, 0, none⟩), .pointer (some ⟨b, 0, none⟩), .slice (some ⟨g5, 0, none⟩) ((pk bs ++ ([0] : List UInt8)).length) cap5, .pointer (some ⟨b, 0, none⟩), .pointer (some ⟨b, 0, none⟩), .pointer (some ⟨b, 0, none⟩), .slice (some ⟨g5, 0, none⟩) ((pk bs ++ ([0] : List UInt8)).length) cap5, .int .i64 (((pk bs ++ ([0] : List UInt8)).length : Nat) : Int), .int .i64 ((((pk bs ++ ([0] : List UInt8)).length) - 1 : Nat) : Int), .pointer (pAt (some ⟨g5, 0, none⟩) (((pk bs ++ ([0] : List UInt8)).length) - 1)), .int .u8 ((((pk bs ++ ([0] : List UInt8)).getD (((pk bs ++ ([0] : List UInt8)).length) - 1) 0).toNat : Nat) : Int), .int .u64 ((x : Nat) : Int), .pointer (some ⟨b, 0, none⟩), .pointer (some ⟨b, 0, none⟩), .pointer (some ⟨b, 1, none⟩), .int .i64 ((cnt : Nat) : Int), .int .i64 ((7 - cnt % 8 : Nat) : Int), .int .u64 ((bshl 64 x (7 - cnt % 8) : Nat) : Int), .int .u8 (((bshl 64 x (7 - cnt % 8)) % 256 : Nat) : Int), .int .u8 ((bor 8 (((pk bs ++ ([0] : List UInt8)).getD (((pk bs ++ ([0] : List UInt8)).length) - 1) 0).toNat) ((bshl 64 x (7 - cnt % 8)) % 256) : Nat) : Int), .pointer (pAt (some ⟨g5, 0, none⟩) (((pk bs ++ ([0] : List UInt8)).length) - 1))]), (fun φ9 xs9 => [[(b, .cells #[.slice (some ⟨g5, 0, none⟩) ((pk bs ++ ([0] : List UInt8)).length) cap5, .int .i64 ((cnt : Nat) : Int)] 91), ((φ3 0), .cells #[.int .u8 0] 5)]]), (fun φ9 xs9 => [[default, default, default, default, default, default, default, default, default, default, default, default, default, default, default, default, default, default, default, default, default, default]]), [], [1, 1, 1, 1, 1, 1, 1, 1, 1, 5, 6, 6, 1, 1, 1, 1, 1, 3, 6, 6, 6, 6]⟩ (fun j => ([MP.any, MP.any, MP.any, MP.any, MP.any, MP.any, MP.any, MP.any, MP.any, MP.any, MP.any, MP.any, MP.any, MP.any, MP.any, MP.any, MP.any, MP.any, MP.any, MP.any, MP.any, MP.any] : List MP).getD j MP.any) [] _ (last_split 22 (by kernel_rfl)) (by kernel_rfl) [17] [9] [10, 11, 18, 19, 20, 21] (fun φ9 xs9 => []) (fun φ9 xs9 => [(19, .pointer (some ⟨b, 0, none⟩)), (20, .pointer (some ⟨b, 0, none⟩)), (21, .pointer (some ⟨b, 0, none⟩)), (22, .slice (some ⟨g5, 0, none⟩) ((pk bs ++ ([0] : List UInt8)).length) cap5), (23, .pointer (some ⟨b, 0, none⟩)), (24, .pointer (some ⟨b, 0, none⟩)), (25, .pointer (some ⟨b, 0, none⟩)), (26, .slice (some ⟨g5, 0, none⟩) ((pk bs ++ ([0] : List UInt8)).length) cap5), (27, .int .i64 (((pk bs ++ ([0] : List UInt8)).length : Nat) : Int)), (28, .int .i64 ((((pk bs ++ ([0] : List UInt8)).length) - 1 : Nat) : Int)), (29, .pointer (pAt (some ⟨g5, 0, none⟩) (((pk bs ++ ([0] : List UInt8)).length) - 1))), (30, .int .u8 ((((pk bs ++ ([0] : List UInt8)).getD (((pk bs ++ ([0] : List UInt8)).length) - 1) 0).toNat : Nat) : Int)), (31, .int .u64 ((x : Nat) : Int)), (32, .pointer (some ⟨b, 0, none⟩)), (33, .pointer (some ⟨b, 0, none⟩)), (34, .pointer (some ⟨b, 1, none⟩)), (35, .int .i64 ((cnt : Nat) : Int)), (36, .int .i64 ((7 - cnt % 8 : Nat) : Int)), (37, .int .u64 ((bshl 64 x (7 - cnt % 8) : Nat) : Int)), (38, .int .u8 (((bshl 64 x (7 - cnt % 8)) % 256 : Nat) : Int)), (39, .int .u8 ((bor 8 (((pk bs ++ ([0] : List UInt8)).getD (((pk bs ++ ([0] : List UInt8)).length) - 1) 0).toNat) ((bshl 64 x (7 - cnt % 8)) % 256) : Nat) : Int)), (40, .pointer (pAt (some ⟨g5, 0, none⟩) (((pk bs ++ ([0] : List UInt8)).length) - 1)))]) (fun φ9 xs9 => [(b, .cells #[.slice (some ⟨g5, 0, none⟩) ((pk bs ++ ([0] : List UInt8)).length) cap5, .int .i64 ((cnt : Nat) : Int)] 91), ((φ3 0), .cells #[.int .u8 0] 5)]) s trivial (by kernel_rfl) (by kernel_rfl) (fun _ _ => by kernel_rfl) (fun _ _ => by kernel_rfl) ⟨fun _ _ => by kernel_rfl, fun _ _ => by kernel_rfl, fun _ _ => by kernel_rfl, fun _ _ => by kernel_rfl⟩ (fun _ _ _ => by kernel_rfl) (fun _ _ => by kernel_rfl) (fun _ _ => by kernel_rfl) (fun _ _ => by kernel_rfl) (fun _ _ => by kernel_rfl) (fun _ _ => by kernel_rfl) ⟨kcast (A := ∀ (φ9 : Nat → Nat) (xs9 : Xs), (.int .i64 (IntKind.wrap .i64 ((((pk bs ++ ([0] : List UInt8)).length : Nat) : Int) - ((1 : Nat) : Int))) : Value) = .int .i64 ((((pk bs ++ ([0] : List UInt8)).length) - 1 : Nat) : Int)) (by kernel_rfl) (fun φ9 xs9 => congrArg (Value.int .i64) ((nat_subI (a := ((pk bs ++ ([0] : List UInt8)).length)) (b := 1) (by have hpl := pk_len bs; have hq0 := of_decide_eq_true hc2; (try simp only [List.length_drop, List.length_take, List.length_append, List.length_cons, List.length_nil]); omega) (by have hpl := pk_len bs; have hq0 := of_decide_eq_true hc2; (try simp only [List.length_drop, List.length_take, List.length_append, List.length_cons, List.length_nil]); omega)))), trivial⟩ ⟨kcast (A := ∀ (φ9 : Nat → Nat) (xs9 : Xs) (J : IM) (w : World), I8.Le J → J.Sub w → ((Instr.indexAt 22 (.slice (some ⟨g5, 0, none⟩) ((pk bs ++ ([0] : List UInt8)).length) cap5) (.int .i64 ((((pk bs ++ ([0] : List UInt8)).length) - 1 : Nat) : Int))) : Sem Value).run Try.prog w = .ok (.pointer (pAt (some ⟨g5, 0, none⟩) (((pk bs ++ ([0] : List UInt8)).length) - 1))) w) (by kernel_rfl) (fun φ9 xs9 J w hJ hS => bsl_idx (BSl.mono hJ (row_bsl hrow5 hk8)) (by have hpl := pk_len bs; have hq0 := of_decide_eq_true hc2; (try simp only [List.length_drop, List.length_take, List.length_append, List.length_cons, List.length_nil]); omega)), ⟨kcast (A := ∀ (φ9 : Nat → Nat) (xs9 : Xs) (J : IM) (w : World), I8.Le J → J.Sub w → ((Instr.loadAt 5 (.pointer (pAt (some ⟨g5, 0, none⟩) (((pk bs ++ ([0] : List UInt8)).length) - 1)))) : Sem Value).run Try.prog w = .ok (.int .u8 ((((pk bs ++ ([0] : List UInt8)).getD (((pk bs ++ ([0] : List UInt8)).length) - 1) 0).toNat : Nat) : Int)) w) (by kernel_rfl) (fun φ9 xs9 J w hJ hS => bsl_ld hS (BSl.mono hJ (row_bsl hrow5 hk8)) (by have hpl := pk_len bs; have hq0 := of_decide_eq_true hc2; (try simp only [List.length_drop, List.length_take, List.length_append, List.length_cons, List.length_nil]); omega)), ⟨kcast (A := ∀ (φ9 : Nat → Nat) (xs9 : Xs) (J : IM) (w : World), I8.Le J → J.Sub w → ((binOp .shl 27 (.int .u64 ((x : Nat) : Int)) (.int .i64 ((7 - cnt % 8 : Nat) : Int))) : Sem Value).run Try.prog w = .ok (.int .u64 ((bshl 64 x (7 - cnt % 8) : Nat) : Int)) w) (by kernel_rfl) (fun φ9 xs9 J w hJ hS => run_shlU (.inr (.inr (.inl rfl)))), ⟨kcast (A := ∀ (φ9 : Nat → Nat) (xs9 : Xs) (J : IM) (w : World), I8.Le J → J.Sub w → ((convert 27 5 (.int .u64 ((bshl 64 x (7 - cnt % 8) : Nat) : Int))) : Sem Value).run Try.prog w = .ok (.int .u8 (((bshl 64 x (7 - cnt % 8)) % 256 : Nat) : Int)) w) (by kernel_rfl) (fun φ9 xs9 J w hJ hS => run_conv8 (by kernel_rfl) ⟨_, Try.underlying27⟩), ⟨kcast (A := ∀ (φ9 : Nat → Nat) (xs9 : Xs) (J : IM) (w : World), I8.Le J → J.Sub w → ((binOp .or 5 (.int .u8 ((((pk bs ++ ([0] : List UInt8)).getD (((pk bs ++ ([0] : List UInt8)).length) - 1) 0).toNat : Nat) : Int)) (.int .u8 (((bshl 64 x (7 - cnt % 8)) % 256 : Nat) : Int))) : Sem Value).run Try.prog w = .ok (.int .u8 ((bor 8 (((pk bs ++ ([0] : List UInt8)).getD (((pk bs ++ ([0] : List UInt8)).length) - 1) 0).toNat) ((bshl 64 x (7 - cnt % 8)) % 256) : Nat) : Int)) w) (by kernel_rfl) (fun φ9 xs9 J w hJ hS => run_bit8.2.2.1), ⟨kcast (A := ∀ (φ9 : Nat → Nat) (xs9 : Xs) (J : IM) (w : World), I8.Le J → J.Sub w → ((Instr.indexAt 22 (.slice (some ⟨g5, 0, none⟩) ((pk bs ++ ([0] : List UInt8)).length) cap5) (.int .i64 ((((pk bs ++ ([0] : List UInt8)).length) - 1 : Nat) : Int))) : Sem Value).run Try.prog w = .ok (.pointer (pAt (some ⟨g5, 0, none⟩) (((pk bs ++ ([0] : List UInt8)).length) - 1))) w) (by kernel_rfl) (fun φ9 xs9 J w hJ hS => bsl_idx (BSl.mono hJ (row_bsl hrow5 hk8)) (by have hpl := pk_len bs; have hq0 := of_decide_eq_true hc2; (try simp only [List.length_drop, List.length_take, List.length_append, List.length_cons, List.length_nil]); omega)), trivial⟩⟩⟩⟩⟩⟩ (by kernel_rfl) ⟨?c9_17, trivial⟩ ?k9
    case c9_17 =>
      refine kcast (A := ∀ (φ9 : Nat → Nat) (xs9 : Xs) (J17_9 : IM), I8.Le J17_9 → Fun Try.prog 83 #[.int .i64 ((cnt : Nat) : Int)] J17_9 (fun v J' => ∃ x : UX, v = .int .i64 ((7 - cnt % 8 : Nat) : Int) ∧ (True))) (by kernel_rfl) ?_
      intro φ9 xs9 J17_9 leJ
      exact Fun.mono (shift_c (n := cnt)) (fun v J' _ h => ⟨UX.d, h, trivial⟩)
    case k9 =>
      rintro φ9 xs9 I9 w9 le9 s _
      replace hT7 := leMono le9 hT7
      replace hk8 := le9 _ _ hk8
      replace s := St.thaw s hk8 hz7.2.1 hz7.2.2
      have leT7 := IM.le_del (g := g5) hT7 hz7.1
      generalize IM.del I9 g5 = J7 at s leT7
      obtain ⟨w7, cur7, hr7, s, hrow7⟩ := row_stA (H := [(b, .cells #[.slice (some ⟨g5, 0, none⟩) ((pk bs ++ ([0] : List UInt8)).length) cap5, .int .i64 ((cnt : Nat) : Int)] 91), ((φ3 0), .cells #[.int .u8 0] 5), (g5, .cells cur5 5)]) (q := 2) (i := ((pk bs ++ ([0] : List UInt8)).length) - 1) (x := bor 8 (((pk bs ++ ([0] : List UInt8)).getD (((pk bs ++ ([0] : List UInt8)).length) - 1) 0).toNat) ((bshl 64 x (7 - cnt % 8)) % 256)) s (by kernel_rfl) hrow5 (by have hpl := pk_len bs; have hq0 := of_decide_eq_true hc2; (try simp only [List.length_drop, List.length_take, List.length_append, List.length_cons, List.length_nil]); omega) (bor8_lt)
      refine last_rule (Instr.storeAt 5 (.pointer (pAt (some ⟨g5, 0, none⟩) (((pk bs ++ ([0] : List UInt8)).length) - 1))) (.int .u8 ((bor 8 (((pk bs ++ ([0] : List UInt8)).getD (((pk bs ++ ([0] : List UInt8)).length) - 1) 0).toNat) ((bshl 64 x (7 - cnt % 8)) % 256) : Nat) : Int))) rfl (by kernel_rfl) (by kernel_rfl) hr7 ?_
      refine region_rule ?_
      refine ops_rule (C := []) [(b, .cells #[.slice (some ⟨g5, 0, none⟩) ((pk bs ++ ([0] : List UInt8)).length) cap5, .int .i64 ((cnt : Nat) : Int)] 91), ((φ3 0), .cells #[.int .u8 0] 5), (g5, .cells cur7 5)] [] 8 [.o 0, .o 0] 0 (fun φ10 => [(47, .pointer (some ⟨b, 1, none⟩)), (46, .pointer (some ⟨b, 0, none⟩)), (45, .int .i64 (IntKind.wrap .i64 (((cnt : Nat) : Int) + ((1 : Nat) : Int)))), (44, .int .i64 ((cnt : Nat) : Int)), (43, .pointer (some ⟨b, 1, none⟩)), (42, .pointer (some ⟨b, 0, none⟩)), (41, .pointer (some ⟨b, 0, none⟩))]) (fun φ10 => [(b, .cells #[.slice (some ⟨g5, 0, none⟩) ((pk bs ++ ([0] : List UInt8)).length) cap5, .int .i64 (IntKind.wrap .i64 (((cnt : Nat) : Int) + ((1 : Nat) : Int)))] 91), ((φ3 0), .cells #[.int .u8 0] 5), (g5, .cells cur7 5)]) (fun φ10 => [b, b]) s trivial (fun φ10 => by kernel_rfl) ?_
      intro φ10 w10 s
      rw [nat_addI (a := cnt) (b := 1) (by have hpl := pk_len bs; have hq0 := of_decide_eq_true hc2; omega)] at s ⊢
      refine ops_done (by kernel_rfl) ?_
      refine end_rule (C := []) [(b, .cells #[.slice (some ⟨g5, 0, none⟩) ((pk bs ++ ([0] : List UInt8)).length) cap5, .int .i64 ((cnt + 1 : Nat) : Int)] 91), ((φ3 0), .cells #[.int .u8 0] 5), (g5, .cells cur7 5)] [] (.tuple #[]) [] [] s trivial (by kernel_rfl) ?_
      replace s := s.drop (List.Sublist.append (List.Sublist.cons₂ _ (List.Sublist.cons _ (List.Sublist.cons₂ _ List.Sublist.slnil))) (List.Sublist.refl []))
      exact ⟨_, _, _, rfl, s, ⟨_, _, rfl, rfl, _, rfl, rfl, row_cast hrow7 (add_set0 hc hx (of_decide_eq_true hc2))⟩⟩
  ·
    rw [hc2]
    refine cond_false_rule (b := false) (by kernel_rfl) rfl ?_
    refine wp_skip ?_
    refine wp_seq ?_
    obtain ⟨g11, cap11, cur11, hv11, hF11, hc11, hrow11⟩ := row_open h (by rw [pk_len]; have := of_decide_eq_false hc2; omega)
    subst hv11
    subst hF11
    have hz12 := St.none0 s (g := g11) (o := .cells cur11 5) (by simp)
    have hT12 := IM.Le.refl I
    obtain ⟨I13, le13, hk13, s⟩ := s.freezeAt 1 g11 (.cells cur11 5) [(b, .cells #[.slice (some ⟨g11, 0, none⟩) ((pk bs).length) cap11, .int .i64 ((cnt : Nat) : Int)] 91)] (by kernel_rfl) (by kernel_rfl)
    replace hT12 := leMono le13 hT12
    refine drawL_rule (H := [(b, .cells #[.slice (some ⟨g11, 0, none⟩) ((pk bs).length) cap11, .int .i64 ((cnt : Nat) : Int)] 91)]) (C := []) ⟨(fun φ14 xs14 => [.look 0 [] [], .look 0 [] [], .look 0 [] [], .look 0 [.o 0] [b], .look 0 [] [], .look 0 [] [], .look 0 [] [], .look 0 [.o 0] [b], .look 0 [] [], .sub 0 [] [] (.int .i64 (IntKind.wrap .i64 ((((pk bs).length : Nat) : Int) - ((1 : Nat) : Int)))), .ran (Instr.indexAt 22 (.slice (some ⟨g11, 0, none⟩) ((pk bs).length) cap11) (.int .i64 ((((pk bs).length) - 1 : Nat) : Int))), .ran (Instr.loadAt 5 (.pointer (pAt (some ⟨g11, 0, none⟩) (((pk bs).length) - 1)))), .look 0 [] [], .look 0 [] [], .look 0 [] [], .look 0 [] [], .look 0 [.o 0] [b], .call 83 #[.int .i64 ((cnt : Nat) : Int)], .ran (binOp .shl 27 (.int .u64 ((x : Nat) : Int)) (.int .i64 ((7 - cnt % 8 : Nat) : Int))), .ran (convert 27 5 (.int .u64 ((bshl 64 x (7 - cnt % 8) : Nat) : Int))), .ran (binOp .or 5 (.int .u8 ((((pk bs).getD (((pk bs).length) - 1) 0).toNat : Nat) : Int)) (.int .u8 (((bshl 64 x (7 - cnt % 8)) % 256 : Nat) : Int))), .ran (Instr.indexAt 22 (.slice (some ⟨g11, 0, none⟩) ((pk bs).length) cap11) (.int .i64 ((((pk bs).length) - 1 : Nat) : Int)))]), (fun φ14 xs14 => [.pointer (some ⟨b, 0, none⟩), .pointer (some ⟨b, 0, none⟩), .pointer (some ⟨b, 0, none⟩), .slice (some ⟨g11, 0, none⟩) ((pk bs).length) cap11, .pointer (some ⟨b, 0, none⟩), .pointer (some ⟨b, 0, none⟩), .pointer (some ⟨b, 0, none⟩), .slice (some ⟨g11, 0, none⟩) ((pk bs).length) cap11, .int .i64 (((pk bs).length : Nat) : Int), .int .i64 ((((pk bs).length) - 1 : Nat) : Int), .pointer (pAt (some ⟨g11, 0, none⟩) (((pk bs).length) - 1)), .int .u8 ((((pk bs).getD (((pk bs).length) - 1) 0).toNat : Nat) : Int), .int .u64 ((x : Nat) : Int), .pointer (some ⟨b, 0, none⟩), .pointer (some ⟨b, 0, none⟩), .pointer (some ⟨b, 1, none⟩), .int .i64 ((cnt : Nat) : Int), .int .i64 ((7 - cnt % 8 : Nat) : Int), .int .u64 ((bshl 64 x (7 - cnt % 8) : Nat) : Int), .int .u8 (((bshl 64 x (7 - cnt % 8)) % 256 : Nat) : Int), .int .u8 ((bor 8 (((pk bs).getD (((pk bs).length) - 1) 0).toNat) ((bshl 64 x (7 - cnt % 8)) % 256) : Nat) : Int), .pointer (pAt (some ⟨g11, 0, none⟩) (((pk bs).length) - 1))]), (fun φ14 xs14 => [[(b, .cells #[.slice (some ⟨g11, 0, none⟩) ((pk bs).length) cap11, .int .i64 ((cnt : Nat) : Int)] 91)]]), (fun φ14 xs14 => [[default, default, default, default, default, default, default, default, default, default, default, default, default, default, default, default, default, default, default, default, default, default]]), [], [1, 1, 1, 1, 1, 1, 1, 1, 1, 5, 6, 6, 1, 1, 1, 1, 1, 3, 6, 6, 6, 6]⟩ (fun j => ([MP.any, MP.any, MP.any, MP.any, MP.any, MP.any, MP.any, MP.any, MP.any, MP.any, MP.any, MP.any, MP.any, MP.any, MP.any, MP.any, MP.any, MP.any, MP.any, MP.any, MP.any, MP.any] : List MP).getD j MP.any) [] _ (last_split 22 (by kernel_rfl)) (by kernel_rfl) [17] [9] [10, 11, 18, 19, 20, 21] (fun φ14 xs14 => []) (fun φ14 xs14 => [(19, .pointer (some ⟨b, 0, none⟩)), (20, .pointer (some ⟨b, 0, none⟩)), (21, .pointer (some ⟨b, 0, none⟩)), (22, .slice (some ⟨g11, 0, none⟩) ((pk bs).length) cap11), (23, .pointer (some ⟨b, 0, none⟩)), (24, .pointer (some ⟨b, 0, none⟩)), (25, .pointer (some ⟨b, 0, none⟩)), (26, .slice (some ⟨g11, 0, none⟩) ((pk bs).length) cap11), (27, .int .i64 (((pk bs).length : Nat) : Int)), (28, .int .i64 ((((pk bs).length) - 1 : Nat) : Int)), (29, .pointer (pAt (some ⟨g11, 0, none⟩) (((pk bs).length) - 1))), (30, .int .u8 ((((pk bs).getD (((pk bs).length) - 1) 0).toNat : Nat) : Int)), (31, .int .u64 ((x : Nat) : Int)), (32, .pointer (some ⟨b, 0, none⟩)), (33, .pointer (some ⟨b, 0, none⟩)), (34, .pointer (some ⟨b, 1, none⟩)), (35, .int .i64 ((cnt : Nat) : Int)), (36, .int .i64 ((7 - cnt % 8 : Nat) : Int)), (37, .int .u64 ((bshl 64 x (7 - cnt % 8) : Nat) : Int)), (38, .int .u8 (((bshl 64 x (7 - cnt % 8)) % 256 : Nat) : Int)), (39, .int .u8 ((bor 8 (((pk bs).getD (((pk bs).length) - 1) 0).toNat) ((bshl 64 x (7 - cnt % 8)) % 256) : Nat) : Int)), (40, .pointer (pAt (some ⟨g11, 0, none⟩) (((pk bs).length) - 1)))]) (fun φ14 xs14 => [(b, .cells #[.slice (some ⟨g11, 0, none⟩) ((pk bs).length) cap11, .int .i64 ((cnt : Nat) : Int)] 91)]) s trivial (by kernel_rfl) (by kernel_rfl) (fun _ _ => by kernel_rfl) (fun _ _ => by kernel_rfl) ⟨fun _ _ => by kernel_rfl, fun _ _ => by kernel_rfl, fun _ _ => by kernel_rfl, fun _ _ => by kernel_rfl⟩ (fun _ _ _ => by kernel_rfl) (fun _ _ => by kernel_rfl) (fun _ _ => by kernel_rfl) (fun _ _ => by kernel_rfl) (fun _ _ => by kernel_rfl) (fun _ _ => by kernel_rfl) ⟨kcast (A := ∀ (φ14 : Nat → Nat) (xs14 : Xs), (.int .i64 (IntKind.wrap .i64 ((((pk bs).length : Nat) : Int) - ((1 : Nat) : Int))) : Value) = .int .i64 ((((pk bs).length) - 1 : Nat) : Int)) (by kernel_rfl) (fun φ14 xs14 => congrArg (Value.int .i64) ((nat_subI (a := ((pk bs).length)) (b := 1) (by have hpl := pk_len bs; have hq0 := of_decide_eq_false hc2; (try simp only [List.length_drop, List.length_take, List.length_append, List.length_cons, List.length_nil]); omega) (by have hpl := pk_len bs; have hq0 := of_decide_eq_false hc2; (try simp only [List.length_drop, List.length_take, List.length_append, List.length_cons, List.length_nil]); omega)))), trivial⟩ ⟨kcast (A := ∀ (φ14 : Nat → Nat) (xs14 : Xs) (J : IM) (w : World), I13.Le J → J.Sub w → ((Instr.indexAt 22 (.slice (some ⟨g11, 0, none⟩) ((pk bs).length) cap11) (.int .i64 ((((pk bs).length) - 1 : Nat) : Int))) : Sem Value).run Try.prog w = .ok (.pointer (pAt (some ⟨g11, 0, none⟩) (((pk bs).length) - 1))) w) (by kernel_rfl) (fun φ14 xs14 J w hJ hS => bsl_idx (BSl.mono hJ (row_bsl hrow11 hk13)) (by have hpl := pk_len bs; have hq0 := of_decide_eq_false hc2; (try simp only [List.length_drop, List.length_take, List.length_append, List.length_cons, List.length_nil]); omega)), ⟨kcast (A := ∀ (φ14 : Nat → Nat) (xs14 : Xs) (J : IM) (w : World), I13.Le J → J.Sub w → ((Instr.loadAt 5 (.pointer (pAt (some ⟨g11, 0, none⟩) (((pk bs).length) - 1)))) : Sem Value).run Try.prog w = .ok (.int .u8 ((((pk bs).getD (((pk bs).length) - 1) 0).toNat : Nat) : Int)) w) (by kernel_rfl) (fun φ14 xs14 J w hJ hS => bsl_ld hS (BSl.mono hJ (row_bsl hrow11 hk13)) (by have hpl := pk_len bs; have hq0 := of_decide_eq_false hc2; (try simp only [List.length_drop, List.length_take, List.length_append, List.length_cons, List.length_nil]); omega)), ⟨kcast (A := ∀ (φ14 : Nat → Nat) (xs14 : Xs) (J : IM) (w : World), I13.Le J → J.Sub w → ((binOp .shl 27 (.int .u64 ((x : Nat) : Int)) (.int .i64 ((7 - cnt % 8 : Nat) : Int))) : Sem Value).run Try.prog w = .ok (.int .u64 ((bshl 64 x (7 - cnt % 8) : Nat) : Int)) w) (by kernel_rfl) (fun φ14 xs14 J w hJ hS => run_shlU (.inr (.inr (.inl rfl)))), ⟨kcast (A := ∀ (φ14 : Nat → Nat) (xs14 : Xs) (J : IM) (w : World), I13.Le J → J.Sub w → ((convert 27 5 (.int .u64 ((bshl 64 x (7 - cnt % 8) : Nat) : Int))) : Sem Value).run Try.prog w = .ok (.int .u8 (((bshl 64 x (7 - cnt % 8)) % 256 : Nat) : Int)) w) (by kernel_rfl) (fun φ14 xs14 J w hJ hS => run_conv8 (by kernel_rfl) ⟨_, Try.underlying27⟩), ⟨kcast (A := ∀ (φ14 : Nat → Nat) (xs14 : Xs) (J : IM) (w : World), I13.Le J → J.Sub w → ((binOp .or 5 (.int .u8 ((((pk bs).getD (((pk bs).length) - 1) 0).toNat : Nat) : Int)) (.int .u8 (((bshl 64 x (7 - cnt % 8)) % 256 : Nat) : Int))) : Sem Value).run Try.prog w = .ok (.int .u8 ((bor 8 (((pk bs).getD (((pk bs).length) - 1) 0).toNat) ((bshl 64 x (7 - cnt % 8)) % 256) : Nat) : Int)) w) (by kernel_rfl) (fun φ14 xs14 J w hJ hS => run_bit8.2.2.1), ⟨kcast (A := ∀ (φ14 : Nat → Nat) (xs14 : Xs) (J : IM) (w : World), I13.Le J → J.Sub w → ((Instr.indexAt 22 (.slice (some ⟨g11, 0, none⟩) ((pk bs).length) cap11) (.int .i64 ((((pk bs).length) - 1 : Nat) : Int))) : Sem Value).run Try.prog w = .ok (.pointer (pAt (some ⟨g11, 0, none⟩) (((pk bs).length) - 1))) w) (by kernel_rfl) (fun φ14 xs14 J w hJ hS => bsl_idx (BSl.mono hJ (row_bsl hrow11 hk13)) (by have hpl := pk_len bs; have hq0 := of_decide_eq_false hc2; (try simp only [List.length_drop, List.length_take, List.length_append, List.length_cons, List.length_nil]); omega)), trivial⟩⟩⟩⟩⟩⟩ (by kernel_rfl) ⟨?c14_17, trivial⟩ ?k14
    case c14_17 =>
      refine kcast (A := ∀ (φ14 : Nat → Nat) (xs14 : Xs) (J17_14 : IM), I13.Le J17_14 → Fun Try.prog 83 #[.int .i64 ((cnt : Nat) : Int)] J17_14 (fun v J' => ∃ x : UX, v = .int .i64 ((7 - cnt % 8 : Nat) : Int) ∧ (True))) (by kernel_rfl) ?_
      intro φ14 xs14 J17_14 leJ
      exact Fun.mono (shift_c (n := cnt)) (fun v J' _ h => ⟨UX.d, h, trivial⟩)
    case k14 =>
      rintro φ14 xs14 I14 w14 le14 s _
      replace hT12 := leMono le14 hT12
      replace hk13 := le14 _ _ hk13
      replace s := St.thaw s hk13 hz12.2.1 hz12.2.2
      have leT12 := IM.le_del (g := g11) hT12 hz12.1
      generalize IM.del I14 g11 = J12 at s leT12
      obtain ⟨w12, cur12, hr12, s, hrow12⟩ := row_stA (H := [(b, .cells #[.slice (some ⟨g11, 0, none⟩) ((pk bs).length) cap11, .int .i64 ((cnt : Nat) : Int)] 91), (g11, .cells cur11 5)]) (q := 1) (i := ((pk bs).length) - 1) (x := bor 8 (((pk bs).getD (((pk bs).length) - 1) 0).toNat) ((bshl 64 x (7 - cnt % 8)) % 256)) s (by kernel_rfl) hrow11 (by have hpl := pk_len bs; have hq0 := of_decide_eq_false hc2; (try simp only [List.length_drop, List.length_take, List.length_append, List.length_cons, List.length_nil]); omega) (bor8_lt)
      refine last_rule (Instr.storeAt 5 (.pointer (pAt (some ⟨g11, 0, none⟩) (((pk bs).length) - 1))) (.int .u8 ((bor 8 (((pk bs).getD (((pk bs).length) - 1) 0).toNat) ((bshl 64 x (7 - cnt % 8)) % 256) : Nat) : Int))) rfl (by kernel_rfl) (by kernel_rfl) hr12 ?_
      refine region_rule ?_
      refine ops_rule (C := []) [(b, .cells #[.slice (some ⟨g11, 0, none⟩) ((pk bs).length) cap11, .int .i64 ((cnt : Nat) : Int)] 91), (g11, .cells cur12 5)] [] 8 [.o 0, .o 0] 0 (fun φ15 => [(47, .pointer (some ⟨b, 1, none⟩)), (46, .pointer (some ⟨b, 0, none⟩)), (45, .int .i64 (IntKind.wrap .i64 (((cnt : Nat) : Int) + ((1 : Nat) : Int)))), (44, .int .i64 ((cnt : Nat) : Int)), (43, .pointer (some ⟨b, 1, none⟩)), (42, .pointer (some ⟨b, 0, none⟩)), (41, .pointer (some ⟨b, 0, none⟩))]) (fun φ15 => [(b, .cells #[.slice (some ⟨g11, 0, none⟩) ((pk bs).length) cap11, .int .i64 (IntKind.wrap .i64 (((cnt : Nat) : Int) + ((1 : Nat) : Int)))] 91), (g11, .cells cur12 5)]) (fun φ15 => [b, b]) s trivial (fun φ15 => by kernel_rfl) ?_
      intro φ15 w15 s
      rw [nat_addI (a := cnt) (b := 1) (by have hpl := pk_len bs; have hq0 := of_decide_eq_false hc2; omega)] at s ⊢
      refine ops_done (by kernel_rfl) ?_
      refine end_rule (C := []) [(b, .cells #[.slice (some ⟨g11, 0, none⟩) ((pk bs).length) cap11, .int .i64 ((cnt + 1 : Nat) : Int)] 91), (g11, .cells cur12 5)] [] (.tuple #[]) [] [] s trivial (by kernel_rfl) ?_
      replace s := s.drop (List.Sublist.append (List.Sublist.cons₂ _ (List.Sublist.cons₂ _ List.Sublist.slnil)) (List.Sublist.refl []))
      exact ⟨_, _, _, rfl, s, ⟨_, _, rfl, rfl, _, rfl, rfl, row_cast hrow12 (add_set1 hc hx (of_decide_eq_false hc2))⟩⟩

theorem bit_eq {n k i : Nat} (hn : n < 18446744073709551616) : decide (band 64 (n / 2 ^ (k - 1 - i)) 1 = 1) = bitF n k i := by
  rw [band64_one (Nat.lt_of_le_of_lt (Nat.div_le_self _ _) hn)]; rfl
theorem bit_two {n k i : Nat} (hn : n < 18446744073709551616) : band 64 (n / 2 ^ (k - 1 - i)) 1 < 2 := by
  rw [band64_one (Nat.lt_of_le_of_lt (Nat.div_le_self _ _) hn)]; omega

set_option maxHeartbeats 2000000 in
theorem put_c {I : IM} {b cnt : Nat} {bs : List Bool} {v0 : Value} {F : List OB} (hc : cnt = bs.length) (hl9 : bs.length ≤ 900000) (h : RowH 5 1 v0 (pk bs).length ((pk bs).map bV) F) {n k : Nat} (hn : n < 18446744073709551616) (hk : k ≤ 64) : FunM Try.prog 25 #[.pointer (some ⟨b, 0, none⟩), .int .u64 ((n : Nat) : Int), .int .i64 ((k : Nat) : Int)] I ((b, .cells #[v0, .int .i64 ((cnt : Nat) : Int)] 91) :: F) (fun v J H' => ∃ (b' : OB) (F' : List OB), H' = b' :: F' ∧ b'.1 = b ∧ ∃ v', v = .tuple #[] ∧ b' = (b, .cells #[v', .int .i64 ((cnt + k : Nat) : Int)] 91) ∧ RowH 5 1 v' (pk (bs ++ putBits n k)).length ((pk (bs ++ putBits n k)).map bV) F') := by
  refine enterM_rule 25 [(0, .pointer (some ⟨b, 0, none⟩)), (1, .int .u64 ((n : Nat) : Int)), (2, .int .i64 ((k : Nat) : Int))] Try.func25 rfl (by kernel_rfl) ?_
  intro w s
  refine wp_seq ?_
  refine wp_seq ?_
  refine region_rule ?_
  refine ops_rule (C := []) [(b, .cells #[v0, .int .i64 ((cnt : Nat) : Int)] 91)] F 2 [] 0 (fun φ1 => [(8, .bool false), (7, .pointer (some ⟨b, 0, none⟩))]) (fun φ1 => [(b, .cells #[v0, .int .i64 ((cnt : Nat) : Int)] 91)]) (fun φ1 => []) s trivial (fun φ1 => by kernel_rfl) ?_
  intro φ1 w1 s
  refine ops_done (by kernel_rfl) ?_
  refine cond_false_rule (b := false) (by kernel_rfl) rfl ?_
  refine wp_skip ?_
  refine wp_seq ?_
  refine region_rule ?_
  refine ops_rule (C := []) [(b, .cells #[v0, .int .i64 ((cnt : Nat) : Int)] 91)] F 1 [] 0 (fun φ2 => [(9, .int .i64 ((k : Nat) : Int))]) (fun φ2 => [(b, .cells #[v0, .int .i64 ((cnt : Nat) : Int)] 91)]) (fun φ2 => []) s trivial (fun φ2 => by kernel_rfl) ?_
  intro φ2 w2 s
  refine call_rule (some 10) s (held_c (k := k) (by   omega)) (by kernel_rfl) ?_
  intro v3 I3 w3 le3 h3 s
  obtain rfl := h3
  refine ops_rule (C := []) [(b, .cells #[v0, .int .i64 ((cnt : Nat) : Int)] 91)] F 1 [] 0 (fun φ4 => [(2, .int .i64 ((k : Nat) : Int))]) (fun φ4 => [(b, .cells #[v0, .int .i64 ((cnt : Nat) : Int)] 91)]) (fun φ4 => []) s trivial (fun φ4 => by kernel_rfl) ?_
  intro φ4 w4 s
  refine ops_done (by kernel_rfl) ?_
  refine wp_seq ?_
  refine region_rule ?_
  refine ops_rule (C := []) [(b, .cells #[v0, .int .i64 ((cnt : Nat) : Int)] 91)] F 2 [] 0 (fun φ5 => [(12, .int .i64 0), (11, .int .i64 ((k : Nat) : Int))]) (fun φ5 => [(b, .cells #[v0, .int .i64 ((cnt : Nat) : Int)] 91)]) (fun φ5 => []) s trivial (fun φ5 => by kernel_rfl) ?_
  intro φ5 w5 s
  refine ops_done (by kernel_rfl) ?_
  refine wp_block ?_
  have hrw0 : RowH 5 1 v0 (pk (wr bs n k 0)).length ((pk (wr bs n k 0)).map bV) F := row_cast h (congrArg pk wr_zero.symm)
  have hle6 := IM.Le.refl I3
  refine loop_rule (fun (x : Nat × Value × List OB) => [(0, .pointer (some ⟨b, 0, none⟩)), (1, .int .u64 ((n : Nat) : Int)), (2, .int .i64 ((k : Nat) : Int)), (11, .int .i64 ((k : Nat) : Int)), (12, .int .i64 ((x.1 : Nat) : Int))]) (fun (x : Nat × Value × List OB) => [(b, .cells #[x.2.1, .int .i64 ((cnt + x.1 : Nat) : Int)] 91)] ++ x.2.2) (fun m (x : Nat × Value × List OB) J => IM.Le I3 J ∧ x.1 + m = k ∧ RowH 5 1 x.2.1 (pk (wr bs n k x.1)).length ((pk (wr bs n k x.1)).map bV) x.2.2) (k) (0, v0, F) s (by kernel_rfl) (List.Sublist.refl _) ⟨IM.Le.refl _, Nat.zero_add _, hrw0⟩ ?_
  rintro m7 ⟨i7, v7, F7⟩ I7 w7 ev7 s ⟨le7, hi7_0, hi7_1⟩
  try dsimp only at s hi7_0 hi7_1 ⊢
  replace hle6 := leMono le7 hle6
  refine wp_seq ?_
  refine region_rule ?_
  refine ops_rule (C := []) [(b, .cells #[v7, .int .i64 ((cnt + i7 : Nat) : Int)] 91)] F7 1 [] 0 (fun φ8 => [(13, .bool (decide (((i7 : Nat) : Int) < ((k : Nat) : Int))))]) (fun φ8 => [(b, .cells #[v7, .int .i64 ((cnt + i7 : Nat) : Int)] 91)]) (fun φ8 => []) s trivial (fun φ8 => by kernel_rfl) ?_
  intro φ8 w8 s
  rw [nat_lss (a := i7) (b := k)]
  refine ops_done (by kernel_rfl) ?_
  refine wp_seq ?_
  rcases Bool.eq_false_or_eq_true (decide (i7 < k)) with hc9 | hc9
  ·
    rw [hc9]
    refine cond_true_rule (b := true) (by kernel_rfl) rfl ?_
    refine wp_skip ?_
    refine wp_seq ?_
    refine wp_block ?_
    refine wp_seq ?_
    refine region_rule ?_
    refine ops_rule (C := []) [(b, .cells #[v7, .int .i64 ((cnt + i7 : Nat) : Int)] 91)] F7 2 [] 0 (fun φ10 => [(6, .int .i64 ((i7 : Nat) : Int)), (14, .int .i64 ((i7 : Nat) : Int))]) (fun φ10 => [(b, .cells #[v7, .int .i64 ((cnt + i7 : Nat) : Int)] 91)]) (fun φ10 => []) s trivial (fun φ10 => by kernel_rfl) ?_
    intro φ10 w10 s
    refine ops_done (by kernel_rfl) ?_
    refine region_rule ?_
    refine ops_rule (C := []) [(b, .cells #[v7, .int .i64 ((cnt + i7 : Nat) : Int)] 91)] F7 6 [] 0 (fun φ11 => [(20, .int .i64 (IntKind.wrap .i64 ((IntKind.wrap .i64 (((k : Nat) : Int) - ((1 : Nat) : Int))) - ((i7 : Nat) : Int)))), (19, .int .i64 ((i7 : Nat) : Int)), (18, .int .i64 (IntKind.wrap .i64 (((k : Nat) : Int) - ((1 : Nat) : Int)))), (17, .int .i64 ((k : Nat) : Int)), (16, .int .u64 ((n : Nat) : Int)), (15, .pointer (some ⟨b, 0, none⟩))]) (fun φ11 => [(b, .cells #[v7, .int .i64 ((cnt + i7 : Nat) : Int)] 91)]) (fun φ11 => []) s trivial (fun φ11 => by kernel_rfl) ?_
    intro φ11 w11 s
    rw [nat_subI (a := k) (b := 1) (by have hi0 := hi7_0; have hq0 := of_decide_eq_true hc9; omega) (by have hi0 := hi7_0; have hq0 := of_decide_eq_true hc9; omega)]
    rw [nat_subI (a := (k - 1)) (b := i7) (by have hi0 := hi7_0; have hq0 := of_decide_eq_true hc9; omega) (by have hi0 := hi7_0; have hq0 := of_decide_eq_true hc9; omega)]
    refine sem_rule (binOp .shr 27 (.int .u64 ((n : Nat) : Int)) (.int .i64 (((k - 1) - i7 : Nat) : Int))) (some 21) (.int .u64 ((n / 2 ^ ((k - 1) - i7) : Nat) : Int)) (by kernel_rfl) (run_shrU (by show _ < 18446744073709551616; have hi0 := hi7_0; have hq0 := of_decide_eq_true hc9; omega)) ?_
    refine sem_rule (binOp .and 27 (.int .u64 ((n / 2 ^ ((k - 1) - i7) : Nat) : Int)) (.int .u64 ((1 : Nat) : Int))) (some 22) (.int .u64 ((band 64 (n / 2 ^ ((k - 1) - i7)) 1 : Nat) : Int)) (by kernel_rfl) (run_bit64.2.1) ?_
    refine callH_rule (b := (b, .cells #[v7, .int .i64 ((cnt + i7 : Nat) : Int)] 91)) (H := [(b, .cells #[v7, .int .i64 ((cnt + i7 : Nat) : Int)] 91)]) (F := F7) (Hr := []) (some 23) 0 s (by kernel_rfl) (by kernel_rfl) (add_c (b := b) (cnt := cnt + i7) (bs := (wr bs n k i7)) (x := band 64 (n / 2 ^ ((k - 1) - i7)) 1) (by rw [wr_len]; omega) (by rw [wr_len]; have hq0 := of_decide_eq_true hc9; have hi0 := hi7_0; omega) hi7_1 (bit_two hn)) (by kernel_rfl) ?_
    rintro v12 I12 w12 b12 F12 le12 - h12 s
    replace hle6 := leMono le12 hle6
    obtain ⟨v12, rfl, rfl, hr12⟩ := h12
    refine ops_done (by kernel_rfl) ?_
    refine region_rule ?_
    refine ops_rule (C := []) [(b, .cells #[v12, .int .i64 ((cnt + i7 + 1 : Nat) : Int)] 91)] F12 2 [] 0 (fun φ13 => [(12, .int .i64 (IntKind.wrap .i64 (((i7 : Nat) : Int) + ((1 : Nat) : Int)))), (24, .int .i64 (IntKind.wrap .i64 (((i7 : Nat) : Int) + ((1 : Nat) : Int))))]) (fun φ13 => [(b, .cells #[v12, .int .i64 ((cnt + i7 + 1 : Nat) : Int)] 91)]) (fun φ13 => []) s trivial (fun φ13 => by kernel_rfl) ?_
    intro φ13 w13 s
    rw [nat_addI (a := i7) (b := 1) (by have hi0 := hi7_0; have hq0 := of_decide_eq_true hc9; omega)]
    refine ops_done (by kernel_rfl) ?_
    have hq9 := of_decide_eq_true hc9
    have hrw9 : RowH 5 1 v12 (pk (wr bs n k (i7 + 1))).length ((pk (wr bs n k (i7 + 1))).map bV) F12 := row_cast hr12 (congrArg pk ((congrArg (fun q => wr bs n k i7 ++ [q]) (bit_eq (n := n) hn)).trans wr_succ))
    exact ⟨⟨m7 - 1, (i7 + 1, v12, F12), _, _, _, by omega, rfl, s, (List.Sublist.append (List.Sublist.cons₂ _ List.Sublist.slnil) (List.Sublist.refl _)), by kernel_rfl, hle6, by show i7 + 1 + (m7 - 1) = k; omega, hrw9⟩⟩
  ·
    rw [hc9]
    refine cond_false_rule (b := false) (by kernel_rfl) rfl ?_
    refine wp_exit ?_
    refine end_rule (C := []) [(b, .cells #[v7, .int .i64 ((cnt + i7 : Nat) : Int)] 91)] F7 (.tuple #[]) [] [] s trivial (by kernel_rfl) ?_
    have hq9 := of_decide_eq_false hc9
    have hi9 := hi7_0
    obtain rfl : k = i7 := (by omega)
    exact ⟨_, _, _, rfl, s, ⟨_, _, rfl, rfl, _, rfl, rfl, hi7_1⟩⟩

end Go.Proofs.Ytgmigcmhnmmdkaa

