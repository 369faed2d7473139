/- Slices of bytes that are never written: read, cut; rows of bytes; bits of numbers. -/
import Derived.Test.YtcpmjogeafhpnaaDoorProg
import Derived.Test.YtcpmjogeafhpnaaDoorCoS10
import Derived.LoopN
import Derived.Test.YtcpmjogeafhpnaaDoorCoS11
import Derived.Laws.MakeOwn
import Derived.Laws.BytesString
import Derived.Laws.Cells
import Derived.Laws.IdiomStrings
import Derived.Lib.TrimUEq
import Derived.Lib.MapLaws
import Derived.Lib.ValidU
set_option linter.all false
set_option maxRecDepth 100000
namespace Go.Proofs.YtcpmjogeafhpnaaDoor
open Go.RowKit Go.Sep

def BSl (I : IM) (l : List UInt8) (v : Value) : Prop := ∃ a cap, v = .slice a l.length cap ∧ l.length ≤ cap ∧ ∀ j x, l[j]? = some x → ∃ b o cs T fr, a = some ⟨b, o, none⟩ ∧ I b = some (.cells cs T fr) ∧ cs[o + j]? = some (.int .u8 ((x.toNat : Nat) : Int))
theorem BSl.mono {I J : IM} (le : I.Le J) {l : List UInt8} {v : Value} (h : BSl I l v) : BSl J l v := by
  obtain ⟨a, cap, hv, hc, hr⟩ := h
  refine ⟨a, cap, hv, hc, fun j x hj => ?_⟩
  obtain ⟨b, o, cs, T, fr, h1, h2, h3⟩ := hr j x hj
  exact ⟨b, o, cs, T, fr, h1, le _ _ h2, h3⟩
theorem bsl_nil (I : IM) : BSl I [] (.slice none 0 0) := ⟨none, 0, rfl, Nat.le_refl _, fun j x h => by simp at h⟩
theorem BSl.cap {I : IM} {l : List UInt8} {a : Option Addr} {n c : Nat} (h : BSl I l (.slice a n c)) : n = l.length ∧ l.length ≤ c := by
  obtain ⟨a', c', hv, hc, _⟩ := h
  cases hv; exact ⟨rfl, hc⟩
theorem BSl.open {I : IM} {l : List UInt8} {v : Value} (h : BSl I l v) : ∃ a c, v = .slice a l.length c ∧ l.length ≤ c ∧ BSl I l (.slice a l.length c) := by
  obtain ⟨a, c, hv, hc, _⟩ := id h
  subst hv
  exact ⟨a, c, rfl, hc, h⟩
theorem under34 : Tryd.prog.underlying 61 = some (.slice 5) := by kernel_rfl
theorem size5 (w : World) : (sizeOf 5).run Tryd.prog w = .ok 1 w := by kernel_rfl
def pAt (a : Option Addr) (i : Nat) : Option Addr := a.map (·.add i)
theorem addr_addO (b o k : Nat) : (⟨b, o, none⟩ : Addr).add k = ⟨b, o + k, none⟩ := by unfold Addr.add; split <;> simp_all
theorem getD_some {l : List UInt8} {i : Nat} (h : i < l.length) : l[i]? = some (l.getD i 0) := by simp [h]
theorem bsl_idx {I : IM} {w : World} {l : List UInt8} {a : Option Addr} {n c i : Nat} (h : BSl I l (.slice a n c)) (hi : i < l.length) :
    (Instr.indexAt 61 (.slice a n c) (.int .i64 ((i : Nat) : Int))).run Tryd.prog w = .ok (.pointer (pAt a i)) w := by
  obtain ⟨a', c', hv, hc, hr⟩ := h
  cases hv
  obtain ⟨b, o, cs, T, fr, rfl, h2, h3⟩ := hr i _ (getD_some hi)
  have h2 : (i : Int) < (l.length : Int) := by omega
  simp [Instr.indexAt, asIntOf, run_underlying under34, size5, h2, pAt]
  intro h3; omega
theorem bsl_ld {I : IM} {w : World} (hS : I.Sub w) {l : List UInt8} {a : Option Addr} {n c i : Nat} (h : BSl I l (.slice a n c)) (hi : i < l.length) :
    (Instr.loadAt 5 (.pointer (pAt a i))).run Tryd.prog w = .ok (.int .u8 (((l.getD i 0).toNat : Nat) : Int)) w := by
  obtain ⟨a', c', hv, hc, hr⟩ := h
  cases hv
  obtain ⟨b, o, cs, T, fr, rfl, h2, h3⟩ := hr i _ (getD_some hi)
  have e : (Instr.loadAt 5 (.pointer (pAt (some ⟨b, o, none⟩) i))).run Tryd.prog w = (load ⟨b, o + i, none⟩).run Tryd.prog w := by
    rw [show pAt (some ⟨b, o, none⟩) i = some ⟨b, o + i, none⟩ from congrArg some (addr_addO b o i)]
    kernel_rfl
  have hc := run_cell (a := ⟨b, o + i, none⟩) (hS _ _ h2) rfl rfl
  rw [h3] at hc
  rw [e]; simp only [load, Sem.run, hc]
def bor (k a b : Nat) : Nat := (BitVec.ofNat k a ||| BitVec.ofNat k b).toNat
def bandn (k a b : Nat) : Nat := (BitVec.ofNat k a &&& ~~~ BitVec.ofNat k b).toNat
def bshl (k a n : Nat) : Nat := (a * 2 ^ n) % 2 ^ k
theorem run_shrU {w : World} {t : TypeId} {a n : Nat} {k yk : IntKind} (ha : a < 2 ^ k.bits) : (binOp .shr t (.int k ((a : Nat) : Int)) (.int yk ((n : Nat) : Int))).run Tryd.prog w = .ok (.int k ((a / 2 ^ n : Nat) : Int)) w := by
  rw [run_shr]
  congr 2
  have : ((a : Nat) : Int).fdiv (2 ^ min n k.bits) = ((a / 2 ^ min n k.bits : Nat) : Int) := by
    rw [Int.fdiv_eq_ediv_of_nonneg _ (Int.pow_nonneg (by omega))]
    simp
  rw [this]
  by_cases h : n ≤ k.bits
  · rw [Nat.min_eq_left h]
  · rw [Nat.min_eq_right (by omega), Nat.div_eq_of_lt ha, Nat.div_eq_of_lt (Nat.lt_of_lt_of_le ha (Nat.pow_le_pow_right (by decide) (by omega)))]
end Go.Proofs.YtcpmjogeafhpnaaDoor

/- The sum, as a function of numbers. -/
set_option linter.all false
set_option maxRecDepth 100000
namespace Go.Proofs.YtcpmjogeafhpnaaDoor
open Go.RowKit Go.Sep

def crcBit (r : Nat) : Nat := (r / 2) ^^^ (if r % 2 = 1 then 3988292384 else 0)
def crcBits : Nat → Nat → Nat
  | 0, r => r
  | k + 1, r => crcBits k (crcBit r)
def crc : Nat → List UInt8 → Nat
  | r, [] => r
  | r, b :: l => crc (crcBits 8 (r ^^^ b.toNat)) l
theorem xor_lt32 {a b : Nat} (ha : a < 4294967296) (hb : b < 4294967296) : a ^^^ b < 4294967296 :=
  Nat.xor_lt_two_pow (n := 32) ha hb
theorem crcBit_lt {r : Nat} (h : r < 4294967296) : crcBit r < 4294967296 := by
  unfold crcBit
  refine xor_lt32 (by omega) ?_
  split <;> omega
theorem crcBits_lt : ∀ (k : Nat) {r : Nat}, r < 4294967296 → crcBits k r < 4294967296
  | 0, _, h => h
  | k + 1, _, h => crcBits_lt k (crcBit_lt h)
theorem byte_lt (b : UInt8) : b.toNat < 256 := b.toNat_lt
theorem crc_lt : ∀ (l : List UInt8) {r : Nat}, r < 4294967296 → crc r l < 4294967296
  | [], _, h => h
  | b :: l, _, h => crc_lt l (crcBits_lt 8 (xor_lt32 h (by have := byte_lt b; omega)))
/-- the document's step -/
theorem xor_half (r b : Nat) : (r ^^^ b) / 2 = r / 2 ^^^ b / 2 := Nat.xor_div_two
theorem xor_odd (r b : Nat) : (r ^^^ b) % 2 = 1 ↔ r % 2 ≠ b % 2 := by
  have h := Nat.xor_mod_two_pow (a := r) (b := b) (n := 1)
  rw [Nat.pow_one] at h
  rw [h]
  have h1 : r % 2 = 0 ∨ r % 2 = 1 := by omega
  have h2 : b % 2 = 0 ∨ b % 2 = 1 := by omega
  rcases h1 with h1 | h1 <;> rcases h2 with h2 | h2 <;> rw [h1, h2] <;> decide
theorem crcBits_succ (k r : Nat) : crcBits (k + 1) r = crcBits k (crcBit r) := rfl
def le4 (l : List UInt8) : Nat := (l.getD 0 0).toNat + 256 * (l.getD 1 0).toNat + 65536 * (l.getD 2 0).toNat + 16777216 * (l.getD 3 0).toNat
theorem or_add {a b i : Nat} (h : a < 2 ^ i) : a ||| (b * 2 ^ i) = a + b * 2 ^ i := by
  rw [Nat.or_comm, Nat.mul_comm b, ← Nat.two_pow_add_eq_or_of_lt h, Nat.add_comm]
end Go.Proofs.YtcpmjogeafhpnaaDoor

/- Frames; a byte that is turned is seen. -/
set_option linter.all false
set_option maxRecDepth 100000
namespace Go.Proofs.YtcpmjogeafhpnaaDoor
theorem ofNat_toNat {n : Nat} (h : n < 256) : (UInt8.ofNat n).toNat = n := UInt8.toNat_ofNat_of_lt' h
theorem xor_inj {a b c : Nat} (e : a ^^^ b = a ^^^ c) : b = c := by
  have h := congrArg (fun x => a ^^^ x) e
  simpa [← Nat.xor_assoc] using h
theorem crcBit_inj {r r' : Nat} (h : r < 4294967296) (h' : r' < 4294967296) (e : crcBit r = crcBit r') : r = r' := by
  have key : ∀ r, r < 4294967296 → (crcBit r).testBit 31 = decide (r % 2 = 1) := fun r h => by
    unfold crcBit
    rw [Nat.testBit_xor, Nat.testBit_lt_two_pow (x := r / 2) (by omega)]
    split
    · rename_i h1; rw [h1]; decide
    · rename_i h1; simp [h1]
  have hp : decide (r % 2 = 1) = decide (r' % 2 = 1) := by rw [← key r h, ← key r' h', e]
  have hq : (r % 2 = 1) = (r' % 2 = 1) := by simpa using hp
  unfold crcBit at e
  by_cases h1 : r % 2 = 1
  · have h2 : r' % 2 = 1 := hq ▸ h1
    rw [if_pos h1, if_pos h2] at e
    have := xor_inj (a := 3988292384) (by simpa [Nat.xor_comm] using e : 3988292384 ^^^ r / 2 = 3988292384 ^^^ r' / 2)
    omega
  · have h2 : ¬ r' % 2 = 1 := fun q => h1 (hq ▸ q)
    rw [if_neg h1, if_neg h2, Nat.xor_zero, Nat.xor_zero] at e
    omega
theorem crcBits_inj : ∀ (k : Nat) {r r' : Nat}, r < 4294967296 → r' < 4294967296 → crcBits k r = crcBits k r' → r = r'
  | 0, _, _, _, _, e => e
  | k + 1, _, _, h, h', e => crcBit_inj h h' (crcBits_inj k (crcBit_lt h) (crcBit_lt h') e)
end Go.Proofs.YtcpmjogeafhpnaaDoor

/- Bits in a row that are turned are seen. -/
set_option linter.all false
set_option maxRecDepth 100000
namespace Go.Proofs.YtcpmjogeafhpnaaDoor
theorem xor_add (k : Nat) {a : Nat} (V : Nat) (h : a < 2 ^ k) : a ^^^ (2 ^ k * V) = a + 2 ^ k * V := by
  rw [Nat.add_comm]
  apply Nat.eq_of_testBit_eq
  intro j
  rw [Nat.testBit_xor, Nat.testBit_two_pow_mul_add _ h, Nat.testBit_two_pow_mul]
  by_cases hj : j < k
  · have : ¬ j ≥ k := by omega
    simp [hj, this]
  · have h2 : j ≥ k := by omega
    have h3 : a.testBit j = false := Nat.testBit_lt_two_pow (Nat.lt_of_lt_of_le h (Nat.pow_le_pow_right (by decide) h2))
    simp [hj, h2, h3]
theorem xor4 (a b c d : Nat) : (a ^^^ b) ^^^ (c ^^^ d) = (a ^^^ c) ^^^ (b ^^^ d) := by
  rw [Nat.xor_assoc, Nat.xor_assoc, ← Nat.xor_assoc b, Nat.xor_comm b c, Nat.xor_assoc c]
theorem crcBit_xor (a b : Nat) : crcBit (a ^^^ b) = crcBit a ^^^ crcBit b := by
  unfold crcBit
  rw [xor_half, xor4]
  congr 1
  have h1 : a % 2 = 0 ∨ a % 2 = 1 := by omega
  have h2 : b % 2 = 0 ∨ b % 2 = 1 := by omega
  have h3 := xor_odd a b
  rcases h1 with h1 | h1 <;> rcases h2 with h2 | h2 <;> rw [h1, h2] at h3
  · rw [if_neg (by rw [h3]; omega), if_neg (by omega), if_neg (by omega)]; rfl
  · rw [if_pos (by rw [h3]; omega), if_neg (by omega), if_pos h2]; rfl
  · rw [if_pos (by rw [h3]; omega), if_pos h1, if_neg (by omega)]; rfl
  · rw [if_neg (by rw [h3]; omega), if_pos h1, if_pos h2, Nat.xor_self]
theorem crcBits_xor : ∀ (k a b : Nat), crcBits k (a ^^^ b) = crcBits k a ^^^ crcBits k b
  | 0, _, _ => rfl
  | k + 1, a, b => by rw [crcBits_succ, crcBit_xor, crcBits_xor k]; rfl
theorem crcBits_shift : ∀ (k y : Nat), crcBits k (2 ^ k * y) = y
  | 0, y => by rw [Nat.pow_zero, Nat.one_mul]; rfl
  | k + 1, y => by
    have : crcBit (2 ^ (k + 1) * y) = 2 ^ k * y := by
      unfold crcBit
      have e : 2 ^ (k + 1) * y = 2 * (2 ^ k * y) := by rw [Nat.pow_succ, Nat.mul_comm (2 ^ k) 2, Nat.mul_assoc]
      rw [e, if_neg (by omega), Nat.xor_zero]; omega
    rw [crcBits_succ, this]; exact crcBits_shift k y
theorem crcBits_add : ∀ (j k r : Nat), crcBits (j + k) r = crcBits k (crcBits j r)
  | 0, k, r => by rw [Nat.zero_add]; rfl
  | j + 1, k, r => by rw [Nat.add_right_comm, crcBits_succ, crcBits_add j k]; rfl
def val : List UInt8 → Nat
  | [] => 0
  | b :: l => b.toNat + 256 * val l
theorem val_cons (b : UInt8) (l : List UInt8) : val (b :: l) = b.toNat ^^^ (256 * val l) := (xor_add 8 (val l) (byte_lt b)).symm
theorem crc_val : ∀ (l : List UInt8) (r : Nat), crc r l = crcBits (8 * l.length) (r ^^^ val l)
  | [], r => by show r = crcBits 0 (r ^^^ 0); rw [Nat.xor_zero]; rfl
  | b :: l, r => by
    show crc (crcBits 8 (r ^^^ b.toNat)) l = _
    rw [crc_val l, List.length_cons, Nat.mul_add, Nat.mul_one, Nat.add_comm (8 * l.length), crcBits_add, val_cons, ← Nat.xor_assoc, crcBits_xor 8 (r ^^^ b.toNat), show 256 * val l = 2 ^ 8 * val l from rfl, crcBits_shift]
/-- What was turned so far. -/
def Turned (p q : List UInt8) (a i : Nat) (same : Bool) : Prop := q.length = p.length ∧ ∃ E, E < 2 ^ i ∧ val q = val p ^^^ 2 ^ a * E ∧ (same = false → E ≠ 0)
theorem Turned.start (p : List UInt8) (a : Nat) : Turned p p a 0 true := ⟨rfl, 0, by decide, by rw [Nat.mul_zero, Nat.xor_zero], fun h => by cases h⟩
theorem Turned.skip {p q : List UInt8} {a i : Nat} {s : Bool} (h : Turned p q a i s) : Turned p q a (i + 1) s := by
  obtain ⟨hl, E, h1, h2, h3⟩ := h
  exact ⟨hl, E, Nat.lt_of_lt_of_le h1 (Nat.pow_le_pow_right (by decide) (by omega)), h2, h3⟩
theorem Turned.seen {p q : List UInt8} {a : Nat} (h : Turned p q a 32 false) (ha : a < 8 * p.length) : 4294967295 - crc 4294967295 q ≠ 4294967295 - crc 4294967295 p := by
  obtain ⟨hl, E, h1, h2, h3⟩ := h
  have b1 := crc_lt q (show 4294967295 < 4294967296 by decide)
  have b2 := crc_lt p (show 4294967295 < 4294967296 by decide)
  intro e
  have e2 : crc 4294967295 q = crc 4294967295 p := by omega
  rw [crc_val, crc_val, hl, h2, ← Nat.xor_assoc, crcBits_xor] at e2
  have e3 : crcBits (8 * p.length) (2 ^ a * E) = 0 := xor_inj (a := crcBits (8 * p.length) (4294967295 ^^^ val p)) (by rw [e2, Nat.xor_zero])
  rw [show 8 * p.length = a + (8 * p.length - a) by omega, crcBits_add, crcBits_shift] at e3
  have z : ∀ k, crcBits k 0 = 0 := fun k => by
    induction k with
    | zero => rfl
    | succ k ih => exact ih
  exact h3 rfl (crcBits_inj _ h1 (by decide) (e3.trans (z _).symm))
end Go.Proofs.YtcpmjogeafhpnaaDoor

/- Bits: as they are put, as numbers have them. -/
set_option linter.all false
set_option maxRecDepth 100000
namespace Go.Proofs.YtcpmjogeafhpnaaDoor
def Alike (l m : List Bool) (i : Nat) : Prop := l.length ≤ m.length ∧ ∀ j, j < i → l.getD j false = m.getD j false
theorem Alike.self (l : List Bool) (i : Nat) : Alike l l i := ⟨Nat.le_refl _, fun _ _ => rfl⟩
theorem Alike.step {l m : List Bool} {i : Nat} (h : Alike l m i) (e : l.getD i false = m.getD i false) : Alike l m (i + 1) :=
  ⟨h.1, fun j hj => by
    rcases Nat.lt_or_ge j i with q | q
    · exact h.2 j q
    · rw [show j = i by omega]; exact e⟩
theorem Alike.back {l m : List Bool} {i : Nat} (h : Alike l m (i + 1)) : Alike l m i ∧ l.getD i false = m.getD i false := ⟨⟨h.1, fun j hj => h.2 j (by omega)⟩, h.2 i (by omega)⟩
end Go.Proofs.YtcpmjogeafhpnaaDoor

/- Numbers in bytes of seven bits. -/
set_option linter.all false
set_option maxRecDepth 100000
namespace Go.Proofs.YtcpmjogeafhpnaaDoor
def encF : Nat → Nat → List UInt8
  | 0, n => [UInt8.ofNat (n % 256)]
  | f + 1, n => if n < 128 then [UInt8.ofNat (n % 256)] else UInt8.ofNat (n % 128 + 128) :: encF f (n / 128)
theorem encF_stop {f n : Nat} (h : n < 128) : encF f n = [UInt8.ofNat (n % 256)] := by
  cases f with
  | zero => rfl
  | succ f => rw [encF, if_pos h]
theorem encF_go {f n : Nat} (h : ¬ n < 128) : encF (f + 1) n = UInt8.ofNat (n % 128 + 128) :: encF f (n / 128) := by rw [encF, if_neg h]
theorem m_pos {m n : Nat} (h : n < 2 ^ (m * 7 + 1)) (hn : ¬ n < 128) : 1 ≤ m := by
  cases m with
  | zero => rw [Nat.zero_mul, Nat.zero_add, Nat.pow_one] at h; omega
  | succ m => omega
theorem bandn_more : ∀ x : Fin 256, bandn 8 x.1 128 = x.1 % 128 := by decide
theorem div_pow {n m : Nat} (h : n < 2 ^ ((m + 1) * 7 + 1)) : n / 128 < 2 ^ (m * 7 + 1) := by
  apply Nat.div_lt_of_lt_mul
  have e : (m + 1) * 7 + 1 = 7 + (m * 7 + 1) := by omega
  rw [e, Nat.pow_add] at h
  exact h
/-- What has been read up to place i. -/
structure Dec (l rest : List UInt8) (n i acc : Nat) : Prop where
  le : i ≤ 9
  here : l.drop i = encF (9 - i) (n / 2 ^ (i * 7)) ++ rest
  acc : acc = n % 2 ^ (i * 7)
  lt : n / 2 ^ (i * 7) < 2 ^ ((9 - i) * 7 + 1)
  len : (encF 9 n).length = i + (encF (9 - i) (n / 2 ^ (i * 7))).length
  pos : i = 0 ∨ 1 ≤ n / 2 ^ (i * 7)
theorem Dec.start {l rest : List UInt8} {n : Nat} (h : l = encF 9 n ++ rest) (hn : n < 18446744073709551616) : Dec l rest n 0 0 :=
  ⟨by omega, by rw [h]; simp, by rw [Nat.zero_mul, Nat.pow_zero, Nat.mod_one], by rw [Nat.zero_mul, Nat.pow_zero, Nat.div_one]; exact hn, by simp, .inl rfl⟩
theorem Dec.byte {l rest : List UInt8} {n i acc : Nat} (h : Dec l rest n i acc) : (l.getD i 0).toNat = if n / 2 ^ (i * 7) < 128 then n / 2 ^ (i * 7) else n / 2 ^ (i * 7) % 128 + 128 := by
  have e : l.getD i 0 = (l.drop i).getD 0 0 := by rw [List.getD_eq_getElem?_getD, List.getD_eq_getElem?_getD, List.getElem?_drop, Nat.add_zero]
  rw [e, h.here]
  by_cases hx : n / 2 ^ (i * 7) < 128
  · rw [if_pos hx, encF_stop hx]
    generalize n / 2 ^ (i * 7) = x at hx
    simp only [List.cons_append, List.getD_cons_zero]
    rw [ofNat_toNat (by omega)]; omega
  · have hm := m_pos h.lt hx
    obtain ⟨k, hk⟩ : ∃ k, 9 - i = k + 1 := ⟨9 - i - 1, by omega⟩
    rw [if_neg hx, hk, encF_go hx]
    generalize n / 2 ^ (i * 7) = x
    simp only [List.cons_append, List.getD_cons_zero]
    rw [ofNat_toNat (by omega)]
theorem dec_sum {n i b : Nat} (hn : n < 18446744073709551616) (hb : b % 128 = n / 2 ^ (i * 7) % 128) (hb2 : b < 256) : bor 64 (n % 2 ^ (i * 7)) (bshl 64 (bandn 8 b 128) (i * 7)) = n % 2 ^ ((i + 1) * 7) := by
  have hp := Nat.two_pow_pos (i * 7)
  have e1 : bandn 8 b 128 = b % 128 := bandn_more ⟨b, hb2⟩
  have h1 : n / 2 ^ (i * 7) % 128 * 2 ^ (i * 7) ≤ n := Nat.le_trans (Nat.mul_le_mul_right _ (Nat.mod_le _ _)) (Nat.div_mul_le_self n _)
  have e2 : bshl 64 (b % 128) (i * 7) = n / 2 ^ (i * 7) % 128 * 2 ^ (i * 7) := by
    unfold bshl; rw [hb]; exact Nat.mod_eq_of_lt (Nat.lt_of_le_of_lt h1 hn)
  have h2 : n % 2 ^ (i * 7) ≤ n := Nat.mod_le _ _
  have e3 : n % 2 ^ (i * 7) % 2 ^ 64 = n % 2 ^ (i * 7) := Nat.mod_eq_of_lt (Nat.lt_of_le_of_lt h2 hn)
  have e4 : n / 2 ^ (i * 7) % 128 * 2 ^ (i * 7) % 2 ^ 64 = n / 2 ^ (i * 7) % 128 * 2 ^ (i * 7) := Nat.mod_eq_of_lt (Nat.lt_of_le_of_lt h1 hn)
  rw [e1, e2]
  unfold bor
  rw [BitVec.toNat_or, BitVec.toNat_ofNat, BitVec.toNat_ofNat, e3, e4, or_add (Nat.mod_lt _ hp), show (i + 1) * 7 = i * 7 + 7 by omega, Nat.pow_add, Nat.mod_mul, Nat.mul_comm (2 ^ (i * 7))]
theorem Dec.step {l rest : List UInt8} {n i acc : Nat} (hn : n < 18446744073709551616) (h : Dec l rest n i acc) (hb : 128 ≤ (l.getD i 0).toNat) : Dec l rest n (i + 1) (bor 64 acc (bshl 64 (bandn 8 (l.getD i 0).toNat 128) (i * 7))) := by
  have hbyte := h.byte
  have hx : ¬ n / 2 ^ (i * 7) < 128 := fun q => by rw [if_pos q] at hbyte; omega
  rw [if_neg hx] at hbyte
  have hm := m_pos h.lt hx
  obtain ⟨k, hk⟩ : ∃ k, 9 - i = k + 1 := ⟨9 - i - 1, by omega⟩
  have hk2 : 9 - (i + 1) = k := by omega
  have e : n / 2 ^ ((i + 1) * 7) = n / 2 ^ (i * 7) / 128 := by rw [Nat.div_div_eq_div_mul, show (i + 1) * 7 = i * 7 + 7 by omega, Nat.pow_add]
  have hh := h.here
  have hl := h.len
  have hlt := h.lt
  rw [hk, encF_go hx] at hh hl
  rw [hk] at hlt
  refine ⟨by omega, ?_, ?_, ?_, ?_, .inr ?_⟩
  · rw [hk2, e, ← List.drop_drop, hh]; rfl
  · rw [h.acc]; exact dec_sum hn (by rw [hbyte]; generalize n / 2 ^ (i * 7) = x; omega) (byte_lt _)
  · rw [hk2, e]; exact div_pow hlt
  · rw [hk2, e]; simp only [List.length_cons] at hl; omega
  · rw [e]; generalize n / 2 ^ (i * 7) = x at hx; omega
theorem Dec.stop {l rest : List UInt8} {n i acc : Nat} (hn : n < 18446744073709551616) (h : Dec l rest n i acc) (hb : ¬ 128 ≤ (l.getD i 0).toNat) : bor 64 acc (bshl 64 (bandn 8 (l.getD i 0).toNat 128) (i * 7)) = n ∧ i + 1 = (encF 9 n).length ∧ ¬ (0 < i ∧ (l.getD i 0).toNat = 0) ∧ ¬ (i = 9 ∧ 1 < (l.getD i 0).toNat) := by
  have hbyte := h.byte
  have hx : n / 2 ^ (i * 7) < 128 := by
    by_cases q : n / 2 ^ (i * 7) < 128
    · exact q
    · rw [if_neg q] at hbyte; omega
  rw [if_pos hx] at hbyte
  refine ⟨?_, ?_, ?_, ?_⟩
  · rw [h.acc, dec_sum hn (by rw [hbyte]) (byte_lt _)]
    apply Nat.mod_eq_of_lt
    rw [show (i + 1) * 7 = i * 7 + 7 by omega, Nat.pow_add]
    exact (Nat.div_lt_iff_lt_mul (Nat.two_pow_pos _)).1 hx |> fun q => by rw [Nat.mul_comm]; exact q
  · have := h.len; rw [encF_stop hx] at this; simp at this; omega
  · rintro ⟨h0, hz⟩
    rw [hbyte] at hz
    rcases h.pos with q | q
    · omega
    · generalize n / 2 ^ (i * 7) = x at hz q; omega
  · rintro ⟨h9, h1⟩
    have := h.lt
    subst h9
    rw [hbyte] at h1
    simp at this h1
    omega
end Go.Proofs.YtcpmjogeafhpnaaDoor

/- The number that bytes begin with, whatever they are. -/
set_option linter.all false
set_option maxRecDepth 100000
namespace Go.Proofs.YtcpmjogeafhpnaaDoor
def val7 : List UInt8 → Nat
  | [] => 0
  | b :: l => b.toNat % 128 + 128 * val7 l
theorem val7_append : ∀ (a b : List UInt8), val7 (a ++ b) = val7 a + 2 ^ (a.length * 7) * val7 b
  | [], b => by simp [val7]
  | x :: a, b => by
    rw [List.cons_append, val7, val7, val7_append a b, List.length_cons, show (a.length + 1) * 7 = 7 + a.length * 7 by omega, Nat.pow_add, Nat.mul_add, ← Nat.mul_assoc, show (2 : Nat) ^ 7 = 128 from rfl]
    omega
theorem val7_lt : ∀ (a : List UInt8), val7 a < 2 ^ (a.length * 7)
  | [] => by simp [val7]
  | x :: a => by
    have := val7_lt a
    rw [val7, List.length_cons, show (a.length + 1) * 7 = 7 + a.length * 7 by omega, Nat.pow_add]
    omega
theorem getD_some8 {l : List UInt8} {i : Nat} (h : i < l.length) : l[i]? = some (l.getD i 0) := by simp [h]
theorem val7_take {l : List UInt8} {i : Nat} (h : i < l.length) : val7 (l.take (i + 1)) = val7 (l.take i) + 2 ^ (i * 7) * ((l.getD i 0).toNat % 128) := by
  have e : l.take (i + 1) = l.take i ++ [l.getD i 0] := by rw [List.take_succ, getD_some8 h]; rfl
  have h2 : (l.take i).length = i := by rw [List.length_take]; omega
  rw [e, val7_append, h2]; simp [val7]
/-- k bytes go on: the first that does not, or the tenth, or none -/
structure Lead (l : List UInt8) (k : Nat) : Prop where
  le : k ≤ 9
  len : k ≤ l.length
  big : ∀ j, j < k → 128 ≤ (l.getD j 0).toNat
  stop : k = 9 ∨ k = l.length ∨ (l.getD k 0).toNat < 128
theorem Lead.uniq {l : List UInt8} {k k' : Nat} (h : Lead l k) (h' : Lead l k') : k = k' := by
  rcases Nat.lt_trichotomy k k' with q | q | q
  · have := h'.big k q; rcases h.stop with r | r | r
    · have := h'.le; omega
    · have := h'.len; omega
    · omega
  · exact q
  · have := h.big k' q; rcases h'.stop with r | r | r
    · have := h.le; omega
    · have := h.len; omega
    · omega
open Classical in
noncomputable def kk (l : List UInt8) : Nat := if h : ∃ k, Lead l k then Classical.choose h else 0
theorem kk_eq {l : List UInt8} {k : Nat} (h : Lead l k) : kk l = k := by
  unfold kk
  have hx : ∃ k, Lead l k := ⟨k, h⟩
  rw [dif_pos hx]
  exact (Classical.choose_spec hx).uniq h
def badN (l : List UInt8) (k : Nat) : Prop := k ≥ l.length ∨ (k = 9 ∧ 1 < (l.getD k 0).toNat) ∨ (0 < k ∧ (l.getD k 0).toNat = 0) ∨ 9 < k
instance (l : List UInt8) (k : Nat) : Decidable (badN l k) := by unfold badN; infer_instance
noncomputable def numK (l : List UInt8) : Nat := if badN l (kk l) then 0 else kk l + 1
noncomputable def numN (l : List UInt8) : Nat := if badN l (kk l) then 0 else val7 (l.take (kk l + 1))
theorem num_bad {l : List UInt8} {k : Nat} (h : Lead l k) (hb : badN l k) : numN l = 0 ∧ numK l = 0 := by
  unfold numN numK; rw [kk_eq h, if_pos hb, if_pos hb]; exact ⟨rfl, rfl⟩
/-- What the program has read up to place i. -/
structure DecG (l : List UInt8) (i acc : Nat) : Prop where
  le : i ≤ 10
  len : i ≤ l.length
  big : ∀ j, j < i → 128 ≤ (l.getD j 0).toNat
  acc : i ≤ 9 → acc = val7 (l.take i)
theorem DecG.start (l : List UInt8) : DecG l 0 0 := ⟨by omega, by omega, fun j h => by omega, fun _ => by simp [val7]⟩
theorem decG_sum {l : List UInt8} {i acc : Nat} (h : DecG l i acc) (hi : i < l.length) (h9 : i < 9 ∨ (i = 9 ∧ (l.getD i 0).toNat ≤ 1)) : bor 64 acc (bshl 64 (bandn 8 (l.getD i 0).toNat 128) (i * 7)) = val7 (l.take (i + 1)) := by
  have e1 : bandn 8 (l.getD i 0).toNat 128 = (l.getD i 0).toNat % 128 := bandn_more ⟨(l.getD i 0).toNat, byte_lt _⟩
  have h1 := val7_lt (l.take i)
  have h2 : (l.take i).length = i := by rw [List.length_take]; omega
  rw [h2] at h1
  have hv := val7_take hi
  have hfit : val7 (l.take i) + 2 ^ (i * 7) * ((l.getD i 0).toNat % 128) < 18446744073709551616 := by
    rcases h9 with q | ⟨rfl, q⟩
    · have h3 := val7_lt (l.take (i + 1))
      have h4 : (l.take (i + 1)).length = i + 1 := by rw [List.length_take]; omega
      rw [h4, hv] at h3
      exact Nat.lt_of_lt_of_le h3 (Nat.le_trans (Nat.pow_le_pow_right (by decide) (show (i + 1) * 7 ≤ 63 by omega)) (by decide))
    · have : (l.getD 9 0).toNat % 128 ≤ 1 := by omega
      have e : (2 : Nat) ^ (9 * 7) = 9223372036854775808 := by decide
      rw [e] at h1 ⊢; omega
  rw [h.acc (by omega), e1, hv]
  generalize val7 (l.take i) = x at *
  generalize (l.getD i 0).toNat % 128 = y at *
  have hy : y * 2 ^ (i * 7) < 18446744073709551616 := by rw [Nat.mul_comm]; omega
  have e2 : bshl 64 y (i * 7) = y * 2 ^ (i * 7) := by unfold bshl; exact Nat.mod_eq_of_lt hy
  rw [e2]
  unfold bor
  rw [BitVec.toNat_or, BitVec.toNat_ofNat, BitVec.toNat_ofNat, Nat.mod_eq_of_lt (show x < 2 ^ 64 by omega), Nat.mod_eq_of_lt (show y * 2 ^ (i * 7) < 2 ^ 64 from hy), or_add h1, Nat.mul_comm]
theorem DecG.step {l : List UInt8} {i acc : Nat} (h : DecG l i acc) (hi : i < l.length) (h10 : i < 10) (hb : 128 ≤ (l.getD i 0).toNat) : DecG l (i + 1) (bor 64 acc (bshl 64 (bandn 8 (l.getD i 0).toNat 128) (i * 7))) := by
  refine ⟨by omega, by omega, fun j hj => ?_, fun h9 => decG_sum h hi (.inl (by omega))⟩
  by_cases q : j = i
  · subst q; exact hb
  · exact h.big j (by omega)
theorem DecG.lead {l : List UInt8} {i acc : Nat} (h : DecG l i acc) (hi : i < l.length) (h10 : i < 10) (hb : ¬ 128 ≤ (l.getD i 0).toNat) : Lead l i := ⟨by omega, by omega, h.big, .inr (.inr (by omega))⟩
theorem DecG.out {l : List UInt8} {i acc : Nat} (h : DecG l i acc) (hi : ¬ i < min l.length 10) : numN l = 0 ∧ numK l = 0 := by
  have hl := h.len
  have hle := h.le
  by_cases q : i ≤ 9
  · exact num_bad ⟨q, hl, h.big, .inr (.inl (by omega))⟩ (.inl (by omega))
  · refine num_bad (k := 9) ⟨by omega, by omega, fun j hj => h.big j (by omega), .inl rfl⟩ (.inr (.inl ⟨rfl, ?_⟩))
    have := h.big 9 (by omega); omega
end Go.Proofs.YtcpmjogeafhpnaaDoor

/- What is read, the bytes that go with it, and the error. -/
set_option linter.all false
set_option maxRecDepth 100000
namespace Go.Proofs.YtcpmjogeafhpnaaDoor
/-- a text of at most z bytes is there -/
def okT (l : List UInt8) (e : Nat) (z : Int) : Prop := e = 0 ∧ numK l ≠ 0 ∧ ((numN l : Nat) : Int) ≤ z ∧ numN l ≤ l.length - numK l
noncomputable instance (l : List UInt8) (e : Nat) (z : Int) : Decidable (okT l e z) := by unfold okT; infer_instance
end Go.Proofs.YtcpmjogeafhpnaaDoor

/- The number at a place, as the document reads it. -/
set_option linter.all false
set_option maxRecDepth 100000
namespace Go.Proofs.YtcpmjogeafhpnaaDoor
theorem getD_drop8 {P : List UInt8} {a j : Nat} : (P.drop a).getD j 0 = P.getD (a + j) 0 := by
  rw [List.getD_eq_getElem?_getD, List.getD_eq_getElem?_getD, List.getElem?_drop]
structure RefD (P : List UInt8) (at' k : Nat) : Prop where
  lo : at' ≤ k
  hi : k ≤ P.length
  le : k ≤ at' + 9
  big : ∀ j, at' ≤ j → j < k → 128 ≤ (P.getD j 0).toNat
theorem RefD.start {P : List UInt8} {at' : Nat} (h : at' ≤ P.length) : RefD P at' at' := ⟨by omega, h, by omega, fun j h1 h2 => by omega⟩
theorem RefD.step {P : List UInt8} {at' k : Nat} (h : RefD P at' k) (h1 : k < P.length) (h2 : k < at' + 9) (h3 : 127 < (P.getD k 0).toNat) : RefD P at' (k + 1) := by
  refine ⟨by have := h.lo; omega, by omega, by omega, fun j h4 h5 => ?_⟩
  by_cases q : j = k
  · subst q; omega
  · exact h.big j h4 (by omega)
theorem RefD.lead {P : List UInt8} {at' k : Nat} (h : RefD P at' k) (hs : ¬ k < P.length ∨ ¬ k < at' + 9 ∨ ¬ 127 < (P.getD k 0).toNat) : Lead (P.drop at') (k - at') := by
  have h1 := h.lo; have h2 := h.hi; have h3 := h.le
  refine ⟨by omega, by rw [List.length_drop]; omega, fun j hj => ?_, ?_⟩
  · rw [getD_drop8]; exact h.big _ (by omega) (by omega)
  · rw [List.length_drop, getD_drop8, show at' + (k - at') = k by omega]; omega
theorem RefD.bad {P : List UInt8} {at' k : Nat} (h : RefD P at' k) (hs : ¬ k < P.length ∨ ¬ k < at' + 9 ∨ ¬ 127 < (P.getD k 0).toNat) (hb : P.length ≤ k ∨ (k = at' + 9 ∧ 1 < (P.getD k 0).toNat) ∨ (at' < k ∧ (P.getD k 0).toNat = 0)) : numN (P.drop at') = 0 ∧ numK (P.drop at') = 0 := by
  have h1 := h.lo; have h2 := h.hi; have h3 := h.le
  refine num_bad (h.lead hs) ?_
  unfold badN
  rw [List.length_drop, getD_drop8, show at' + (k - at') = k by omega]; omega
end Go.Proofs.YtcpmjogeafhpnaaDoor

/- Numbers of 8 and 32 bits; slices of literals; a marked block. -/
set_option linter.all false
set_option maxRecDepth 100000
namespace Go.Proofs.YtcpmjogeafhpnaaDoor
open Go.RowKit Go.Sep

def rounds_step {P : Program} {c : Code} {Q : Exit → Act → World → Prop} {n : Nat} {a : Act} {w : World} (h : c.wp P (Exit.then (Code.rounds P c Q n) Q) a w) : Code.rounds P c Q (n + 1) a w := by
  rw [Go.rounds_succ]; exact h
theorem leMono {A I J : IM} (le : I.Le J) (h : A.Le I) : A.Le J := h.trans le
theorem drop_cons {s : List UInt8} {k : Nat} (h : k < s.length) : s.drop k = s.getD k 0 :: s.drop (k + 1) := by
  rw [List.drop_eq_getElem_cons h]; simp [h]
end Go.Proofs.YtcpmjogeafhpnaaDoor

/- Slices of bools, as those of bytes. -/
set_option linter.all false
set_option maxRecDepth 100000
namespace Go.Proofs.YtcpmjogeafhpnaaDoor
open Go.RowKit Go.Sep
def BoS (I : IM) (l : List Bool) (v : Value) : Prop := ∃ a cap, v = .slice a l.length cap ∧ l.length ≤ cap ∧ ∀ j x, l[j]? = some x → ∃ b o cs T fr, a = some ⟨b, o, none⟩ ∧ I b = some (.cells cs T fr) ∧ cs[o + j]? = some (.bool x)
theorem BoS.mono {I J : IM} (le : I.Le J) {l : List Bool} {v : Value} (h : BoS I l v) : BoS J l v := by
  obtain ⟨a, cap, hv, hc, hr⟩ := h
  refine ⟨a, cap, hv, hc, fun j x hj => ?_⟩
  obtain ⟨b, o, cs, T, fr, h1, h2, h3⟩ := hr j x hj
  exact ⟨b, o, cs, T, fr, h1, le _ _ h2, h3⟩
theorem BoS.cap {I : IM} {l : List Bool} {a : Option Addr} {n c : Nat} (h : BoS I l (.slice a n c)) : n = l.length ∧ l.length ≤ c := by
  obtain ⟨a', c', hv, hc, _⟩ := h
  cases hv; exact ⟨rfl, hc⟩
theorem BoS.open {I : IM} {l : List Bool} {v : Value} (h : BoS I l v) : ∃ a c, v = .slice a l.length c ∧ l.length ≤ c ∧ BoS I l (.slice a l.length c) := by
  obtain ⟨a, c, hv, hc, _⟩ := id h
  subst hv
  exact ⟨a, c, rfl, hc, h⟩
end Go.Proofs.YtcpmjogeafhpnaaDoor

/- Bytes as strings. -/
set_option linter.all false
set_option maxRecDepth 100000
namespace Go.Proofs.YtcpmjogeafhpnaaDoor
open Go.RowKit Go.Sep
theorem under9 : Tryd.prog.underlying 9 = some .string := by kernel_rfl
end Go.Proofs.YtcpmjogeafhpnaaDoor

/- Slices of pairs: a byte and a number. -/
set_option linter.all false
set_option maxRecDepth 100000
namespace Go.Proofs.YtcpmjogeafhpnaaDoor
open Go.RowKit Go.Sep
def ASl (I : IM) (L : List (Nat × Int)) (v : Value) : Prop := ∃ a cap, v = .slice a L.length cap ∧ L.length ≤ cap ∧ ∀ j x, L[j]? = some x → (x.1 < 256 ∧ x.2 < 9223372036854775808) ∧ ∃ b o cs T fr, a = some ⟨b, o, none⟩ ∧ I b = some (.cells cs T fr) ∧ cs[o + j * 2]? = some (.int .u8 ((x.1 : Nat) : Int)) ∧ cs[o + j * 2 + 1]? = some (.int .i64 x.2)
theorem ASl.mono {I J : IM} (le : I.Le J) {L : List (Nat × Int)} {v : Value} (h : ASl I L v) : ASl J L v := by
  obtain ⟨a, cap, hv, hc, hr⟩ := h
  refine ⟨a, cap, hv, hc, fun j x hj => ?_⟩
  obtain ⟨hx, b, o, cs, T, fr, h1, h2, h3, h4⟩ := hr j x hj
  exact ⟨hx, b, o, cs, T, fr, h1, le _ _ h2, h3, h4⟩
theorem ASl.cap {I : IM} {L : List (Nat × Int)} {a : Option Addr} {n c : Nat} (h : ASl I L (.slice a n c)) : n = L.length ∧ L.length ≤ c := by
  obtain ⟨a', c', hv, hc, _⟩ := h
  cases hv; exact ⟨rfl, hc⟩
end Go.Proofs.YtcpmjogeafhpnaaDoor

/- Texts are read. -/
set_option linter.all false
set_option maxRecDepth 100000
namespace Go.Proofs.YtcpmjogeafhpnaaDoor
open Go.RowKit Go.Sep
attribute [local irreducible] Go.wpList Go.Code.wp

theorem take_string {s : List UInt8} {hi : Nat} : (⟨s.toArray⟩ : ByteArray).extract 0 hi = ⟨(s.take hi).toArray⟩ := by
  apply ByteArray.ext
  rw [ByteArray.data_extract]
  apply Array.ext'
  simp only [Array.toList_extract, List.extract_eq_take_drop]
  rfl
end Go.Proofs.YtcpmjogeafhpnaaDoor

/- Slices of bytes that are never written: read, cut; rows of bytes; bits of numbers. -/
set_option linter.all false
set_option maxRecDepth 100000
namespace Go.Proofs.YtcpmjogeafhpnaaDoor.Tx
open Go.RowKit Go.Sep

def BSl (I : IM) (l : List UInt8) (v : Value) : Prop := ∃ a cap, v = .slice a l.length cap ∧ l.length ≤ cap ∧ ∀ j x, l[j]? = some x → ∃ b o cs T fr, a = some ⟨b, o, none⟩ ∧ I b = some (.cells cs T fr) ∧ cs[o + j]? = some (.int .u8 ((x.toNat : Nat) : Int))
theorem BSl.mono {I J : IM} (le : I.Le J) {l : List UInt8} {v : Value} (h : BSl I l v) : BSl J l v := by
  obtain ⟨a, cap, hv, hc, hr⟩ := h
  refine ⟨a, cap, hv, hc, fun j x hj => ?_⟩
  obtain ⟨b, o, cs, T, fr, h1, h2, h3⟩ := hr j x hj
  exact ⟨b, o, cs, T, fr, h1, le _ _ h2, h3⟩
theorem BSl.cap {I : IM} {l : List UInt8} {a : Option Addr} {n c : Nat} (h : BSl I l (.slice a n c)) : n = l.length ∧ l.length ≤ c := by
  obtain ⟨a', c', hv, hc, _⟩ := h
  cases hv; exact ⟨rfl, hc⟩
theorem BSl.open {I : IM} {l : List UInt8} {v : Value} (h : BSl I l v) : ∃ a c, v = .slice a l.length c ∧ l.length ≤ c ∧ BSl I l (.slice a l.length c) := by
  obtain ⟨a, c, hv, hc, _⟩ := id h
  subst hv
  exact ⟨a, c, rfl, hc, h⟩
theorem addr_addO (b o k : Nat) : (⟨b, o, none⟩ : Addr).add k = ⟨b, o + k, none⟩ := by unfold Addr.add; split <;> simp_all
theorem getD_some {l : List UInt8} {i : Nat} (h : i < l.length) : l[i]? = some (l.getD i 0) := by simp [h]
def bor (k a b : Nat) : Nat := (BitVec.ofNat k a ||| BitVec.ofNat k b).toNat
def bandn (k a b : Nat) : Nat := (BitVec.ofNat k a &&& ~~~ BitVec.ofNat k b).toNat
theorem run_shrU {w : World} {t : TypeId} {a n : Nat} {k yk : IntKind} (ha : a < 2 ^ k.bits) : (binOp .shr t (.int k ((a : Nat) : Int)) (.int yk ((n : Nat) : Int))).run Tryd.prog w = .ok (.int k ((a / 2 ^ n : Nat) : Int)) w := by
  rw [run_shr]
  congr 2
  have : ((a : Nat) : Int).fdiv (2 ^ min n k.bits) = ((a / 2 ^ min n k.bits : Nat) : Int) := by
    rw [Int.fdiv_eq_ediv_of_nonneg _ (Int.pow_nonneg (by omega))]
    simp
  rw [this]
  by_cases h : n ≤ k.bits
  · rw [Nat.min_eq_left h]
  · rw [Nat.min_eq_right (by omega), Nat.div_eq_of_lt ha, Nat.div_eq_of_lt (Nat.lt_of_lt_of_le ha (Nat.pow_le_pow_right (by decide) (by omega)))]
end Go.Proofs.YtcpmjogeafhpnaaDoor.Tx

/- Numbers of 8 and 32 bits; slices of literals; a marked block. -/
set_option linter.all false
set_option maxRecDepth 100000
namespace Go.Proofs.YtcpmjogeafhpnaaDoor.Tx
open Go.RowKit Go.Sep

def rounds_step {P : Program} {c : Code} {Q : Exit → Act → World → Prop} {n : Nat} {a : Act} {w : World} (h : c.wp P (Exit.then (Code.rounds P c Q n) Q) a w) : Code.rounds P c Q (n + 1) a w := by
  rw [Go.rounds_succ]; exact h
theorem leMono {A I J : IM} (le : I.Le J) (h : A.Le I) : A.Le J := h.trans le
theorem drop_cons {s : List UInt8} {k : Nat} (h : k < s.length) : s.drop k = s.getD k 0 :: s.drop (k + 1) := by
  rw [List.drop_eq_getElem_cons h]; simp [h]
end Go.Proofs.YtcpmjogeafhpnaaDoor.Tx

/- Strings: what operations on them answer. -/
set_option linter.all false
set_option maxRecDepth 100000
namespace Go.Proofs.YtcpmjogeafhpnaaDoor.Tx
open Go.RowKit Go.Sep

theorem under9 : Tryd.prog.underlying 9 = some .string := by kernel_rfl
theorem strL_beq (x y : List UInt8) : ((⟨x.toArray⟩ : ByteArray).toList == (⟨y.toArray⟩ : ByteArray).toList) = decide (x = y) := by
  have hx : ∀ l : List UInt8, (⟨l.toArray⟩ : ByteArray).toList = l := fun l => by rw [ByteArray.toList_eq]
  rw [hx, hx]
  exact Bool.beq_eq_decide_eq x y
theorem run_eqS {w : World} {t : TypeId} {x y : List UInt8} : (binOp .eql t (.string ⟨x.toArray⟩) (.string ⟨y.toArray⟩)).run Tryd.prog w = .ok (.bool (decide (x = y))) w := by
  show (Op.stringOp .eql _ _).run Tryd.prog w = _
  unfold Op.stringOp
  simp only [strL_beq]; rfl
theorem take_string {s : List UInt8} {hi : Nat} : (⟨s.toArray⟩ : ByteArray).extract 0 hi = ⟨(s.take hi).toArray⟩ := by
  apply ByteArray.ext
  rw [ByteArray.data_extract]
  apply Array.ext'
  simp only [Array.toList_extract, List.extract_eq_take_drop]
  simp
theorem mid_string {s : List UInt8} {lo hi : Nat} : (⟨s.toArray⟩ : ByteArray).extract lo hi = ⟨((s.drop lo).take (hi - lo)).toArray⟩ := by
  apply ByteArray.ext
  rw [ByteArray.data_extract]
  apply Array.ext'
  simp only [Array.toList_extract, List.extract_eq_take_drop]
theorem run_takeS {w : World} {s : List UInt8} {hi : Nat} (h : hi ≤ s.length) :
    (Instr.sliceAt 9 (.string ⟨s.toArray⟩) none (some (.int .i64 ((hi : Nat) : Int))) none).run Tryd.prog w = .ok (.string ⟨(s.take hi).toArray⟩) w := by
  rw [run_sliceStrTo under9 (by exact h), take_string]
theorem run_idxK {w : World} {s : List UInt8} {i : Nat} {kd : IntKind} (h : i < s.length) :
    (Instr.index 9 (.string ⟨s.toArray⟩) (.int kd ((i : Nat) : Int))).run Tryd.prog w = .ok (.int .u8 (((s.getD i 0).toNat : Nat) : Int)) w := by
  have hb : (⟨s.toArray⟩ : ByteArray)[i]? = some (s.getD i 0) := by
    have hl : i < (⟨s.toArray⟩ : ByteArray).size := h
    rw [getElem?_pos _ i hl]
    show some (s.toArray[i]) = _
    simp [h]
  simp [Instr.index, asIntOf, run_underlying under9, hb]
/-- a range over a string begins -/
theorem range_new {w0 : World} {I0 : IM} {m : List Nat} {I : IM} {w : World} {H : List OB} (s : St w0 I0 m I w (H ++ [])) (x : ByteArray) :
    ∃ k w', (Instr.range 9 (.string x)).run Tryd.prog w = .ok (.pointer (some ⟨k, 0, none⟩)) w' ∧ St w0 I0 m I w' ((H ++ [(k, .stringIter x 0)]) ++ []) := by
  rw [List.append_nil] at s
  refine ⟨w.heap.size, { w with heap := w.heap.push (.stringIter x 0) }, ?_, ?_⟩
  · simp [Instr.range, run_underlying under9, newObj, Sem.run]
  · rw [List.append_nil]; exact s.push _
/-- the sign at a place, and how many bytes it has -/
def dR (l : List UInt8) (p : Nat) : Nat := (Lib.decodeL (l.drop p)).1
def dW (l : List UInt8) (p : Nat) : Nat := (Lib.decodeL (l.drop p)).2
theorem dec_at (l : List UInt8) (p : Nat) : Utf8.decode ⟨l.toArray⟩ p = Lib.decodeL (l.drop p) := (Lib.decodeL_drop ⟨l.toArray⟩ p).symm
theorem next_own {w0 : World} {I0 : IM} {m : List Nat} {I : IM} {w : World} {k pos : Nat} {l : List UInt8} {ty : TypeId} (s : St w0 I0 m I w ([(k, .stringIter ⟨l.toArray⟩ pos)] ++ [])) (h : pos < l.length) :
    ∃ w', (Instr.next (.pointer (some ⟨k, 0, none⟩)) true ty).run Tryd.prog w = .ok (.tuple #[.bool true, .int .i64 ((pos : Nat) : Int), .int .i32 ((dR l pos : Nat) : Int)]) w' ∧ St w0 I0 m I w' ([(k, .stringIter ⟨l.toArray⟩ (pos + dW l pos))] ++ []) := by
  rw [List.append_nil] at s
  have hk : w.heap[k]? = some (.stringIter ⟨l.toArray⟩ pos) := s.own (k, _) (by simp)
  have hlt : k < w.heap.size := heap_lt hk
  have hp : pos < (⟨l.toArray⟩ : ByteArray).size := h
  refine ⟨{ w with heap := w.heap.set k (.stringIter ⟨l.toArray⟩ (pos + dW l pos)) hlt }, ?_, ?_⟩
  · simp only [Instr.next, getObj, setObj, Sem.run_bind, Sem.run, hk, Result.andThen, hp, if_true, dec_at]
    simp [goInt, hlt, dR, dW, Array.setIfInBounds]
  · rw [List.append_nil]
    have := St.set (i := 0) (k := k) (o' := .stringIter ⟨l.toArray⟩ (pos + dW l pos)) (w' := { w with heap := w.heap.set k (.stringIter ⟨l.toArray⟩ (pos + dW l pos)) hlt }) s rfl rfl rfl rfl (by simp) (by simp) (fun q hq => by
      simp only [Array.getElem?_set]; rw [if_neg (fun h => hq h.symm)])
    exact this
theorem next_end {w0 : World} {I0 : IM} {m : List Nat} {I : IM} {w : World} {k pos : Nat} {l : List UInt8} {ty : TypeId} (s : St w0 I0 m I w ([(k, .stringIter ⟨l.toArray⟩ pos)] ++ [])) (h : ¬ pos < l.length) :
    (Instr.next (.pointer (some ⟨k, 0, none⟩)) true ty).run Tryd.prog w = .ok (.tuple #[.bool false]) w := by
  have hk : w.heap[k]? = some (.stringIter ⟨l.toArray⟩ pos) := s.own (k, _) (by simp)
  have hp : ¬ pos < (⟨l.toArray⟩ : ByteArray).size := h
  simp [Instr.next, getObj, Sem.run, hk, hp]
end Go.Proofs.YtcpmjogeafhpnaaDoor.Tx

/- The signs of a text, one by one. -/
set_option linter.all false
set_option maxRecDepth 100000
namespace Go.Proofs.YtcpmjogeafhpnaaDoor.Tx
open Go.RowKit Go.Sep Go.Lib

def stepsF : Nat → List UInt8 → List (Nat × Nat)
  | 0, _ => []
  | n + 1, l => if l = [] then [] else decodeL l :: stepsF n (l.drop (decodeL l).2)
def steps (l : List UInt8) : List (Nat × Nat) := stepsF l.length l
theorem stepsF_nil : ∀ n, stepsF n [] = []
  | 0 => rfl
  | n + 1 => by simp [stepsF]
theorem stepsF_more : ∀ (n k : Nat) (l : List UInt8), l.length ≤ n → l.length ≤ k → stepsF n l = stepsF k l
  | 0, k, l, h, _ => by
    have : l = [] := List.length_eq_zero_iff.1 (by omega)
    subst this; rw [stepsF_nil, stepsF_nil]
  | n + 1, 0, l, _, h => by
    have : l = [] := List.length_eq_zero_iff.1 (by omega)
    subst this; rw [stepsF_nil, stepsF_nil]
  | n + 1, k + 1, l, h, h2 => by
    unfold stepsF
    split
    · rfl
    · rename_i hl
      have hw := decodeL_width l
      rw [stepsF_more n k (l.drop (decodeL l).2) (by rw [List.length_drop]; omega) (by rw [List.length_drop]; omega)]
theorem steps_cons {l : List UInt8} (h : l ≠ []) : steps l = decodeL l :: steps (l.drop (decodeL l).2) := by
  have hl : 0 < l.length := List.length_pos_iff.2 h
  have hw := decodeL_width l
  unfold steps
  obtain ⟨n, hn⟩ : ∃ n, l.length = n + 1 := ⟨l.length - 1, by omega⟩
  rw [hn]
  show (if l = [] then [] else decodeL l :: stepsF n (l.drop (decodeL l).2)) = _
  rw [if_neg h, stepsF_more n _ (l.drop (decodeL l).2) (by rw [List.length_drop]; omega) (Nat.le_refl _)]
theorem drop_ne {l : List UInt8} {p : Nat} (h : p < l.length) : l.drop p ≠ [] := fun e => by
  have := congrArg List.length e
  rw [List.length_drop, List.length_nil] at this; omega
theorem steps_at {l : List UInt8} {p : Nat} (h : p < l.length) : steps (l.drop p) = (dR l p, dW l p) :: steps (l.drop (p + dW l p)) := by
  rw [steps_cons (drop_ne h), List.drop_drop]; rfl
theorem steps_end {l : List UInt8} {p : Nat} (h : ¬ p < l.length) : steps (l.drop p) = [] := by
  rw [List.drop_of_length_le (by omega)]; rfl
theorem dW_pos (l : List UInt8) (p : Nat) : 1 ≤ dW l p := decodeL_width _
theorem dW_le {l : List UInt8} {p : Nat} (h : p < l.length) : p + dW l p ≤ l.length := by
  have := decodeL_le (l.drop p) (drop_ne h)
  rw [List.length_drop] at this
  unfold dW; omega
/-- no sign -/
def badD (d : Nat × Nat) : Bool := decide (d.1 = 65533 ∧ d.2 = 1)
def plainD (d : Nat × Nat) : Bool := !(decide (d.1 < 32)) && !(decide (d.1 = 127))
theorem valid_steps : ∀ (n : Nat) (l : List UInt8), l.length ≤ n → validGoD n l = (steps l).all (fun d => !badD d)
  | 0, l, h => by
    have : l = [] := List.length_eq_zero_iff.1 (by omega)
    subst this; rfl
  | n + 1, l, h => by
    unfold validGoD
    split
    · rename_i e; subst e; rfl
    · rename_i e
      have hw := decodeL_width l
      rw [steps_cons e, List.all_cons]
      split
      · rename_i hb
        rw [show badD (decodeL l) = true from decide_eq_true hb]; rfl
      · rename_i hb
        rw [show badD (decodeL l) = false from decide_eq_false hb, valid_steps n _ (by rw [List.length_drop]; omega)]; rfl
theorem validD_steps (l : List UInt8) : validD l = (steps l).all (fun d => !badD d) := valid_steps _ l (Nat.le_refl _)
/-- what Check answers -/
def okS (l : List UInt8) : Bool := (steps l).all (fun d => !badD d && plainD d)
def ckE (l : List UInt8) (mi : Int) : Nat := bif decide ((l.length : Int) > mi) then 9 else bif okS l then 0 else 7
theorem all_and {α : Type} (f g : α → Bool) : ∀ l : List α, l.all (fun d => f d && g d) = (l.all f && l.all g)
  | [] => rfl
  | a :: l => by
    simp only [List.all_cons, all_and f g l]
    cases f a <;> cases g a <;> cases l.all f <;> simp
theorem okS_eq (l : List UInt8) : okS l = (validD l && (steps l).all plainD) := by
  unfold okS; rw [all_and, validD_steps]
def nR (l : List UInt8) : Nat := (steps l).length
theorem nR_leF : ∀ (n : Nat) (l : List UInt8), l.length ≤ n → (steps l).length ≤ l.length
  | 0, l, h => by
    have : l = [] := List.length_eq_zero_iff.1 (by omega)
    subst this; exact Nat.le_refl _
  | n + 1, l, h => by
    by_cases e : l = []
    · subst e; exact Nat.le_refl _
    · have hw := decodeL_width l
      have hl : 0 < l.length := List.length_pos_iff.2 e
      rw [steps_cons e, List.length_cons]
      have := nR_leF n (l.drop (decodeL l).2) (by rw [List.length_drop]; omega)
      rw [List.length_drop] at this
      omega
theorem nR_le (l : List UInt8) : nR l ≤ l.length := nR_leF _ l (Nat.le_refl _)
/-- the document's sign -/
def dB (l : List UInt8) (p : Nat) : Bool := badD (dR l p, dW l p)
def sgX (l : List UInt8) (p : Nat) : Nat := bif dB l p then 0 else dR l p
theorem dN (l : List UInt8) (p : Nat) : (dR l p, dW l p) = decodeN (l.length - p) (l.getD p 0).toNat (l.getD (p + 1) 0).toNat (l.getD (p + 2) 0).toNat (l.getD (p + 3) 0).toNat := by
  show decodeL (l.drop p) = _
  rw [decodeL_N, List.length_drop, getD_dropU, getD_dropU, getD_dropU, getD_dropU, Nat.add_zero]
def sgV (x w : Nat) (b : Bool) : Value := .tuple #[.int .i64 ((x : Nat) : Int), .int .i64 ((w : Nat) : Int), .bool b]
theorem sgn_good {l : List UInt8} {p x w : Nat} (h : decodeN (l.length - p) (l.getD p 0).toNat (l.getD (p + 1) 0).toNat (l.getD (p + 2) 0).toNat (l.getD (p + 3) 0).toNat = (x, w)) (hw : ¬ (x = 65533 ∧ w = 1)) : sgV x w true = sgV (sgX l p) (dW l p) (!(dB l p)) := by
  rw [← dN] at h
  obtain ⟨h1, h2⟩ := Prod.mk.inj h
  have hb : dB l p = false := by unfold dB badD; rw [h1, h2]; exact decide_eq_false hw
  unfold sgX; rw [hb, h2, ← h1]; rfl
theorem sgn_bad {l : List UInt8} {p : Nat} (h : decodeN (l.length - p) (l.getD p 0).toNat (l.getD (p + 1) 0).toNat (l.getD (p + 2) 0).toNat (l.getD (p + 3) 0).toNat = (65533, 1)) : sgV 0 1 false = sgV (sgX l p) (dW l p) (!(dB l p)) := by
  rw [← dN] at h
  obtain ⟨h1, h2⟩ := Prod.mk.inj h
  have hb : dB l p = true := by unfold dB badD; rw [h1, h2]; rfl
  unfold sgX; rw [hb, h2]; rfl
theorem byte_lt (x : UInt8) : x.toNat < 256 := x.toNat_lt
end Go.Proofs.YtcpmjogeafhpnaaDoor.Tx

