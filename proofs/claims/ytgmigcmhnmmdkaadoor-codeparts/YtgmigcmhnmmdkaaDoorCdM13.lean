/- Slices of bytes that are never written: read, cut; rows of bytes; bits of numbers. -/
import Derived.Test.YtgmigcmhnmmdkaaDoorProg
import Derived.Test.YtgmigcmhnmmdkaaDoorCdS10
import Derived.LoopN
import Derived.Test.YtgmigcmhnmmdkaaDoorCdS11
import Derived.Laws.MakeOwn
import Derived.Laws.BytesString
import Derived.Laws.Cells
set_option linter.all false
set_option maxRecDepth 100000
namespace Go.Proofs.YtgmigcmhnmmdkaaDoor
open Go.RowKit Go.Sep

def bV (x : UInt8) : Value := .int .u8 ((x.toNat : Nat) : Int)
def BSl (I : IM) (l : List UInt8) (v : Value) : Prop := ∃ a cap, v = .slice a l.length cap ∧ l.length ≤ cap ∧ ∀ j x, l[j]? = some x → ∃ b o cs T fr, a = some ⟨b, o, none⟩ ∧ I b = some (.cells cs T fr) ∧ cs[o + j]? = some (.int .u8 ((x.toNat : Nat) : Int))
theorem BSl.mono {I J : IM} (le : I.Le J) {l : List UInt8} {v : Value} (h : BSl I l v) : BSl J l v := by
  obtain ⟨a, cap, hv, hc, hr⟩ := h
  refine ⟨a, cap, hv, hc, fun j x hj => ?_⟩
  obtain ⟨b, o, cs, T, fr, h1, h2, h3⟩ := hr j x hj
  exact ⟨b, o, cs, T, fr, h1, le _ _ h2, h3⟩
theorem bsl_nil (I : IM) : BSl I [] (.slice none 0 0) := ⟨none, 0, rfl, Nat.le_refl _, fun j x h => by simp at h⟩
theorem BSl.cap {I : IM} {l : List UInt8} {a : Option Addr} {n c : Nat} (h : BSl I l (.slice a n c)) : n = l.length ∧ l.length ≤ c := by
  obtain ⟨a', c', hv, hc, _⟩ := h
  cases hv; exact ⟨rfl, hc⟩
theorem BSl.open {I : IM} {l : List UInt8} {v : Value} (h : BSl I l v) : ∃ a c, v = .slice a l.length c ∧ l.length ≤ c ∧ BSl I l (.slice a l.length c) := by
  obtain ⟨a, c, hv, hc, _⟩ := id h
  subst hv
  exact ⟨a, c, rfl, hc, h⟩
theorem under34 : Tryd.prog.underlying 22 = some (.slice 5) := by kernel_rfl
theorem size5 (w : World) : (sizeOf 5).run Tryd.prog w = .ok 1 w := by kernel_rfl
def pAt (a : Option Addr) (i : Nat) : Option Addr := a.map (·.add i)
theorem addr_addO (b o k : Nat) : (⟨b, o, none⟩ : Addr).add k = ⟨b, o + k, none⟩ := by unfold Addr.add; split <;> simp_all
theorem map_add_zero (a : Option Addr) : a.map (·.add 0) = a := by cases a <;> rfl
theorem getD_some {l : List UInt8} {i : Nat} (h : i < l.length) : l[i]? = some (l.getD i 0) := by simp [h]
theorem bsl_idx {I : IM} {w : World} {l : List UInt8} {a : Option Addr} {n c i : Nat} (h : BSl I l (.slice a n c)) (hi : i < l.length) :
    (Instr.indexAt 22 (.slice a n c) (.int .i64 ((i : Nat) : Int))).run Tryd.prog w = .ok (.pointer (pAt a i)) w := by
  obtain ⟨a', c', hv, hc, hr⟩ := h
  cases hv
  obtain ⟨b, o, cs, T, fr, rfl, h2, h3⟩ := hr i _ (getD_some hi)
  have h2 : (i : Int) < (l.length : Int) := by omega
  simp [Instr.indexAt, asIntOf, run_underlying under34, size5, h2, pAt]
  intro h3; omega
theorem bsl_ld {I : IM} {w : World} (hS : I.Sub w) {l : List UInt8} {a : Option Addr} {n c i : Nat} (h : BSl I l (.slice a n c)) (hi : i < l.length) :
    (Instr.loadAt 5 (.pointer (pAt a i))).run Tryd.prog w = .ok (.int .u8 (((l.getD i 0).toNat : Nat) : Int)) w := by
  obtain ⟨a', c', hv, hc, hr⟩ := h
  cases hv
  obtain ⟨b, o, cs, T, fr, rfl, h2, h3⟩ := hr i _ (getD_some hi)
  have e : (Instr.loadAt 5 (.pointer (pAt (some ⟨b, o, none⟩) i))).run Tryd.prog w = (load ⟨b, o + i, none⟩).run Tryd.prog w := by
    rw [show pAt (some ⟨b, o, none⟩) i = some ⟨b, o + i, none⟩ from congrArg some (addr_addO b o i)]
    kernel_rfl
  have hc := run_cell (a := ⟨b, o + i, none⟩) (hS _ _ h2) rfl rfl
  rw [h3] at hc
  rw [e]; simp only [load, Sem.run, hc]
def subA (a : Option Addr) (l m : Nat) : Option Addr := if m = l then a else a.map (·.add l)
theorem run_to {w : World} {a : Option Addr} {n h cap : Nat} {k : IntKind} (h1 : h ≤ cap) : (Instr.sliceAt 22 (.slice a n cap) none (some (.int k ((h : Nat) : Int))) none).run Tryd.prog w = .ok (.slice a h cap) w := by
  have hb : (Instr.sliceBound (.int k ((h : Nat) : Int)) cap .sliceAcap).run Tryd.prog w = .ok h w := run_bound h1
  simp [Instr.sliceAt, Instr.slice, run_underlying under34, Instr.sliceBounds, hb, size5]
  intro _
  exact map_add_zero a
theorem bsl_to3 {I : IM} {l : List UInt8} {a : Option Addr} {n c hi m : Nat} (h : BSl I l (.slice a n c)) (h2 : hi ≤ l.length) (h3 : hi ≤ m) : BSl I (l.take hi) (.slice a hi m) := by
  obtain ⟨a', c', hv, hc, hr⟩ := h
  cases hv
  refine ⟨_, _, by rw [List.length_take, Nat.min_eq_left h2], by rw [List.length_take]; omega, fun j x hj => ?_⟩
  rw [List.getElem?_take] at hj
  split at hj
  · exact hr _ _ hj
  · cases hj
theorem bsl_to {I : IM} {l : List UInt8} {a : Option Addr} {n c hi : Nat} (h : BSl I l (.slice a n c)) (h2 : hi ≤ l.length) : BSl I (l.take hi) (.slice a hi c) :=
  bsl_to3 h h2 (Nat.le_trans h2 h.cap.2)
theorem one_bV (l : List UInt8) : (l.map bV).all (·.oneCell') = true := by
  rw [List.all_map]; exact List.all_eq_true.2 fun x _ => rfl
theorem src_bsl {I : IM} {w : World} (hs : I.Sub w) {l : List UInt8} {a : Option Addr} {n c : Nat} (h : BSl I l (.slice a n c)) : Src Tryd.prog 1 22 (.slice a n c) l.length (l.map bV) w := by
  obtain ⟨a', c', hv, hc, hr⟩ := h
  cases hv
  cases l with
  | nil => 
    cases a with
    | none => exact Src.ofNil w under34 c
    | some x => exact Src.ofSlice w under34 x 0 c [] rfl (fun j u hu => by simp at hu) (fun u hu => by simp at hu)
  | cons y l =>
    obtain ⟨b, o, cs, T, fr, rfl, _, _⟩ := hr 0 y rfl
    refine Src.ofSlice w under34 ⟨b, o, none⟩ _ c _ (by simp) (fun j u hu => ?_) (fun u hu => by simpa using List.all_eq_true.1 (one_bV _) u hu)
    rw [List.getElem?_map, Option.map_eq_some_iff] at hu
    obtain ⟨x, hx, rfl⟩ := hu
    obtain ⟨b', o', cs', T', fr', e1, e2, e3⟩ := hr j x hx
    cases e1
    rw [addr_addO, run_cell (a := ⟨b, o + j, none⟩) (hs _ _ e2) rfl rfl]
    exact e3
theorem freeze_row {w0 : World} {I0 : IM} {m : List Nat} {I : IM} {w : World} {H F : List OB} {l : List UInt8} {v : Value} {n : Nat} (s : St w0 I0 m I w (H ++ F)) (h : RowH 5 1 v n (l.map bV) F) :
    ∃ I', I.Le I' ∧ BSl I' l v ∧ St w0 I0 m I' w H := by
  have hl : l.length = n := by have := h.1; simpa using this
  rcases h.2 with ⟨rfl, rfl, rfl⟩ | ⟨g, cap, cur, rfl, rfl, hnc, hcm, hcs, ht⟩
  · have : l = [] := List.eq_nil_of_length_eq_zero hl
    subst this
    exact ⟨I, IM.Le.refl I, bsl_nil I, by simpa using s⟩
  · have s2 := (s.perm (H' := (g, .cells cur 5) :: H) (by exact List.perm_append_comm))
    refine ⟨_, IM.le_add (s2.free (g, .cells cur 5) (by simp)) _, ?_, s2.freeze⟩
    refine ⟨some ⟨g, 0, none⟩, cap, congrArg (fun q => Value.slice (some ⟨g, 0, none⟩) q cap) hl.symm, by omega, fun j x hj => ⟨g, 0, cur, 5, (0, 0), rfl, IM.add_self _ _ _, ?_⟩⟩
    have hx : (l.map bV)[j]? = some (bV x) := by rw [List.getElem?_map, hj]; rfl
    rw [← ht, List.getElem?_take] at hx
    split at hx
    · have hx' : cur[j]? = some (bV x) := by simpa using hx
      rw [Nat.zero_add]; exact hx'
    · cases hx
def bsR (L : List UInt8) (v : Value) (J : IM) : Prop := ∃ a c, v = .slice a (List.length L) c ∧ BSl J L (.slice a (List.length L) c)
theorem fun_of_rowB {f : FuncId} {args : Array Value} {I : IM} {n : Nat} {L : List UInt8} (h : FunM Tryd.prog f args I [] (fun v J F => RowH 5 1 v n (L.map bV) F)) :
    Fun Tryd.prog f args I (fun v J => bsR L v J) := by
  intro w hw
  refine (h w hw (Owns.nil I w)).mono ?_
  rintro en w' ⟨v, I', H', he, s, hr⟩
  obtain ⟨J, le, hb, s2⟩ := freeze_row (H := []) s hr
  obtain ⟨a, c, rfl, _, hb⟩ := hb.open
  exact ⟨_, J, [], he, s2, a, c, rfl, hb⟩
theorem row_new (g : Nat) : RowH 5 1 (.slice (some ⟨g, 0, none⟩) 0 0) 0 (([] : List UInt8).map bV) [(g, .cells #[] 5)] :=
  ⟨rfl, .inr ⟨g, 0, #[], rfl, rfl, Nat.le_refl _, by decide, rfl, rfl⟩⟩
theorem row_nilB : RowH 5 1 (.slice none 0 0) 0 (([] : List UInt8).map bV) [] := RowH.nil 5 1
/-- bits -/
def bxor (k a b : Nat) : Nat := (BitVec.ofNat k a ^^^ BitVec.ofNat k b).toNat
def band (k a b : Nat) : Nat := (BitVec.ofNat k a &&& BitVec.ofNat k b).toNat
def bor (k a b : Nat) : Nat := (BitVec.ofNat k a ||| BitVec.ofNat k b).toNat
def bandn (k a b : Nat) : Nat := (BitVec.ofNat k a &&& ~~~ BitVec.ofNat k b).toNat
def bshl (k a n : Nat) : Nat := (a * 2 ^ n) % 2 ^ k
theorem wrapN8 (n : Nat) (h : n < 256) : IntKind.wrap .u8 (n : Int) = (n : Int) := by simp only [IntKind.wrap, IntKind.signed, IntKind.bits]; simp; omega
theorem wrapN64 (n : Nat) (h : n < 18446744073709551616) : IntKind.wrap .u64 (n : Int) = (n : Int) := by simp only [IntKind.wrap, IntKind.signed, IntKind.bits]; simp; omega
theorem run_bit8 {w : World} {t : TypeId} {a b : Nat} :
    (binOp .xor t (.int .u8 ((a : Nat) : Int)) (.int .u8 ((b : Nat) : Int))).run Tryd.prog w = .ok (.int .u8 ((bxor 8 a b : Nat) : Int)) w ∧
    (binOp .and t (.int .u8 ((a : Nat) : Int)) (.int .u8 ((b : Nat) : Int))).run Tryd.prog w = .ok (.int .u8 ((band 8 a b : Nat) : Int)) w ∧
    (binOp .or t (.int .u8 ((a : Nat) : Int)) (.int .u8 ((b : Nat) : Int))).run Tryd.prog w = .ok (.int .u8 ((bor 8 a b : Nat) : Int)) w ∧
    (binOp .andNot t (.int .u8 ((a : Nat) : Int)) (.int .u8 ((b : Nat) : Int))).run Tryd.prog w = .ok (.int .u8 ((bandn 8 a b : Nat) : Int)) w := by
  refine ⟨?_, ?_, ?_, ?_⟩ <;> simp only [binOp, Op.intBits, ne_eq, not_true_eq_false, if_false, IntKind.bits, BitVec.ofInt_natCast, Sem.run_pure] <;> rw [wrapN8 _ (BitVec.isLt _)] <;> rfl
theorem run_bit64 {w : World} {t : TypeId} {a b : Nat} :
    (binOp .xor t (.int .u64 ((a : Nat) : Int)) (.int .u64 ((b : Nat) : Int))).run Tryd.prog w = .ok (.int .u64 ((bxor 64 a b : Nat) : Int)) w ∧
    (binOp .and t (.int .u64 ((a : Nat) : Int)) (.int .u64 ((b : Nat) : Int))).run Tryd.prog w = .ok (.int .u64 ((band 64 a b : Nat) : Int)) w ∧
    (binOp .or t (.int .u64 ((a : Nat) : Int)) (.int .u64 ((b : Nat) : Int))).run Tryd.prog w = .ok (.int .u64 ((bor 64 a b : Nat) : Int)) w ∧
    (binOp .andNot t (.int .u64 ((a : Nat) : Int)) (.int .u64 ((b : Nat) : Int))).run Tryd.prog w = .ok (.int .u64 ((bandn 64 a b : Nat) : Int)) w := by
  refine ⟨?_, ?_, ?_, ?_⟩ <;> simp only [binOp, Op.intBits, ne_eq, not_true_eq_false, if_false, IntKind.bits, BitVec.ofInt_natCast, Sem.run_pure] <;> rw [wrapN64 _ (BitVec.isLt _)] <;> rfl
theorem wrapM {k : IntKind} (hk : k = .u8 ∨ k = .u32 ∨ k = .u64 ∨ k = .u16) (n : Nat) : IntKind.wrap k (n : Int) = ((n % 2 ^ k.bits : Nat) : Int) := by
  rcases hk with rfl | rfl | rfl | rfl <;> simp only [IntKind.wrap, IntKind.signed, IntKind.bits] <;> simp
theorem run_shlU {w : World} {t : TypeId} {a n : Nat} {k yk : IntKind} (hk : k = .u8 ∨ k = .u32 ∨ k = .u64 ∨ k = .u16) : (binOp .shl t (.int k ((a : Nat) : Int)) (.int yk ((n : Nat) : Int))).run Tryd.prog w = .ok (.int k ((bshl k.bits a n : Nat) : Int)) w := by
  have : ¬ ((n : Int) < 0) := by omega
  have e : (Op.shift .shl k ((a : Nat) : Int) yk ((n : Nat) : Int)).run Tryd.prog w = .ok (.int k (k.wrap (((a * 2 ^ min n k.bits : Nat) : Int)))) w := by
    simp [Op.shift, this]
  show (Op.shift .shl k ((a : Nat) : Int) yk ((n : Nat) : Int)).run Tryd.prog w = _
  rw [e, wrapM hk]
  congr 3
  unfold bshl
  by_cases h : n ≤ k.bits
  · rw [Nat.min_eq_left h]
  · rw [Nat.min_eq_right (by omega), Nat.mul_mod_left]
    rw [show n = k.bits + (n - k.bits) by omega, Nat.pow_add, Nat.mul_comm (2 ^ k.bits), ← Nat.mul_assoc, Nat.mul_mod_left]
theorem run_shrU {w : World} {t : TypeId} {a n : Nat} {k yk : IntKind} (ha : a < 2 ^ k.bits) : (binOp .shr t (.int k ((a : Nat) : Int)) (.int yk ((n : Nat) : Int))).run Tryd.prog w = .ok (.int k ((a / 2 ^ n : Nat) : Int)) w := by
  rw [run_shr]
  congr 2
  have : ((a : Nat) : Int).fdiv (2 ^ min n k.bits) = ((a / 2 ^ min n k.bits : Nat) : Int) := by
    rw [Int.fdiv_eq_ediv_of_nonneg _ (Int.pow_nonneg (by omega))]
    simp
  rw [this]
  by_cases h : n ≤ k.bits
  · rw [Nat.min_eq_left h]
  · rw [Nat.min_eq_right (by omega), Nat.div_eq_of_lt ha, Nat.div_eq_of_lt (Nat.lt_of_lt_of_le ha (Nat.pow_le_pow_right (by decide) (by omega)))]
theorem run_conv8 {w : World} {s k : TypeId} {a : Nat} {ks : IntKind} (hd : Tryd.prog.underlying k = some (.int .u8)) (hu : ∃ d, Tryd.prog.underlying s = some d) : (convert s k (.int ks ((a : Nat) : Int))).run Tryd.prog w = .ok (.int .u8 ((a % 256 : Nat) : Int)) w := by
  obtain ⟨d, hu⟩ := hu
  simp only [convert, Sem.run_bind, run_underlying hd, run_underlying hu, Result.andThen_ok]
  cases d <;> simp only [Conv.intToInt, Sem.run_pure] <;> rw [wrapM (.inl rfl)] <;> rfl
end Go.Proofs.YtgmigcmhnmmdkaaDoor

/- The sum, as a function of numbers. -/
set_option linter.all false
set_option maxRecDepth 100000
namespace Go.Proofs.YtgmigcmhnmmdkaaDoor
open Go.RowKit Go.Sep

def crcBit (r : Nat) : Nat := (r / 2) ^^^ (if r % 2 = 1 then 3988292384 else 0)
def crcBits : Nat → Nat → Nat
  | 0, r => r
  | k + 1, r => crcBits k (crcBit r)
def crc : Nat → List UInt8 → Nat
  | r, [] => r
  | r, b :: l => crc (crcBits 8 (r ^^^ b.toNat)) l
theorem xor_lt32 {a b : Nat} (ha : a < 4294967296) (hb : b < 4294967296) : a ^^^ b < 4294967296 :=
  Nat.xor_lt_two_pow (n := 32) ha hb
theorem crcBit_lt {r : Nat} (h : r < 4294967296) : crcBit r < 4294967296 := by
  unfold crcBit
  refine xor_lt32 (by omega) ?_
  split <;> omega
theorem crcBits_lt : ∀ (k : Nat) {r : Nat}, r < 4294967296 → crcBits k r < 4294967296
  | 0, _, h => h
  | k + 1, _, h => crcBits_lt k (crcBit_lt h)
theorem byte_lt (b : UInt8) : b.toNat < 256 := b.toNat_lt
theorem crc_lt : ∀ (l : List UInt8) {r : Nat}, r < 4294967296 → crc r l < 4294967296
  | [], _, h => h
  | b :: l, _, h => crc_lt l (crcBits_lt 8 (xor_lt32 h (by have := byte_lt b; omega)))
/-- the document's step -/
theorem xor_half (r b : Nat) : (r ^^^ b) / 2 = r / 2 ^^^ b / 2 := Nat.xor_div_two
theorem xor_odd (r b : Nat) : (r ^^^ b) % 2 = 1 ↔ r % 2 ≠ b % 2 := by
  have h := Nat.xor_mod_two_pow (a := r) (b := b) (n := 1)
  rw [Nat.pow_one] at h
  rw [h]
  have h1 : r % 2 = 0 ∨ r % 2 = 1 := by omega
  have h2 : b % 2 = 0 ∨ b % 2 = 1 := by omega
  rcases h1 with h1 | h1 <;> rcases h2 with h2 | h2 <;> rw [h1, h2] <;> decide
theorem crcBits_succ (k r : Nat) : crcBits (k + 1) r = crcBits k (crcBit r) := rfl
def le4 (l : List UInt8) : Nat := (l.getD 0 0).toNat + 256 * (l.getD 1 0).toNat + 65536 * (l.getD 2 0).toNat + 16777216 * (l.getD 3 0).toNat
theorem or_add {a b i : Nat} (h : a < 2 ^ i) : a ||| (b * 2 ^ i) = a + b * 2 ^ i := by
  rw [Nat.or_comm, Nat.mul_comm b, ← Nat.two_pow_add_eq_or_of_lt h, Nat.add_comm]
end Go.Proofs.YtgmigcmhnmmdkaaDoor

/- Frames; a byte that is turned is seen. -/
set_option linter.all false
set_option maxRecDepth 100000
namespace Go.Proofs.YtgmigcmhnmmdkaaDoor
theorem ofNat_toNat {n : Nat} (h : n < 256) : (UInt8.ofNat n).toNat = n := UInt8.toNat_ofNat_of_lt' h
theorem xor_inj {a b c : Nat} (e : a ^^^ b = a ^^^ c) : b = c := by
  have h := congrArg (fun x => a ^^^ x) e
  simpa [← Nat.xor_assoc] using h
theorem crcBit_inj {r r' : Nat} (h : r < 4294967296) (h' : r' < 4294967296) (e : crcBit r = crcBit r') : r = r' := by
  have key : ∀ r, r < 4294967296 → (crcBit r).testBit 31 = decide (r % 2 = 1) := fun r h => by
    unfold crcBit
    rw [Nat.testBit_xor, Nat.testBit_lt_two_pow (x := r / 2) (by omega)]
    split
    · rename_i h1; rw [h1]; decide
    · rename_i h1; simp [h1]
  have hp : decide (r % 2 = 1) = decide (r' % 2 = 1) := by rw [← key r h, ← key r' h', e]
  have hq : (r % 2 = 1) = (r' % 2 = 1) := by simpa using hp
  unfold crcBit at e
  by_cases h1 : r % 2 = 1
  · have h2 : r' % 2 = 1 := hq ▸ h1
    rw [if_pos h1, if_pos h2] at e
    have := xor_inj (a := 3988292384) (by simpa [Nat.xor_comm] using e : 3988292384 ^^^ r / 2 = 3988292384 ^^^ r' / 2)
    omega
  · have h2 : ¬ r' % 2 = 1 := fun q => h1 (hq ▸ q)
    rw [if_neg h1, if_neg h2, Nat.xor_zero, Nat.xor_zero] at e
    omega
theorem crcBits_inj : ∀ (k : Nat) {r r' : Nat}, r < 4294967296 → r' < 4294967296 → crcBits k r = crcBits k r' → r = r'
  | 0, _, _, _, _, e => e
  | k + 1, _, _, h, h', e => crcBit_inj h h' (crcBits_inj k (crcBit_lt h) (crcBit_lt h') e)
end Go.Proofs.YtgmigcmhnmmdkaaDoor

/- Bits in a row that are turned are seen. -/
set_option linter.all false
set_option maxRecDepth 100000
namespace Go.Proofs.YtgmigcmhnmmdkaaDoor
theorem xor_add (k : Nat) {a : Nat} (V : Nat) (h : a < 2 ^ k) : a ^^^ (2 ^ k * V) = a + 2 ^ k * V := by
  rw [Nat.add_comm]
  apply Nat.eq_of_testBit_eq
  intro j
  rw [Nat.testBit_xor, Nat.testBit_two_pow_mul_add _ h, Nat.testBit_two_pow_mul]
  by_cases hj : j < k
  · have : ¬ j ≥ k := by omega
    simp [hj, this]
  · have h2 : j ≥ k := by omega
    have h3 : a.testBit j = false := Nat.testBit_lt_two_pow (Nat.lt_of_lt_of_le h (Nat.pow_le_pow_right (by decide) h2))
    simp [hj, h2, h3]
theorem xor4 (a b c d : Nat) : (a ^^^ b) ^^^ (c ^^^ d) = (a ^^^ c) ^^^ (b ^^^ d) := by
  rw [Nat.xor_assoc, Nat.xor_assoc, ← Nat.xor_assoc b, Nat.xor_comm b c, Nat.xor_assoc c]
theorem crcBit_xor (a b : Nat) : crcBit (a ^^^ b) = crcBit a ^^^ crcBit b := by
  unfold crcBit
  rw [xor_half, xor4]
  congr 1
  have h1 : a % 2 = 0 ∨ a % 2 = 1 := by omega
  have h2 : b % 2 = 0 ∨ b % 2 = 1 := by omega
  have h3 := xor_odd a b
  rcases h1 with h1 | h1 <;> rcases h2 with h2 | h2 <;> rw [h1, h2] at h3
  · rw [if_neg (by rw [h3]; omega), if_neg (by omega), if_neg (by omega)]; rfl
  · rw [if_pos (by rw [h3]; omega), if_neg (by omega), if_pos h2]; rfl
  · rw [if_pos (by rw [h3]; omega), if_pos h1, if_neg (by omega)]; rfl
  · rw [if_neg (by rw [h3]; omega), if_pos h1, if_pos h2, Nat.xor_self]
theorem crcBits_xor : ∀ (k a b : Nat), crcBits k (a ^^^ b) = crcBits k a ^^^ crcBits k b
  | 0, _, _ => rfl
  | k + 1, a, b => by rw [crcBits_succ, crcBit_xor, crcBits_xor k]; rfl
theorem crcBits_shift : ∀ (k y : Nat), crcBits k (2 ^ k * y) = y
  | 0, y => by rw [Nat.pow_zero, Nat.one_mul]; rfl
  | k + 1, y => by
    have : crcBit (2 ^ (k + 1) * y) = 2 ^ k * y := by
      unfold crcBit
      have e : 2 ^ (k + 1) * y = 2 * (2 ^ k * y) := by rw [Nat.pow_succ, Nat.mul_comm (2 ^ k) 2, Nat.mul_assoc]
      rw [e, if_neg (by omega), Nat.xor_zero]; omega
    rw [crcBits_succ, this]; exact crcBits_shift k y
theorem crcBits_add : ∀ (j k r : Nat), crcBits (j + k) r = crcBits k (crcBits j r)
  | 0, k, r => by rw [Nat.zero_add]; rfl
  | j + 1, k, r => by rw [Nat.add_right_comm, crcBits_succ, crcBits_add j k]; rfl
def val : List UInt8 → Nat
  | [] => 0
  | b :: l => b.toNat + 256 * val l
theorem val_cons (b : UInt8) (l : List UInt8) : val (b :: l) = b.toNat ^^^ (256 * val l) := (xor_add 8 (val l) (byte_lt b)).symm
theorem crc_val : ∀ (l : List UInt8) (r : Nat), crc r l = crcBits (8 * l.length) (r ^^^ val l)
  | [], r => by show r = crcBits 0 (r ^^^ 0); rw [Nat.xor_zero]; rfl
  | b :: l, r => by
    show crc (crcBits 8 (r ^^^ b.toNat)) l = _
    rw [crc_val l, List.length_cons, Nat.mul_add, Nat.mul_one, Nat.add_comm (8 * l.length), crcBits_add, val_cons, ← Nat.xor_assoc, crcBits_xor 8 (r ^^^ b.toNat), show 256 * val l = 2 ^ 8 * val l from rfl, crcBits_shift]
/-- What was turned so far. -/
def Turned (p q : List UInt8) (a i : Nat) (same : Bool) : Prop := q.length = p.length ∧ ∃ E, E < 2 ^ i ∧ val q = val p ^^^ 2 ^ a * E ∧ (same = false → E ≠ 0)
theorem Turned.start (p : List UInt8) (a : Nat) : Turned p p a 0 true := ⟨rfl, 0, by decide, by rw [Nat.mul_zero, Nat.xor_zero], fun h => by cases h⟩
theorem Turned.skip {p q : List UInt8} {a i : Nat} {s : Bool} (h : Turned p q a i s) : Turned p q a (i + 1) s := by
  obtain ⟨hl, E, h1, h2, h3⟩ := h
  exact ⟨hl, E, Nat.lt_of_lt_of_le h1 (Nat.pow_le_pow_right (by decide) (by omega)), h2, h3⟩
theorem Turned.seen {p q : List UInt8} {a : Nat} (h : Turned p q a 32 false) (ha : a < 8 * p.length) : 4294967295 - crc 4294967295 q ≠ 4294967295 - crc 4294967295 p := by
  obtain ⟨hl, E, h1, h2, h3⟩ := h
  have b1 := crc_lt q (show 4294967295 < 4294967296 by decide)
  have b2 := crc_lt p (show 4294967295 < 4294967296 by decide)
  intro e
  have e2 : crc 4294967295 q = crc 4294967295 p := by omega
  rw [crc_val, crc_val, hl, h2, ← Nat.xor_assoc, crcBits_xor] at e2
  have e3 : crcBits (8 * p.length) (2 ^ a * E) = 0 := xor_inj (a := crcBits (8 * p.length) (4294967295 ^^^ val p)) (by rw [e2, Nat.xor_zero])
  rw [show 8 * p.length = a + (8 * p.length - a) by omega, crcBits_add, crcBits_shift] at e3
  have z : ∀ k, crcBits k 0 = 0 := fun k => by
    induction k with
    | zero => rfl
    | succ k ih => exact ih
  exact h3 rfl (crcBits_inj _ h1 (by decide) (e3.trans (z _).symm))
end Go.Proofs.YtgmigcmhnmmdkaaDoor

/- Bits: as they are put, as numbers have them. -/
set_option linter.all false
set_option maxRecDepth 100000
namespace Go.Proofs.YtgmigcmhnmmdkaaDoor
def bitF (n k i : Nat) : Bool := decide (n / 2 ^ (k - 1 - i) % 2 = 1)
def putBits (n k : Nat) : List Bool := (List.range k).map (bitF n k)
theorem putBits_len (n k : Nat) : (putBits n k).length = k := by simp [putBits]
def numW : Nat → Nat → Nat → List Bool
  | 0, k, n => false :: putBits n k
  | f + 1, k, n => if n / 2 ^ k ≠ 0 then true :: numW f (k + 1) (n - 2 ^ k) else false :: putBits n k
theorem numW_stop {f k n : Nat} (h : n / 2 ^ k = 0) : numW f k n = false :: putBits n k := by
  cases f with
  | zero => rfl
  | succ f => rw [numW, if_neg (fun q => q h)]
theorem numW_go {f k n : Nat} (h : n / 2 ^ k ≠ 0) : numW (f + 1) k n = true :: numW f (k + 1) (n - 2 ^ k) := by rw [numW, if_pos h]
theorem div_lt_pow {n k : Nat} (h : n / 2 ^ k = 0) : n < 2 ^ k := by
  rcases Nat.div_eq_zero_iff.1 h with h | h
  · exact absurd h (Nat.ne_of_gt (Nat.two_pow_pos k))
  · exact h
theorem pow_le_of_div {n k : Nat} (h : n / 2 ^ k ≠ 0) : 2 ^ k ≤ n := by
  rcases Nat.lt_or_ge n (2 ^ k) with q | q
  · exact absurd (Nat.div_eq_of_lt q) h
  · exact q
theorem numW_len : ∀ (f k n : Nat), (numW f k n).length ≤ 1 + 2 * f + k
  | 0, k, n => by simp [numW, putBits_len]; omega
  | f + 1, k, n => by
    by_cases p : n / 2 ^ k = 0
    · rw [numW_stop p]; simp [putBits_len]; omega
    · rw [numW_go p]; have := numW_len f (k + 1) (n - 2 ^ k); simp; omega
def Alike (l m : List Bool) (i : Nat) : Prop := l.length ≤ m.length ∧ ∀ j, j < i → l.getD j false = m.getD j false
theorem Alike.self (l : List Bool) (i : Nat) : Alike l l i := ⟨Nat.le_refl _, fun _ _ => rfl⟩
theorem Alike.step {l m : List Bool} {i : Nat} (h : Alike l m i) (e : l.getD i false = m.getD i false) : Alike l m (i + 1) :=
  ⟨h.1, fun j hj => by
    rcases Nat.lt_or_ge j i with q | q
    · exact h.2 j q
    · rw [show j = i by omega]; exact e⟩
theorem Alike.back {l m : List Bool} {i : Nat} (h : Alike l m (i + 1)) : Alike l m i ∧ l.getD i false = m.getD i false := ⟨⟨h.1, fun j hj => h.2 j (by omega)⟩, h.2 i (by omega)⟩
/-- a bit is added -/
def addB (l : List UInt8) (n x : Nat) : List UInt8 :=
  (if n % 8 = 0 then l ++ [0] else l).set ((if n % 8 = 0 then l ++ [0] else l).length - 1) (UInt8.ofNat (bor 8 ((if n % 8 = 0 then l ++ [0] else l).getD ((if n % 8 = 0 then l ++ [0] else l).length - 1) 0).toNat (bshl 64 x (7 - n % 8) % 256)))
def pkS (s : List UInt8 × Nat) (b : Bool) : List UInt8 × Nat := (addB s.1 s.2 b.toNat, s.2 + 1)
def pk (bs : List Bool) : List UInt8 := (bs.foldl pkS ([], 0)).1
theorem pk_count (bs : List Bool) : ∀ s : List UInt8 × Nat, (bs.foldl pkS s).2 = s.2 + bs.length := by
  induction bs with
  | nil => intro s; rfl
  | cons b bs ih => intro s; rw [List.foldl_cons, ih]; simp [pkS]; omega
theorem pk_snoc (bs : List Bool) (b : Bool) : pk (bs ++ [b]) = addB (pk bs) bs.length b.toNat := by
  unfold pk
  rw [List.foldl_append]
  show addB _ (bs.foldl pkS ([], 0)).2 b.toNat = _
  rw [pk_count]; simp
theorem addB_len (l : List UInt8) (n x : Nat) : (addB l n x).length = if n % 8 = 0 then l.length + 1 else l.length := by
  unfold addB; split <;> simp
theorem pk_len (bs : List Bool) : (pk bs).length = (bs.length + 7) / 8 := by
  induction h : bs.length generalizing bs with
  | zero => rw [List.eq_nil_of_length_eq_zero h]; rfl
  | succ n ih =>
    have hne : bs ≠ [] := fun e => by rw [e] at h; cases h
    obtain ⟨cs, b, rfl⟩ : ∃ cs b, bs = cs ++ [b] := ⟨bs.dropLast, bs.getLast hne, (List.dropLast_concat_getLast hne).symm⟩
    have hc : cs.length = n := by simpa using h
    rw [pk_snoc, addB_len, ih cs hc, hc]
    split <;> omega
theorem band64_one {a : Nat} (h : a < 18446744073709551616) : band 64 a 1 = a % 2 := by
  unfold band
  rw [BitVec.toNat_and, BitVec.toNat_ofNat, BitVec.toNat_ofNat, Nat.mod_eq_of_lt (by omega)]
  exact Nat.and_one_is_mod a
theorem bit_toNat {x : Nat} (h : x < 2) : (decide (x = 1)).toNat = x := by
  have : x = 0 ∨ x = 1 := by omega
  rcases this with rfl | rfl <;> rfl
end Go.Proofs.YtgmigcmhnmmdkaaDoor

/- Bits that are read are those that were written. -/
set_option linter.all false
set_option maxRecDepth 100000
namespace Go.Proofs.YtgmigcmhnmmdkaaDoor
def bitB (l : List UInt8) (j : Nat) : Bool := (l.getD (j / 8) 0).toNat.testBit (7 - j % 8)
def rd (l : List UInt8) (a : Nat) : Nat → Nat
  | 0 => 0
  | i + 1 => 2 * rd l a i + (bitB l (a + i)).toNat
theorem rd_lt (l : List UInt8) (a : Nat) : ∀ i, rd l a i < 2 ^ i
  | 0 => by show 0 < 1; decide
  | i + 1 => by
    have := rd_lt l a i
    have hb : (bitB l (a + i)).toNat ≤ 1 := Bool.toNat_le _
    rw [rd, Nat.pow_succ]; omega
theorem bit_read {l : List UInt8} {j : Nat} : (l.getD (j / 8) 0).toNat / 2 ^ (7 - j % 8) % 2 = (bitB l j).toNat := by
  unfold bitB
  rw [Nat.testBit_eq_decide_div_mod_eq]
  have : (l.getD (j / 8) 0).toNat / 2 ^ (7 - j % 8) % 2 = 0 ∨ (l.getD (j / 8) 0).toNat / 2 ^ (7 - j % 8) % 2 = 1 := by omega
  rcases this with q | q <;> rw [q] <;> rfl
theorem bor64_one {n b : Nat} (hn : n < 9223372036854775808) (hb : b < 2) : bor 64 (bshl 64 n 1) b = 2 * n + b := by
  have e : bshl 64 n 1 = n * 2 ^ 1 := by unfold bshl; omega
  unfold bor
  rw [e, BitVec.toNat_or, BitVec.toNat_ofNat, BitVec.toNat_ofNat, Nat.mod_eq_of_lt (by omega), Nat.mod_eq_of_lt (by omega), Nat.or_comm, or_add (i := 1) (by omega)]
  omega
end Go.Proofs.YtgmigcmhnmmdkaaDoor

/- Numbers in bytes of seven bits. -/
set_option linter.all false
set_option maxRecDepth 100000
namespace Go.Proofs.YtgmigcmhnmmdkaaDoor
def encF : Nat → Nat → List UInt8
  | 0, n => [UInt8.ofNat (n % 256)]
  | f + 1, n => if n < 128 then [UInt8.ofNat (n % 256)] else UInt8.ofNat (n % 128 + 128) :: encF f (n / 128)
theorem encF_stop {f n : Nat} (h : n < 128) : encF f n = [UInt8.ofNat (n % 256)] := by
  cases f with
  | zero => rfl
  | succ f => rw [encF, if_pos h]
theorem encF_go {f n : Nat} (h : ¬ n < 128) : encF (f + 1) n = UInt8.ofNat (n % 128 + 128) :: encF f (n / 128) := by rw [encF, if_neg h]
theorem m_pos {m n : Nat} (h : n < 2 ^ (m * 7 + 1)) (hn : ¬ n < 128) : 1 ≤ m := by
  cases m with
  | zero => rw [Nat.zero_mul, Nat.zero_add, Nat.pow_one] at h; omega
  | succ m => omega
theorem bandn_more : ∀ x : Fin 256, bandn 8 x.1 128 = x.1 % 128 := by decide
theorem div_pow {n m : Nat} (h : n < 2 ^ ((m + 1) * 7 + 1)) : n / 128 < 2 ^ (m * 7 + 1) := by
  apply Nat.div_lt_of_lt_mul
  have e : (m + 1) * 7 + 1 = 7 + (m * 7 + 1) := by omega
  rw [e, Nat.pow_add] at h
  exact h
/-- What has been read up to place i. -/
structure Dec (l rest : List UInt8) (n i acc : Nat) : Prop where
  le : i ≤ 9
  here : l.drop i = encF (9 - i) (n / 2 ^ (i * 7)) ++ rest
  acc : acc = n % 2 ^ (i * 7)
  lt : n / 2 ^ (i * 7) < 2 ^ ((9 - i) * 7 + 1)
  len : (encF 9 n).length = i + (encF (9 - i) (n / 2 ^ (i * 7))).length
  pos : i = 0 ∨ 1 ≤ n / 2 ^ (i * 7)
theorem Dec.start {l rest : List UInt8} {n : Nat} (h : l = encF 9 n ++ rest) (hn : n < 18446744073709551616) : Dec l rest n 0 0 :=
  ⟨by omega, by rw [h]; simp, by rw [Nat.zero_mul, Nat.pow_zero, Nat.mod_one], by rw [Nat.zero_mul, Nat.pow_zero, Nat.div_one]; exact hn, by simp, .inl rfl⟩
theorem Dec.byte {l rest : List UInt8} {n i acc : Nat} (h : Dec l rest n i acc) : (l.getD i 0).toNat = if n / 2 ^ (i * 7) < 128 then n / 2 ^ (i * 7) else n / 2 ^ (i * 7) % 128 + 128 := by
  have e : l.getD i 0 = (l.drop i).getD 0 0 := by rw [List.getD_eq_getElem?_getD, List.getD_eq_getElem?_getD, List.getElem?_drop, Nat.add_zero]
  rw [e, h.here]
  by_cases hx : n / 2 ^ (i * 7) < 128
  · rw [if_pos hx, encF_stop hx]
    generalize n / 2 ^ (i * 7) = x at hx
    simp only [List.cons_append, List.getD_cons_zero]
    rw [ofNat_toNat (by omega)]; omega
  · have hm := m_pos h.lt hx
    obtain ⟨k, hk⟩ : ∃ k, 9 - i = k + 1 := ⟨9 - i - 1, by omega⟩
    rw [if_neg hx, hk, encF_go hx]
    generalize n / 2 ^ (i * 7) = x
    simp only [List.cons_append, List.getD_cons_zero]
    rw [ofNat_toNat (by omega)]
theorem dec_sum {n i b : Nat} (hn : n < 18446744073709551616) (hb : b % 128 = n / 2 ^ (i * 7) % 128) (hb2 : b < 256) : bor 64 (n % 2 ^ (i * 7)) (bshl 64 (bandn 8 b 128) (i * 7)) = n % 2 ^ ((i + 1) * 7) := by
  have hp := Nat.two_pow_pos (i * 7)
  have e1 : bandn 8 b 128 = b % 128 := bandn_more ⟨b, hb2⟩
  have h1 : n / 2 ^ (i * 7) % 128 * 2 ^ (i * 7) ≤ n := Nat.le_trans (Nat.mul_le_mul_right _ (Nat.mod_le _ _)) (Nat.div_mul_le_self n _)
  have e2 : bshl 64 (b % 128) (i * 7) = n / 2 ^ (i * 7) % 128 * 2 ^ (i * 7) := by
    unfold bshl; rw [hb]; exact Nat.mod_eq_of_lt (Nat.lt_of_le_of_lt h1 hn)
  have h2 : n % 2 ^ (i * 7) ≤ n := Nat.mod_le _ _
  have e3 : n % 2 ^ (i * 7) % 2 ^ 64 = n % 2 ^ (i * 7) := Nat.mod_eq_of_lt (Nat.lt_of_le_of_lt h2 hn)
  have e4 : n / 2 ^ (i * 7) % 128 * 2 ^ (i * 7) % 2 ^ 64 = n / 2 ^ (i * 7) % 128 * 2 ^ (i * 7) := Nat.mod_eq_of_lt (Nat.lt_of_le_of_lt h1 hn)
  rw [e1, e2]
  unfold bor
  rw [BitVec.toNat_or, BitVec.toNat_ofNat, BitVec.toNat_ofNat, e3, e4, or_add (Nat.mod_lt _ hp), show (i + 1) * 7 = i * 7 + 7 by omega, Nat.pow_add, Nat.mod_mul, Nat.mul_comm (2 ^ (i * 7))]
theorem Dec.step {l rest : List UInt8} {n i acc : Nat} (hn : n < 18446744073709551616) (h : Dec l rest n i acc) (hb : 128 ≤ (l.getD i 0).toNat) : Dec l rest n (i + 1) (bor 64 acc (bshl 64 (bandn 8 (l.getD i 0).toNat 128) (i * 7))) := by
  have hbyte := h.byte
  have hx : ¬ n / 2 ^ (i * 7) < 128 := fun q => by rw [if_pos q] at hbyte; omega
  rw [if_neg hx] at hbyte
  have hm := m_pos h.lt hx
  obtain ⟨k, hk⟩ : ∃ k, 9 - i = k + 1 := ⟨9 - i - 1, by omega⟩
  have hk2 : 9 - (i + 1) = k := by omega
  have e : n / 2 ^ ((i + 1) * 7) = n / 2 ^ (i * 7) / 128 := by rw [Nat.div_div_eq_div_mul, show (i + 1) * 7 = i * 7 + 7 by omega, Nat.pow_add]
  have hh := h.here
  have hl := h.len
  have hlt := h.lt
  rw [hk, encF_go hx] at hh hl
  rw [hk] at hlt
  refine ⟨by omega, ?_, ?_, ?_, ?_, .inr ?_⟩
  · rw [hk2, e, ← List.drop_drop, hh]; rfl
  · rw [h.acc]; exact dec_sum hn (by rw [hbyte]; generalize n / 2 ^ (i * 7) = x; omega) (byte_lt _)
  · rw [hk2, e]; exact div_pow hlt
  · rw [hk2, e]; simp only [List.length_cons] at hl; omega
  · rw [e]; generalize n / 2 ^ (i * 7) = x at hx; omega
theorem Dec.stop {l rest : List UInt8} {n i acc : Nat} (hn : n < 18446744073709551616) (h : Dec l rest n i acc) (hb : ¬ 128 ≤ (l.getD i 0).toNat) : bor 64 acc (bshl 64 (bandn 8 (l.getD i 0).toNat 128) (i * 7)) = n ∧ i + 1 = (encF 9 n).length ∧ ¬ (0 < i ∧ (l.getD i 0).toNat = 0) ∧ ¬ (i = 9 ∧ 1 < (l.getD i 0).toNat) := by
  have hbyte := h.byte
  have hx : n / 2 ^ (i * 7) < 128 := by
    by_cases q : n / 2 ^ (i * 7) < 128
    · exact q
    · rw [if_neg q] at hbyte; omega
  rw [if_pos hx] at hbyte
  refine ⟨?_, ?_, ?_, ?_⟩
  · rw [h.acc, dec_sum hn (by rw [hbyte]) (byte_lt _)]
    apply Nat.mod_eq_of_lt
    rw [show (i + 1) * 7 = i * 7 + 7 by omega, Nat.pow_add]
    exact (Nat.div_lt_iff_lt_mul (Nat.two_pow_pos _)).1 hx |> fun q => by rw [Nat.mul_comm]; exact q
  · have := h.len; rw [encF_stop hx] at this; simp at this; omega
  · rintro ⟨h0, hz⟩
    rw [hbyte] at hz
    rcases h.pos with q | q
    · omega
    · generalize n / 2 ^ (i * 7) = x at hz q; omega
  · rintro ⟨h9, h1⟩
    have := h.lt
    subst h9
    rw [hbyte] at h1
    simp at this h1
    omega
end Go.Proofs.YtgmigcmhnmmdkaaDoor

/- Bits that are read, the bits that go with them, and the error. -/
set_option linter.all false
set_option maxRecDepth 100000
namespace Go.Proofs.YtgmigcmhnmmdkaaDoor
def clampN (z : Int) : Nat := min z.toNat 64
theorem clampN_le (z : Int) : clampN z ≤ 64 := by unfold clampN; omega
def geV (l : List UInt8) (p e k : Nat) : Nat := if e = 0 ∧ k ≤ l.length * 8 - p then rd l p k else 0
def geD (l : List UInt8) (p e k : Nat) : Nat := if e = 0 ∧ k ≤ l.length * 8 - p then k else 0
def geE (l : List UInt8) (p e k : Nat) : Nat := if e = 0 ∧ l.length * 8 - p < k then 6 else e
end Go.Proofs.YtgmigcmhnmmdkaaDoor

/- Bits that are read of a list of bits. -/
set_option linter.all false
set_option maxRecDepth 100000
namespace Go.Proofs.YtgmigcmhnmmdkaaDoor
def rdB (bs : List Bool) : Nat → Nat
  | 0 => 0
  | i + 1 => 2 * rdB bs i + (bs.getD i false).toNat
theorem rdB_lt (bs : List Bool) : ∀ i, rdB bs i < 2 ^ i
  | 0 => by show 0 < 1; decide
  | i + 1 => by
    have := rdB_lt bs i
    have hb := Bool.toNat_le (bs.getD i false)
    rw [rdB, Nat.pow_succ]; omega
theorem rdB_63 {bs : List Bool} {i k : Nat} (h : i < k) (hk : k ≤ 64) : rdB bs i < 9223372036854775808 :=
  Nat.lt_of_lt_of_le (rdB_lt bs i) (show 2 ^ i ≤ 2 ^ 63 from Nat.pow_le_pow_right (by decide) (by omega))
theorem getD_takeB {bs : List Bool} {i k : Nat} (h : i < k) : (bs.take k).getD i false = bs.getD i false := by
  rw [List.getD_eq_getElem?_getD, List.getD_eq_getElem?_getD, List.getElem?_take, if_pos h]
theorem rdB_one {bs : List Bool} {i k : Nat} (h : i < k) (hb : (bs.take k).getD i false = true) : rdB bs i * 2 + 1 = rdB bs (i + 1) := by
  rw [getD_takeB h] at hb; rw [rdB, hb]; simp; omega
theorem rdB_nil {bs : List Bool} {i k : Nat} (h : i < k) (hb : (bs.take k).getD i false = false) : rdB bs i * 2 = rdB bs (i + 1) := by
  rw [getD_takeB h] at hb; rw [rdB, hb]; simp; omega
def bgV (bs : List Bool) (e k : Nat) : Nat := if e = 0 ∧ k ≤ bs.length then rdB bs k else 0
def bgD (bs : List Bool) (e k : Nat) : Nat := if e = 0 ∧ k ≤ bs.length then k else 0
def bgE (bs : List Bool) (e k : Nat) : Nat := if e = 0 ∧ bs.length < k then 6 else e
/-- the bits of bytes -/
def bitsL (l : List UInt8) : List Bool := (List.range (l.length * 8)).map fun i => bitB l i
theorem bitsL_len (l : List UInt8) : (bitsL l).length = l.length * 8 := by unfold bitsL; simp
theorem bitsL_get {l : List UInt8} {p i : Nat} (h : p + i < l.length * 8) : ((bitsL l).drop p).getD i false = bitB l (p + i) := by
  rw [List.getD_eq_getElem?_getD, List.getElem?_drop]
  unfold bitsL
  rw [List.getElem?_map, List.getElem?_range h]; rfl
theorem rdB_rd {l : List UInt8} {p : Nat} : ∀ {i : Nat}, p + i ≤ l.length * 8 → rdB ((bitsL l).drop p) i = rd l p i
  | 0, _ => rfl
  | i + 1, h => by rw [rdB, rd, rdB_rd (i := i) (by omega), bitsL_get (by omega)]
theorem dropB_len {l : List UInt8} {p : Nat} : ((bitsL l).drop p).length = l.length * 8 - p := by rw [List.length_drop, bitsL_len]
end Go.Proofs.YtgmigcmhnmmdkaaDoor

/- The number in few bits that a list of bits begins with, whatever it is. -/
set_option linter.all false
set_option maxRecDepth 100000
namespace Go.Proofs.YtgmigcmhnmmdkaaDoor
structure RunB (bs : List Bool) (j : Nat) : Prop where
  le : j ≤ 62
  len : j ≤ bs.length
  ones : ∀ i, i < j → bs.getD i false = true
  stop : j = 62 ∨ j = bs.length ∨ bs.getD j false = false
theorem RunB.uniq {bs : List Bool} {j k : Nat} (h : RunB bs j) (h' : RunB bs k) : j = k := by
  rcases Nat.lt_trichotomy j k with q | q | q
  · have h1 := h'.ones j q; rcases h.stop with r | r | r
    · have := h'.le; omega
    · have := h'.len; omega
    · rw [h1] at r; cases r
  · exact q
  · have h1 := h.ones k q; rcases h'.stop with r | r | r
    · have := h.le; omega
    · have := h.len; omega
    · rw [h1] at r; cases r
open Classical in
noncomputable def runB (bs : List Bool) : Nat := if h : ∃ k, RunB bs k then Classical.choose h else 0
theorem runB_eq {bs : List Bool} {k : Nat} (h : RunB bs k) : runB bs = k := by
  unfold runB
  have hx : ∃ k, RunB bs k := ⟨k, h⟩
  rw [dif_pos hx]
  exact (Classical.choose_spec hx).uniq h
/-- the number behind j ones -/
def fewV (bs : List Bool) (j : Nat) : Nat := 2 ^ (j + 2) - 4 + rdB (bs.drop (j + 1)) (j + 2)
def fewBad (bs : List Bool) (j : Nat) : Prop := bs.length < j + 1 + (j + 2) ∨ bs.getD j false = true ∨ 18446744073709551616 ≤ fewV bs j
instance (bs : List Bool) (j : Nat) : Decidable (fewBad bs j) := by unfold fewBad; infer_instance
noncomputable def bnV (bs : List Bool) (e : Nat) : Nat := if e = 0 ∧ ¬ fewBad bs (runB bs) then fewV bs (runB bs) else 0
noncomputable def bnD (bs : List Bool) (e : Nat) : Nat := if e = 0 ∧ ¬ fewBad bs (runB bs) then runB bs + 1 + (runB bs + 2) else 0
noncomputable def bnE (bs : List Bool) (e : Nat) : Nat := if e = 0 ∧ fewBad bs (runB bs) then 6 else e
theorem bn_err {bs : List Bool} {e : Nat} (h : e ≠ 0) : bnV bs e = 0 ∧ bnD bs e = 0 ∧ bnE bs e = e := by
  unfold bnV bnD bnE; rw [if_neg (fun q => h q.1), if_neg (fun q => h q.1), if_neg (fun q => h q.1)]; exact ⟨rfl, rfl, rfl⟩
theorem bn_bad {bs : List Bool} {e j : Nat} (h : e = 0) (hr : RunB bs j) (hb : fewBad bs j) : bnV bs e = 0 ∧ bnD bs e = 0 ∧ bnE bs e = 6 := by
  unfold bnV bnD bnE; rw [runB_eq hr, if_neg (fun q => q.2 hb), if_neg (fun q => q.2 hb), if_pos ⟨h, hb⟩]; exact ⟨rfl, rfl, rfl⟩
theorem bn_good {bs : List Bool} {e j : Nat} (h : e = 0) (hr : RunB bs j) (hb : ¬ fewBad bs j) : bnV bs e = fewV bs j ∧ bnD bs e = j + 1 + (j + 2) ∧ bnE bs e = e := by
  unfold bnV bnD bnE; rw [runB_eq hr, if_pos ⟨h, hb⟩, if_pos ⟨h, hb⟩, if_neg (fun q => hb q.2)]; exact ⟨rfl, rfl, rfl⟩
theorem pow_base {j : Nat} (h : j + 2 < 64) : 2 ^ (j + 2) ≤ 9223372036854775808 ∧ 4 ≤ 2 ^ (j + 2) := by
  refine ⟨show 2 ^ (j + 2) ≤ 2 ^ 63 from Nat.pow_le_pow_right (by decide) (by omega), show 2 ^ 2 ≤ 2 ^ (j + 2) from Nat.pow_le_pow_right (by decide) (by omega)⟩
theorem base_step {j : Nat} : 2 ^ (j + 2) - 4 + 2 ^ (j + 2) = 2 ^ (j + 1 + 2) - 4 := by
  have h : 4 ≤ 2 ^ (j + 2) := show 2 ^ 2 ≤ 2 ^ (j + 2) from Nat.pow_le_pow_right (by decide) (by omega)
  have e : 2 ^ (j + 1 + 2) = 2 ^ (j + 2) * 2 := Nat.pow_succ ..; rw [e]; generalize 2 ^ (j + 2) = x at h ⊢; omega
theorem base_lt {j : Nat} (h : j ≤ 62) : 2 ^ (j + 2) - 4 < 18446744073709551616 := by
  have h1 : 2 ^ (j + 2) ≤ 2 ^ 64 := Nat.pow_le_pow_right (by decide) (by omega)
  have : (2 : Nat) ^ 64 = 18446744073709551616 := by decide
  have := Nat.two_pow_pos (j + 2)
  omega
theorem wrapU_mod {z : Int} : IntKind.wrap .u64 z = z % 18446744073709551616 := by
  simp only [IntKind.wrap, IntKind.signed, IntKind.bits]; rfl
/-- what has been read of the ones -/
structure OnesB (bs : List Bool) (j : Nat) : Prop where
  le : j ≤ 62
  len : j ≤ bs.length
  ones : ∀ i, i < j → bs.getD i false = true
theorem OnesB.start (bs : List Bool) : OnesB bs 0 := ⟨by omega, by omega, fun i h => by omega⟩
theorem head_drop {bs : List Bool} {j : Nat} : (bs.drop j).getD 0 false = bs.getD j false := by
  rw [List.getD_eq_getElem?_getD, List.getD_eq_getElem?_getD, List.getElem?_drop, Nat.add_zero]
theorem OnesB.step {bs : List Bool} {j : Nat} (h : OnesB bs j) (h1 : 0 < (bs.drop j).length) (h2 : (bs.drop j).getD 0 false = true) (h3 : j + 2 < 64) : OnesB bs (j + 1) := by
  rw [List.length_drop] at h1
  refine ⟨by omega, by omega, fun i hi => ?_⟩
  by_cases q : i = j
  · subst q; rw [head_drop] at h2; exact h2
  · exact h.ones i (by omega)
theorem OnesB.run {bs : List Bool} {j : Nat} (h : OnesB bs j) (hs : ¬ 0 < (bs.drop j).length ∨ (bs.drop j).getD 0 false = false ∨ ¬ j + 2 < 64) : RunB bs j := by
  have h1 := h.le; have h2 := h.len
  refine ⟨h1, h2, h.ones, ?_⟩
  rw [List.length_drop, head_drop] at hs
  rcases hs with q | q | q
  · exact .inr (.inl (by omega))
  · exact .inr (.inr q)
  · exact .inl (by omega)
theorem mid_rdB {bs : List Bool} {j m : Nat} : ∀ {i : Nat}, i ≤ m → rdB (((bs.drop j).take (1 + m)).drop 1) i = rdB (bs.drop (j + 1)) i
  | 0, _ => rfl
  | i + 1, h => by
    rw [rdB, rdB, mid_rdB (by omega)]
    congr 2
    rw [List.getD_eq_getElem?_getD, List.getD_eq_getElem?_getD, List.getElem?_drop, List.getElem?_take, if_pos (by omega), List.getElem?_drop, List.getElem?_drop, show j + (1 + i) = j + 1 + i by omega]
theorem rdB_one' {bs : List Bool} {i : Nat} (hb : bs.getD i false = true) : rdB bs i * 2 + 1 = rdB bs (i + 1) := by
  rw [rdB, hb]; simp; omega
theorem rdB_nil' {bs : List Bool} {i : Nat} (hb : bs.getD i false = false) : rdB bs i * 2 = rdB bs (i + 1) := by
  rw [rdB, hb]; simp; omega
end Go.Proofs.YtgmigcmhnmmdkaaDoor

/- The program's number in few bits. -/
set_option linter.all false
set_option maxRecDepth 100000
namespace Go.Proofs.YtgmigcmhnmmdkaaDoor
structure OnesL (l : List UInt8) (p j : Nat) : Prop where
  len : p + j ≤ l.length * 8
  ones : ∀ i, i < j → bitB l (p + i) = true
theorem OnesL.start {l : List UInt8} {p : Nat} (h : p ≤ l.length * 8) : OnesL l p 0 := ⟨by omega, fun i hi => by omega⟩
theorem rd_bit {l : List UInt8} {a : Nat} : rd l a 1 = (bitB l a).toNat := by simp [rd]
theorem bit_one {l : List UInt8} {a : Nat} (h : rd l a 1 = 1) : bitB l a = true := by rw [rd_bit] at h; cases hb : bitB l a <;> simp [hb] at h ⊢
theorem bit_nil {l : List UInt8} {a : Nat} (h : ¬ rd l a 1 = 1) : bitB l a = false := by rw [rd_bit] at h; cases hb : bitB l a <;> simp [hb] at h ⊢
theorem OnesL.step {l : List UInt8} {p j : Nat} (h : OnesL l p j) (h1 : p + j + 1 ≤ l.length * 8) (hb : bitB l (p + j) = true) : OnesL l p (j + 1) := by
  refine ⟨by omega, fun i hi => ?_⟩
  by_cases q : i = j
  · subst q; exact hb
  · exact h.ones i (by omega)
theorem OnesL.get {l : List UInt8} {p j i : Nat} (h : OnesL l p j) (hi : i < j) : ((bitsL l).drop p).getD i false = true := by
  have := h.len; rw [bitsL_get (by omega)]; exact h.ones i hi
/-- more than 62 ones, or no more bits, or too few: an error -/
theorem OnesL.far {l : List UInt8} {p j : Nat} (h : OnesL l p j) (hj : 62 < j) : RunB ((bitsL l).drop p) 62 ∧ fewBad ((bitsL l).drop p) 62 := by
  have hl := h.len
  refine ⟨⟨by omega, by rw [dropB_len]; omega, fun i hi => h.get (by omega), .inl rfl⟩, .inr (.inl (h.get (by omega)))⟩
theorem OnesL.out {l : List UInt8} {p j : Nat} (h : OnesL l p j) (hj : j ≤ 62) (ho : ¬ p + j + 1 ≤ l.length * 8) : RunB ((bitsL l).drop p) j ∧ fewBad ((bitsL l).drop p) j := by
  have hl := h.len
  refine ⟨⟨hj, by rw [dropB_len]; omega, fun i hi => h.get hi, .inr (.inl (by rw [dropB_len]; omega))⟩, .inl (by rw [dropB_len]; omega)⟩
theorem OnesL.run {l : List UInt8} {p j : Nat} (h : OnesL l p j) (hj : j ≤ 62) (h1 : p + j + 1 ≤ l.length * 8) (hb : bitB l (p + j) = false) : RunB ((bitsL l).drop p) j := by
  refine ⟨hj, by rw [dropB_len]; omega, fun i hi => h.get hi, .inr (.inr (by rw [bitsL_get (by omega)]; exact hb))⟩
theorem few_rd {l : List UInt8} {p j : Nat} (h : p + j + 1 + (j + 2) ≤ l.length * 8) : fewV ((bitsL l).drop p) j = 2 ^ (j + 2) - 4 + rd l (p + j + 1) (j + 2) := by
  unfold fewV; rw [List.drop_drop, show p + (j + 1) = p + j + 1 by omega, rdB_rd h]
theorem bshl_one {k : Nat} : bshl 64 1 k = 2 ^ k % 18446744073709551616 := by unfold bshl; rw [Nat.one_mul]
theorem ge6 {l : List UInt8} {p k : Nat} : geE l p 6 k = 6 := by unfold geE; rw [if_neg (by omega)]
theorem geE_bad {l : List UInt8} {q k : Nat} (h : geE l q 0 k ≠ 0) : l.length * 8 - q < k := by
  unfold geE at h; split at h
  · rename_i hh; exact hh.2
  · exact absurd rfl h
theorem geE_ok {l : List UInt8} {q k : Nat} (h : ¬ geE l q 0 k ≠ 0) : k ≤ l.length * 8 - q ∧ geV l q 0 k = rd l q k ∧ geD l q 0 k = k ∧ geE l q 0 k = 0 := by
  unfold geE at h
  have hk : k ≤ l.length * 8 - q := by
    by_cases hh : 0 = 0 ∧ l.length * 8 - q < k
    · rw [if_pos hh] at h; exact absurd (by decide) h
    · omega
  unfold geV geD geE
  rw [if_pos ⟨rfl, hk⟩, if_pos ⟨rfl, hk⟩, if_neg (by omega)]
  exact ⟨hk, rfl, rfl, rfl⟩
theorem clampN_nat {k : Nat} (h : k ≤ 64) : clampN ((k : Nat) : Int) = k := by unfold clampN; omega
section
variable {l : List UInt8} {p j : Nat}
theorem num_far (h : OnesL l p j) (hj : 64 < j + 2) : bnV ((bitsL l).drop p) 0 = 0 ∧ bnD ((bitsL l).drop p) 0 = 0 ∧ bnE ((bitsL l).drop p) 0 = 6 := by
  obtain ⟨h1, h2⟩ := h.far (by omega)
  exact bn_bad rfl h1 h2
theorem num_out (h : OnesL l p j) (ho : ¬ p + j + 1 ≤ l.length * 8) : bnV ((bitsL l).drop p) 0 = 0 ∧ bnD ((bitsL l).drop p) 0 = 0 ∧ bnE ((bitsL l).drop p) 0 = 6 := by
  by_cases hj : 62 < j
  · exact num_far h (by omega)
  · obtain ⟨h1, h2⟩ := h.out (by omega) ho
    exact bn_bad rfl h1 h2
theorem num_short (h : OnesL l p j) (h1 : p + j + 1 ≤ l.length * 8) (hb : bitB l (p + j) = false) (hg : geE l (p + j + 1) 0 (clampN ((j + 2 : Nat) : Int)) ≠ 0) : bnV ((bitsL l).drop p) 0 = 0 ∧ bnD ((bitsL l).drop p) 0 = 0 ∧ bnE ((bitsL l).drop p) 0 = 6 := by
  by_cases hj : 62 < j
  · exact num_far h (by omega)
  · have hs := geE_bad hg
    rw [clampN_nat (by omega)] at hs
    exact bn_bad rfl (h.run (by omega) h1 hb) (.inl (by rw [dropB_len]; omega))
theorem num_over (h : OnesL l p j) (h1 : p + j + 1 ≤ l.length * 8) (hb : bitB l (p + j) = false) (hg : ¬ geE l (p + j + 1) 0 (clampN ((j + 2 : Nat) : Int)) ≠ 0) (hj : ¬ 64 < j + 2)
    (ho : IntKind.wrap .u64 (IntKind.wrap .u64 (((bshl 64 1 (j + 2) : Nat) : Int) - ((4 : Nat) : Int)) + ((geV l (p + j + 1) 0 (clampN ((j + 2 : Nat) : Int)) : Nat) : Int)) < IntKind.wrap .u64 (((bshl 64 1 (j + 2) : Nat) : Int) - ((4 : Nat) : Int))) : bnV ((bitsL l).drop p) 0 = 0 ∧ bnD ((bitsL l).drop p) 0 = 0 ∧ bnE ((bitsL l).drop p) 0 = 6 := by
  obtain ⟨g1, g2, g3, g4⟩ := geE_ok hg
  rw [clampN_nat (by omega)] at g1 g2
  refine bn_bad rfl (h.run (by omega) h1 hb) (.inr (.inr ?_))
  rw [few_rd (by omega)]
  rw [clampN_nat (by omega), g2, wrapU_mod, wrapU_mod, bshl_one] at ho
  have hr := rd_lt l (p + j + 1) (j + 2)
  have hx : 2 ^ (j + 2) ≤ 2 ^ 64 := Nat.pow_le_pow_right (by decide) (by omega)
  have h4 : 4 ≤ 2 ^ (j + 2) := show 2 ^ 2 ≤ 2 ^ (j + 2) from Nat.pow_le_pow_right (by decide) (by omega)
  have e64 : (2 : Nat) ^ 64 = 18446744073709551616 := by decide
  rw [e64] at hx
  generalize 2 ^ (j + 2) = X at *
  generalize rd l (p + j + 1) (j + 2) = R at *
  omega
theorem num_good (h : OnesL l p j) (h1 : p + j + 1 ≤ l.length * 8) (hb : bitB l (p + j) = false) (hg : ¬ geE l (p + j + 1) 0 (clampN ((j + 2 : Nat) : Int)) ≠ 0) (hj : ¬ 64 < j + 2)
    (ho : ¬ IntKind.wrap .u64 (IntKind.wrap .u64 (((bshl 64 1 (j + 2) : Nat) : Int) - ((4 : Nat) : Int)) + ((geV l (p + j + 1) 0 (clampN ((j + 2 : Nat) : Int)) : Nat) : Int)) < IntKind.wrap .u64 (((bshl 64 1 (j + 2) : Nat) : Int) - ((4 : Nat) : Int))) :
    IntKind.wrap .u64 (IntKind.wrap .u64 (((bshl 64 1 (j + 2) : Nat) : Int) - ((4 : Nat) : Int)) + ((geV l (p + j + 1) 0 (clampN ((j + 2 : Nat) : Int)) : Nat) : Int)) = ((bnV ((bitsL l).drop p) 0 : Nat) : Int) ∧
    ∀ (r : Nat) (v : Value), ((r, Obj.cells #[v, .int .i64 ((p + j + 1 + geD l (p + j + 1) 0 (clampN ((j + 2 : Nat) : Int)) : Nat) : Int), .int .i64 ((geE l (p + j + 1) 0 (clampN ((j + 2 : Nat) : Int)) : Nat) : Int)] 74) : Nat × Obj) = (r, .cells #[v, .int .i64 ((p + bnD ((bitsL l).drop p) 0 : Nat) : Int), .int .i64 ((bnE ((bitsL l).drop p) 0 : Nat) : Int)] 74) := by
  obtain ⟨g1, g2, g3, g4⟩ := geE_ok hg
  rw [clampN_nat (by omega)] at g1 g2 g3 g4
  rw [clampN_nat (by omega), g2, wrapU_mod, wrapU_mod, bshl_one] at ho
  have hr := rd_lt l (p + j + 1) (j + 2)
  have hx : 2 ^ (j + 2) ≤ 2 ^ 64 := Nat.pow_le_pow_right (by decide) (by omega)
  have h4 : 4 ≤ 2 ^ (j + 2) := show 2 ^ 2 ≤ 2 ^ (j + 2) from Nat.pow_le_pow_right (by decide) (by omega)
  have e64 : (2 : Nat) ^ 64 = 18446744073709551616 := by decide
  rw [e64] at hx
  have hrun := h.run (by omega) h1 hb
  have hfv := few_rd (l := l) (p := p) (j := j) (by omega)
  have hnb : ¬ fewBad ((bitsL l).drop p) j := by
    rintro (q | q | q)
    · rw [dropB_len] at q; omega
    · rw [bitsL_get (by omega), hb] at q; cases q
    · rw [hfv] at q
      generalize 2 ^ (j + 2) = X at *
      generalize rd l (p + j + 1) (j + 2) = R at *
      omega
  obtain ⟨b1, b2, b3⟩ := bn_good (e := 0) rfl hrun hnb
  rw [clampN_nat (by omega), g2, g3, g4, b1, b2, b3, hfv]
  refine ⟨?_, fun r v => by rw [show p + j + 1 + (j + 2) = p + (j + 1 + (j + 2)) by omega]⟩
  rw [wrapU_mod, wrapU_mod, bshl_one]
  generalize 2 ^ (j + 2) = X at *
  generalize rd l (p + j + 1) (j + 2) = R at *
  omega
end
end Go.Proofs.YtgmigcmhnmmdkaaDoor

/- Numbers of 8 and 32 bits; slices of literals; a marked block. -/
set_option linter.all false
set_option maxRecDepth 100000
namespace Go.Proofs.YtgmigcmhnmmdkaaDoor
open Go.RowKit Go.Sep

theorem nat_quoI {a b : Nat} (h : a < 9223372036854775808) : IntKind.wrap .i64 (Int.tdiv (a : Int) (b : Int)) = ((a / b : Nat) : Int) := by
  have e : Int.tdiv (a : Int) (b : Int) = ((a / b : Nat) : Int) := rfl
  have : a / b ≤ a := Nat.div_le_self a b
  rw [e]
  generalize a / b = q at this
  exact nat_wrapI (by omega)
theorem under5 : Tryd.prog.underlying 5 = some (.int .u8) := by kernel_rfl
theorem run_eqnil {w : World} {a : Option Addr} {n c : Nat} : (binOp .eql 22 (.slice a n c) (.slice none 0 0)).run Tryd.prog w = .ok (.bool a.isNone) w := by
  cases a <;> kernel_rfl
theorem leMono {A I J : IM} (le : I.Le J) (h : A.Le I) : A.Le J := h.trans le
end Go.Proofs.YtgmigcmhnmmdkaaDoor

/- Rows of bytes that grow. -/
set_option linter.all false
set_option maxRecDepth 100000
namespace Go.Proofs.YtgmigcmhnmmdkaaDoor
open Go.RowKit Go.Sep
theorem row_snoc {v : Value} {k : Nat} {x y : List UInt8} {nw : List Value} {F : List OB} (h : RowH 5 1 v k (x.map bV ++ nw) F) (e : nw = y.map bV) : RowH 5 1 v (x ++ y).length ((x ++ y).map bV) F := by
  subst e
  have hk : k = (x ++ y).length := by have := h.1; simp at this ⊢; omega
  subst hk
  rw [List.map_append]; exact h
theorem row_app {v : Value} {k : Nat} {x y : List UInt8} {F : List OB} (h : RowH 5 1 v k (x.map bV ++ y.map bV) F) : RowH 5 1 v (x ++ y).length ((x ++ y).map bV) F := row_snoc h rfl
theorem cell_byte {a : Nat} (h : a < 256) : Value.int .u8 ((a : Nat) : Int) = bV (UInt8.ofNat a) := by
  unfold bV; rw [UInt8.toNat_ofNat_of_lt' h]
theorem bsl_none {I : IM} {l : List UInt8} {n c : Nat} (h : BSl I l (.slice none n c)) : l = [] := by
  obtain ⟨a, c', hv, hc, hr⟩ := h
  cases l with
  | nil => rfl
  | cons x l =>
    obtain ⟨b, o, cs, T, fr, e, _⟩ := hr 0 x rfl
    cases hv; cases e
end Go.Proofs.YtgmigcmhnmmdkaaDoor

/- Rows that are lent to a call, read and written; rows that are made. -/
set_option linter.all false
set_option maxRecDepth 100000
namespace Go.Sep
open Go.RowKit
section
variable {w0 : World} {I0 : IM} {m : List Nat} {I : IM} {P : Program} {Q : Exit → Act → World → Prop}
/-- RULE: a call that reads blocks of one's own, and hands back a row. -/
theorem callLF_rule {N : Nat} {ops : Array Oper} {ev : Ev} {l : List Oper} {H : List OB} {w : World} {f : FuncId} {args : Array Value} {R : Value → List OB → Prop} (d : Option Tmp)
    (s : St w0 I0 m I w H) (Ip : IM) (hI : I.Le Ip) (hsub : ∀ k o, Ip k = some o → I k = some o ∨ (k, o) ∈ H) (hf : FunM P f args Ip [] (fun v _ F' => R v F')) (h : callOf P N ops ev l = some (f, args, d))
    (k : ∀ v w' F', R v F' → St w0 I0 m I w' (H ++ F') → wpList P ops Q l.tail (ActOf N (putE d v ev)) w') : wpList P ops Q l (ActOf N ev) w := by
  obtain ⟨o, l', rfl, rfl, hw, hr⟩ := callOf_spec h
  refine wpList_step fun K hK => ?_
  rw [ActOf_yield, if_pos hw]
  unfold Oper.wp
  rw [ActOf_eval, hr]
  simp only [Oper.upon]
  have hS : Ip.Sub w := fun k o e => by
    rcases hsub k o e with h1 | h1
    · exact s.sub k o h1
    · exact s.own (k, o) h1
  refine (hf w hS (Owns.nil Ip w)).mono ?_
  rintro e w' ⟨v, I', H', rfl, p, r⟩
  refine hK _ _ ?_
  rw [ActOf_put]
  have p2 : St w I [] I w' H' := ⟨fun k o e => p.sub k o (p.le k o (hI k o e)), IM.Le.refl I, fun _ _ _ => rfl, p.fr, p.own, fun e he => by
      cases hk : I e.1 with
      | none => rfl
      | some o =>
        have h1 := s.sub.lt hk
        rcases p.fresh e he with h2 | h2
        · omega
        · simp at h2, p.fresh, p.nodup⟩
  have s2 := St.afterM (Hi := []) (Hr := H) s p2
  exact k v w' H' r (s2.perm List.perm_append_comm)
end
end Go.Sep
namespace Go.Proofs.YtgmigcmhnmmdkaaDoor
open Go.RowKit Go.Sep
theorem row_lend {I : IM} {g n cap : Nat} {cur : Array Value} {l : List UInt8} (h : RowH 5 1 (.slice (some ⟨g, 0, none⟩) n cap) n (l.map bV) [(g, .cells cur 5)]) : BSl (I.add g (.cells cur 5)) l (.slice (some ⟨g, 0, none⟩) n cap) := by
  have hl : l.length = n := by have := h.1; simpa using this
  rcases h.2 with ⟨h, _⟩ | ⟨g', cap', cur', hv, hF, hnc, hcm, hcs, ht⟩
  · cases h
  · cases hv
    cases hF
    refine ⟨some ⟨g, 0, none⟩, cap, congrArg (fun q => Value.slice (some ⟨g, 0, none⟩) q cap) hl.symm, by omega, fun j x hj => ⟨g, 0, cur, 5, (0, 0), rfl, IM.add_self _ _ _, ?_⟩⟩
    have hx : (l.map bV)[j]? = some (bV x) := by rw [List.getElem?_map, hj]; rfl
    rw [← ht, List.getElem?_take] at hx
    split at hx
    · have hx' : cur[j]? = some (bV x) := by simpa using hx
      rw [Nat.zero_add]; exact hx'
    · cases hx
theorem add_sub {I : IM} {g : Nat} {o : Obj} {H : List OB} (hm : (g, o) ∈ H) : ∀ k x, I.add g o k = some x → I k = some x ∨ (k, x) ∈ H := fun k x e => by
  unfold IM.add at e
  split at e
  · rename_i h; subst h; cases e; exact .inr hm
  · exact .inl e
theorem row_open {v : Value} {n : Nat} {xs : List Value} {F : List OB} (h : RowH 5 1 v n xs F) (hn : 0 < n) : ∃ g cap cur, v = .slice (some ⟨g, 0, none⟩) n cap ∧ F = [(g, .cells cur 5)] ∧ n ≤ cap ∧ RowH 5 1 (.slice (some ⟨g, 0, none⟩) n cap) n xs [(g, .cells cur 5)] := by
  rcases h.2 with ⟨_, h0, _⟩ | ⟨g, cap, cur, hv, hF, hnc, _⟩
  · omega
  · subst hv; subst hF
    exact ⟨g, cap, cur, rfl, rfl, hnc, h⟩
theorem row_st {w0 : World} {I0 : IM} {m : List Nat} {I : IM} {w : World} {H : List OB} {q g n cap i x : Nat} {cur : Array Value} {l : List UInt8} (s : St w0 I0 m I w (H ++ [])) (hq : H[q]? = some (g, .cells cur 5)) (h : RowH 5 1 (.slice (some ⟨g, 0, none⟩) n cap) n (l.map bV) [(g, .cells cur 5)]) (hi : i < l.length) (hx : x < 256) :
    ∃ w' cur', (Instr.storeAt 5 (.pointer (some ⟨g, i, none⟩)) (.int .u8 ((x : Nat) : Int))).run Tryd.prog w = .ok () w' ∧ St w0 I0 m I w' (H.set q (g, .cells cur' 5) ++ []) ∧ RowH 5 1 (.slice (some ⟨g, 0, none⟩) n cap) n ((l.set i (UInt8.ofNat x)).map bV) [(g, .cells cur' 5)] := by
  rw [List.append_nil] at s
  have hl : l.length = n := by have := h.1; simpa using this
  have hb : w.heap[g]? = some (.cells cur 5 (0, 0)) := s.own (g, _) (List.mem_of_getElem? hq)
  rcases h.2 with ⟨h, _⟩ | ⟨g', cap', cur', hv, hF, hnc, hcm, hcs, ht⟩
  · cases h
  · cases hv
    cases hF
    have hic : i < cur.size := by omega
    have hcell : w.cell? ⟨g, i, none⟩ = some cur[i] := by rw [run_cell (a := ⟨g, i, none⟩) hb rfl rfl]; simp [hic]
    have hfz : w.frozen? ⟨g, i, none⟩ = false := by rw [Go.Sep.run_frozen (a := ⟨g, i, none⟩) hb rfl]; simp
    have e : (Instr.storeAt 5 (.pointer (some ⟨g, i, none⟩)) (.int .u8 ((x : Nat) : Int))).run Tryd.prog w = (store ⟨g, i, none⟩ (.int .u8 ((x : Nat) : Int))).run Tryd.prog w := by kernel_rfl
    refine ⟨w.setCell ⟨g, i, none⟩ (.int .u8 ((x : Nat) : Int)), cur.setIfInBounds i (.int .u8 ((x : Nat) : Int)), ?_, ?_, ?_⟩
    · rw [e]; simp only [store, Sem.run, hcell, hfz]; rfl
    · rw [List.append_nil]
      exact St.set (w' := w.setCell ⟨g, i, none⟩ (.int .u8 ((x : Nat) : Int))) (o' := .cells (cur.setIfInBounds i (.int .u8 ((x : Nat) : Int))) 5) s hq rfl rfl rfl (by simp [World.setCell]) (by
        show (w.heap.modify g _)[g]? = _
        rw [Array.getElem?_modify]; simp [hb]) (fun z hz => by
        show (w.heap.modify g _)[z]? = _
        rw [Array.getElem?_modify, if_neg (fun h => hz h.symm)])
    · refine ⟨by simpa using hl, .inr ⟨g, cap, _, rfl, rfl, hnc, hcm, by simpa using hcs, ?_⟩⟩
      rw [Array.toList_setIfInBounds, List.take_set, ht, List.map_set, cell_byte hx]
theorem row_bsl {I : IM} {g n cap : Nat} {cur : Array Value} {l : List UInt8} (h : RowH 5 1 (.slice (some ⟨g, 0, none⟩) n cap) n (l.map bV) [(g, .cells cur 5)]) (hg : I g = some (.cells cur 5)) : BSl I l (.slice (some ⟨g, 0, none⟩) n cap) := by
  refine BSl.mono (fun k o e => ?_) (row_lend (I := fun _ => none) h)
  unfold IM.add at e
  split at e
  · rename_i hk; subst hk; cases e; exact hg
  · cases e
theorem pAt_zero (g i : Nat) : pAt (some ⟨g, 0, none⟩) i = some ⟨g, i, none⟩ := congrArg some ((addr_addO g 0 i).trans (by rw [Nat.zero_add]))
theorem row_stA {w0 : World} {I0 : IM} {m : List Nat} {I : IM} {w : World} {H : List OB} {q g n cap i x : Nat} {cur : Array Value} {l : List UInt8} (s : St w0 I0 m I w (H ++ [])) (hq : H[q]? = some (g, .cells cur 5)) (h : RowH 5 1 (.slice (some ⟨g, 0, none⟩) n cap) n (l.map bV) [(g, .cells cur 5)]) (hi : i < l.length) (hx : x < 256) :
    ∃ w' cur', (Instr.storeAt 5 (.pointer (pAt (some ⟨g, 0, none⟩) i)) (.int .u8 ((x : Nat) : Int))).run Tryd.prog w = .ok () w' ∧ St w0 I0 m I w' (H.set q (g, .cells cur' 5) ++ []) ∧ RowH 5 1 (.slice (some ⟨g, 0, none⟩) n cap) n ((l.set i (UInt8.ofNat x)).map bV) [(g, .cells cur' 5)] := by
  rw [pAt_zero]; exact row_st s hq h hi hx
end Go.Proofs.YtgmigcmhnmmdkaaDoor

/- Slices of bools, as those of bytes. -/
set_option linter.all false
set_option maxRecDepth 100000
namespace Go.Proofs.YtgmigcmhnmmdkaaDoor
open Go.RowKit Go.Sep
def BoS (I : IM) (l : List Bool) (v : Value) : Prop := ∃ a cap, v = .slice a l.length cap ∧ l.length ≤ cap ∧ ∀ j x, l[j]? = some x → ∃ b o cs T fr, a = some ⟨b, o, none⟩ ∧ I b = some (.cells cs T fr) ∧ cs[o + j]? = some (.bool x)
theorem BoS.mono {I J : IM} (le : I.Le J) {l : List Bool} {v : Value} (h : BoS I l v) : BoS J l v := by
  obtain ⟨a, cap, hv, hc, hr⟩ := h
  refine ⟨a, cap, hv, hc, fun j x hj => ?_⟩
  obtain ⟨b, o, cs, T, fr, h1, h2, h3⟩ := hr j x hj
  exact ⟨b, o, cs, T, fr, h1, le _ _ h2, h3⟩
theorem bos_nil (I : IM) : BoS I [] (.slice none 0 0) := ⟨none, 0, rfl, Nat.le_refl _, fun j x h => by simp at h⟩
theorem BoS.cap {I : IM} {l : List Bool} {a : Option Addr} {n c : Nat} (h : BoS I l (.slice a n c)) : n = l.length ∧ l.length ≤ c := by
  obtain ⟨a', c', hv, hc, _⟩ := h
  cases hv; exact ⟨rfl, hc⟩
theorem BoS.open {I : IM} {l : List Bool} {v : Value} (h : BoS I l v) : ∃ a c, v = .slice a l.length c ∧ l.length ≤ c ∧ BoS I l (.slice a l.length c) := by
  obtain ⟨a, c, hv, hc, _⟩ := id h
  subst hv
  exact ⟨a, c, rfl, hc, h⟩
theorem under26 : Tryd.prog.underlying 37 = some (.slice 4) := by kernel_rfl
theorem size4 (w : World) : (sizeOf 4).run Tryd.prog w = .ok 1 w := by kernel_rfl
theorem getD_someB {l : List Bool} {i : Nat} (h : i < l.length) : l[i]? = some (l.getD i false) := by simp [h]
theorem bos_idx {I : IM} {w : World} {l : List Bool} {a : Option Addr} {n c i : Nat} (h : BoS I l (.slice a n c)) (hi : i < l.length) :
    (Instr.indexAt 37 (.slice a n c) (.int .i64 ((i : Nat) : Int))).run Tryd.prog w = .ok (.pointer (pAt a i)) w := by
  obtain ⟨a', c', hv, hc, hr⟩ := h
  cases hv
  obtain ⟨b, o, cs, T, fr, rfl, h2, h3⟩ := hr i _ (getD_someB hi)
  have h2 : (i : Int) < (l.length : Int) := by omega
  simp [Instr.indexAt, asIntOf, run_underlying under26, size4, h2, pAt]
  intro h3; omega
theorem bos_ld {I : IM} {w : World} (hS : I.Sub w) {l : List Bool} {a : Option Addr} {n c i : Nat} (h : BoS I l (.slice a n c)) (hi : i < l.length) :
    (Instr.loadAt 4 (.pointer (pAt a i))).run Tryd.prog w = .ok (.bool (l.getD i false)) w := by
  obtain ⟨a', c', hv, hc, hr⟩ := h
  cases hv
  obtain ⟨b, o, cs, T, fr, rfl, h2, h3⟩ := hr i _ (getD_someB hi)
  have e : (Instr.loadAt 4 (.pointer (pAt (some ⟨b, o, none⟩) i))).run Tryd.prog w = (load ⟨b, o + i, none⟩).run Tryd.prog w := by
    rw [show pAt (some ⟨b, o, none⟩) i = some ⟨b, o + i, none⟩ from congrArg some (addr_addO b o i)]
    kernel_rfl
  have hc := run_cell (a := ⟨b, o + i, none⟩) (hS _ _ h2) rfl rfl
  rw [h3] at hc
  rw [e]; simp only [load, Sem.run, hc]
theorem run_toB {w : World} {a : Option Addr} {n h cap : Nat} {k : IntKind} (h1 : h ≤ cap) : (Instr.sliceAt 37 (.slice a n cap) none (some (.int k ((h : Nat) : Int))) none).run Tryd.prog w = .ok (.slice a h cap) w := by
  have hb : (Instr.sliceBound (.int k ((h : Nat) : Int)) cap .sliceAcap).run Tryd.prog w = .ok h w := run_bound h1
  simp [Instr.sliceAt, Instr.slice, run_underlying under26, Instr.sliceBounds, hb, size4]
  intro _
  exact map_add_zero a
theorem run_fromB {w : World} {a : Option Addr} {n lo cap : Nat} {k : IntKind} (h1 : lo ≤ n) : (Instr.sliceAt 37 (.slice a n cap) (some (.int k ((lo : Nat) : Int))) none none).run Tryd.prog w = .ok (.slice (subA a lo cap) (n - lo) (cap - lo)) w := by
  have hb : (Instr.sliceBound (.int k ((lo : Nat) : Int)) n .sliceB).run Tryd.prog w = .ok lo w := run_bound h1
  simp [Instr.sliceAt, Instr.slice, run_underlying under26, Instr.sliceBounds, hb, size4, subA]
theorem run_midB {w : World} {a : Option Addr} {n lo hi cap : Nat} {k k2 : IntKind} (h1 : lo ≤ hi) (h2 : hi ≤ cap) : (Instr.sliceAt 37 (.slice a n cap) (some (.int k ((lo : Nat) : Int))) (some (.int k2 ((hi : Nat) : Int))) none).run Tryd.prog w = .ok (.slice (subA a lo cap) (hi - lo) (cap - lo)) w := by
  have hb : (Instr.sliceBound (.int k2 ((hi : Nat) : Int)) cap .sliceAcap).run Tryd.prog w = .ok hi w := run_bound h2
  have hb2 : (Instr.sliceBound (.int k ((lo : Nat) : Int)) hi .sliceB).run Tryd.prog w = .ok lo w := run_bound h1
  simp [Instr.sliceAt, Instr.slice, run_underlying under26, Instr.sliceBounds, hb, hb2, size4, subA]
theorem bos_mid {I : IM} {l : List Bool} {a : Option Addr} {n c lo hi : Nat} (h : BoS I l (.slice a n c)) (h1 : lo ≤ hi) (h2 : hi ≤ l.length) : BoS I ((l.take hi).drop lo) (.slice (subA a lo c) (hi - lo) (c - lo)) := by
  obtain ⟨a', c', hv, hc, hr⟩ := h
  cases hv
  refine ⟨_, _, by rw [List.length_drop, List.length_take, Nat.min_eq_left h2], by rw [List.length_drop, List.length_take]; omega, fun j x hj => ?_⟩
  rw [List.getElem?_drop, List.getElem?_take] at hj
  split at hj
  · rename_i hlt
    obtain ⟨b, o, cs, T, fr, rfl, h2', h3⟩ := hr _ _ hj
    refine ⟨b, o + lo, cs, T, fr, ?_, h2', by rw [Nat.add_assoc]; exact h3⟩
    unfold subA
    rw [if_neg (by omega)]
    exact congrArg some (addr_addO b o lo)
  · cases hj
theorem bos_from {I : IM} {l : List Bool} {a : Option Addr} {n c lo : Nat} (h : BoS I l (.slice a n c)) (h1 : lo ≤ l.length) : BoS I (l.drop lo) (.slice (subA a lo c) (n - lo) (c - lo)) := by
  obtain ⟨hn, hc⟩ := h.cap
  have := bos_mid h h1 (Nat.le_refl _)
  rw [List.take_length] at this
  rw [hn]; exact this
theorem bos_to3 {I : IM} {l : List Bool} {a : Option Addr} {n c hi m : Nat} (h : BoS I l (.slice a n c)) (h2 : hi ≤ l.length) (h3 : hi ≤ m) : BoS I (l.take hi) (.slice a hi m) := by
  obtain ⟨a', c', hv, hc, hr⟩ := h
  cases hv
  refine ⟨_, _, by rw [List.length_take, Nat.min_eq_left h2], by rw [List.length_take]; omega, fun j x hj => ?_⟩
  rw [List.getElem?_take] at hj
  split at hj
  · exact hr _ _ hj
  · cases hj
theorem bos_to {I : IM} {l : List Bool} {a : Option Addr} {n c hi : Nat} (h : BoS I l (.slice a n c)) (h2 : hi ≤ l.length) : BoS I (l.take hi) (.slice a hi c) :=
  bos_to3 h h2 (Nat.le_trans h2 h.cap.2)
theorem one_bB (l : List Bool) : (l.map Value.bool).all (·.oneCell') = true := by
  rw [List.all_map]; exact List.all_eq_true.2 fun x _ => rfl
theorem src_bos {I : IM} {w : World} (hs : I.Sub w) {l : List Bool} {a : Option Addr} {n c : Nat} (h : BoS I l (.slice a n c)) : Src Tryd.prog 1 37 (.slice a n c) l.length (l.map Value.bool) w := by
  obtain ⟨a', c', hv, hc, hr⟩ := h
  cases hv
  cases l with
  | nil => 
    cases a with
    | none => exact Src.ofNil w under26 c
    | some x => exact Src.ofSlice w under26 x 0 c [] rfl (fun j u hu => by simp at hu) (fun u hu => by simp at hu)
  | cons y l =>
    obtain ⟨b, o, cs, T, fr, rfl, _, _⟩ := hr 0 y rfl
    refine Src.ofSlice w under26 ⟨b, o, none⟩ _ c _ (by simp) (fun j u hu => ?_) (fun u hu => by simpa using List.all_eq_true.1 (one_bB _) u hu)
    rw [List.getElem?_map, Option.map_eq_some_iff] at hu
    obtain ⟨x, hx, rfl⟩ := hu
    obtain ⟨b', o', cs', T', fr', e1, e2, e3⟩ := hr j x hx
    cases e1
    rw [addr_addO, run_cell (a := ⟨b, o + j, none⟩) (hs _ _ e2) rfl rfl]
    exact e3
theorem freeze_rowB {w0 : World} {I0 : IM} {m : List Nat} {I : IM} {w : World} {H F : List OB} {l : List Bool} {v : Value} {n : Nat} (s : St w0 I0 m I w (H ++ F)) (h : RowH 4 1 v n (l.map Value.bool) F) :
    ∃ I', I.Le I' ∧ BoS I' l v ∧ St w0 I0 m I' w H := by
  have hl : l.length = n := by have := h.1; simpa using this
  rcases h.2 with ⟨rfl, rfl, rfl⟩ | ⟨g, cap, cur, rfl, rfl, hnc, hcm, hcs, ht⟩
  · have : l = [] := List.eq_nil_of_length_eq_zero hl
    subst this
    exact ⟨I, IM.Le.refl I, bos_nil I, by simpa using s⟩
  · have s2 := (s.perm (H' := (g, .cells cur 4) :: H) (by exact List.perm_append_comm))
    refine ⟨_, IM.le_add (s2.free (g, .cells cur 4) (by simp)) _, ?_, s2.freeze⟩
    refine ⟨some ⟨g, 0, none⟩, cap, congrArg (fun q => Value.slice (some ⟨g, 0, none⟩) q cap) hl.symm, by omega, fun j x hj => ⟨g, 0, cur, 4, (0, 0), rfl, IM.add_self _ _ _, ?_⟩⟩
    have hx : (l.map Value.bool)[j]? = some (Value.bool x) := by rw [List.getElem?_map, hj]; rfl
    rw [← ht, List.getElem?_take] at hx
    split at hx
    · have hx' : cur[j]? = some (Value.bool x) := by simpa using hx
      rw [Nat.zero_add]; exact hx'
    · cases hx
def boR (L : List Bool) (v : Value) (J : IM) : Prop := ∃ a c, v = .slice a (List.length L) c ∧ BoS J L (.slice a (List.length L) c)
theorem fun_of_rowBo {f : FuncId} {args : Array Value} {I : IM} {n : Nat} {L : List Bool} (h : FunM Tryd.prog f args I [] (fun v J F => RowH 4 1 v n (L.map Value.bool) F)) :
    Fun Tryd.prog f args I (fun v J => boR L v J) := by
  intro w hw
  refine (h w hw (Owns.nil I w)).mono ?_
  rintro en w' ⟨v, I', H', he, s, hr⟩
  obtain ⟨J, le, hb, s2⟩ := freeze_rowB (H := []) s hr
  obtain ⟨a, c, rfl, _, hb⟩ := hb.open
  exact ⟨_, J, [], he, s2, a, c, rfl, hb⟩
theorem row_nilBo : RowH 4 1 (.slice none 0 0) 0 (([] : List Bool).map Value.bool) [] := RowH.nil 4 1
theorem row_snocB {v : Value} {k : Nat} {x y : List Bool} {nw : List Value} {F : List OB} (h : RowH 4 1 v k (x.map Value.bool ++ nw) F) (e : nw = y.map Value.bool) : RowH 4 1 v (x ++ y).length ((x ++ y).map Value.bool) F := by
  subst e
  have hk : k = (x ++ y).length := by have := h.1; simp at this ⊢; omega
  subst hk
  rw [List.map_append]; exact h
theorem row_appB {v : Value} {k : Nat} {x y : List Bool} {F : List OB} (h : RowH 4 1 v k (x.map Value.bool ++ y.map Value.bool) F) : RowH 4 1 v (x ++ y).length ((x ++ y).map Value.bool) F := row_snocB h rfl
theorem bos_eq {I : IM} {l l2 : List Bool} {v : Value} (h : BoS I l v) (e : l = l2) : BoS I l2 v := e ▸ h
end Go.Proofs.YtgmigcmhnmmdkaaDoor

/- Bytes as strings. -/
set_option linter.all false
set_option maxRecDepth 100000
namespace Go.Proofs.YtgmigcmhnmmdkaaDoor
open Go.RowKit Go.Sep
theorem under9 : Tryd.prog.underlying 9 = some .string := by kernel_rfl
theorem fold_push : ∀ (l : List UInt8) (s : List UInt8), (l.map fun x => ((x.toNat : Nat) : Int)).foldl (fun (r : ByteArray) n => r.push (UInt8.ofNat n.toNat)) ⟨s.toArray⟩ = ⟨(s ++ l).toArray⟩
  | [], s => by simp
  | x :: l, s => by
    rw [List.map_cons, List.foldl_cons]
    have e : (⟨s.toArray⟩ : ByteArray).push (UInt8.ofNat ((x.toNat : Nat) : Int).toNat) = ⟨(s ++ [x]).toArray⟩ := by
      apply ByteArray.ext
      simp [ByteArray.push]
    rw [e, fold_push l (s ++ [x]), List.append_assoc]; rfl
theorem run_b2s {I : IM} {w : World} (hS : I.Sub w) {l : List UInt8} {a : Option Addr} {n c : Nat} (h : BSl I l (.slice a n c)) : (convert 22 9 (.slice a n c)).run Tryd.prog w = .ok (.string ⟨l.toArray⟩) w := by
  rw [run_convert_bytes_string w 22 9 5 a n c under34 under5 under9]
  obtain ⟨a', c', hv, hc, hr⟩ := h
  cases hv
  cases a with
  | none =>
    have : l = [] := by
      cases l with
      | nil => rfl
      | cons x l => obtain ⟨b, o, cs, T, fr, e, _⟩ := hr 0 x rfl; cases e
    subst this; rfl
  | some x =>
    have hl : (loadCells x (l.map bV).length).run Tryd.prog w = .ok (l.map bV).toArray w := run_loadCells_list w x (l.map bV) fun j v hv => by
      rw [List.getElem?_map, Option.map_eq_some_iff] at hv
      obtain ⟨y, hy, rfl⟩ := hv
      obtain ⟨b, o, cs, T, fr, e1, e2, e3⟩ := hr j y hy
      cases e1
      rw [addr_addO, run_cell (a := ⟨b, o + j, none⟩) (hS _ _ e2) rfl rfl]
      exact e3
    rw [List.length_map] at hl
    have e : l.map bV = (l.map fun x => ((x.toNat : Nat) : Int)).map (Value.int .u8) := by rw [List.map_map]; rfl
    rw [e] at hl
    rw [run_bytesToString w x l.length c _ hl]
    have := fold_push l []
    rw [List.nil_append] at this
    rw [show ByteArray.empty = ⟨([] : List UInt8).toArray⟩ from rfl, this]
end Go.Proofs.YtgmigcmhnmmdkaaDoor

/- The bits of bytes, one by one. -/
set_option linter.all false
set_option maxRecDepth 100000
namespace Go.Proofs.YtgmigcmhnmmdkaaDoor
open Go.RowKit Go.Sep
theorem top_bit : ∀ x : Fin 256, ∀ k : Fin 8, decide (128 ≤ x.1 * 2 ^ k.1 % 256) = x.1.testBit (7 - k.1) := by decide +kernel
theorem top_bitB {l : List UInt8} {i k : Nat} (hk : k < 8) : decide (128 ≤ (l.getD i 0).toNat * 2 ^ k % 256) = bitB l (i * 8 + k) := by
  have h := top_bit ⟨(l.getD i 0).toNat, byte_lt _⟩ ⟨k, hk⟩
  simp only at h
  rw [h]
  unfold bitB
  rw [show (i * 8 + k) / 8 = i by omega, show (i * 8 + k) % 8 = k by omega]
theorem bits_snoc {l : List UInt8} {j : Nat} (h : j < l.length * 8) : (bitsL l).take j ++ [bitB l j] = (bitsL l).take (j + 1) := by
  rw [List.take_succ]
  congr 1
  unfold bitsL
  rw [List.getElem?_map, List.getElem?_range h]; rfl
theorem bos_one {I : IM} {k : Nat} {b : Bool} (h : I k = some (.cells #[.bool b] 4)) : BoS I [b] (.slice (some ⟨k, 0, none⟩) 1 1) := by
  refine ⟨some ⟨k, 0, none⟩, 1, rfl, Nat.le_refl _, fun j x hj => ?_⟩
  cases j with
  | zero => simp at hj; subst hj; exact ⟨k, 0, _, _, _, rfl, h, rfl⟩
  | succ j => simp at hj
theorem byte_dbl {x k : Nat} : x * 2 ^ k % 256 * 2 % 256 = x * 2 ^ (k + 1) % 256 := by
  rw [Nat.pow_succ, ← Nat.mul_assoc]; generalize x * 2 ^ k = y; omega
end Go.Proofs.YtgmigcmhnmmdkaaDoor

/- Slices of triples: a byte and two numbers. -/
set_option linter.all false
set_option maxRecDepth 100000
namespace Go.Proofs.YtgmigcmhnmmdkaaDoor
open Go.RowKit Go.Sep
abbrev Tri := Nat × Nat × Int
def TSl (I : IM) (L : List Tri) (v : Value) : Prop := ∃ a cap, v = .slice a L.length cap ∧ L.length ≤ cap ∧ ∀ j x, L[j]? = some x → (x.1 < 256 ∧ x.2.1 < 18446744073709551616 ∧ x.2.2 < 9223372036854775808) ∧ ∃ b o cs T fr, a = some ⟨b, o, none⟩ ∧ I b = some (.cells cs T fr) ∧ cs[o + j * 3]? = some (.int .u8 ((x.1 : Nat) : Int)) ∧ cs[o + j * 3 + 1]? = some (.int .u64 ((x.2.1 : Nat) : Int)) ∧ cs[o + j * 3 + 2]? = some (.int .i64 x.2.2)
theorem TSl.mono {I J : IM} (le : I.Le J) {L : List Tri} {v : Value} (h : TSl I L v) : TSl J L v := by
  obtain ⟨a, cap, hv, hc, hr⟩ := h
  refine ⟨a, cap, hv, hc, fun j x hj => ?_⟩
  obtain ⟨hx, b, o, cs, T, fr, h1, h2, h3, h4, h5⟩ := hr j x hj
  exact ⟨hx, b, o, cs, T, fr, h1, le _ _ h2, h3, h4, h5⟩
theorem TSl.cap {I : IM} {L : List Tri} {a : Option Addr} {n c : Nat} (h : TSl I L (.slice a n c)) : n = L.length ∧ L.length ≤ c := by
  obtain ⟨a', c', hv, hc, _⟩ := h
  cases hv; exact ⟨rfl, hc⟩
end Go.Proofs.YtgmigcmhnmmdkaaDoor

/- Bytes are cut, joined, cloned; the document's examples. -/
set_option linter.all false
set_option maxRecDepth 100000
namespace Go.Proofs.YtgmigcmhnmmdkaaDoor
open Go.RowKit Go.Sep
attribute [local irreducible] Go.wpList Go.Code.wp

theorem clone_none {I : IM} {n c : Nat} : Fun Tryd.prog 38 #[.slice none n c] I (fun v J => v = .slice none 0 0) := by
 refine enter_rule 8 [(0, .slice none n c)] Tryd.func38 rfl (by kernel_rfl) ?_
 intro w s
 refine seqR ?_
 refine oKD [] [] 1 [] 0 (fun φ1 => [(2, .slice none 0 0)]) (fun φ1 => []) s (fun φ1 => by kernel_rfl) (by kernel_rfl) ?_
 intro φ1 w1 s
 refine wp_seq ?_
 refine seqR ?_
 refine oK [] [] 1 [] 0 (fun φ2 => [(3, .slice none n c)]) (fun φ2 => []) s (fun φ2 => by kernel_rfl) ?_
 intro φ2 w2 s
 refine sem_rule (binOp .eql 22 (.slice none n c) (.slice none 0 0)) (some 4) (.bool true) (by kernel_rfl) (run_eqnil) ?_
 refine ops_done (by kernel_rfl) ?_
 refine cond_true_rule (b := true) (by kernel_rfl) rfl ?_
 refine seqR ?_
 refine oKD [] [] 1 [] 0 (fun φ3 => [(2, .slice none 0 0)]) (fun φ3 => []) s (fun φ3 => by kernel_rfl) (by kernel_rfl) ?_
 intro φ3 w3 s
 refine wp_ret ?_
 refine ret_rule (C := []) [] [] (.slice none 0 0) [] [] s trivial (by kernel_rfl) ?_
 exact ⟨_, _, _, rfl, s, rfl⟩

set_option maxHeartbeats 400000 in
theorem clone_some {I : IM} {l : List UInt8} {x : Addr} {c : Nat} (hl : BSl I l (.slice (some x) l.length c)) (hn : l.length ≤ 1000000000) : FunM Tryd.prog 38 #[.slice (some x) l.length c] I [] (fun v J F => RowH 5 1 v l.length (l.map bV) F) := by
 refine enterM_rule 8 [(0, .slice (some x) l.length c)] Tryd.func38 rfl (by kernel_rfl) ?_
 intro w s
 refine seqR ?_
 refine oKD [] [] 1 [] 0 (fun φ1 => [(2, .slice none 0 0)]) (fun φ1 => []) s (fun φ1 => by kernel_rfl) (by kernel_rfl) ?_
 intro φ1 w1 s
 refine wp_seq ?_
 refine seqR ?_
 refine oK [] [] 1 [] 0 (fun φ2 => [(3, .slice (some x) l.length c)]) (fun φ2 => []) s (fun φ2 => by kernel_rfl) ?_
 intro φ2 w2 s
 refine sem_rule (binOp .eql 22 (.slice (some x) l.length c) (.slice none 0 0)) (some 4) (.bool false) (by kernel_rfl) (run_eqnil) ?_
 refine ops_done (by kernel_rfl) ?_
 refine cond_false_rule (b := false) (by kernel_rfl) rfl ?_
 refine wp_skip ?_
 refine seqR ?_
 refine oA [] [] 2 [] 1 (fun φ3 => [(6, .slice (some x) l.length c), (5, .slice (some ⟨(φ3 0), 0, none⟩) 0 0)]) (fun φ3 => [(φ3 0, .cells #[] 5)]) (fun φ3 => []) s (fun φ3 => by kernel_rfl) ?_
 intro φ3 w3 s
 refine append_rule (H := []) (F := [(φ3 0, .cells #[] 5)]) 22 22 5 Tryd.t5 (.int .u8 0) 1 1 (some 7) s Tryd.underlying22 (by kernel_rfl) (by kernel_rfl) (by kernel_rfl) (by kernel_rfl) (by kernel_rfl) (by decide) (row_new (φ3 0)) (src_bsl s.sub hl) (by   (try simp only [maxLen, List.length_append, List.length_cons, List.length_nil, List.length_take, List.length_drop]); omega) (by   (try simp only [maxLen, List.length_append, List.length_cons, List.length_nil, List.length_take, List.length_drop]); omega) (by kernel_rfl) ?_
 intro v4 w4 F4 s h4
 replace h4 : RowH 5 1 v4 ((l).length) ((l).map bV) F4 := row_app (x := []) (y := l) h4
 refine oKD [] F4 1 [] 0 (fun φ5 => [(2, v4)]) (fun φ5 => []) s (fun φ5 => by kernel_rfl) (by kernel_rfl) ?_
 intro φ5 w5 s
 refine wp_ret ?_
 refine ret_rule (C := []) [] F4 (v4) [] [] s trivial (by kernel_rfl) ?_
 replace s := s.drop (List.sublist_append_right [] F4)
 exact ⟨_, _, _, rfl, s, h4⟩

theorem clone_c {I : IM} {l : List UInt8} {a : Option Addr} {n c : Nat} (hl : BSl I l (.slice a n c)) (hn : l.length ≤ 1000000000) : Fun Tryd.prog 38 #[.slice a n c] I (fun v J => bsR l v J) := by
  obtain ⟨rfl, -⟩ := hl.cap
  cases a with
  | none =>
    have := bsl_none hl
    subst this
    exact clone_none.mono fun v J _ h => ⟨none, 0, h, bsl_nil J⟩
  | some x => exact fun_of_rowB (clone_some hl hn)

end Go.Proofs.YtgmigcmhnmmdkaaDoor

/- The document's bits. -/
set_option linter.all false
set_option maxRecDepth 100000
namespace Go.Proofs.YtgmigcmhnmmdkaaDoor
open Go.RowKit Go.Sep
attribute [local irreducible] Go.wpList Go.Code.wp

theorem pow_lt64 {i b : Nat} (h : i < b) (hb : b ≤ 63) : 2 ^ i * 2 < 18446744073709551616 := by
  have := Nat.pow_lt_pow_right (a := 2) (by decide) (show i + 1 < 64 by omega)
  rw [Nat.pow_succ] at this; exact this

set_option maxHeartbeats 400000 in
theorem power_c {I : IM} {b : Nat} (hb : b ≤ 63) : Fun Tryd.prog 108 #[.int .i64 ((b : Nat) : Int)] I (fun v J => v = .int .u64 ((2 ^ b : Nat) : Int)) := by
 refine enter_rule 13 [(0, .int .i64 b)] Tryd.func108 rfl (by kernel_rfl) ?_
 intro w s
 refine seqR ?_
 refine oKD [] [] 1 [] 0 (fun φ1 => [(2, .int .u64 0)]) (fun φ1 => []) s (fun φ1 => by kernel_rfl) (by kernel_rfl) ?_
 intro φ1 w1 s
 refine seqR ?_
 refine oKD [] [] 1 [] 0 (fun φ2 => [(3, .int .u64 1)]) (fun φ2 => []) s (fun φ2 => by kernel_rfl) (by kernel_rfl) ?_
 intro φ2 w2 s
 refine wp_seq ?_
 refine seqR ?_
 refine oKD [] [] 1 [] 0 (fun φ3 => [(4, .int .i64 0)]) (fun φ3 => []) s (fun φ3 => by kernel_rfl) (by kernel_rfl) ?_
 intro φ3 w3 s
 refine wp_block ?_
 have hle4 := IM.Le.refl I
 refine loop_rule (fun (x : Nat) => [(0, .int .i64 b), (3, .int .u64 ((2 ^ x : Nat) : Int)), (4, .int .i64 x)]) (fun (x : Nat) => []) (fun m (x : Nat) J => IM.Le I J ∧ x + m = b) (b) 0 s (by kernel_rfl) List.Sublist.slnil ⟨IM.Le.refl _, Nat.zero_add _⟩ ?_
 rintro m5 i5 I5 w5 ev5 s ⟨le5, hi5_0⟩
 try dsimp only at s hi5_0 ⊢
 replace hle4 := leMono le5 hle4
 refine wp_seq ?_
 refine seqR ?_
 refine oK [] [] 3 [] 0 (fun φ6 => [(7, .bool (decide (((i5 : Nat) : Int) < ((b : Nat) : Int)))), (6, .int .i64 b), (5, .int .i64 i5)]) (fun φ6 => []) s (fun φ6 => by kernel_rfl) ?_
 intro φ6 w6 s
 rw [nat_lss (a := i5) (b := b)]
 refine ops_done (by kernel_rfl) ?_
 rcases Bool.eq_false_or_eq_true (decide (i5 < b)) with hc7 | hc7
 ·
  rw [hc7]
  refine cond_true_rule (b := true) (by kernel_rfl) rfl ?_
  refine wp_skip ?_
  refine wp_seq ?_
  refine wp_block ?_
  refine region_rule ?_
  refine oK [] [] 3 [] 0 (fun φ8 => [(3, .int .u64 (IntKind.wrap .u64 (((2 ^ i5 : Nat) : Int) * ((2 : Nat) : Int)))), (11, .int .u64 (IntKind.wrap .u64 (((2 ^ i5 : Nat) : Int) * ((2 : Nat) : Int)))), (10, .int .u64 ((2 ^ i5 : Nat) : Int))]) (fun φ8 => []) s (fun φ8 => by kernel_rfl) ?_
  intro φ8 w8 s
  rw [nat_mulU (a := (2 ^ i5)) (b := 2) (by exact pow_lt64 (of_decide_eq_true hc7) hb)]
  refine ops_done (by kernel_rfl) ?_
  refine region_rule ?_
  refine oK [] [] 3 [] 0 (fun φ9 => [(4, .int .i64 (IntKind.wrap .i64 (((i5 : Nat) : Int) + ((1 : Nat) : Int)))), (9, .int .i64 (IntKind.wrap .i64 (((i5 : Nat) : Int) + ((1 : Nat) : Int)))), (8, .int .i64 i5)]) (fun φ9 => []) s (fun φ9 => by kernel_rfl) ?_
  intro φ9 w9 s
  rw [nat_addI (a := i5) (b := 1) (by  have hq0 := of_decide_eq_true hc7; omega)]
  refine ops_done (by kernel_rfl) ?_
  have hq9 := of_decide_eq_true hc7
  rw [show 2 ^ i5 * 2 = 2 ^ (i5 + 1) from rfl]
  exact ⟨⟨m5 - 1, i5 + 1, _, _, _, by omega, rfl, s, List.Sublist.slnil, by kernel_rfl, hle4, by show i5 + 1 + (m5 - 1) = b; omega⟩⟩
 ·
  rw [hc7]
  refine cond_false_rule (b := false) (by kernel_rfl) rfl ?_
  refine wp_exit ?_
  refine seqR ?_
  refine oKD [] [] 2 [] 0 (fun φ10 => [(2, .int .u64 ((2 ^ i5 : Nat) : Int)), (12, .int .u64 ((2 ^ i5 : Nat) : Int))]) (fun φ10 => []) s (fun φ10 => by kernel_rfl) (by kernel_rfl) ?_
  intro φ10 w10 s
  refine wp_ret ?_
  refine ret_rule (C := []) [] [] (.int .u64 ((2 ^ i5 : Nat) : Int)) [] [] s trivial (by kernel_rfl) ?_
  exact ⟨_, _, _, rfl, s, (by have := of_decide_eq_false hc7; rw [show i5 = b by omega])⟩

end Go.Proofs.YtgmigcmhnmmdkaaDoor

/- Bits are written. -/
set_option linter.all false
set_option maxRecDepth 100000
namespace Go.Proofs.YtgmigcmhnmmdkaaDoor
open Go.RowKit Go.Sep
attribute [local irreducible] Go.wpList Go.Code.wp

theorem num_step {cur R : List Bool} {k nn : Nat} (hk : k < 64) (hp : 2 ^ k ≤ nn) (h : cur ++ numW (64 - k) k nn = R) : (cur ++ putBits 1 1) ++ numW (64 - (k + 1)) (k + 1) (nn - 2 ^ k) = R := by
  have hd : nn / 2 ^ k ≠ 0 := fun q => by have := div_lt_pow q; omega
  rw [show 64 - k = (64 - (k + 1)) + 1 by omega, numW_go hd] at h
  rw [← h, List.append_assoc]; rfl
theorem num_end {cur R : List Bool} {f k nn : Nat} (hd : nn / 2 ^ k = 0) (h : cur ++ numW f k nn = R) : (cur ++ putBits 0 1) ++ putBits nn k = R := by
  rw [numW_stop hd] at h
  rw [← h, List.append_assoc]; rfl
theorem run_shl1 {w : World} {t : TypeId} {n : Nat} {yk : IntKind} (h : n < 64) : (binOp .shl t (.int .u64 1) (.int yk ((n : Nat) : Int))).run Tryd.prog w = .ok (.int .u64 ((2 ^ n : Nat) : Int)) w := by
  have e := run_shlU (w := w) (t := t) (a := 1) (n := n) (k := .u64) (yk := yk) (.inr (.inr (.inl rfl)))
  have e2 : bshl IntKind.u64.bits 1 n = 2 ^ n := by
    unfold bshl
    rw [Nat.one_mul]
    exact Nat.mod_eq_of_lt (Nat.pow_lt_pow_right (by decide) h)
  rw [e2] at e; exact e
theorem bor8_lt {a b : Nat} : bor 8 a b < 256 := BitVec.isLt _
theorem row_cast {v : Value} {n : Nat} {l l2 : List UInt8} {F : List OB} (h : RowH 5 1 v n (l.map bV) F) (e : l = l2) : RowH 5 1 v l2.length (l2.map bV) F := by
  subst e
  have : n = l.length := by have := h.1; simpa using this.symm
  subst this; exact h
theorem add_set0 {bs : List Bool} {cnt x : Nat} (hc : cnt = bs.length) (hx : x < 2) (h : cnt % 8 = 0) : (pk bs ++ [0]).set ((pk bs ++ [0]).length - 1) (UInt8.ofNat (bor 8 ((pk bs ++ [0]).getD ((pk bs ++ [0]).length - 1) 0).toNat (bshl 64 x (7 - cnt % 8) % 256))) = pk (bs ++ [decide (x = 1)]) := by
  rw [pk_snoc, bit_toNat hx, ← hc]; unfold addB; rw [if_pos h]
theorem add_set1 {bs : List Bool} {cnt x : Nat} (hc : cnt = bs.length) (hx : x < 2) (h : ¬ cnt % 8 = 0) : (pk bs).set ((pk bs).length - 1) (UInt8.ofNat (bor 8 ((pk bs).getD ((pk bs).length - 1) 0).toNat (bshl 64 x (7 - cnt % 8) % 256))) = pk (bs ++ [decide (x = 1)]) := by
  rw [pk_snoc, bit_toNat hx, ← hc]; unfold addB; rw [if_neg h]
def wr (bs : List Bool) (n k i : Nat) : List Bool := bs ++ (List.range i).map (bitF n k)
theorem wr_succ {bs : List Bool} {n k i : Nat} : wr bs n k i ++ [bitF n k i] = wr bs n k (i + 1) := by unfold wr; simp [List.range_succ]
theorem wr_zero {bs : List Bool} {n k : Nat} : wr bs n k 0 = bs := by unfold wr; simp
theorem wr_len {bs : List Bool} {n k i : Nat} : (wr bs n k i).length = bs.length + i := by unfold wr; simp

set_option maxHeartbeats 400000 in
theorem held_c {I : IM} {k : Nat} (hk : k ≤ 64) : Fun Tryd.prog 46 #[.int .i64 ((k : Nat) : Int)] I (fun v J => v = .int .i64 ((k : Nat) : Int)) := by
 refine enter_rule 6 [(0, .int .i64 k)] Tryd.func46 rfl (by kernel_rfl) ?_
 intro w s
 refine seqR ?_
 refine oKD [] [] 1 [] 0 (fun φ1 => [(2, .int .i64 0)]) (fun φ1 => []) s (fun φ1 => by kernel_rfl) (by kernel_rfl) ?_
 intro φ1 w1 s
 refine seqR ?_
 refine oK [] [] 4 [] 0 (fun φ2 => [(2, .int .i64 (if ((64 : Nat) : Int) < (if ((0 : Nat) : Int) > ((k : Nat) : Int) then ((0 : Nat) : Int) else ((k : Nat) : Int)) then ((64 : Nat) : Int) else (if ((0 : Nat) : Int) > ((k : Nat) : Int) then ((0 : Nat) : Int) else ((k : Nat) : Int)))), (5, .int .i64 (if ((64 : Nat) : Int) < (if ((0 : Nat) : Int) > ((k : Nat) : Int) then ((0 : Nat) : Int) else ((k : Nat) : Int)) then ((64 : Nat) : Int) else (if ((0 : Nat) : Int) > ((k : Nat) : Int) then ((0 : Nat) : Int) else ((k : Nat) : Int)))), (4, .int .i64 (if ((0 : Nat) : Int) > ((k : Nat) : Int) then ((0 : Nat) : Int) else ((k : Nat) : Int))), (3, .int .i64 k)]) (fun φ2 => []) s (fun φ2 => by kernel_rfl) ?_
 intro φ2 w2 s
 rw [nat_max (a := k) (b := 0)]
 rw [nat_min (a := (max k 0)) (b := 64)]
 refine ops_done (by kernel_rfl) ?_
 refine wp_ret ?_
 refine ret_rule (C := []) [] [] (.int .i64 ((min (max k 0) 64 : Nat) : Int)) [] [] s trivial (by kernel_rfl) ?_
 exact ⟨_, _, _, rfl, s, (by rw [show min (max k 0) 64 = k by omega])⟩

set_option maxHeartbeats 400000 in
theorem shift_c {I : IM} {n : Nat} : Fun Tryd.prog 81 #[.int .i64 ((n : Nat) : Int)] I (fun v J => v = .int .i64 ((7 - n % 8 : Nat) : Int)) := by
 refine enter_rule 6 [(0, .int .i64 n)] Tryd.func81 rfl (by kernel_rfl) ?_
 intro w s
 refine seqR ?_
 refine oKD [] [] 1 [] 0 (fun φ1 => [(2, .int .i64 0)]) (fun φ1 => []) s (fun φ1 => by kernel_rfl) (by kernel_rfl) ?_
 intro φ1 w1 s
 refine seqR ?_
 refine oK [] [] 4 [] 0 (fun φ2 => [(2, .int .i64 (IntKind.wrap .i64 (((7 : Nat) : Int) - (Int.tmod ((n : Nat) : Int) ((8 : Nat) : Int))))), (5, .int .i64 (IntKind.wrap .i64 (((7 : Nat) : Int) - (Int.tmod ((n : Nat) : Int) ((8 : Nat) : Int))))), (4, .int .i64 (Int.tmod ((n : Nat) : Int) ((8 : Nat) : Int))), (3, .int .i64 n)]) (fun φ2 => []) s (fun φ2 => by kernel_rfl) ?_
 intro φ2 w2 s
 rw [nat_rem (a := n) (b := 8)]
 rw [nat_subI (a := 7) (b := (n % 8)) (by   omega) (by   omega)]
 refine ops_done (by kernel_rfl) ?_
 refine wp_ret ?_
 refine ret_rule (C := []) [] [] (.int .i64 ((7 - (n % 8) : Nat) : Int)) [] [] s trivial (by kernel_rfl) ?_
 exact ⟨_, _, _, rfl, s, rfl⟩

set_option maxHeartbeats 2000000 in
theorem add_c {I : IM} {b cnt : Nat} {bs : List Bool} {v0 : Value} {F : List OB} (hc : cnt = bs.length) (hl9 : bs.length ≤ 1000000) (h : RowH 5 1 v0 (pk bs).length ((pk bs).map bV) F) {x : Nat} (hx : x < 2) : FunM Tryd.prog 114 #[.pointer (some ⟨b, 0, none⟩), .int .u64 ((x : Nat) : Int)] I ((b, .cells #[v0, .int .i64 ((cnt : Nat) : Int)] 138) :: F) (fun v J H' => ∃ (b' : OB) (F' : List OB), H' = b' :: F' ∧ b'.1 = b ∧ ∃ v', v = .tuple #[] ∧ b' = (b, .cells #[v', .int .i64 ((cnt + 1 : Nat) : Int)] 138) ∧ RowH 5 1 v' (pk (bs ++ [decide (x = 1)])).length ((pk (bs ++ [decide (x = 1)])).map bV) F') := by
 refine enterM_rule 48 [(0, pB b), (1, .int .u64 x)] Tryd.func114 rfl (by kernel_rfl) ?_
 intro w s
 refine wp_seq ?_
 refine seqR ?_
 refine oK [(b, .cells #[v0, .int .i64 cnt] 138)] F 6 [.o 0] 0 (fun φ1 => [(9, .bool ((Int.tmod ((cnt : Nat) : Int) ((8 : Nat) : Int)) == ((0 : Nat) : Int))), (8, .int .i64 (Int.tmod ((cnt : Nat) : Int) ((8 : Nat) : Int))), (7, .int .i64 cnt), (6, .pointer (some ⟨b, 1, none⟩)), (5, pB b), (4, pB b)]) (fun φ1 => [b]) s (fun φ1 => by kernel_rfl) ?_
 intro φ1 w1 s
 rw [nat_rem (a := cnt) (b := 8)]
 rw [nat_eql (a := (cnt % 8)) (b := 0)]
 refine ops_done (by kernel_rfl) ?_
 rcases Bool.eq_false_or_eq_true (decide ((cnt % 8) = 0)) with hc2 | hc2
 ·
  rw [hc2]
  refine cond_true_rule (b := true) (by kernel_rfl) rfl ?_
  refine region_rule ?_
  refine oA _ F 6 [.o 0] 1 (fun φ3 => [(15, .slice (some ⟨(φ3 0), 0, none⟩) 1 1), (14, v0), (13, pB b), (12, pB b), (11, pB b), (10, pB b)]) (fun φ3 => [(b, .cells #[v0, .int .i64 cnt] 138), (φ3 0, .cells #[.int .u8 0] 5)]) (fun φ3 => [b]) s (fun φ3 => by kernel_rfl) ?_
  intro φ3 w3 s
  refine append_rule (H := [(b, .cells #[v0, .int .i64 cnt] 138), (φ3 0, .cells #[.int .u8 0] 5)]) (F := F) 22 22 5 Tryd.t5 (.int .u8 0) 1 1 (some 16) s Tryd.underlying22 (by kernel_rfl) (by kernel_rfl) (by kernel_rfl) (by kernel_rfl) (by kernel_rfl) (by decide) h (src_own (H := [(b, .cells #[v0, .int .i64 cnt] 138), (φ3 0, .cells #[.int .u8 0] 5)]) s 1 (φ3 0) #[.int .u8 0] 5 22 5 1 1 1 [.int .u8 0] (by kernel_rfl) under34 (by kernel_rfl) (by kernel_rfl) (by kernel_rfl)) (by simp only [maxLen, pk_len]; omega) (by simp only [maxLen, pk_len]; omega) (by kernel_rfl) ?_
  intro v4 w4 F4 s h4
  replace h4 : RowH 5 1 v4 ((pk bs ++ ([0] : List UInt8)).length) ((pk bs ++ ([0] : List UInt8)).map bV) F4 := row_snoc (x := (pk bs)) (y := ([0] : List UInt8)) h4 (by kernel_rfl)
  obtain ⟨g5, cap5, cur5, hv5, hF5, hc5, hrow5⟩ := row_open h4 (by simp)
  subst hv5
  subst hF5
  refine oAD [(b, .cells #[v0, .int .i64 cnt] 138), (φ3 0, .cells #[.int .u8 0] 5), (g5, .cells cur5 5)] [] 3 [.o 0] 0 (fun φ6 => [(18, pB b), (17, pB b)]) (fun φ6 => [(b, .cells #[.slice (some ⟨g5, 0, none⟩) ((pk bs ++ ([0] : List UInt8)).length) cap5, .int .i64 cnt] 138), (φ3 0, .cells #[.int .u8 0] 5), (g5, .cells cur5 5)]) (fun φ6 => [b]) s (fun φ6 => by kernel_rfl) (by kernel_rfl) ?_
  intro φ6 w6 s
  refine wp_seq ?_
  have hz7 := St.none0 s (g := g5) (o := .cells cur5 5) (by simp)
  have hT7 := IM.Le.refl I
  obtain ⟨I8, le8, hk8, s⟩ := s.freezeAt 2 g5 (.cells cur5 5) [(b, .cells #[.slice (some ⟨g5, 0, none⟩) ((pk bs ++ ([0] : List UInt8)).length) cap5, .int .i64 ((cnt : Nat) : Int)] 138), ((φ3 0), .cells #[.int .u8 0] 5)] (by kernel_rfl) (by kernel_rfl)
  replace hT7 := leMono le8 hT7
  refine drawL_rule (H := [(b, .cells #[.slice (some ⟨g5, 0, none⟩) ((pk bs ++ ([0] : List UInt8)).length) cap5, .int .i64 cnt] 138), (φ3 0, .cells #[.int .u8 0] 5)]) (C := []) ⟨(fun φ9 xs9 => [.look 0 [] [], .look 0 [] [], .look 0 [] [], .look 0 [.o 0] [b], .look 0 [] [], .look 0 [] [], .look 0 [] [], .look 0 [.o 0] [b], .look 0 [] [], .sub 0 [] [] (.int .i64 (IntKind.wrap .i64 ((((pk bs ++ ([0] : List UInt8)).length : Nat) : Int) - ((1 : Nat) : Int)))), .ran (Instr.indexAt 22 (.slice (some ⟨g5, 0, none⟩) ((pk bs ++ ([0] : List UInt8)).length) cap5) (.int .i64 ((((pk bs ++ ([0] : List UInt8)).length) - 1 : Nat) : Int))), .ran (Instr.loadAt 5 (.pointer (pAt (some ⟨g5, 0, none⟩) (((pk bs ++ ([0] : List UInt8)).length) - 1)))), .look 0 [] [], .look 0 [] [], .look 0 [] [], .look 0 [] [], .look 0 [.o 0] [b], .call 81 #[.int .i64 cnt], .ran (binOp .shl 41 (.int .u64 x) (.int .i64 ((7 - cnt % 8 : Nat) : Int))), .ran (convert 41 5 (.int .u64 (bshl 64 x (7 - cnt % 8)))), .ran (binOp .or 5 (.int .u8 ((((pk bs ++ ([0] : List UInt8)).getD (((pk bs ++ ([0] : List UInt8)).length) - 1) 0).toNat : Nat) : Int)) (.int .u8 (((bshl 64 x (7 - cnt % 8)) % 256 : Nat) : Int))), .ran (Instr.indexAt 22 (.slice (some ⟨g5, 0, none⟩) ((pk bs ++ ([0] : List UInt8)).length) cap5) (.int .i64 ((((pk bs ++ ([0] : List UInt8)).length) - 1 : Nat) : Int)))]), (fun φ9 xs9 => [pB b, pB b, pB b, .slice (some ⟨g5, 0, none⟩) ((pk bs ++ ([0] : List UInt8)).length) cap5, pB b, pB b, pB b, .slice (some ⟨g5, 0, none⟩) ((pk bs ++ ([0] : List UInt8)).length) cap5, .int .i64 (((pk bs ++ ([0] : List UInt8)).length : Nat) : Int), .int .i64 ((((pk bs ++ ([0] : List UInt8)).length) - 1 : Nat) : Int), .pointer (pAt (some ⟨g5, 0, none⟩) (((pk bs ++ ([0] : List UInt8)).length) - 1)), .int .u8 ((((pk bs ++ ([0] : List UInt8)).getD (((pk bs ++ ([0] : List UInt8)).length) - 1) 0).toNat : Nat) : Int), .int .u64 x, pB b, pB b, .pointer (some ⟨b, 1, none⟩), .int .i64 cnt, .int .i64 ((7 - cnt % 8 : Nat) : Int), .int .u64 (bshl 64 x (7 - cnt % 8)), .int .u8 (((bshl 64 x (7 - cnt % 8)) % 256 : Nat) : Int), .int .u8 ((bor 8 (((pk bs ++ ([0] : List UInt8)).getD (((pk bs ++ ([0] : List UInt8)).length) - 1) 0).toNat) ((bshl 64 x (7 - cnt % 8)) % 256) : Nat) : Int), .pointer (pAt (some ⟨g5, 0, none⟩) (((pk bs ++ ([0] : List UInt8)).length) - 1))]), (fun φ9 xs9 => [[(b, .cells #[.slice (some ⟨g5, 0, none⟩) ((pk bs ++ ([0] : List UInt8)).length) cap5, .int .i64 cnt] 138), (φ3 0, .cells #[.int .u8 0] 5)]]), (fun φ9 xs9 => [[default, default, default, default, default, default, default, default, default, default, default, default, default, default, default, default, default, default, default, default, default, default]]), [], [1, 1, 1, 1, 1, 1, 1, 1, 1, 5, 6, 6, 1, 1, 1, 1, 1, 3, 6, 6, 6, 6]⟩ (fun j => ([MP.any] : List MP).getD j MP.any) [] _ (last_split 22 (by kernel_rfl)) (by kernel_rfl) [17] [9] [10, 11, 18, 19, 20, 21] (fun φ9 xs9 => []) (fun φ9 xs9 => [(19, pB b), (20, pB b), (21, pB b), (22, .slice (some ⟨g5, 0, none⟩) ((pk bs ++ ([0] : List UInt8)).length) cap5), (23, pB b), (24, pB b), (25, pB b), (26, .slice (some ⟨g5, 0, none⟩) ((pk bs ++ ([0] : List UInt8)).length) cap5), (27, .int .i64 (((pk bs ++ ([0] : List UInt8)).length : Nat) : Int)), (28, .int .i64 ((((pk bs ++ ([0] : List UInt8)).length) - 1 : Nat) : Int)), (29, .pointer (pAt (some ⟨g5, 0, none⟩) (((pk bs ++ ([0] : List UInt8)).length) - 1))), (30, .int .u8 ((((pk bs ++ ([0] : List UInt8)).getD (((pk bs ++ ([0] : List UInt8)).length) - 1) 0).toNat : Nat) : Int)), (31, .int .u64 x), (32, pB b), (33, pB b), (34, .pointer (some ⟨b, 1, none⟩)), (35, .int .i64 cnt), (36, .int .i64 ((7 - cnt % 8 : Nat) : Int)), (37, .int .u64 (bshl 64 x (7 - cnt % 8))), (38, .int .u8 (((bshl 64 x (7 - cnt % 8)) % 256 : Nat) : Int)), (39, .int .u8 ((bor 8 (((pk bs ++ ([0] : List UInt8)).getD (((pk bs ++ ([0] : List UInt8)).length) - 1) 0).toNat) ((bshl 64 x (7 - cnt % 8)) % 256) : Nat) : Int)), (40, .pointer (pAt (some ⟨g5, 0, none⟩) (((pk bs ++ ([0] : List UInt8)).length) - 1)))]) (fun φ9 xs9 => [(b, .cells #[.slice (some ⟨g5, 0, none⟩) ((pk bs ++ ([0] : List UInt8)).length) cap5, .int .i64 cnt] 138), (φ3 0, .cells #[.int .u8 0] 5)]) s trivial (by kernel_rfl) (by kernel_rfl) (fun _ _ => by kernel_rfl) (fun _ _ => by kernel_rfl) ⟨fun _ _ => by kernel_rfl, fun _ _ => by kernel_rfl, fun _ _ => by kernel_rfl, fun _ _ => by kernel_rfl⟩ (fun _ _ _ => by kernel_rfl) (fun _ _ => by kernel_rfl) (fun _ _ => by kernel_rfl) (fun _ _ => by kernel_rfl) (fun _ _ => by kernel_rfl) (fun _ _ => by kernel_rfl) ⟨kcast (A := ∀ (φ9 : Nat → Nat) (xs9 : Xs), (.int .i64 (IntKind.wrap .i64 ((((pk bs ++ ([0] : List UInt8)).length : Nat) : Int) - ((1 : Nat) : Int))) : Value) = .int .i64 ((((pk bs ++ ([0] : List UInt8)).length) - 1 : Nat) : Int)) (by kernel_rfl) (fun φ9 xs9 => congrArg (Value.int .i64) ((nat_subI (a := ((pk bs ++ ([0] : List UInt8)).length)) (b := 1) (by have hpl := pk_len bs; have hq0 := of_decide_eq_true hc2; (try simp only [List.length_drop, List.length_take, List.length_append, List.length_cons, List.length_nil]); omega) (by have hpl := pk_len bs; have hq0 := of_decide_eq_true hc2; (try simp only [List.length_drop, List.length_take, List.length_append, List.length_cons, List.length_nil]); omega)))), trivial⟩ ⟨kcast (A := ∀ (φ9 : Nat → Nat) (xs9 : Xs) (J : IM) (w : World), I8.Le J → J.Sub w → ((Instr.indexAt 22 (.slice (some ⟨g5, 0, none⟩) ((pk bs ++ ([0] : List UInt8)).length) cap5) (.int .i64 ((((pk bs ++ ([0] : List UInt8)).length) - 1 : Nat) : Int))) : Sem Value).run Tryd.prog w = .ok (.pointer (pAt (some ⟨g5, 0, none⟩) (((pk bs ++ ([0] : List UInt8)).length) - 1))) w) (by kernel_rfl) (fun φ9 xs9 J w hJ hS => bsl_idx (BSl.mono hJ (row_bsl hrow5 hk8)) (by have hpl := pk_len bs; have hq0 := of_decide_eq_true hc2; (try simp only [List.length_drop, List.length_take, List.length_append, List.length_cons, List.length_nil]); omega)), ⟨kcast (A := ∀ (φ9 : Nat → Nat) (xs9 : Xs) (J : IM) (w : World), I8.Le J → J.Sub w → ((Instr.loadAt 5 (.pointer (pAt (some ⟨g5, 0, none⟩) (((pk bs ++ ([0] : List UInt8)).length) - 1)))) : Sem Value).run Tryd.prog w = .ok (.int .u8 ((((pk bs ++ ([0] : List UInt8)).getD (((pk bs ++ ([0] : List UInt8)).length) - 1) 0).toNat : Nat) : Int)) w) (by kernel_rfl) (fun φ9 xs9 J w hJ hS => bsl_ld hS (BSl.mono hJ (row_bsl hrow5 hk8)) (by have hpl := pk_len bs; have hq0 := of_decide_eq_true hc2; (try simp only [List.length_drop, List.length_take, List.length_append, List.length_cons, List.length_nil]); omega)), ⟨kcast (A := ∀ (φ9 : Nat → Nat) (xs9 : Xs) (J : IM) (w : World), I8.Le J → J.Sub w → ((binOp .shl 41 (.int .u64 x) (.int .i64 ((7 - cnt % 8 : Nat) : Int))) : Sem Value).run Tryd.prog w = .ok (.int .u64 (bshl 64 x (7 - cnt % 8))) w) (by kernel_rfl) (fun φ9 xs9 J w hJ hS => run_shlU (.inr (.inr (.inl rfl)))), ⟨kcast (A := ∀ (φ9 : Nat → Nat) (xs9 : Xs) (J : IM) (w : World), I8.Le J → J.Sub w → ((convert 41 5 (.int .u64 (bshl 64 x (7 - cnt % 8)))) : Sem Value).run Tryd.prog w = .ok (.int .u8 (((bshl 64 x (7 - cnt % 8)) % 256 : Nat) : Int)) w) (by kernel_rfl) (fun φ9 xs9 J w hJ hS => run_conv8 (by kernel_rfl) ⟨_, Tryd.underlying41⟩), ⟨kcast (A := ∀ (φ9 : Nat → Nat) (xs9 : Xs) (J : IM) (w : World), I8.Le J → J.Sub w → ((binOp .or 5 (.int .u8 ((((pk bs ++ ([0] : List UInt8)).getD (((pk bs ++ ([0] : List UInt8)).length) - 1) 0).toNat : Nat) : Int)) (.int .u8 (((bshl 64 x (7 - cnt % 8)) % 256 : Nat) : Int))) : Sem Value).run Tryd.prog w = .ok (.int .u8 ((bor 8 (((pk bs ++ ([0] : List UInt8)).getD (((pk bs ++ ([0] : List UInt8)).length) - 1) 0).toNat) ((bshl 64 x (7 - cnt % 8)) % 256) : Nat) : Int)) w) (by kernel_rfl) (fun φ9 xs9 J w hJ hS => run_bit8.2.2.1), ⟨kcast (A := ∀ (φ9 : Nat → Nat) (xs9 : Xs) (J : IM) (w : World), I8.Le J → J.Sub w → ((Instr.indexAt 22 (.slice (some ⟨g5, 0, none⟩) ((pk bs ++ ([0] : List UInt8)).length) cap5) (.int .i64 ((((pk bs ++ ([0] : List UInt8)).length) - 1 : Nat) : Int))) : Sem Value).run Tryd.prog w = .ok (.pointer (pAt (some ⟨g5, 0, none⟩) (((pk bs ++ ([0] : List UInt8)).length) - 1))) w) (by kernel_rfl) (fun φ9 xs9 J w hJ hS => bsl_idx (BSl.mono hJ (row_bsl hrow5 hk8)) (by have hpl := pk_len bs; have hq0 := of_decide_eq_true hc2; (try simp only [List.length_drop, List.length_take, List.length_append, List.length_cons, List.length_nil]); omega)), trivial⟩⟩⟩⟩⟩⟩ (by kernel_rfl) ⟨?c9_17, trivial⟩ ?k9
  case c9_17 =>
   refine kcast (A := ∀ (φ9 : Nat → Nat) (xs9 : Xs) (J17_9 : IM), I8.Le J17_9 → Fun Tryd.prog 81 #[.int .i64 cnt] J17_9 (fun v J' => ∃ x : UX, v = .int .i64 ((7 - cnt % 8 : Nat) : Int) ∧ (True))) (by kernel_rfl) ?_
   intro φ9 xs9 J17_9 leJ
   exact Fun.mono (shift_c (n := cnt)) (fun v J' _ h => ⟨UX.d, h, trivial⟩)
  case k9 =>
   rintro φ9 xs9 I9 w9 le9 s _
   replace hT7 := leMono le9 hT7
   replace hk8 := le9 _ _ hk8
   replace s := St.thaw s hk8 hz7.2.1 hz7.2.2
   have leT7 := IM.le_del (g := g5) hT7 hz7.1
   generalize IM.del I9 g5 = J7 at s leT7
   obtain ⟨w7, cur7, hr7, s, hrow7⟩ := row_stA (H := [(b, .cells #[.slice (some ⟨g5, 0, none⟩) ((pk bs ++ ([0] : List UInt8)).length) cap5, .int .i64 ((cnt : Nat) : Int)] 138), ((φ3 0), .cells #[.int .u8 0] 5), (g5, .cells cur5 5)]) (q := 2) (i := ((pk bs ++ ([0] : List UInt8)).length) - 1) (x := bor 8 (((pk bs ++ ([0] : List UInt8)).getD (((pk bs ++ ([0] : List UInt8)).length) - 1) 0).toNat) ((bshl 64 x (7 - cnt % 8)) % 256)) s (by kernel_rfl) hrow5 (by have hpl := pk_len bs; have hq0 := of_decide_eq_true hc2; (try simp only [List.length_drop, List.length_take, List.length_append, List.length_cons, List.length_nil]); omega) (bor8_lt)
   refine last_rule (Instr.storeAt 5 (.pointer (pAt (some ⟨g5, 0, none⟩) (((pk bs ++ ([0] : List UInt8)).length) - 1))) (.int .u8 ((bor 8 (((pk bs ++ ([0] : List UInt8)).getD (((pk bs ++ ([0] : List UInt8)).length) - 1) 0).toNat) ((bshl 64 x (7 - cnt % 8)) % 256) : Nat) : Int))) rfl (by kernel_rfl) (by kernel_rfl) hr7 ?_
   refine region_rule ?_
   refine oA _ [] 8 [.o 0, .o 0] 0 (fun φ10 => [(47, .pointer (some ⟨b, 1, none⟩)), (46, pB b), (45, .int .i64 (IntKind.wrap .i64 (((cnt : Nat) : Int) + ((1 : Nat) : Int)))), (44, .int .i64 cnt), (43, .pointer (some ⟨b, 1, none⟩)), (42, pB b), (41, pB b)]) (fun φ10 => [(b, .cells #[.slice (some ⟨g5, 0, none⟩) ((pk bs ++ ([0] : List UInt8)).length) cap5, .int .i64 (IntKind.wrap .i64 (((cnt : Nat) : Int) + ((1 : Nat) : Int)))] 138), (φ3 0, .cells #[.int .u8 0] 5), (g5, .cells cur7 5)]) (fun φ10 => [b, b]) s (fun φ10 => by kernel_rfl) ?_
   intro φ10 w10 s
   rw [nat_addI (a := cnt) (b := 1) (by have hpl := pk_len bs; have hq0 := of_decide_eq_true hc2; omega)] at s ⊢
   refine ops_done (by kernel_rfl) ?_
   refine end_rule (C := []) _ [] (.tuple #[]) [] [] s trivial (by kernel_rfl) ?_
   replace s := s.drop (List.Sublist.append (List.Sublist.cons₂ _ (List.Sublist.cons _ (List.Sublist.cons₂ _ List.Sublist.slnil))) (List.Sublist.refl []))
   exact ⟨_, _, _, rfl, s, ⟨_, _, rfl, rfl, _, rfl, rfl, row_cast hrow7 (add_set0 hc hx (of_decide_eq_true hc2))⟩⟩
 ·
  rw [hc2]
  refine cond_false_rule (b := false) (by kernel_rfl) rfl ?_
  refine wp_skip ?_
  refine wp_seq ?_
  obtain ⟨g11, cap11, cur11, hv11, hF11, hc11, hrow11⟩ := row_open h (by rw [pk_len]; have := of_decide_eq_false hc2; omega)
  subst hv11
  subst hF11
  have hz12 := St.none0 s (g := g11) (o := .cells cur11 5) (by simp)
  have hT12 := IM.Le.refl I
  obtain ⟨I13, le13, hk13, s⟩ := s.freezeAt 1 g11 (.cells cur11 5) [(b, .cells #[.slice (some ⟨g11, 0, none⟩) ((pk bs).length) cap11, .int .i64 ((cnt : Nat) : Int)] 138)] (by kernel_rfl) (by kernel_rfl)
  replace hT12 := leMono le13 hT12
  refine drawL_rule (H := [(b, .cells #[.slice (some ⟨g11, 0, none⟩) ((pk bs).length) cap11, .int .i64 cnt] 138)]) (C := []) ⟨(fun φ14 xs14 => [.look 0 [] [], .look 0 [] [], .look 0 [] [], .look 0 [.o 0] [b], .look 0 [] [], .look 0 [] [], .look 0 [] [], .look 0 [.o 0] [b], .look 0 [] [], .sub 0 [] [] (.int .i64 (IntKind.wrap .i64 ((((pk bs).length : Nat) : Int) - ((1 : Nat) : Int)))), .ran (Instr.indexAt 22 (.slice (some ⟨g11, 0, none⟩) ((pk bs).length) cap11) (.int .i64 ((((pk bs).length) - 1 : Nat) : Int))), .ran (Instr.loadAt 5 (.pointer (pAt (some ⟨g11, 0, none⟩) (((pk bs).length) - 1)))), .look 0 [] [], .look 0 [] [], .look 0 [] [], .look 0 [] [], .look 0 [.o 0] [b], .call 81 #[.int .i64 cnt], .ran (binOp .shl 41 (.int .u64 x) (.int .i64 ((7 - cnt % 8 : Nat) : Int))), .ran (convert 41 5 (.int .u64 (bshl 64 x (7 - cnt % 8)))), .ran (binOp .or 5 (.int .u8 ((((pk bs).getD (((pk bs).length) - 1) 0).toNat : Nat) : Int)) (.int .u8 (((bshl 64 x (7 - cnt % 8)) % 256 : Nat) : Int))), .ran (Instr.indexAt 22 (.slice (some ⟨g11, 0, none⟩) ((pk bs).length) cap11) (.int .i64 ((((pk bs).length) - 1 : Nat) : Int)))]), (fun φ14 xs14 => [pB b, pB b, pB b, .slice (some ⟨g11, 0, none⟩) ((pk bs).length) cap11, pB b, pB b, pB b, .slice (some ⟨g11, 0, none⟩) ((pk bs).length) cap11, .int .i64 (((pk bs).length : Nat) : Int), .int .i64 ((((pk bs).length) - 1 : Nat) : Int), .pointer (pAt (some ⟨g11, 0, none⟩) (((pk bs).length) - 1)), .int .u8 ((((pk bs).getD (((pk bs).length) - 1) 0).toNat : Nat) : Int), .int .u64 x, pB b, pB b, .pointer (some ⟨b, 1, none⟩), .int .i64 cnt, .int .i64 ((7 - cnt % 8 : Nat) : Int), .int .u64 (bshl 64 x (7 - cnt % 8)), .int .u8 (((bshl 64 x (7 - cnt % 8)) % 256 : Nat) : Int), .int .u8 ((bor 8 (((pk bs).getD (((pk bs).length) - 1) 0).toNat) ((bshl 64 x (7 - cnt % 8)) % 256) : Nat) : Int), .pointer (pAt (some ⟨g11, 0, none⟩) (((pk bs).length) - 1))]), (fun φ14 xs14 => [[(b, .cells #[.slice (some ⟨g11, 0, none⟩) ((pk bs).length) cap11, .int .i64 cnt] 138)]]), (fun φ14 xs14 => [[default, default, default, default, default, default, default, default, default, default, default, default, default, default, default, default, default, default, default, default, default, default]]), [], [1, 1, 1, 1, 1, 1, 1, 1, 1, 5, 6, 6, 1, 1, 1, 1, 1, 3, 6, 6, 6, 6]⟩ (fun j => ([MP.any] : List MP).getD j MP.any) [] _ (last_split 22 (by kernel_rfl)) (by kernel_rfl) [17] [9] [10, 11, 18, 19, 20, 21] (fun φ14 xs14 => []) (fun φ14 xs14 => [(19, pB b), (20, pB b), (21, pB b), (22, .slice (some ⟨g11, 0, none⟩) ((pk bs).length) cap11), (23, pB b), (24, pB b), (25, pB b), (26, .slice (some ⟨g11, 0, none⟩) ((pk bs).length) cap11), (27, .int .i64 (((pk bs).length : Nat) : Int)), (28, .int .i64 ((((pk bs).length) - 1 : Nat) : Int)), (29, .pointer (pAt (some ⟨g11, 0, none⟩) (((pk bs).length) - 1))), (30, .int .u8 ((((pk bs).getD (((pk bs).length) - 1) 0).toNat : Nat) : Int)), (31, .int .u64 x), (32, pB b), (33, pB b), (34, .pointer (some ⟨b, 1, none⟩)), (35, .int .i64 cnt), (36, .int .i64 ((7 - cnt % 8 : Nat) : Int)), (37, .int .u64 (bshl 64 x (7 - cnt % 8))), (38, .int .u8 (((bshl 64 x (7 - cnt % 8)) % 256 : Nat) : Int)), (39, .int .u8 ((bor 8 (((pk bs).getD (((pk bs).length) - 1) 0).toNat) ((bshl 64 x (7 - cnt % 8)) % 256) : Nat) : Int)), (40, .pointer (pAt (some ⟨g11, 0, none⟩) (((pk bs).length) - 1)))]) (fun φ14 xs14 => [(b, .cells #[.slice (some ⟨g11, 0, none⟩) ((pk bs).length) cap11, .int .i64 cnt] 138)]) s trivial (by kernel_rfl) (by kernel_rfl) (fun _ _ => by kernel_rfl) (fun _ _ => by kernel_rfl) ⟨fun _ _ => by kernel_rfl, fun _ _ => by kernel_rfl, fun _ _ => by kernel_rfl, fun _ _ => by kernel_rfl⟩ (fun _ _ _ => by kernel_rfl) (fun _ _ => by kernel_rfl) (fun _ _ => by kernel_rfl) (fun _ _ => by kernel_rfl) (fun _ _ => by kernel_rfl) (fun _ _ => by kernel_rfl) ⟨kcast (A := ∀ (φ14 : Nat → Nat) (xs14 : Xs), (.int .i64 (IntKind.wrap .i64 ((((pk bs).length : Nat) : Int) - ((1 : Nat) : Int))) : Value) = .int .i64 ((((pk bs).length) - 1 : Nat) : Int)) (by kernel_rfl) (fun φ14 xs14 => congrArg (Value.int .i64) ((nat_subI (a := ((pk bs).length)) (b := 1) (by have hpl := pk_len bs; have hq0 := of_decide_eq_false hc2; (try simp only [List.length_drop, List.length_take, List.length_append, List.length_cons, List.length_nil]); omega) (by have hpl := pk_len bs; have hq0 := of_decide_eq_false hc2; (try simp only [List.length_drop, List.length_take, List.length_append, List.length_cons, List.length_nil]); omega)))), trivial⟩ ⟨kcast (A := ∀ (φ14 : Nat → Nat) (xs14 : Xs) (J : IM) (w : World), I13.Le J → J.Sub w → ((Instr.indexAt 22 (.slice (some ⟨g11, 0, none⟩) ((pk bs).length) cap11) (.int .i64 ((((pk bs).length) - 1 : Nat) : Int))) : Sem Value).run Tryd.prog w = .ok (.pointer (pAt (some ⟨g11, 0, none⟩) (((pk bs).length) - 1))) w) (by kernel_rfl) (fun φ14 xs14 J w hJ hS => bsl_idx (BSl.mono hJ (row_bsl hrow11 hk13)) (by have hpl := pk_len bs; have hq0 := of_decide_eq_false hc2; (try simp only [List.length_drop, List.length_take, List.length_append, List.length_cons, List.length_nil]); omega)), ⟨kcast (A := ∀ (φ14 : Nat → Nat) (xs14 : Xs) (J : IM) (w : World), I13.Le J → J.Sub w → ((Instr.loadAt 5 (.pointer (pAt (some ⟨g11, 0, none⟩) (((pk bs).length) - 1)))) : Sem Value).run Tryd.prog w = .ok (.int .u8 ((((pk bs).getD (((pk bs).length) - 1) 0).toNat : Nat) : Int)) w) (by kernel_rfl) (fun φ14 xs14 J w hJ hS => bsl_ld hS (BSl.mono hJ (row_bsl hrow11 hk13)) (by have hpl := pk_len bs; have hq0 := of_decide_eq_false hc2; (try simp only [List.length_drop, List.length_take, List.length_append, List.length_cons, List.length_nil]); omega)), ⟨kcast (A := ∀ (φ14 : Nat → Nat) (xs14 : Xs) (J : IM) (w : World), I13.Le J → J.Sub w → ((binOp .shl 41 (.int .u64 x) (.int .i64 ((7 - cnt % 8 : Nat) : Int))) : Sem Value).run Tryd.prog w = .ok (.int .u64 (bshl 64 x (7 - cnt % 8))) w) (by kernel_rfl) (fun φ14 xs14 J w hJ hS => run_shlU (.inr (.inr (.inl rfl)))), ⟨kcast (A := ∀ (φ14 : Nat → Nat) (xs14 : Xs) (J : IM) (w : World), I13.Le J → J.Sub w → ((convert 41 5 (.int .u64 (bshl 64 x (7 - cnt % 8)))) : Sem Value).run Tryd.prog w = .ok (.int .u8 (((bshl 64 x (7 - cnt % 8)) % 256 : Nat) : Int)) w) (by kernel_rfl) (fun φ14 xs14 J w hJ hS => run_conv8 (by kernel_rfl) ⟨_, Tryd.underlying41⟩), ⟨kcast (A := ∀ (φ14 : Nat → Nat) (xs14 : Xs) (J : IM) (w : World), I13.Le J → J.Sub w → ((binOp .or 5 (.int .u8 ((((pk bs).getD (((pk bs).length) - 1) 0).toNat : Nat) : Int)) (.int .u8 (((bshl 64 x (7 - cnt % 8)) % 256 : Nat) : Int))) : Sem Value).run Tryd.prog w = .ok (.int .u8 ((bor 8 (((pk bs).getD (((pk bs).length) - 1) 0).toNat) ((bshl 64 x (7 - cnt % 8)) % 256) : Nat) : Int)) w) (by kernel_rfl) (fun φ14 xs14 J w hJ hS => run_bit8.2.2.1), ⟨kcast (A := ∀ (φ14 : Nat → Nat) (xs14 : Xs) (J : IM) (w : World), I13.Le J → J.Sub w → ((Instr.indexAt 22 (.slice (some ⟨g11, 0, none⟩) ((pk bs).length) cap11) (.int .i64 ((((pk bs).length) - 1 : Nat) : Int))) : Sem Value).run Tryd.prog w = .ok (.pointer (pAt (some ⟨g11, 0, none⟩) (((pk bs).length) - 1))) w) (by kernel_rfl) (fun φ14 xs14 J w hJ hS => bsl_idx (BSl.mono hJ (row_bsl hrow11 hk13)) (by have hpl := pk_len bs; have hq0 := of_decide_eq_false hc2; (try simp only [List.length_drop, List.length_take, List.length_append, List.length_cons, List.length_nil]); omega)), trivial⟩⟩⟩⟩⟩⟩ (by kernel_rfl) ⟨?c14_17, trivial⟩ ?k14
  case c14_17 =>
   refine kcast (A := ∀ (φ14 : Nat → Nat) (xs14 : Xs) (J17_14 : IM), I13.Le J17_14 → Fun Tryd.prog 81 #[.int .i64 cnt] J17_14 (fun v J' => ∃ x : UX, v = .int .i64 ((7 - cnt % 8 : Nat) : Int) ∧ (True))) (by kernel_rfl) ?_
   intro φ14 xs14 J17_14 leJ
   exact Fun.mono (shift_c (n := cnt)) (fun v J' _ h => ⟨UX.d, h, trivial⟩)
  case k14 =>
   rintro φ14 xs14 I14 w14 le14 s _
   replace hT12 := leMono le14 hT12
   replace hk13 := le14 _ _ hk13
   replace s := St.thaw s hk13 hz12.2.1 hz12.2.2
   have leT12 := IM.le_del (g := g11) hT12 hz12.1
   generalize IM.del I14 g11 = J12 at s leT12
   obtain ⟨w12, cur12, hr12, s, hrow12⟩ := row_stA (H := [(b, .cells #[.slice (some ⟨g11, 0, none⟩) ((pk bs).length) cap11, .int .i64 ((cnt : Nat) : Int)] 138), (g11, .cells cur11 5)]) (q := 1) (i := ((pk bs).length) - 1) (x := bor 8 (((pk bs).getD (((pk bs).length) - 1) 0).toNat) ((bshl 64 x (7 - cnt % 8)) % 256)) s (by kernel_rfl) hrow11 (by have hpl := pk_len bs; have hq0 := of_decide_eq_false hc2; (try simp only [List.length_drop, List.length_take, List.length_append, List.length_cons, List.length_nil]); omega) (bor8_lt)
   refine last_rule (Instr.storeAt 5 (.pointer (pAt (some ⟨g11, 0, none⟩) (((pk bs).length) - 1))) (.int .u8 ((bor 8 (((pk bs).getD (((pk bs).length) - 1) 0).toNat) ((bshl 64 x (7 - cnt % 8)) % 256) : Nat) : Int))) rfl (by kernel_rfl) (by kernel_rfl) hr12 ?_
   refine region_rule ?_
   refine oA _ [] 8 [.o 0, .o 0] 0 (fun φ15 => [(47, .pointer (some ⟨b, 1, none⟩)), (46, pB b), (45, .int .i64 (IntKind.wrap .i64 (((cnt : Nat) : Int) + ((1 : Nat) : Int)))), (44, .int .i64 cnt), (43, .pointer (some ⟨b, 1, none⟩)), (42, pB b), (41, pB b)]) (fun φ15 => [(b, .cells #[.slice (some ⟨g11, 0, none⟩) ((pk bs).length) cap11, .int .i64 (IntKind.wrap .i64 (((cnt : Nat) : Int) + ((1 : Nat) : Int)))] 138), (g11, .cells cur12 5)]) (fun φ15 => [b, b]) s (fun φ15 => by kernel_rfl) ?_
   intro φ15 w15 s
   rw [nat_addI (a := cnt) (b := 1) (by have hpl := pk_len bs; have hq0 := of_decide_eq_false hc2; omega)] at s ⊢
   refine ops_done (by kernel_rfl) ?_
   refine end_rule (C := []) _ [] (.tuple #[]) [] [] s trivial (by kernel_rfl) ?_
   replace s := s.drop (List.Sublist.append (List.Sublist.cons₂ _ (List.Sublist.cons₂ _ List.Sublist.slnil)) (List.Sublist.refl []))
   exact ⟨_, _, _, rfl, s, ⟨_, _, rfl, rfl, _, rfl, rfl, row_cast hrow12 (add_set1 hc hx (of_decide_eq_false hc2))⟩⟩

theorem bit_eq {n k i : Nat} (hn : n < 18446744073709551616) : decide (band 64 (n / 2 ^ (k - 1 - i)) 1 = 1) = bitF n k i := by
  rw [band64_one (Nat.lt_of_le_of_lt (Nat.div_le_self _ _) hn)]; rfl
theorem bit_two {n k i : Nat} (hn : n < 18446744073709551616) : band 64 (n / 2 ^ (k - 1 - i)) 1 < 2 := by
  rw [band64_one (Nat.lt_of_le_of_lt (Nat.div_le_self _ _) hn)]; omega

set_option maxHeartbeats 2000000 in
theorem put_c {I : IM} {b cnt : Nat} {bs : List Bool} {v0 : Value} {F : List OB} (hc : cnt = bs.length) (hl9 : bs.length ≤ 900000) (h : RowH 5 1 v0 (pk bs).length ((pk bs).map bV) F) {n k : Nat} (hn : n < 18446744073709551616) (hk : k ≤ 64) : FunM Tryd.prog 95 #[.pointer (some ⟨b, 0, none⟩), .int .u64 ((n : Nat) : Int), .int .i64 ((k : Nat) : Int)] I ((b, .cells #[v0, .int .i64 ((cnt : Nat) : Int)] 138) :: F) (fun v J H' => ∃ (b' : OB) (F' : List OB), H' = b' :: F' ∧ b'.1 = b ∧ ∃ v', v = .tuple #[] ∧ b' = (b, .cells #[v', .int .i64 ((cnt + k : Nat) : Int)] 138) ∧ RowH 5 1 v' (pk (bs ++ putBits n k)).length ((pk (bs ++ putBits n k)).map bV) F') := by
 refine enterM_rule 25 [(0, pB b), (1, .int .u64 n), (2, .int .i64 k)] Tryd.func95 rfl (by kernel_rfl) ?_
 intro w s
 refine wp_seq ?_
 refine seqR ?_
 refine oKD [(b, .cells #[v0, .int .i64 cnt] 138)] F 2 [] 0 (fun φ1 => [(8, .bool false), (7, pB b)]) (fun φ1 => []) s (fun φ1 => by kernel_rfl) (by kernel_rfl) ?_
 intro φ1 w1 s
 refine cond_false_rule (b := false) (by kernel_rfl) rfl ?_
 refine wp_skip ?_
 refine seqR ?_
 refine oK _ F 1 [] 0 (fun φ2 => [(9, .int .i64 k)]) (fun φ2 => []) s (fun φ2 => by kernel_rfl) ?_
 intro φ2 w2 s
 refine call_rule (some 10) s (held_c (k := k) (by   omega)) (by kernel_rfl) ?_
 intro v3 I3 w3 le3 h3 s
 obtain rfl := h3
 refine oKD _ F 1 [] 0 (fun φ4 => [(2, .int .i64 k)]) (fun φ4 => []) s (fun φ4 => by kernel_rfl) (by kernel_rfl) ?_
 intro φ4 w4 s
 refine seqR ?_
 refine oKD _ F 2 [] 0 (fun φ5 => [(12, .int .i64 0), (11, .int .i64 k)]) (fun φ5 => []) s (fun φ5 => by kernel_rfl) (by kernel_rfl) ?_
 intro φ5 w5 s
 refine wp_block ?_
 have hrw0 : RowH 5 1 v0 (pk (wr bs n k 0)).length ((pk (wr bs n k 0)).map bV) F := row_cast h (congrArg pk wr_zero.symm)
 have hle6 := IM.Le.refl I3
 refine loop_rule (fun (x : Nat × Value × List OB) => [(0, pB b), (1, .int .u64 n), (2, .int .i64 k), (11, .int .i64 k), (12, .int .i64 x.1)]) (fun (x : Nat × Value × List OB) => [(b, .cells #[x.2.1, .int .i64 ((cnt + x.1 : Nat) : Int)] 138)] ++ x.2.2) (fun m (x : Nat × Value × List OB) J => IM.Le I3 J ∧ x.1 + m = k ∧ RowH 5 1 x.2.1 (pk (wr bs n k x.1)).length ((pk (wr bs n k x.1)).map bV) x.2.2) (k) (0, v0, F) s (by kernel_rfl) (List.Sublist.refl _) ⟨IM.Le.refl _, Nat.zero_add _, hrw0⟩ ?_
 rintro m7 ⟨i7, v7, F7⟩ I7 w7 ev7 s ⟨le7, hi7_0, hi7_1⟩
 try dsimp only at s hi7_0 hi7_1 ⊢
 replace hle6 := leMono le7 hle6
 refine seqR ?_
 refine oK _ F7 1 [] 0 (fun φ8 => [(13, .bool (decide (((i7 : Nat) : Int) < ((k : Nat) : Int))))]) (fun φ8 => []) s (fun φ8 => by kernel_rfl) ?_
 intro φ8 w8 s
 rw [nat_lss (a := i7) (b := k)]
 refine ops_done (by kernel_rfl) ?_
 refine wp_seq ?_
 rcases Bool.eq_false_or_eq_true (decide (i7 < k)) with hc9 | hc9
 ·
  rw [hc9]
  refine cond_true_rule (b := true) (by kernel_rfl) rfl ?_
  refine wp_skip ?_
  refine wp_seq ?_
  refine wp_block ?_
  refine seqR ?_
  refine oKD _ F7 2 [] 0 (fun φ10 => [(6, .int .i64 i7), (14, .int .i64 i7)]) (fun φ10 => []) s (fun φ10 => by kernel_rfl) (by kernel_rfl) ?_
  intro φ10 w10 s
  refine region_rule ?_
  refine oK _ F7 6 [] 0 (fun φ11 => [(20, .int .i64 (IntKind.wrap .i64 ((IntKind.wrap .i64 (((k : Nat) : Int) - ((1 : Nat) : Int))) - ((i7 : Nat) : Int)))), (19, .int .i64 i7), (18, .int .i64 (IntKind.wrap .i64 (((k : Nat) : Int) - ((1 : Nat) : Int)))), (17, .int .i64 k), (16, .int .u64 n), (15, pB b)]) (fun φ11 => []) s (fun φ11 => by kernel_rfl) ?_
  intro φ11 w11 s
  rw [nat_subI (a := k) (b := 1) (by have hi0 := hi7_0; have hq0 := of_decide_eq_true hc9; omega) (by have hi0 := hi7_0; have hq0 := of_decide_eq_true hc9; omega)]
  rw [nat_subI (a := (k - 1)) (b := i7) (by have hi0 := hi7_0; have hq0 := of_decide_eq_true hc9; omega) (by have hi0 := hi7_0; have hq0 := of_decide_eq_true hc9; omega)]
  refine sem_rule (binOp .shr 41 (.int .u64 n) (.int .i64 (((k - 1) - i7 : Nat) : Int))) (some 21) (.int .u64 ((n / 2 ^ ((k - 1) - i7) : Nat) : Int)) (by kernel_rfl) (run_shrU (by show _ < 18446744073709551616; have hi0 := hi7_0; have hq0 := of_decide_eq_true hc9; omega)) ?_
  refine sem_rule (binOp .and 41 (.int .u64 ((n / 2 ^ ((k - 1) - i7) : Nat) : Int)) (.int .u64 ((1 : Nat) : Int))) (some 22) (.int .u64 (band 64 (n / 2 ^ ((k - 1) - i7)) 1)) (by kernel_rfl) (run_bit64.2.1) ?_
  refine callH_rule (b := (b, .cells #[v7, .int .i64 ((cnt + i7 : Nat) : Int)] 138)) (F := F7) (Hr := []) (some 23) 0 s (by kernel_rfl) (by kernel_rfl) (add_c (b := b) (cnt := cnt + i7) (bs := (wr bs n k i7)) (x := band 64 (n / 2 ^ ((k - 1) - i7)) 1) (by rw [wr_len]; omega) (by rw [wr_len]; have hq0 := of_decide_eq_true hc9; have hi0 := hi7_0; omega) hi7_1 (bit_two hn)) (by kernel_rfl) ?_
  rintro v12 I12 w12 b12 F12 le12 - h12 s
  replace hle6 := leMono le12 hle6
  obtain ⟨v12, rfl, rfl, hr12⟩ := h12
  refine ops_done (by kernel_rfl) ?_
  refine region_rule ?_
  refine oK _ F12 2 [] 0 (fun φ13 => [(12, .int .i64 (IntKind.wrap .i64 (((i7 : Nat) : Int) + ((1 : Nat) : Int)))), (24, .int .i64 (IntKind.wrap .i64 (((i7 : Nat) : Int) + ((1 : Nat) : Int))))]) (fun φ13 => []) s (fun φ13 => by kernel_rfl) ?_
  intro φ13 w13 s
  rw [nat_addI (a := i7) (b := 1) (by have hi0 := hi7_0; have hq0 := of_decide_eq_true hc9; omega)]
  refine ops_done (by kernel_rfl) ?_
  have hq9 := of_decide_eq_true hc9
  have hrw9 : RowH 5 1 v12 (pk (wr bs n k (i7 + 1))).length ((pk (wr bs n k (i7 + 1))).map bV) F12 := row_cast hr12 (congrArg pk ((congrArg (fun q => wr bs n k i7 ++ [q]) (bit_eq (n := n) hn)).trans wr_succ))
  exact ⟨⟨m7 - 1, (i7 + 1, v12, F12), _, _, _, by omega, rfl, s, (List.Sublist.append (List.Sublist.cons₂ _ List.Sublist.slnil) (List.Sublist.refl _)), by kernel_rfl, hle6, by show i7 + 1 + (m7 - 1) = k; omega, hrw9⟩⟩
 ·
  rw [hc9]
  refine cond_false_rule (b := false) (by kernel_rfl) rfl ?_
  refine wp_exit ?_
  refine end_rule (C := []) _ F7 (.tuple #[]) [] [] s trivial (by kernel_rfl) ?_
  have hq9 := of_decide_eq_false hc9
  have hi9 := hi7_0
  obtain rfl : k = i7 := (by omega)
  exact ⟨_, _, _, rfl, s, ⟨_, _, rfl, rfl, _, rfl, rfl, hi7_1⟩⟩

end Go.Proofs.YtgmigcmhnmmdkaaDoor

/- Numbers are written in few bits. -/
set_option linter.all false
set_option maxRecDepth 100000
namespace Go.Proofs.YtgmigcmhnmmdkaaDoor
open Go.RowKit Go.Sep
attribute [local irreducible] Go.wpList Go.Code.wp

theorem klt {n k : Nat} (h : n < 18446744073709551616) (hz : n / 2 ^ k ≠ 0) (hk : k ≤ 64) : k < 64 := by
  rcases Nat.lt_or_ge k 64 with q | q
  · exact q
  · have e : k = 64 := by omega
    subst e; exact absurd (Nat.div_eq_of_lt h) hz

set_option maxHeartbeats 2000000 in
theorem num_c {I : IM} {b cnt : Nat} {bs : List Bool} {v0 : Value} {F : List OB} (hc : cnt = bs.length) (hl9 : bs.length ≤ 800000) (h : RowH 5 1 v0 (pk bs).length ((pk bs).map bV) F) {n : Nat} (hn : n < 18446744073709551616) : FunM Tryd.prog 97 #[.pointer (some ⟨b, 0, none⟩), .int .u64 ((n : Nat) : Int)] I ((b, .cells #[v0, .int .i64 ((cnt : Nat) : Int)] 138) :: F) (fun v J H' => ∃ (b' : OB) (F' : List OB), H' = b' :: F' ∧ b'.1 = b ∧ ∃ v', v = .tuple #[] ∧ b' = (b, .cells #[v', .int .i64 ((cnt + (numW 62 2 n).length : Nat) : Int)] 138) ∧ RowH 5 1 v' (pk (bs ++ numW 62 2 n)).length ((pk (bs ++ numW 62 2 n)).map bV) F') := by
 refine enterM_rule 23 [(0, pB b), (1, .int .u64 n)] Tryd.func97 rfl (by kernel_rfl) ?_
 intro w s
 refine seqR ?_
 refine oKD [(b, .cells #[v0, .int .i64 cnt] 138)] F 1 [] 0 (fun φ1 => [(4, .int .i64 2)]) (fun φ1 => []) s (fun φ1 => by kernel_rfl) (by kernel_rfl) ?_
 intro φ1 w1 s
 refine wp_seq ?_
 refine wp_block ?_
 have hle2 := IM.Le.refl I
 refine loop_rule (fun (x : List Bool × Nat × Nat × Nat × Value × List OB) => [(0, pB b), (1, .int .u64 x.2.1), (4, .int .i64 x.2.2.1)]) (fun (x : List Bool × Nat × Nat × Nat × Value × List OB) => [(b, .cells #[x.2.2.2.2.1, .int .i64 x.2.2.2.1] 138)] ++ x.2.2.2.2.2) (fun m (x : List Bool × Nat × Nat × Nat × Value × List OB) J => IM.Le I J ∧ x.2.2.1 + m = 64 ∧ x.1 ++ numW (64 - x.2.2.1) x.2.2.1 x.2.1 = bs ++ numW 62 2 n ∧ x.2.1 < 18446744073709551616 ∧ x.2.2.2.1 = List.length x.1 ∧ List.length x.1 ≤ bs.length + x.2.2.1 ∧ RowH 5 1 x.2.2.2.2.1 (pk x.1).length ((pk x.1).map bV) x.2.2.2.2.2) (62) (bs, n, 2, cnt, v0, F) s (by kernel_rfl) (List.Sublist.refl _) ⟨IM.Le.refl _, rfl, rfl, hn, hc, (Nat.le_add_right _ _), h⟩ ?_
 rintro m3 ⟨cur3, nn3, k3, cn3, v3, F3⟩ I3 w3 ev3 s ⟨le3, hi3_0, hi3_1, hi3_2, hi3_3, hi3_4, hi3_5⟩
 try dsimp only at s hi3_0 hi3_1 hi3_2 hi3_3 hi3_4 hi3_5 ⊢
 replace hle2 := leMono le3 hle2
 refine wp_seq ?_
 refine seqR ?_
 refine oK _ F3 2 [] 0 (fun φ4 => [(6, .int .i64 k3), (5, .int .u64 nn3)]) (fun φ4 => []) s (fun φ4 => by kernel_rfl) ?_
 intro φ4 w4 s
 refine sem_rule (binOp .shr 41 (.int .u64 nn3) (.int .i64 k3)) (some 7) (.int .u64 ((nn3 / 2 ^ k3 : Nat) : Int)) (by kernel_rfl) (run_shrU (by show _ < 18446744073709551616; have hn0 := hi3_0; have hn2 := hi3_2;  omega)) ?_
 refine oK _ F3 1 [] 0 (fun φ5 => [(8, .bool (((nn3 / 2 ^ k3 : Nat) : Int) != ((0 : Nat) : Int)))]) (fun φ5 => []) s (fun φ5 => by kernel_rfl) ?_
 intro φ5 w5 s
 rw [nat_neq (a := (nn3 / 2 ^ k3)) (b := 0)]
 refine ops_done (by kernel_rfl) ?_
 rcases Bool.eq_false_or_eq_true (decide ((nn3 / 2 ^ k3) ≠ 0)) with hc6 | hc6
 ·
  rw [hc6]
  refine cond_true_rule (b := true) (by kernel_rfl) rfl ?_
  refine wp_skip ?_
  refine wp_block ?_
  refine seqR ?_
  refine oK _ F3 1 [] 0 (fun φ7 => [(9, pB b)]) (fun φ7 => []) s (fun φ7 => by kernel_rfl) ?_
  intro φ7 w7 s
  refine callH_rule (b := (b, .cells #[v3, .int .i64 cn3] 138)) (F := F3) (Hr := []) (some 10) 0 s (by kernel_rfl) (by kernel_rfl) (put_c (b := b) (cnt := cn3) (bs := cur3) (v0 := v3) (n := 1) (k := 1) (by have h8 := hi3_3; (try simp only [List.length_append, putBits_len]); omega) (by have h8 := hi3_4; have h7 := hi3_0; (try simp only [List.length_append, putBits_len]); omega) hi3_5 (by have hn0 := hi3_0; have hn2 := hi3_2; have hq0 := of_decide_eq_true hc6; omega) (by have hn0 := hi3_0; have hn2 := hi3_2; have hq0 := of_decide_eq_true hc6; omega)) (by kernel_rfl) ?_
  rintro v8 I8 w8 b8 F8 le8 - h8 s
  replace hle2 := leMono le8 hle2
  obtain ⟨v8, rfl, rfl, hr8⟩ := h8
  refine ops_done (by kernel_rfl) ?_
  refine seqR ?_
  refine oK _ F8 2 [] 0 (fun φ9 => [(12, .int .i64 k3), (11, .int .u64 nn3)]) (fun φ9 => []) s (fun φ9 => by kernel_rfl) ?_
  intro φ9 w9 s
  refine sem_rule (binOp .shl 41 (.int .u64 1) (.int .i64 k3)) (some 13) (.int .u64 ((2 ^ k3 : Nat) : Int)) (by kernel_rfl) (run_shl1 (klt hi3_2 (of_decide_eq_true hc6) (by have := hi3_0; omega))) ?_
  refine oK _ F8 2 [] 0 (fun φ10 => [(1, .int .u64 (IntKind.wrap .u64 (((nn3 : Nat) : Int) - ((2 ^ k3 : Nat) : Int)))), (14, .int .u64 (IntKind.wrap .u64 (((nn3 : Nat) : Int) - ((2 ^ k3 : Nat) : Int))))]) (fun φ10 => []) s (fun φ10 => by kernel_rfl) ?_
  intro φ10 w10 s
  rw [nat_subU (a := nn3) (b := (2 ^ k3)) (by have := pow_le_of_div (of_decide_eq_true hc6); have := hi3_2; omega) (by have := pow_le_of_div (of_decide_eq_true hc6); have := hi3_2; omega)]
  refine ops_done (by kernel_rfl) ?_
  refine region_rule ?_
  refine oK _ F8 3 [] 0 (fun φ11 => [(4, .int .i64 (IntKind.wrap .i64 (((k3 : Nat) : Int) + ((1 : Nat) : Int)))), (16, .int .i64 (IntKind.wrap .i64 (((k3 : Nat) : Int) + ((1 : Nat) : Int)))), (15, .int .i64 k3)]) (fun φ11 => []) s (fun φ11 => by kernel_rfl) ?_
  intro φ11 w11 s
  rw [nat_addI (a := k3) (b := 1) (by have hn0 := hi3_0; have hn2 := hi3_2; have hq0 := of_decide_eq_true hc6; omega)]
  refine ops_done (by kernel_rfl) ?_
  have hp9 := pow_le_of_div (of_decide_eq_true hc6)
  have hk9 : k3 < 64 := klt hi3_2 (of_decide_eq_true hc6) (by have := hi3_0; omega)
  exact ⟨⟨m3 - 1, ((cur3 ++ putBits 1 1), nn3 - 2 ^ k3, k3 + 1, cn3 + 1, v8, F8), _, _, _, by omega, rfl, s, (List.Sublist.append (List.Sublist.cons₂ _ List.Sublist.slnil) (List.Sublist.refl _)), by kernel_rfl, hle2, by show k3 + 1 + (m3 - 1) = 64; omega, num_step hk9 hp9 hi3_1, Nat.lt_of_le_of_lt (Nat.sub_le _ _) hi3_2, by have := hi3_3; show cn3 + 1 = List.length (cur3 ++ putBits 1 1); rw [List.length_append, putBits_len]; omega, by have := hi3_4; show List.length (cur3 ++ putBits 1 1) ≤ bs.length + (k3 + 1); rw [List.length_append, putBits_len]; omega, hr8⟩⟩
 ·
  rw [hc6]
  refine cond_false_rule (b := false) (by kernel_rfl) rfl ?_
  refine wp_exit ?_
  refine seqR ?_
  refine oK _ F3 1 [] 0 (fun φ12 => [(17, pB b)]) (fun φ12 => []) s (fun φ12 => by kernel_rfl) ?_
  intro φ12 w12 s
  refine callH_rule (b := (b, .cells #[v3, .int .i64 cn3] 138)) (F := F3) (Hr := []) (some 18) 0 s (by kernel_rfl) (by kernel_rfl) (put_c (b := b) (cnt := cn3) (bs := cur3) (v0 := v3) (n := 0) (k := 1) (by have h8 := hi3_3; (try simp only [List.length_append, putBits_len]); omega) (by have h8 := hi3_4; have h7 := hi3_0; (try simp only [List.length_append, putBits_len]); omega) hi3_5 (by have hn0 := hi3_0; have hn2 := hi3_2; have hq0 := of_decide_eq_false hc6; omega) (by have hn0 := hi3_0; have hn2 := hi3_2; have hq0 := of_decide_eq_false hc6; omega)) (by kernel_rfl) ?_
  rintro v13 I13 w13 b13 F13 le13 - h13 s
  obtain ⟨v13, rfl, rfl, hr13⟩ := h13
  refine ops_done (by kernel_rfl) ?_
  refine region_rule ?_
  refine oK _ F13 3 [] 0 (fun φ14 => [(21, .int .i64 k3), (20, .int .u64 nn3), (19, pB b)]) (fun φ14 => []) s (fun φ14 => by kernel_rfl) ?_
  intro φ14 w14 s
  refine callH_rule (b := (b, .cells #[v13, .int .i64 ((cn3 + 1 : Nat) : Int)] 138)) (F := F13) (Hr := []) (some 22) 0 s (by kernel_rfl) (by kernel_rfl) (put_c (b := b) (cnt := cn3 + 1) (bs := (cur3 ++ putBits 0 1)) (v0 := v13) (n := nn3) (k := k3) (by have h8 := hi3_3; (try simp only [List.length_append, putBits_len]); omega) (by have h8 := hi3_4; have h7 := hi3_0; (try simp only [List.length_append, putBits_len]); omega) hr13 (by have hn0 := hi3_0; have hn2 := hi3_2; have hq0 := of_decide_eq_false hc6; omega) (by have hn0 := hi3_0; have hn2 := hi3_2; have hq0 := of_decide_eq_false hc6; omega)) (by kernel_rfl) ?_
  rintro v15 I15 w15 b15 F15 le15 - h15 s
  obtain ⟨v15, rfl, rfl, hr15⟩ := h15
  refine ops_done (by kernel_rfl) ?_
  refine end_rule (C := []) _ F15 (.tuple #[]) [] [] s trivial (by kernel_rfl) ?_
  have hd9 : nn3 / 2 ^ k3 = 0 := Decidable.not_not.1 (of_decide_eq_false hc6)
  have hE9 := num_end hd9 hi3_1
  have hL9 := congrArg List.length hE9
  simp only [List.length_append, putBits_len] at hL9
  have hc9 : cn3 + 1 + k3 = cnt + (numW 62 2 n).length := (by have := hi3_3; omega)
  exact ⟨_, _, _, rfl, s, ⟨_, _, rfl, rfl, _, rfl, by rw [hc9], row_cast hr15 (congrArg pk hE9)⟩⟩

theorem newWriter_c {I : IM} : FunM Tryd.prog 65 #[] I [] (fun v J F' => ∃ b, v = .pointer (some ⟨b, 0, none⟩) ∧ F' = [(b, .cells #[.slice none 0 0, .int .i64 0] 138)]) := by
 refine enterM_rule 3 [] Tryd.func65 rfl (by kernel_rfl) ?_
 intro w s
 refine seqR ?_
 refine oKD [] [] 1 [] 0 (fun φ1 => [(0, .pointer none)]) (fun φ1 => []) s (fun φ1 => by kernel_rfl) (by kernel_rfl) ?_
 intro φ1 w1 s
 refine seqR ?_
 refine oAD [] [] 3 [] 1 (fun φ2 => [(0, pB (φ2 0)), (2, pB (φ2 0)), (1, .agg #[.slice none 0 0, .int .i64 0])]) (fun φ2 => [(φ2 0, .cells #[.slice none 0 0, .int .i64 0] 138)]) (fun φ2 => []) s (fun φ2 => by kernel_rfl) (by kernel_rfl) ?_
 intro φ2 w2 s
 refine wp_ret ?_
 refine ret_rule (C := []) _ [] (pB (φ2 0)) [] [] s trivial (by kernel_rfl) ?_
 exact ⟨_, _, _, rfl, s, ⟨_, rfl, rfl⟩⟩

theorem clone_row {I : IM} {l : List UInt8} {x : Addr} {n c : Nat} (hl : BSl I l (.slice (some x) n c)) (hn : l.length ≤ 1000000000) : FunM Tryd.prog 38 #[.slice (some x) n c] I [] (fun v J F => RowH 5 1 v l.length (l.map bV) F) := by
  obtain ⟨rfl, -⟩ := hl.cap
  exact clone_some hl hn

set_option maxHeartbeats 1000000 in
theorem bytes_c {I : IM} {b cnt : Nat} {bs : List Bool} {v0 : Value} {F : List OB} (hp : 0 < bs.length) (hl9 : bs.length ≤ 1000000) (h : RowH 5 1 v0 (pk bs).length ((pk bs).map bV) F) : FunM Tryd.prog 68 #[.pointer (some ⟨b, 0, none⟩)] I ((b, .cells #[v0, .int .i64 ((cnt : Nat) : Int)] 138) :: F) (fun v J H' => ∃ (b' : OB) (F' : List OB), H' = b' :: F' ∧ b'.1 = b ∧ ∃ (a : Option Addr) (c : Nat), v = .slice a (List.length (pk bs)) c ∧ b' = (b, .cells #[v0, .int .i64 ((cnt : Nat) : Int)] 138) ∧ RowH 5 1 v0 (pk bs).length ((pk bs).map bV) F' ∧ BSl J (pk bs) (.slice a (List.length (pk bs)) c)) := by
 refine enterM_rule 10 [(0, pB b)] Tryd.func68 rfl (by kernel_rfl) ?_
 intro w s
 refine seqR ?_
 refine oKD [(b, .cells #[v0, .int .i64 cnt] 138)] F 1 [] 0 (fun φ1 => [(2, .slice none 0 0)]) (fun φ1 => []) s (fun φ1 => by kernel_rfl) (by kernel_rfl) ?_
 intro φ1 w1 s
 refine wp_seq ?_
 refine seqR ?_
 refine oKD _ F 2 [] 0 (fun φ2 => [(4, .bool false), (3, pB b)]) (fun φ2 => []) s (fun φ2 => by kernel_rfl) (by kernel_rfl) ?_
 intro φ2 w2 s
 refine cond_false_rule (b := false) (by kernel_rfl) rfl ?_
 refine wp_skip ?_
 refine seqR ?_
 refine oK _ F 4 [.o 0] 0 (fun φ3 => [(8, v0), (7, pB b), (6, pB b), (5, pB b)]) (fun φ3 => [b]) s (fun φ3 => by kernel_rfl) ?_
 intro φ3 w3 s
 obtain ⟨g4, cap4, cur4, hv4, hF4, hc4, hrow4⟩ := row_open h (by rw [pk_len]; omega)
 subst hv4
 subst hF4
 have hle5 : IM.Le I (IM.add I g4 (.cells cur4 5)) := IM.le_add (s.free (g4, .cells cur4 5) (by simp)) _
 refine callLF_rule (H := ([(b, .cells #[.slice (some ⟨g4, 0, none⟩) ((pk bs).length) cap4, .int .i64 cnt] 138), (g4, .cells cur4 5)] ++ [])) (R := fun v F' => RowH 5 1 v (pk bs).length ((pk bs).map bV) F') (some 9) s (IM.add I g4 (.cells cur4 5)) hle5 (add_sub (by simp)) (clone_row (row_lend (I := I) hrow4) (by rw [pk_len]; omega)) (by kernel_rfl) ?_
 intro v6 w6 F6 h6 s
 obtain ⟨I7, le7, hb7, s⟩ := freeze_row (H := [(b, .cells #[.slice (some ⟨g4, 0, none⟩) ((pk bs).length) cap4, .int .i64 ((cnt : Nat) : Int)] 138), (g4, .cells cur4 5)]) (F := F6) s h6
 obtain ⟨a7, c7, hv7, hc7, hb7⟩ := hb7.open
 subst hv7
 refine oKD [(b, .cells #[.slice (some ⟨g4, 0, none⟩) ((pk bs).length) cap4, .int .i64 cnt] 138), (g4, .cells cur4 5)] [] 1 [] 0 (fun φ8 => [(2, .slice a7 ((pk bs).length) c7)]) (fun φ8 => []) s (fun φ8 => by kernel_rfl) (by kernel_rfl) ?_
 intro φ8 w8 s
 refine wp_ret ?_
 refine ret_rule (C := []) _ [] (.slice a7 ((pk bs).length) c7) [] [] s trivial (by kernel_rfl) ?_
 replace s := s.drop (List.Sublist.append (List.Sublist.cons₂ _ (List.Sublist.cons₂ _ List.Sublist.slnil)) (List.Sublist.refl []))
 exact ⟨_, _, _, rfl, s, ⟨_, _, rfl, rfl, _, _, rfl, rfl, hrow4, hb7⟩⟩

end Go.Proofs.YtgmigcmhnmmdkaaDoor

