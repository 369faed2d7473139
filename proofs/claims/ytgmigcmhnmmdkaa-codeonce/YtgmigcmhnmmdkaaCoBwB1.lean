/- Slices of bytes that are never written: read, cut; rows of bytes; bits of numbers. -/
import Derived.Test.YtgmigcmhnmmdkaaProg
import Derived.Test.YtgmigcmhnmmdkaaCoS10
import Derived.LoopN
set_option linter.all false
set_option maxRecDepth 100000
namespace Go.Proofs.Ytgmigcmhnmmdkaa
open Go.RowKit Go.Sep

def bV (x : UInt8) : Value := .int .u8 ((x.toNat : Nat) : Int)
def BSl (I : IM) (l : List UInt8) (v : Value) : Prop := ∃ a cap, v = .slice a l.length cap ∧ l.length ≤ cap ∧ ∀ j x, l[j]? = some x → ∃ b o cs T fr, a = some ⟨b, o, none⟩ ∧ I b = some (.cells cs T fr) ∧ cs[o + j]? = some (.int .u8 ((x.toNat : Nat) : Int))
theorem BSl.mono {I J : IM} (le : I.Le J) {l : List UInt8} {v : Value} (h : BSl I l v) : BSl J l v := by
  obtain ⟨a, cap, hv, hc, hr⟩ := h
  refine ⟨a, cap, hv, hc, fun j x hj => ?_⟩
  obtain ⟨b, o, cs, T, fr, h1, h2, h3⟩ := hr j x hj
  exact ⟨b, o, cs, T, fr, h1, le _ _ h2, h3⟩
theorem bsl_nil (I : IM) : BSl I [] (.slice none 0 0) := ⟨none, 0, rfl, Nat.le_refl _, fun j x h => by simp at h⟩
theorem BSl.cap {I : IM} {l : List UInt8} {a : Option Addr} {n c : Nat} (h : BSl I l (.slice a n c)) : n = l.length ∧ l.length ≤ c := by
  obtain ⟨a', c', hv, hc, _⟩ := h
  cases hv; exact ⟨rfl, hc⟩
theorem BSl.open {I : IM} {l : List UInt8} {v : Value} (h : BSl I l v) : ∃ a c, v = .slice a l.length c ∧ l.length ≤ c ∧ BSl I l (.slice a l.length c) := by
  obtain ⟨a, c, hv, hc, _⟩ := id h
  subst hv
  exact ⟨a, c, rfl, hc, h⟩
theorem under34 : Try.prog.underlying 22 = some (.slice 5) := by kernel_rfl
theorem size5 (w : World) : (sizeOf 5).run Try.prog w = .ok 1 w := by kernel_rfl
def pAt (a : Option Addr) (i : Nat) : Option Addr := a.map (·.add i)
theorem addr_addO (b o k : Nat) : (⟨b, o, none⟩ : Addr).add k = ⟨b, o + k, none⟩ := by unfold Addr.add; split <;> simp_all
theorem getD_some {l : List UInt8} {i : Nat} (h : i < l.length) : l[i]? = some (l.getD i 0) := by simp [h]
theorem bsl_idx {I : IM} {w : World} {l : List UInt8} {a : Option Addr} {n c i : Nat} (h : BSl I l (.slice a n c)) (hi : i < l.length) :
    (Instr.indexAt 22 (.slice a n c) (.int .i64 ((i : Nat) : Int))).run Try.prog w = .ok (.pointer (pAt a i)) w := by
  obtain ⟨a', c', hv, hc, hr⟩ := h
  cases hv
  obtain ⟨b, o, cs, T, fr, rfl, h2, h3⟩ := hr i _ (getD_some hi)
  have h2 : (i : Int) < (l.length : Int) := by omega
  simp [Instr.indexAt, asIntOf, run_underlying under34, size5, h2, pAt]
  intro h3; omega
theorem bsl_ld {I : IM} {w : World} (hS : I.Sub w) {l : List UInt8} {a : Option Addr} {n c i : Nat} (h : BSl I l (.slice a n c)) (hi : i < l.length) :
    (Instr.loadAt 5 (.pointer (pAt a i))).run Try.prog w = .ok (.int .u8 (((l.getD i 0).toNat : Nat) : Int)) w := by
  obtain ⟨a', c', hv, hc, hr⟩ := h
  cases hv
  obtain ⟨b, o, cs, T, fr, rfl, h2, h3⟩ := hr i _ (getD_some hi)
  have e : (Instr.loadAt 5 (.pointer (pAt (some ⟨b, o, none⟩) i))).run Try.prog w = (load ⟨b, o + i, none⟩).run Try.prog w := by
    rw [show pAt (some ⟨b, o, none⟩) i = some ⟨b, o + i, none⟩ from congrArg some (addr_addO b o i)]
    kernel_rfl
  have hc := run_cell (a := ⟨b, o + i, none⟩) (hS _ _ h2) rfl rfl
  rw [h3] at hc
  rw [e]; simp only [load, Sem.run, hc]
theorem one_bV (l : List UInt8) : (l.map bV).all (·.oneCell') = true := by
  rw [List.all_map]; exact List.all_eq_true.2 fun x _ => rfl
theorem src_bsl {I : IM} {w : World} (hs : I.Sub w) {l : List UInt8} {a : Option Addr} {n c : Nat} (h : BSl I l (.slice a n c)) : Src Try.prog 1 22 (.slice a n c) l.length (l.map bV) w := by
  obtain ⟨a', c', hv, hc, hr⟩ := h
  cases hv
  cases l with
  | nil => 
    cases a with
    | none => exact Src.ofNil w under34 c
    | some x => exact Src.ofSlice w under34 x 0 c [] rfl (fun j u hu => by simp at hu) (fun u hu => by simp at hu)
  | cons y l =>
    obtain ⟨b, o, cs, T, fr, rfl, _, _⟩ := hr 0 y rfl
    refine Src.ofSlice w under34 ⟨b, o, none⟩ _ c _ (by simp) (fun j u hu => ?_) (fun u hu => by simpa using List.all_eq_true.1 (one_bV _) u hu)
    rw [List.getElem?_map, Option.map_eq_some_iff] at hu
    obtain ⟨x, hx, rfl⟩ := hu
    obtain ⟨b', o', cs', T', fr', e1, e2, e3⟩ := hr j x hx
    cases e1
    rw [addr_addO, run_cell (a := ⟨b, o + j, none⟩) (hs _ _ e2) rfl rfl]
    exact e3
theorem freeze_row {w0 : World} {I0 : IM} {m : List Nat} {I : IM} {w : World} {H F : List OB} {l : List UInt8} {v : Value} {n : Nat} (s : St w0 I0 m I w (H ++ F)) (h : RowH 5 1 v n (l.map bV) F) :
    ∃ I', I.Le I' ∧ BSl I' l v ∧ St w0 I0 m I' w H := by
  have hl : l.length = n := by have := h.1; simpa using this
  rcases h.2 with ⟨rfl, rfl, rfl⟩ | ⟨g, cap, cur, rfl, rfl, hnc, hcm, hcs, ht⟩
  · have : l = [] := List.eq_nil_of_length_eq_zero hl
    subst this
    exact ⟨I, IM.Le.refl I, bsl_nil I, by simpa using s⟩
  · have s2 := (s.perm (H' := (g, .cells cur 5) :: H) (by exact List.perm_append_comm))
    refine ⟨_, IM.le_add (s2.free (g, .cells cur 5) (by simp)) _, ?_, s2.freeze⟩
    refine ⟨some ⟨g, 0, none⟩, cap, congrArg (fun q => Value.slice (some ⟨g, 0, none⟩) q cap) hl.symm, by omega, fun j x hj => ⟨g, 0, cur, 5, (0, 0), rfl, IM.add_self _ _ _, ?_⟩⟩
    have hx : (l.map bV)[j]? = some (bV x) := by rw [List.getElem?_map, hj]; rfl
    rw [← ht, List.getElem?_take] at hx
    split at hx
    · have hx' : cur[j]? = some (bV x) := by simpa using hx
      rw [Nat.zero_add]; exact hx'
    · cases hx
theorem row_new (g : Nat) : RowH 5 1 (.slice (some ⟨g, 0, none⟩) 0 0) 0 (([] : List UInt8).map bV) [(g, .cells #[] 5)] :=
  ⟨rfl, .inr ⟨g, 0, #[], rfl, rfl, Nat.le_refl _, by decide, rfl, rfl⟩⟩
theorem row_nilB : RowH 5 1 (.slice none 0 0) 0 (([] : List UInt8).map bV) [] := RowH.nil 5 1
/-- bits -/
def bxor (k a b : Nat) : Nat := (BitVec.ofNat k a ^^^ BitVec.ofNat k b).toNat
def band (k a b : Nat) : Nat := (BitVec.ofNat k a &&& BitVec.ofNat k b).toNat
def bor (k a b : Nat) : Nat := (BitVec.ofNat k a ||| BitVec.ofNat k b).toNat
def bandn (k a b : Nat) : Nat := (BitVec.ofNat k a &&& ~~~ BitVec.ofNat k b).toNat
def bshl (k a n : Nat) : Nat := (a * 2 ^ n) % 2 ^ k
theorem wrapN8 (n : Nat) (h : n < 256) : IntKind.wrap .u8 (n : Int) = (n : Int) := by simp only [IntKind.wrap, IntKind.signed, IntKind.bits]; simp; omega
theorem wrapN64 (n : Nat) (h : n < 18446744073709551616) : IntKind.wrap .u64 (n : Int) = (n : Int) := by simp only [IntKind.wrap, IntKind.signed, IntKind.bits]; simp; omega
theorem run_bit8 {w : World} {t : TypeId} {a b : Nat} :
    (binOp .xor t (.int .u8 ((a : Nat) : Int)) (.int .u8 ((b : Nat) : Int))).run Try.prog w = .ok (.int .u8 ((bxor 8 a b : Nat) : Int)) w ∧
    (binOp .and t (.int .u8 ((a : Nat) : Int)) (.int .u8 ((b : Nat) : Int))).run Try.prog w = .ok (.int .u8 ((band 8 a b : Nat) : Int)) w ∧
    (binOp .or t (.int .u8 ((a : Nat) : Int)) (.int .u8 ((b : Nat) : Int))).run Try.prog w = .ok (.int .u8 ((bor 8 a b : Nat) : Int)) w ∧
    (binOp .andNot t (.int .u8 ((a : Nat) : Int)) (.int .u8 ((b : Nat) : Int))).run Try.prog w = .ok (.int .u8 ((bandn 8 a b : Nat) : Int)) w := by
  refine ⟨?_, ?_, ?_, ?_⟩ <;> simp only [binOp, Op.intBits, ne_eq, not_true_eq_false, if_false, IntKind.bits, BitVec.ofInt_natCast, Sem.run_pure] <;> rw [wrapN8 _ (BitVec.isLt _)] <;> rfl
theorem run_bit64 {w : World} {t : TypeId} {a b : Nat} :
    (binOp .xor t (.int .u64 ((a : Nat) : Int)) (.int .u64 ((b : Nat) : Int))).run Try.prog w = .ok (.int .u64 ((bxor 64 a b : Nat) : Int)) w ∧
    (binOp .and t (.int .u64 ((a : Nat) : Int)) (.int .u64 ((b : Nat) : Int))).run Try.prog w = .ok (.int .u64 ((band 64 a b : Nat) : Int)) w ∧
    (binOp .or t (.int .u64 ((a : Nat) : Int)) (.int .u64 ((b : Nat) : Int))).run Try.prog w = .ok (.int .u64 ((bor 64 a b : Nat) : Int)) w ∧
    (binOp .andNot t (.int .u64 ((a : Nat) : Int)) (.int .u64 ((b : Nat) : Int))).run Try.prog w = .ok (.int .u64 ((bandn 64 a b : Nat) : Int)) w := by
  refine ⟨?_, ?_, ?_, ?_⟩ <;> simp only [binOp, Op.intBits, ne_eq, not_true_eq_false, if_false, IntKind.bits, BitVec.ofInt_natCast, Sem.run_pure] <;> rw [wrapN64 _ (BitVec.isLt _)] <;> rfl
theorem wrapM {k : IntKind} (hk : k = .u8 ∨ k = .u32 ∨ k = .u64 ∨ k = .u16) (n : Nat) : IntKind.wrap k (n : Int) = ((n % 2 ^ k.bits : Nat) : Int) := by
  rcases hk with rfl | rfl | rfl | rfl <;> simp only [IntKind.wrap, IntKind.signed, IntKind.bits] <;> simp
theorem run_shlU {w : World} {t : TypeId} {a n : Nat} {k yk : IntKind} (hk : k = .u8 ∨ k = .u32 ∨ k = .u64 ∨ k = .u16) : (binOp .shl t (.int k ((a : Nat) : Int)) (.int yk ((n : Nat) : Int))).run Try.prog w = .ok (.int k ((bshl k.bits a n : Nat) : Int)) w := by
  have : ¬ ((n : Int) < 0) := by omega
  have e : (Op.shift .shl k ((a : Nat) : Int) yk ((n : Nat) : Int)).run Try.prog w = .ok (.int k (k.wrap (((a * 2 ^ min n k.bits : Nat) : Int)))) w := by
    simp [Op.shift, this]
  show (Op.shift .shl k ((a : Nat) : Int) yk ((n : Nat) : Int)).run Try.prog w = _
  rw [e, wrapM hk]
  congr 3
  unfold bshl
  by_cases h : n ≤ k.bits
  · rw [Nat.min_eq_left h]
  · rw [Nat.min_eq_right (by omega), Nat.mul_mod_left]
    rw [show n = k.bits + (n - k.bits) by omega, Nat.pow_add, Nat.mul_comm (2 ^ k.bits), ← Nat.mul_assoc, Nat.mul_mod_left]
theorem run_shrU {w : World} {t : TypeId} {a n : Nat} {k yk : IntKind} (ha : a < 2 ^ k.bits) : (binOp .shr t (.int k ((a : Nat) : Int)) (.int yk ((n : Nat) : Int))).run Try.prog w = .ok (.int k ((a / 2 ^ n : Nat) : Int)) w := by
  rw [run_shr]
  congr 2
  have : ((a : Nat) : Int).fdiv (2 ^ min n k.bits) = ((a / 2 ^ min n k.bits : Nat) : Int) := by
    rw [Int.fdiv_eq_ediv_of_nonneg _ (Int.pow_nonneg (by omega))]
    simp
  rw [this]
  by_cases h : n ≤ k.bits
  · rw [Nat.min_eq_left h]
  · rw [Nat.min_eq_right (by omega), Nat.div_eq_of_lt ha, Nat.div_eq_of_lt (Nat.lt_of_lt_of_le ha (Nat.pow_le_pow_right (by decide) (by omega)))]
theorem run_conv8 {w : World} {s k : TypeId} {a : Nat} {ks : IntKind} (hd : Try.prog.underlying k = some (.int .u8)) (hu : ∃ d, Try.prog.underlying s = some d) : (convert s k (.int ks ((a : Nat) : Int))).run Try.prog w = .ok (.int .u8 ((a % 256 : Nat) : Int)) w := by
  obtain ⟨d, hu⟩ := hu
  simp only [convert, Sem.run_bind, run_underlying hd, run_underlying hu, Result.andThen_ok]
  cases d <;> simp only [Conv.intToInt, Sem.run_pure] <;> rw [wrapM (.inl rfl)] <;> rfl
end Go.Proofs.Ytgmigcmhnmmdkaa

