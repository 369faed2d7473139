/- Slices of bytes that are never written: read, cut; rows of bytes; bits of numbers. -/
import Derived.Test.YtcpmjogeafhpnaaDoorProg
import Derived.Test.YtcpmjogeafhpnaaDoorPpS10
import Derived.LoopN
import Derived.Test.YtcpmjogeafhpnaaDoorPpS11
import Derived.Laws.MakeOwn
import Derived.Laws.BytesString
import Derived.Laws.Cells
import Derived.Laws.IdiomStrings
set_option linter.all false
set_option maxRecDepth 100000
namespace Go.Proofs.YtcpmjogeafhpnaaDoor
open Go.RowKit Go.Sep

def bV (x : UInt8) : Value := .int .u8 ((x.toNat : Nat) : Int)
def BSl (I : IM) (l : List UInt8) (v : Value) : Prop := ∃ a cap, v = .slice a l.length cap ∧ l.length ≤ cap ∧ ∀ j x, l[j]? = some x → ∃ b o cs T fr, a = some ⟨b, o, none⟩ ∧ I b = some (.cells cs T fr) ∧ cs[o + j]? = some (.int .u8 ((x.toNat : Nat) : Int))
theorem BSl.mono {I J : IM} (le : I.Le J) {l : List UInt8} {v : Value} (h : BSl I l v) : BSl J l v := by
  obtain ⟨a, cap, hv, hc, hr⟩ := h
  refine ⟨a, cap, hv, hc, fun j x hj => ?_⟩
  obtain ⟨b, o, cs, T, fr, h1, h2, h3⟩ := hr j x hj
  exact ⟨b, o, cs, T, fr, h1, le _ _ h2, h3⟩
theorem bsl_nil (I : IM) : BSl I [] (.slice none 0 0) := ⟨none, 0, rfl, Nat.le_refl _, fun j x h => by simp at h⟩
theorem BSl.cap {I : IM} {l : List UInt8} {a : Option Addr} {n c : Nat} (h : BSl I l (.slice a n c)) : n = l.length ∧ l.length ≤ c := by
  obtain ⟨a', c', hv, hc, _⟩ := h
  cases hv; exact ⟨rfl, hc⟩
theorem BSl.open {I : IM} {l : List UInt8} {v : Value} (h : BSl I l v) : ∃ a c, v = .slice a l.length c ∧ l.length ≤ c ∧ BSl I l (.slice a l.length c) := by
  obtain ⟨a, c, hv, hc, _⟩ := id h
  subst hv
  exact ⟨a, c, rfl, hc, h⟩
theorem under34 : Tryd.prog.underlying 61 = some (.slice 5) := by kernel_rfl
theorem size5 (w : World) : (sizeOf 5).run Tryd.prog w = .ok 1 w := by kernel_rfl
def pAt (a : Option Addr) (i : Nat) : Option Addr := a.map (·.add i)
theorem addr_addO (b o k : Nat) : (⟨b, o, none⟩ : Addr).add k = ⟨b, o + k, none⟩ := by unfold Addr.add; split <;> simp_all
theorem map_add_zero (a : Option Addr) : a.map (·.add 0) = a := by cases a <;> rfl
theorem getD_some {l : List UInt8} {i : Nat} (h : i < l.length) : l[i]? = some (l.getD i 0) := by simp [h]
theorem bsl_idx {I : IM} {w : World} {l : List UInt8} {a : Option Addr} {n c i : Nat} (h : BSl I l (.slice a n c)) (hi : i < l.length) :
    (Instr.indexAt 61 (.slice a n c) (.int .i64 ((i : Nat) : Int))).run Tryd.prog w = .ok (.pointer (pAt a i)) w := by
  obtain ⟨a', c', hv, hc, hr⟩ := h
  cases hv
  obtain ⟨b, o, cs, T, fr, rfl, h2, h3⟩ := hr i _ (getD_some hi)
  have h2 : (i : Int) < (l.length : Int) := by omega
  simp [Instr.indexAt, asIntOf, run_underlying under34, size5, h2, pAt]
  intro h3; omega
theorem bsl_ld {I : IM} {w : World} (hS : I.Sub w) {l : List UInt8} {a : Option Addr} {n c i : Nat} (h : BSl I l (.slice a n c)) (hi : i < l.length) :
    (Instr.loadAt 5 (.pointer (pAt a i))).run Tryd.prog w = .ok (.int .u8 (((l.getD i 0).toNat : Nat) : Int)) w := by
  obtain ⟨a', c', hv, hc, hr⟩ := h
  cases hv
  obtain ⟨b, o, cs, T, fr, rfl, h2, h3⟩ := hr i _ (getD_some hi)
  have e : (Instr.loadAt 5 (.pointer (pAt (some ⟨b, o, none⟩) i))).run Tryd.prog w = (load ⟨b, o + i, none⟩).run Tryd.prog w := by
    rw [show pAt (some ⟨b, o, none⟩) i = some ⟨b, o + i, none⟩ from congrArg some (addr_addO b o i)]
    kernel_rfl
  have hc := run_cell (a := ⟨b, o + i, none⟩) (hS _ _ h2) rfl rfl
  rw [h3] at hc
  rw [e]; simp only [load, Sem.run, hc]
def subA (a : Option Addr) (l m : Nat) : Option Addr := if m = l then a else a.map (·.add l)
theorem run_to {w : World} {a : Option Addr} {n h cap : Nat} {k : IntKind} (h1 : h ≤ cap) : (Instr.sliceAt 61 (.slice a n cap) none (some (.int k ((h : Nat) : Int))) none).run Tryd.prog w = .ok (.slice a h cap) w := by
  have hb : (Instr.sliceBound (.int k ((h : Nat) : Int)) cap .sliceAcap).run Tryd.prog w = .ok h w := run_bound h1
  simp [Instr.sliceAt, Instr.slice, run_underlying under34, Instr.sliceBounds, hb, size5]
  intro _
  exact map_add_zero a
theorem run_to3 {w : World} {a : Option Addr} {n h m cap : Nat} {k k2 : IntKind} (h1 : h ≤ m) (h2 : m ≤ cap) : (Instr.sliceAt 61 (.slice a n cap) none (some (.int k ((h : Nat) : Int))) (some (.int k2 ((m : Nat) : Int)))).run Tryd.prog w = .ok (.slice a h m) w := by
  have hb : (Instr.sliceBound (.int k2 ((m : Nat) : Int)) cap .slice3Acap).run Tryd.prog w = .ok m w := run_bound h2
  have hb2 : (Instr.sliceBound (.int k ((h : Nat) : Int)) m .slice3B).run Tryd.prog w = .ok h w := run_bound h1
  simp [Instr.sliceAt, Instr.slice, run_underlying under34, Instr.sliceBounds, hb, hb2, size5]
  intro _
  exact map_add_zero a
theorem run_from {w : World} {a : Option Addr} {n lo cap : Nat} {k : IntKind} (h1 : lo ≤ n) : (Instr.sliceAt 61 (.slice a n cap) (some (.int k ((lo : Nat) : Int))) none none).run Tryd.prog w = .ok (.slice (subA a lo cap) (n - lo) (cap - lo)) w := by
  have hb : (Instr.sliceBound (.int k ((lo : Nat) : Int)) n .sliceB).run Tryd.prog w = .ok lo w := run_bound h1
  simp [Instr.sliceAt, Instr.slice, run_underlying under34, Instr.sliceBounds, hb, size5, subA]
theorem bsl_mid {I : IM} {l : List UInt8} {a : Option Addr} {n c lo hi : Nat} (h : BSl I l (.slice a n c)) (h1 : lo ≤ hi) (h2 : hi ≤ l.length) : BSl I ((l.take hi).drop lo) (.slice (subA a lo c) (hi - lo) (c - lo)) := by
  obtain ⟨a', c', hv, hc, hr⟩ := h
  cases hv
  refine ⟨_, _, by rw [List.length_drop, List.length_take, Nat.min_eq_left h2], by rw [List.length_drop, List.length_take]; omega, fun j x hj => ?_⟩
  rw [List.getElem?_drop, List.getElem?_take] at hj
  split at hj
  · rename_i hlt
    obtain ⟨b, o, cs, T, fr, rfl, h2', h3⟩ := hr _ _ hj
    refine ⟨b, o + lo, cs, T, fr, ?_, h2', by rw [Nat.add_assoc]; exact h3⟩
    unfold subA
    rw [if_neg (by omega)]
    exact congrArg some (addr_addO b o lo)
  · cases hj
theorem bsl_from {I : IM} {l : List UInt8} {a : Option Addr} {n c lo : Nat} (h : BSl I l (.slice a n c)) (h1 : lo ≤ l.length) : BSl I (l.drop lo) (.slice (subA a lo c) (n - lo) (c - lo)) := by
  obtain ⟨hn, hc⟩ := h.cap
  have := bsl_mid h h1 (Nat.le_refl _)
  rw [List.take_length] at this
  rw [hn]; exact this
theorem bsl_to3 {I : IM} {l : List UInt8} {a : Option Addr} {n c hi m : Nat} (h : BSl I l (.slice a n c)) (h2 : hi ≤ l.length) (h3 : hi ≤ m) : BSl I (l.take hi) (.slice a hi m) := by
  obtain ⟨a', c', hv, hc, hr⟩ := h
  cases hv
  refine ⟨_, _, by rw [List.length_take, Nat.min_eq_left h2], by rw [List.length_take]; omega, fun j x hj => ?_⟩
  rw [List.getElem?_take] at hj
  split at hj
  · exact hr _ _ hj
  · cases hj
theorem bsl_to {I : IM} {l : List UInt8} {a : Option Addr} {n c hi : Nat} (h : BSl I l (.slice a n c)) (h2 : hi ≤ l.length) : BSl I (l.take hi) (.slice a hi c) :=
  bsl_to3 h h2 (Nat.le_trans h2 h.cap.2)
theorem one_bV (l : List UInt8) : (l.map bV).all (·.oneCell') = true := by
  rw [List.all_map]; exact List.all_eq_true.2 fun x _ => rfl
theorem src_bsl {I : IM} {w : World} (hs : I.Sub w) {l : List UInt8} {a : Option Addr} {n c : Nat} (h : BSl I l (.slice a n c)) : Src Tryd.prog 1 61 (.slice a n c) l.length (l.map bV) w := by
  obtain ⟨a', c', hv, hc, hr⟩ := h
  cases hv
  cases l with
  | nil => 
    cases a with
    | none => exact Src.ofNil w under34 c
    | some x => exact Src.ofSlice w under34 x 0 c [] rfl (fun j u hu => by simp at hu) (fun u hu => by simp at hu)
  | cons y l =>
    obtain ⟨b, o, cs, T, fr, rfl, _, _⟩ := hr 0 y rfl
    refine Src.ofSlice w under34 ⟨b, o, none⟩ _ c _ (by simp) (fun j u hu => ?_) (fun u hu => by simpa using List.all_eq_true.1 (one_bV _) u hu)
    rw [List.getElem?_map, Option.map_eq_some_iff] at hu
    obtain ⟨x, hx, rfl⟩ := hu
    obtain ⟨b', o', cs', T', fr', e1, e2, e3⟩ := hr j x hx
    cases e1
    rw [addr_addO, run_cell (a := ⟨b, o + j, none⟩) (hs _ _ e2) rfl rfl]
    exact e3
theorem freeze_row {w0 : World} {I0 : IM} {m : List Nat} {I : IM} {w : World} {H F : List OB} {l : List UInt8} {v : Value} {n : Nat} (s : St w0 I0 m I w (H ++ F)) (h : RowH 5 1 v n (l.map bV) F) :
    ∃ I', I.Le I' ∧ BSl I' l v ∧ St w0 I0 m I' w H := by
  have hl : l.length = n := by have := h.1; simpa using this
  rcases h.2 with ⟨rfl, rfl, rfl⟩ | ⟨g, cap, cur, rfl, rfl, hnc, hcm, hcs, ht⟩
  · have : l = [] := List.eq_nil_of_length_eq_zero hl
    subst this
    exact ⟨I, IM.Le.refl I, bsl_nil I, by simpa using s⟩
  · have s2 := (s.perm (H' := (g, .cells cur 5) :: H) (by exact List.perm_append_comm))
    refine ⟨_, IM.le_add (s2.free (g, .cells cur 5) (by simp)) _, ?_, s2.freeze⟩
    refine ⟨some ⟨g, 0, none⟩, cap, congrArg (fun q => Value.slice (some ⟨g, 0, none⟩) q cap) hl.symm, by omega, fun j x hj => ⟨g, 0, cur, 5, (0, 0), rfl, IM.add_self _ _ _, ?_⟩⟩
    have hx : (l.map bV)[j]? = some (bV x) := by rw [List.getElem?_map, hj]; rfl
    rw [← ht, List.getElem?_take] at hx
    split at hx
    · have hx' : cur[j]? = some (bV x) := by simpa using hx
      rw [Nat.zero_add]; exact hx'
    · cases hx
def bsR (L : List UInt8) (v : Value) (J : IM) : Prop := ∃ a c, v = .slice a (List.length L) c ∧ BSl J L (.slice a (List.length L) c)
theorem fun_of_rowB {f : FuncId} {args : Array Value} {I : IM} {n : Nat} {L : List UInt8} (h : FunM Tryd.prog f args I [] (fun v J F => RowH 5 1 v n (L.map bV) F)) :
    Fun Tryd.prog f args I (fun v J => bsR L v J) := by
  intro w hw
  refine (h w hw (Owns.nil I w)).mono ?_
  rintro en w' ⟨v, I', H', he, s, hr⟩
  obtain ⟨J, le, hb, s2⟩ := freeze_row (H := []) s hr
  obtain ⟨a, c, rfl, _, hb⟩ := hb.open
  exact ⟨_, J, [], he, s2, a, c, rfl, hb⟩
theorem row_new (g : Nat) : RowH 5 1 (.slice (some ⟨g, 0, none⟩) 0 0) 0 (([] : List UInt8).map bV) [(g, .cells #[] 5)] :=
  ⟨rfl, .inr ⟨g, 0, #[], rfl, rfl, Nat.le_refl _, by decide, rfl, rfl⟩⟩
theorem row_nilB : RowH 5 1 (.slice none 0 0) 0 (([] : List UInt8).map bV) [] := RowH.nil 5 1
/-- bits -/
def bxor (k a b : Nat) : Nat := (BitVec.ofNat k a ^^^ BitVec.ofNat k b).toNat
def band (k a b : Nat) : Nat := (BitVec.ofNat k a &&& BitVec.ofNat k b).toNat
def bor (k a b : Nat) : Nat := (BitVec.ofNat k a ||| BitVec.ofNat k b).toNat
def bandn (k a b : Nat) : Nat := (BitVec.ofNat k a &&& ~~~ BitVec.ofNat k b).toNat
def bshl (k a n : Nat) : Nat := (a * 2 ^ n) % 2 ^ k
theorem wrapN8 (n : Nat) (h : n < 256) : IntKind.wrap .u8 (n : Int) = (n : Int) := by simp only [IntKind.wrap, IntKind.signed, IntKind.bits]; simp; omega
theorem wrapN64 (n : Nat) (h : n < 18446744073709551616) : IntKind.wrap .u64 (n : Int) = (n : Int) := by simp only [IntKind.wrap, IntKind.signed, IntKind.bits]; simp; omega
theorem run_bit8 {w : World} {t : TypeId} {a b : Nat} :
    (binOp .xor t (.int .u8 ((a : Nat) : Int)) (.int .u8 ((b : Nat) : Int))).run Tryd.prog w = .ok (.int .u8 ((bxor 8 a b : Nat) : Int)) w ∧
    (binOp .and t (.int .u8 ((a : Nat) : Int)) (.int .u8 ((b : Nat) : Int))).run Tryd.prog w = .ok (.int .u8 ((band 8 a b : Nat) : Int)) w ∧
    (binOp .or t (.int .u8 ((a : Nat) : Int)) (.int .u8 ((b : Nat) : Int))).run Tryd.prog w = .ok (.int .u8 ((bor 8 a b : Nat) : Int)) w ∧
    (binOp .andNot t (.int .u8 ((a : Nat) : Int)) (.int .u8 ((b : Nat) : Int))).run Tryd.prog w = .ok (.int .u8 ((bandn 8 a b : Nat) : Int)) w := by
  refine ⟨?_, ?_, ?_, ?_⟩ <;> simp only [binOp, Op.intBits, ne_eq, not_true_eq_false, if_false, IntKind.bits, BitVec.ofInt_natCast, Sem.run_pure] <;> rw [wrapN8 _ (BitVec.isLt _)] <;> rfl
theorem run_bit64 {w : World} {t : TypeId} {a b : Nat} :
    (binOp .xor t (.int .u64 ((a : Nat) : Int)) (.int .u64 ((b : Nat) : Int))).run Tryd.prog w = .ok (.int .u64 ((bxor 64 a b : Nat) : Int)) w ∧
    (binOp .and t (.int .u64 ((a : Nat) : Int)) (.int .u64 ((b : Nat) : Int))).run Tryd.prog w = .ok (.int .u64 ((band 64 a b : Nat) : Int)) w ∧
    (binOp .or t (.int .u64 ((a : Nat) : Int)) (.int .u64 ((b : Nat) : Int))).run Tryd.prog w = .ok (.int .u64 ((bor 64 a b : Nat) : Int)) w ∧
    (binOp .andNot t (.int .u64 ((a : Nat) : Int)) (.int .u64 ((b : Nat) : Int))).run Tryd.prog w = .ok (.int .u64 ((bandn 64 a b : Nat) : Int)) w := by
  refine ⟨?_, ?_, ?_, ?_⟩ <;> simp only [binOp, Op.intBits, ne_eq, not_true_eq_false, if_false, IntKind.bits, BitVec.ofInt_natCast, Sem.run_pure] <;> rw [wrapN64 _ (BitVec.isLt _)] <;> rfl
theorem wrapM {k : IntKind} (hk : k = .u8 ∨ k = .u32 ∨ k = .u64 ∨ k = .u16) (n : Nat) : IntKind.wrap k (n : Int) = ((n % 2 ^ k.bits : Nat) : Int) := by
  rcases hk with rfl | rfl | rfl | rfl <;> simp only [IntKind.wrap, IntKind.signed, IntKind.bits] <;> simp
theorem run_shlU {w : World} {t : TypeId} {a n : Nat} {k yk : IntKind} (hk : k = .u8 ∨ k = .u32 ∨ k = .u64 ∨ k = .u16) : (binOp .shl t (.int k ((a : Nat) : Int)) (.int yk ((n : Nat) : Int))).run Tryd.prog w = .ok (.int k ((bshl k.bits a n : Nat) : Int)) w := by
  have : ¬ ((n : Int) < 0) := by omega
  have e : (Op.shift .shl k ((a : Nat) : Int) yk ((n : Nat) : Int)).run Tryd.prog w = .ok (.int k (k.wrap (((a * 2 ^ min n k.bits : Nat) : Int)))) w := by
    simp [Op.shift, this]
  show (Op.shift .shl k ((a : Nat) : Int) yk ((n : Nat) : Int)).run Tryd.prog w = _
  rw [e, wrapM hk]
  congr 3
  unfold bshl
  by_cases h : n ≤ k.bits
  · rw [Nat.min_eq_left h]
  · rw [Nat.min_eq_right (by omega), Nat.mul_mod_left]
    rw [show n = k.bits + (n - k.bits) by omega, Nat.pow_add, Nat.mul_comm (2 ^ k.bits), ← Nat.mul_assoc, Nat.mul_mod_left]
theorem run_shrU {w : World} {t : TypeId} {a n : Nat} {k yk : IntKind} (ha : a < 2 ^ k.bits) : (binOp .shr t (.int k ((a : Nat) : Int)) (.int yk ((n : Nat) : Int))).run Tryd.prog w = .ok (.int k ((a / 2 ^ n : Nat) : Int)) w := by
  rw [run_shr]
  congr 2
  have : ((a : Nat) : Int).fdiv (2 ^ min n k.bits) = ((a / 2 ^ min n k.bits : Nat) : Int) := by
    rw [Int.fdiv_eq_ediv_of_nonneg _ (Int.pow_nonneg (by omega))]
    simp
  rw [this]
  by_cases h : n ≤ k.bits
  · rw [Nat.min_eq_left h]
  · rw [Nat.min_eq_right (by omega), Nat.div_eq_of_lt ha, Nat.div_eq_of_lt (Nat.lt_of_lt_of_le ha (Nat.pow_le_pow_right (by decide) (by omega)))]
theorem run_conv8 {w : World} {s k : TypeId} {a : Nat} {ks : IntKind} (hd : Tryd.prog.underlying k = some (.int .u8)) (hu : ∃ d, Tryd.prog.underlying s = some d) : (convert s k (.int ks ((a : Nat) : Int))).run Tryd.prog w = .ok (.int .u8 ((a % 256 : Nat) : Int)) w := by
  obtain ⟨d, hu⟩ := hu
  simp only [convert, Sem.run_bind, run_underlying hd, run_underlying hu, Result.andThen_ok]
  cases d <;> simp only [Conv.intToInt, Sem.run_pure] <;> rw [wrapM (.inl rfl)] <;> rfl
end Go.Proofs.YtcpmjogeafhpnaaDoor

/- The sum, as a function of numbers. -/
set_option linter.all false
set_option maxRecDepth 100000
namespace Go.Proofs.YtcpmjogeafhpnaaDoor
open Go.RowKit Go.Sep

def crcBit (r : Nat) : Nat := (r / 2) ^^^ (if r % 2 = 1 then 3988292384 else 0)
def crcBits : Nat → Nat → Nat
  | 0, r => r
  | k + 1, r => crcBits k (crcBit r)
def crc : Nat → List UInt8 → Nat
  | r, [] => r
  | r, b :: l => crc (crcBits 8 (r ^^^ b.toNat)) l
theorem xor_lt32 {a b : Nat} (ha : a < 4294967296) (hb : b < 4294967296) : a ^^^ b < 4294967296 :=
  Nat.xor_lt_two_pow (n := 32) ha hb
theorem crcBit_lt {r : Nat} (h : r < 4294967296) : crcBit r < 4294967296 := by
  unfold crcBit
  refine xor_lt32 (by omega) ?_
  split <;> omega
theorem crcBits_lt : ∀ (k : Nat) {r : Nat}, r < 4294967296 → crcBits k r < 4294967296
  | 0, _, h => h
  | k + 1, _, h => crcBits_lt k (crcBit_lt h)
theorem byte_lt (b : UInt8) : b.toNat < 256 := b.toNat_lt
theorem crc_lt : ∀ (l : List UInt8) {r : Nat}, r < 4294967296 → crc r l < 4294967296
  | [], _, h => h
  | b :: l, _, h => crc_lt l (crcBits_lt 8 (xor_lt32 h (by have := byte_lt b; omega)))
/-- the document's step -/
theorem xor_half (r b : Nat) : (r ^^^ b) / 2 = r / 2 ^^^ b / 2 := Nat.xor_div_two
theorem xor_odd (r b : Nat) : (r ^^^ b) % 2 = 1 ↔ r % 2 ≠ b % 2 := by
  have h := Nat.xor_mod_two_pow (a := r) (b := b) (n := 1)
  rw [Nat.pow_one] at h
  rw [h]
  have h1 : r % 2 = 0 ∨ r % 2 = 1 := by omega
  have h2 : b % 2 = 0 ∨ b % 2 = 1 := by omega
  rcases h1 with h1 | h1 <;> rcases h2 with h2 | h2 <;> rw [h1, h2] <;> decide
theorem crcBits_succ (k r : Nat) : crcBits (k + 1) r = crcBits k (crcBit r) := rfl
def le4 (l : List UInt8) : Nat := (l.getD 0 0).toNat + 256 * (l.getD 1 0).toNat + 65536 * (l.getD 2 0).toNat + 16777216 * (l.getD 3 0).toNat
theorem or_add {a b i : Nat} (h : a < 2 ^ i) : a ||| (b * 2 ^ i) = a + b * 2 ^ i := by
  rw [Nat.or_comm, Nat.mul_comm b, ← Nat.two_pow_add_eq_or_of_lt h, Nat.add_comm]
end Go.Proofs.YtcpmjogeafhpnaaDoor

/- Frames; a byte that is turned is seen. -/
set_option linter.all false
set_option maxRecDepth 100000
namespace Go.Proofs.YtcpmjogeafhpnaaDoor
theorem ofNat_toNat {n : Nat} (h : n < 256) : (UInt8.ofNat n).toNat = n := UInt8.toNat_ofNat_of_lt' h
theorem xor_inj {a b c : Nat} (e : a ^^^ b = a ^^^ c) : b = c := by
  have h := congrArg (fun x => a ^^^ x) e
  simpa [← Nat.xor_assoc] using h
theorem crcBit_inj {r r' : Nat} (h : r < 4294967296) (h' : r' < 4294967296) (e : crcBit r = crcBit r') : r = r' := by
  have key : ∀ r, r < 4294967296 → (crcBit r).testBit 31 = decide (r % 2 = 1) := fun r h => by
    unfold crcBit
    rw [Nat.testBit_xor, Nat.testBit_lt_two_pow (x := r / 2) (by omega)]
    split
    · rename_i h1; rw [h1]; decide
    · rename_i h1; simp [h1]
  have hp : decide (r % 2 = 1) = decide (r' % 2 = 1) := by rw [← key r h, ← key r' h', e]
  have hq : (r % 2 = 1) = (r' % 2 = 1) := by simpa using hp
  unfold crcBit at e
  by_cases h1 : r % 2 = 1
  · have h2 : r' % 2 = 1 := hq ▸ h1
    rw [if_pos h1, if_pos h2] at e
    have := xor_inj (a := 3988292384) (by simpa [Nat.xor_comm] using e : 3988292384 ^^^ r / 2 = 3988292384 ^^^ r' / 2)
    omega
  · have h2 : ¬ r' % 2 = 1 := fun q => h1 (hq ▸ q)
    rw [if_neg h1, if_neg h2, Nat.xor_zero, Nat.xor_zero] at e
    omega
theorem crcBits_inj : ∀ (k : Nat) {r r' : Nat}, r < 4294967296 → r' < 4294967296 → crcBits k r = crcBits k r' → r = r'
  | 0, _, _, _, _, e => e
  | k + 1, _, _, h, h', e => crcBit_inj h h' (crcBits_inj k (crcBit_lt h) (crcBit_lt h') e)
end Go.Proofs.YtcpmjogeafhpnaaDoor

/- Bits in a row that are turned are seen. -/
set_option linter.all false
set_option maxRecDepth 100000
namespace Go.Proofs.YtcpmjogeafhpnaaDoor
theorem xor_add (k : Nat) {a : Nat} (V : Nat) (h : a < 2 ^ k) : a ^^^ (2 ^ k * V) = a + 2 ^ k * V := by
  rw [Nat.add_comm]
  apply Nat.eq_of_testBit_eq
  intro j
  rw [Nat.testBit_xor, Nat.testBit_two_pow_mul_add _ h, Nat.testBit_two_pow_mul]
  by_cases hj : j < k
  · have : ¬ j ≥ k := by omega
    simp [hj, this]
  · have h2 : j ≥ k := by omega
    have h3 : a.testBit j = false := Nat.testBit_lt_two_pow (Nat.lt_of_lt_of_le h (Nat.pow_le_pow_right (by decide) h2))
    simp [hj, h2, h3]
theorem xor4 (a b c d : Nat) : (a ^^^ b) ^^^ (c ^^^ d) = (a ^^^ c) ^^^ (b ^^^ d) := by
  rw [Nat.xor_assoc, Nat.xor_assoc, ← Nat.xor_assoc b, Nat.xor_comm b c, Nat.xor_assoc c]
theorem crcBit_xor (a b : Nat) : crcBit (a ^^^ b) = crcBit a ^^^ crcBit b := by
  unfold crcBit
  rw [xor_half, xor4]
  congr 1
  have h1 : a % 2 = 0 ∨ a % 2 = 1 := by omega
  have h2 : b % 2 = 0 ∨ b % 2 = 1 := by omega
  have h3 := xor_odd a b
  rcases h1 with h1 | h1 <;> rcases h2 with h2 | h2 <;> rw [h1, h2] at h3
  · rw [if_neg (by rw [h3]; omega), if_neg (by omega), if_neg (by omega)]; rfl
  · rw [if_pos (by rw [h3]; omega), if_neg (by omega), if_pos h2]; rfl
  · rw [if_pos (by rw [h3]; omega), if_pos h1, if_neg (by omega)]; rfl
  · rw [if_neg (by rw [h3]; omega), if_pos h1, if_pos h2, Nat.xor_self]
theorem crcBits_xor : ∀ (k a b : Nat), crcBits k (a ^^^ b) = crcBits k a ^^^ crcBits k b
  | 0, _, _ => rfl
  | k + 1, a, b => by rw [crcBits_succ, crcBit_xor, crcBits_xor k]; rfl
theorem crcBits_shift : ∀ (k y : Nat), crcBits k (2 ^ k * y) = y
  | 0, y => by rw [Nat.pow_zero, Nat.one_mul]; rfl
  | k + 1, y => by
    have : crcBit (2 ^ (k + 1) * y) = 2 ^ k * y := by
      unfold crcBit
      have e : 2 ^ (k + 1) * y = 2 * (2 ^ k * y) := by rw [Nat.pow_succ, Nat.mul_comm (2 ^ k) 2, Nat.mul_assoc]
      rw [e, if_neg (by omega), Nat.xor_zero]; omega
    rw [crcBits_succ, this]; exact crcBits_shift k y
theorem crcBits_add : ∀ (j k r : Nat), crcBits (j + k) r = crcBits k (crcBits j r)
  | 0, k, r => by rw [Nat.zero_add]; rfl
  | j + 1, k, r => by rw [Nat.add_right_comm, crcBits_succ, crcBits_add j k]; rfl
def val : List UInt8 → Nat
  | [] => 0
  | b :: l => b.toNat + 256 * val l
theorem val_cons (b : UInt8) (l : List UInt8) : val (b :: l) = b.toNat ^^^ (256 * val l) := (xor_add 8 (val l) (byte_lt b)).symm
theorem crc_val : ∀ (l : List UInt8) (r : Nat), crc r l = crcBits (8 * l.length) (r ^^^ val l)
  | [], r => by show r = crcBits 0 (r ^^^ 0); rw [Nat.xor_zero]; rfl
  | b :: l, r => by
    show crc (crcBits 8 (r ^^^ b.toNat)) l = _
    rw [crc_val l, List.length_cons, Nat.mul_add, Nat.mul_one, Nat.add_comm (8 * l.length), crcBits_add, val_cons, ← Nat.xor_assoc, crcBits_xor 8 (r ^^^ b.toNat), show 256 * val l = 2 ^ 8 * val l from rfl, crcBits_shift]
/-- What was turned so far. -/
def Turned (p q : List UInt8) (a i : Nat) (same : Bool) : Prop := q.length = p.length ∧ ∃ E, E < 2 ^ i ∧ val q = val p ^^^ 2 ^ a * E ∧ (same = false → E ≠ 0)
theorem Turned.start (p : List UInt8) (a : Nat) : Turned p p a 0 true := ⟨rfl, 0, by decide, by rw [Nat.mul_zero, Nat.xor_zero], fun h => by cases h⟩
theorem Turned.skip {p q : List UInt8} {a i : Nat} {s : Bool} (h : Turned p q a i s) : Turned p q a (i + 1) s := by
  obtain ⟨hl, E, h1, h2, h3⟩ := h
  exact ⟨hl, E, Nat.lt_of_lt_of_le h1 (Nat.pow_le_pow_right (by decide) (by omega)), h2, h3⟩
theorem Turned.seen {p q : List UInt8} {a : Nat} (h : Turned p q a 32 false) (ha : a < 8 * p.length) : 4294967295 - crc 4294967295 q ≠ 4294967295 - crc 4294967295 p := by
  obtain ⟨hl, E, h1, h2, h3⟩ := h
  have b1 := crc_lt q (show 4294967295 < 4294967296 by decide)
  have b2 := crc_lt p (show 4294967295 < 4294967296 by decide)
  intro e
  have e2 : crc 4294967295 q = crc 4294967295 p := by omega
  rw [crc_val, crc_val, hl, h2, ← Nat.xor_assoc, crcBits_xor] at e2
  have e3 : crcBits (8 * p.length) (2 ^ a * E) = 0 := xor_inj (a := crcBits (8 * p.length) (4294967295 ^^^ val p)) (by rw [e2, Nat.xor_zero])
  rw [show 8 * p.length = a + (8 * p.length - a) by omega, crcBits_add, crcBits_shift] at e3
  have z : ∀ k, crcBits k 0 = 0 := fun k => by
    induction k with
    | zero => rfl
    | succ k ih => exact ih
  exact h3 rfl (crcBits_inj _ h1 (by decide) (e3.trans (z _).symm))
end Go.Proofs.YtcpmjogeafhpnaaDoor

/- Bits: as they are put, as numbers have them. -/
set_option linter.all false
set_option maxRecDepth 100000
namespace Go.Proofs.YtcpmjogeafhpnaaDoor
def Alike (l m : List Bool) (i : Nat) : Prop := l.length ≤ m.length ∧ ∀ j, j < i → l.getD j false = m.getD j false
theorem Alike.self (l : List Bool) (i : Nat) : Alike l l i := ⟨Nat.le_refl _, fun _ _ => rfl⟩
theorem Alike.step {l m : List Bool} {i : Nat} (h : Alike l m i) (e : l.getD i false = m.getD i false) : Alike l m (i + 1) :=
  ⟨h.1, fun j hj => by
    rcases Nat.lt_or_ge j i with q | q
    · exact h.2 j q
    · rw [show j = i by omega]; exact e⟩
theorem Alike.back {l m : List Bool} {i : Nat} (h : Alike l m (i + 1)) : Alike l m i ∧ l.getD i false = m.getD i false := ⟨⟨h.1, fun j hj => h.2 j (by omega)⟩, h.2 i (by omega)⟩
end Go.Proofs.YtcpmjogeafhpnaaDoor

/- Numbers in bytes of seven bits. -/
set_option linter.all false
set_option maxRecDepth 100000
namespace Go.Proofs.YtcpmjogeafhpnaaDoor
def encF : Nat → Nat → List UInt8
  | 0, n => [UInt8.ofNat (n % 256)]
  | f + 1, n => if n < 128 then [UInt8.ofNat (n % 256)] else UInt8.ofNat (n % 128 + 128) :: encF f (n / 128)
theorem encF_stop {f n : Nat} (h : n < 128) : encF f n = [UInt8.ofNat (n % 256)] := by
  cases f with
  | zero => rfl
  | succ f => rw [encF, if_pos h]
theorem encF_go {f n : Nat} (h : ¬ n < 128) : encF (f + 1) n = UInt8.ofNat (n % 128 + 128) :: encF f (n / 128) := by rw [encF, if_neg h]
theorem encF_len : ∀ (f n : Nat), 1 ≤ (encF f n).length ∧ (encF f n).length ≤ f + 1
  | 0, n => by simp [encF]
  | f + 1, n => by
    by_cases h : n < 128
    · rw [encF_stop h]; simp
    · rw [encF_go h]; have := encF_len f (n / 128); simp; omega
theorem m_pos {m n : Nat} (h : n < 2 ^ (m * 7 + 1)) (hn : ¬ n < 128) : 1 ≤ m := by
  cases m with
  | zero => rw [Nat.zero_mul, Nat.zero_add, Nat.pow_one] at h; omega
  | succ m => omega
theorem bor_more : ∀ x : Fin 256, bor 8 x.1 128 = x.1 % 128 + 128 := by decide
theorem bandn_more : ∀ x : Fin 256, bandn 8 x.1 128 = x.1 % 128 := by decide
theorem more_byte {n : Nat} : UInt8.ofNat (bor 8 (n % 256) 128) = UInt8.ofNat (n % 128 + 128) := by
  have := bor_more ⟨n % 256, by omega⟩
  simp only at this
  rw [this, Nat.mod_mod_of_dvd n (by decide : 128 ∣ 256)]
theorem div_pow {n m : Nat} (h : n < 2 ^ ((m + 1) * 7 + 1)) : n / 128 < 2 ^ (m * 7 + 1) := by
  apply Nat.div_lt_of_lt_mul
  have e : (m + 1) * 7 + 1 = 7 + (m * 7 + 1) := by omega
  rw [e, Nat.pow_add] at h
  exact h
/-- one byte more is written -/
theorem enc_step {cur R : List UInt8} {m n : Nat} (h : cur ++ encF m n = R) (hb : n < 2 ^ (m * 7 + 1)) (hn : ¬ n < 128) : (cur ++ ([UInt8.ofNat (bor 8 (n % 256) 128)] : List UInt8)) ++ encF (m - 1) (n / 2 ^ 7) = R ∧ n / 2 ^ 7 < 2 ^ ((m - 1) * 7 + 1) := by
  have hm := m_pos hb hn
  obtain ⟨k, rfl⟩ : ∃ k, m = k + 1 := ⟨m - 1, by omega⟩
  rw [encF_go hn] at h
  refine ⟨?_, div_pow hb⟩
  rw [← h, more_byte, List.append_assoc]; rfl
/-- What has been read up to place i. -/
structure Dec (l rest : List UInt8) (n i acc : Nat) : Prop where
  le : i ≤ 9
  here : l.drop i = encF (9 - i) (n / 2 ^ (i * 7)) ++ rest
  acc : acc = n % 2 ^ (i * 7)
  lt : n / 2 ^ (i * 7) < 2 ^ ((9 - i) * 7 + 1)
  len : (encF 9 n).length = i + (encF (9 - i) (n / 2 ^ (i * 7))).length
  pos : i = 0 ∨ 1 ≤ n / 2 ^ (i * 7)
theorem Dec.start {l rest : List UInt8} {n : Nat} (h : l = encF 9 n ++ rest) (hn : n < 18446744073709551616) : Dec l rest n 0 0 :=
  ⟨by omega, by rw [h]; simp, by rw [Nat.zero_mul, Nat.pow_zero, Nat.mod_one], by rw [Nat.zero_mul, Nat.pow_zero, Nat.div_one]; exact hn, by simp, .inl rfl⟩
theorem Dec.byte {l rest : List UInt8} {n i acc : Nat} (h : Dec l rest n i acc) : (l.getD i 0).toNat = if n / 2 ^ (i * 7) < 128 then n / 2 ^ (i * 7) else n / 2 ^ (i * 7) % 128 + 128 := by
  have e : l.getD i 0 = (l.drop i).getD 0 0 := by rw [List.getD_eq_getElem?_getD, List.getD_eq_getElem?_getD, List.getElem?_drop, Nat.add_zero]
  rw [e, h.here]
  by_cases hx : n / 2 ^ (i * 7) < 128
  · rw [if_pos hx, encF_stop hx]
    generalize n / 2 ^ (i * 7) = x at hx
    simp only [List.cons_append, List.getD_cons_zero]
    rw [ofNat_toNat (by omega)]; omega
  · have hm := m_pos h.lt hx
    obtain ⟨k, hk⟩ : ∃ k, 9 - i = k + 1 := ⟨9 - i - 1, by omega⟩
    rw [if_neg hx, hk, encF_go hx]
    generalize n / 2 ^ (i * 7) = x
    simp only [List.cons_append, List.getD_cons_zero]
    rw [ofNat_toNat (by omega)]
theorem dec_sum {n i b : Nat} (hn : n < 18446744073709551616) (hb : b % 128 = n / 2 ^ (i * 7) % 128) (hb2 : b < 256) : bor 64 (n % 2 ^ (i * 7)) (bshl 64 (bandn 8 b 128) (i * 7)) = n % 2 ^ ((i + 1) * 7) := by
  have hp := Nat.two_pow_pos (i * 7)
  have e1 : bandn 8 b 128 = b % 128 := bandn_more ⟨b, hb2⟩
  have h1 : n / 2 ^ (i * 7) % 128 * 2 ^ (i * 7) ≤ n := Nat.le_trans (Nat.mul_le_mul_right _ (Nat.mod_le _ _)) (Nat.div_mul_le_self n _)
  have e2 : bshl 64 (b % 128) (i * 7) = n / 2 ^ (i * 7) % 128 * 2 ^ (i * 7) := by
    unfold bshl; rw [hb]; exact Nat.mod_eq_of_lt (Nat.lt_of_le_of_lt h1 hn)
  have h2 : n % 2 ^ (i * 7) ≤ n := Nat.mod_le _ _
  have e3 : n % 2 ^ (i * 7) % 2 ^ 64 = n % 2 ^ (i * 7) := Nat.mod_eq_of_lt (Nat.lt_of_le_of_lt h2 hn)
  have e4 : n / 2 ^ (i * 7) % 128 * 2 ^ (i * 7) % 2 ^ 64 = n / 2 ^ (i * 7) % 128 * 2 ^ (i * 7) := Nat.mod_eq_of_lt (Nat.lt_of_le_of_lt h1 hn)
  rw [e1, e2]
  unfold bor
  rw [BitVec.toNat_or, BitVec.toNat_ofNat, BitVec.toNat_ofNat, e3, e4, or_add (Nat.mod_lt _ hp), show (i + 1) * 7 = i * 7 + 7 by omega, Nat.pow_add, Nat.mod_mul, Nat.mul_comm (2 ^ (i * 7))]
theorem Dec.step {l rest : List UInt8} {n i acc : Nat} (hn : n < 18446744073709551616) (h : Dec l rest n i acc) (hb : 128 ≤ (l.getD i 0).toNat) : Dec l rest n (i + 1) (bor 64 acc (bshl 64 (bandn 8 (l.getD i 0).toNat 128) (i * 7))) := by
  have hbyte := h.byte
  have hx : ¬ n / 2 ^ (i * 7) < 128 := fun q => by rw [if_pos q] at hbyte; omega
  rw [if_neg hx] at hbyte
  have hm := m_pos h.lt hx
  obtain ⟨k, hk⟩ : ∃ k, 9 - i = k + 1 := ⟨9 - i - 1, by omega⟩
  have hk2 : 9 - (i + 1) = k := by omega
  have e : n / 2 ^ ((i + 1) * 7) = n / 2 ^ (i * 7) / 128 := by rw [Nat.div_div_eq_div_mul, show (i + 1) * 7 = i * 7 + 7 by omega, Nat.pow_add]
  have hh := h.here
  have hl := h.len
  have hlt := h.lt
  rw [hk, encF_go hx] at hh hl
  rw [hk] at hlt
  refine ⟨by omega, ?_, ?_, ?_, ?_, .inr ?_⟩
  · rw [hk2, e, ← List.drop_drop, hh]; rfl
  · rw [h.acc]; exact dec_sum hn (by rw [hbyte]; generalize n / 2 ^ (i * 7) = x; omega) (byte_lt _)
  · rw [hk2, e]; exact div_pow hlt
  · rw [hk2, e]; simp only [List.length_cons] at hl; omega
  · rw [e]; generalize n / 2 ^ (i * 7) = x at hx; omega
theorem Dec.stop {l rest : List UInt8} {n i acc : Nat} (hn : n < 18446744073709551616) (h : Dec l rest n i acc) (hb : ¬ 128 ≤ (l.getD i 0).toNat) : bor 64 acc (bshl 64 (bandn 8 (l.getD i 0).toNat 128) (i * 7)) = n ∧ i + 1 = (encF 9 n).length ∧ ¬ (0 < i ∧ (l.getD i 0).toNat = 0) ∧ ¬ (i = 9 ∧ 1 < (l.getD i 0).toNat) := by
  have hbyte := h.byte
  have hx : n / 2 ^ (i * 7) < 128 := by
    by_cases q : n / 2 ^ (i * 7) < 128
    · exact q
    · rw [if_neg q] at hbyte; omega
  rw [if_pos hx] at hbyte
  refine ⟨?_, ?_, ?_, ?_⟩
  · rw [h.acc, dec_sum hn (by rw [hbyte]) (byte_lt _)]
    apply Nat.mod_eq_of_lt
    rw [show (i + 1) * 7 = i * 7 + 7 by omega, Nat.pow_add]
    exact (Nat.div_lt_iff_lt_mul (Nat.two_pow_pos _)).1 hx |> fun q => by rw [Nat.mul_comm]; exact q
  · have := h.len; rw [encF_stop hx] at this; simp at this; omega
  · rintro ⟨h0, hz⟩
    rw [hbyte] at hz
    rcases h.pos with q | q
    · omega
    · generalize n / 2 ^ (i * 7) = x at hz q; omega
  · rintro ⟨h9, h1⟩
    have := h.lt
    subst h9
    rw [hbyte] at h1
    simp at this h1
    omega
end Go.Proofs.YtcpmjogeafhpnaaDoor

/- The number that bytes begin with, whatever they are. -/
set_option linter.all false
set_option maxRecDepth 100000
namespace Go.Proofs.YtcpmjogeafhpnaaDoor
def val7 : List UInt8 → Nat
  | [] => 0
  | b :: l => b.toNat % 128 + 128 * val7 l
theorem val7_append : ∀ (a b : List UInt8), val7 (a ++ b) = val7 a + 2 ^ (a.length * 7) * val7 b
  | [], b => by simp [val7]
  | x :: a, b => by
    rw [List.cons_append, val7, val7, val7_append a b, List.length_cons, show (a.length + 1) * 7 = 7 + a.length * 7 by omega, Nat.pow_add, Nat.mul_add, ← Nat.mul_assoc, show (2 : Nat) ^ 7 = 128 from rfl]
    omega
theorem val7_lt : ∀ (a : List UInt8), val7 a < 2 ^ (a.length * 7)
  | [] => by simp [val7]
  | x :: a => by
    have := val7_lt a
    rw [val7, List.length_cons, show (a.length + 1) * 7 = 7 + a.length * 7 by omega, Nat.pow_add]
    omega
theorem getD_some8 {l : List UInt8} {i : Nat} (h : i < l.length) : l[i]? = some (l.getD i 0) := by simp [h]
theorem val7_take {l : List UInt8} {i : Nat} (h : i < l.length) : val7 (l.take (i + 1)) = val7 (l.take i) + 2 ^ (i * 7) * ((l.getD i 0).toNat % 128) := by
  have e : l.take (i + 1) = l.take i ++ [l.getD i 0] := by rw [List.take_succ, getD_some8 h]; rfl
  have h2 : (l.take i).length = i := by rw [List.length_take]; omega
  rw [e, val7_append, h2]; simp [val7]
/-- k bytes go on: the first that does not, or the tenth, or none -/
structure Lead (l : List UInt8) (k : Nat) : Prop where
  le : k ≤ 9
  len : k ≤ l.length
  big : ∀ j, j < k → 128 ≤ (l.getD j 0).toNat
  stop : k = 9 ∨ k = l.length ∨ (l.getD k 0).toNat < 128
theorem Lead.uniq {l : List UInt8} {k k' : Nat} (h : Lead l k) (h' : Lead l k') : k = k' := by
  rcases Nat.lt_trichotomy k k' with q | q | q
  · have := h'.big k q; rcases h.stop with r | r | r
    · have := h'.le; omega
    · have := h'.len; omega
    · omega
  · exact q
  · have := h.big k' q; rcases h'.stop with r | r | r
    · have := h.le; omega
    · have := h.len; omega
    · omega
open Classical in
noncomputable def kk (l : List UInt8) : Nat := if h : ∃ k, Lead l k then Classical.choose h else 0
theorem kk_eq {l : List UInt8} {k : Nat} (h : Lead l k) : kk l = k := by
  unfold kk
  have hx : ∃ k, Lead l k := ⟨k, h⟩
  rw [dif_pos hx]
  exact (Classical.choose_spec hx).uniq h
def badN (l : List UInt8) (k : Nat) : Prop := k ≥ l.length ∨ (k = 9 ∧ 1 < (l.getD k 0).toNat) ∨ (0 < k ∧ (l.getD k 0).toNat = 0) ∨ 9 < k
instance (l : List UInt8) (k : Nat) : Decidable (badN l k) := by unfold badN; infer_instance
noncomputable def numK (l : List UInt8) : Nat := if badN l (kk l) then 0 else kk l + 1
noncomputable def numN (l : List UInt8) : Nat := if badN l (kk l) then 0 else val7 (l.take (kk l + 1))
theorem numK_le (l : List UInt8) : numK l ≤ l.length := by
  unfold numK; split
  · omega
  · rename_i h; unfold badN at h; omega
theorem val_fit {l : List UInt8} {k : Nat} (h : ¬ badN l k) : val7 (l.take (k + 1)) < 18446744073709551616 := by
  unfold badN at h
  have h1 := val7_lt (l.take k)
  have h2 : (l.take k).length = k := by rw [List.length_take]; omega
  rw [h2] at h1
  rw [val7_take (by omega)]
  by_cases q : k = 9
  · subst q
    have : (l.getD 9 0).toNat % 128 ≤ 1 := by omega
    have e : (2 : Nat) ^ (9 * 7) = 9223372036854775808 := by decide
    rw [e] at h1 ⊢; omega
  · have h3 := val7_lt (l.take (k + 1))
    have h4 : (l.take (k + 1)).length = k + 1 := by rw [List.length_take]; omega
    rw [h4] at h3
    rw [← val7_take (by omega)]
    refine Nat.lt_of_lt_of_le h3 (Nat.le_trans (Nat.pow_le_pow_right (by decide) (show (k + 1) * 7 ≤ 63 by omega)) (by decide))
theorem numN_lt (l : List UInt8) : numN l < 18446744073709551616 := by
  unfold numN; split
  · omega
  · rename_i h; exact val_fit h
theorem numK_zero {l : List UInt8} (h : numK l = 0) : numN l = 0 := by
  unfold numK at h; unfold numN; split
  · rfl
  · rename_i q; rw [if_neg q] at h; omega
theorem num_bad {l : List UInt8} {k : Nat} (h : Lead l k) (hb : badN l k) : numN l = 0 ∧ numK l = 0 := by
  unfold numN numK; rw [kk_eq h, if_pos hb, if_pos hb]; exact ⟨rfl, rfl⟩
theorem num_good {l : List UInt8} {k : Nat} (h : Lead l k) (hb : ¬ badN l k) : numN l = val7 (l.take (k + 1)) ∧ numK l = k + 1 := by
  unfold numN numK; rw [kk_eq h, if_neg hb, if_neg hb]; exact ⟨rfl, rfl⟩
/-- What the program has read up to place i. -/
structure DecG (l : List UInt8) (i acc : Nat) : Prop where
  le : i ≤ 10
  len : i ≤ l.length
  big : ∀ j, j < i → 128 ≤ (l.getD j 0).toNat
  acc : i ≤ 9 → acc = val7 (l.take i)
theorem DecG.start (l : List UInt8) : DecG l 0 0 := ⟨by omega, by omega, fun j h => by omega, fun _ => by simp [val7]⟩
theorem decG_sum {l : List UInt8} {i acc : Nat} (h : DecG l i acc) (hi : i < l.length) (h9 : i < 9 ∨ (i = 9 ∧ (l.getD i 0).toNat ≤ 1)) : bor 64 acc (bshl 64 (bandn 8 (l.getD i 0).toNat 128) (i * 7)) = val7 (l.take (i + 1)) := by
  have e1 : bandn 8 (l.getD i 0).toNat 128 = (l.getD i 0).toNat % 128 := bandn_more ⟨(l.getD i 0).toNat, byte_lt _⟩
  have h1 := val7_lt (l.take i)
  have h2 : (l.take i).length = i := by rw [List.length_take]; omega
  rw [h2] at h1
  have hv := val7_take hi
  have hfit : val7 (l.take i) + 2 ^ (i * 7) * ((l.getD i 0).toNat % 128) < 18446744073709551616 := by
    rcases h9 with q | ⟨rfl, q⟩
    · have h3 := val7_lt (l.take (i + 1))
      have h4 : (l.take (i + 1)).length = i + 1 := by rw [List.length_take]; omega
      rw [h4, hv] at h3
      exact Nat.lt_of_lt_of_le h3 (Nat.le_trans (Nat.pow_le_pow_right (by decide) (show (i + 1) * 7 ≤ 63 by omega)) (by decide))
    · have : (l.getD 9 0).toNat % 128 ≤ 1 := by omega
      have e : (2 : Nat) ^ (9 * 7) = 9223372036854775808 := by decide
      rw [e] at h1 ⊢; omega
  rw [h.acc (by omega), e1, hv]
  generalize val7 (l.take i) = x at *
  generalize (l.getD i 0).toNat % 128 = y at *
  have hy : y * 2 ^ (i * 7) < 18446744073709551616 := by rw [Nat.mul_comm]; omega
  have e2 : bshl 64 y (i * 7) = y * 2 ^ (i * 7) := by unfold bshl; exact Nat.mod_eq_of_lt hy
  rw [e2]
  unfold bor
  rw [BitVec.toNat_or, BitVec.toNat_ofNat, BitVec.toNat_ofNat, Nat.mod_eq_of_lt (show x < 2 ^ 64 by omega), Nat.mod_eq_of_lt (show y * 2 ^ (i * 7) < 2 ^ 64 from hy), or_add h1, Nat.mul_comm]
theorem DecG.step {l : List UInt8} {i acc : Nat} (h : DecG l i acc) (hi : i < l.length) (h10 : i < 10) (hb : 128 ≤ (l.getD i 0).toNat) : DecG l (i + 1) (bor 64 acc (bshl 64 (bandn 8 (l.getD i 0).toNat 128) (i * 7))) := by
  refine ⟨by omega, by omega, fun j hj => ?_, fun h9 => decG_sum h hi (.inl (by omega))⟩
  by_cases q : j = i
  · subst q; exact hb
  · exact h.big j (by omega)
theorem DecG.lead {l : List UInt8} {i acc : Nat} (h : DecG l i acc) (hi : i < l.length) (h10 : i < 10) (hb : ¬ 128 ≤ (l.getD i 0).toNat) : Lead l i := ⟨by omega, by omega, h.big, .inr (.inr (by omega))⟩
theorem DecG.out {l : List UInt8} {i acc : Nat} (h : DecG l i acc) (hi : ¬ i < min l.length 10) : numN l = 0 ∧ numK l = 0 := by
  have hl := h.len
  have hle := h.le
  by_cases q : i ≤ 9
  · exact num_bad ⟨q, hl, h.big, .inr (.inl (by omega))⟩ (.inl (by omega))
  · refine num_bad (k := 9) ⟨by omega, by omega, fun j hj => h.big j (by omega), .inl rfl⟩ (.inr (.inl ⟨rfl, ?_⟩))
    have := h.big 9 (by omega); omega
theorem DecG.good {l : List UInt8} {i acc : Nat} (h : DecG l i acc) (hi : i < l.length) (h10 : i < 10) (hb : ¬ 128 ≤ (l.getD i 0).toNat) (h0 : ¬ (0 < i ∧ (l.getD i 0).toNat = 0)) (h9 : ¬ (i = 9 ∧ 1 < (l.getD i 0).toNat)) : bor 64 acc (bshl 64 (bandn 8 (l.getD i 0).toNat 128) (i * 7)) = numN l ∧ i + 1 = numK l := by
  have hg := num_good (h.lead hi h10 hb) (by unfold badN; omega)
  refine ⟨?_, hg.2.symm⟩
  rw [hg.1]
  exact decG_sum h hi (by omega)
theorem DecG.bad0 {l : List UInt8} {i acc : Nat} (h : DecG l i acc) (hi : i < l.length) (h10 : i < 10) (hb : ¬ 128 ≤ (l.getD i 0).toNat) (h0 : (0 < i ∧ (l.getD i 0).toNat = 0) ∨ (i = 9 ∧ 1 < (l.getD i 0).toNat)) : numN l = 0 ∧ numK l = 0 :=
  num_bad (h.lead hi h10 hb) (by unfold badN; omega)
end Go.Proofs.YtcpmjogeafhpnaaDoor

/- What is read, the bytes that go with it, and the error. -/
set_option linter.all false
set_option maxRecDepth 100000
namespace Go.Proofs.YtcpmjogeafhpnaaDoor
def byV (l : List UInt8) (e : Nat) : Nat := if e = 0 ∧ 0 < l.length then (l.getD 0 0).toNat else 0
def byD (l : List UInt8) (e : Nat) : Nat := if e = 0 ∧ 0 < l.length then 1 else 0
def byE (l : List UInt8) (e : Nat) : Nat := if e = 0 ∧ l.length = 0 then 6 else e
noncomputable def nuV (l : List UInt8) (e : Nat) : Nat := if e = 0 then numN l else 0
noncomputable def nuD (l : List UInt8) (e : Nat) : Nat := if e = 0 then numK l else 0
noncomputable def nuE (l : List UInt8) (e : Nat) : Nat := if e = 0 ∧ numK l = 0 then 6 else e
/-- a text of at most z bytes is there -/
def okT (l : List UInt8) (e : Nat) (z : Int) : Prop := e = 0 ∧ numK l ≠ 0 ∧ ((numN l : Nat) : Int) ≤ z ∧ numN l ≤ l.length - numK l
noncomputable instance (l : List UInt8) (e : Nat) (z : Int) : Decidable (okT l e z) := by unfold okT; infer_instance
noncomputable def teV (l : List UInt8) (e : Nat) (z : Int) : List UInt8 := if okT l e z then (l.drop (numK l)).take (numN l) else []
noncomputable def teD (l : List UInt8) (e : Nat) (z : Int) : Nat := if okT l e z then numK l + numN l else 0
noncomputable def teE (l : List UInt8) (e : Nat) (z : Int) : Nat := if e = 0 then (if numK l = 0 then 6 else if z < ((numN l : Nat) : Int) then 9 else if l.length - numK l < numN l then 6 else 0) else e
def faE (k e : Nat) : Nat := if e = 0 then k else e
def enE (l : List UInt8) (e : Nat) : Nat := if e = 0 ∧ 0 < l.length then 6 else e
theorem enE_pos {l : List UInt8} {e : Nat} (h : 0 < l.length) : enE l e = faE 6 e := by unfold enE faE; by_cases q : e = 0 <;> simp [q, h]
theorem enE_none {l : List UInt8} {e : Nat} (h : ¬ 0 < l.length) : enE l e = e := by unfold enE; rw [if_neg (by omega)]
end Go.Proofs.YtcpmjogeafhpnaaDoor

/- The number at a place, as the document reads it. -/
set_option linter.all false
set_option maxRecDepth 100000
namespace Go.Proofs.YtcpmjogeafhpnaaDoor
theorem getD_drop8 {P : List UInt8} {a j : Nat} : (P.drop a).getD j 0 = P.getD (a + j) 0 := by
  rw [List.getD_eq_getElem?_getD, List.getD_eq_getElem?_getD, List.getElem?_drop]
structure RefD (P : List UInt8) (at' k : Nat) : Prop where
  lo : at' ≤ k
  hi : k ≤ P.length
  le : k ≤ at' + 9
  big : ∀ j, at' ≤ j → j < k → 128 ≤ (P.getD j 0).toNat
theorem RefD.start {P : List UInt8} {at' : Nat} (h : at' ≤ P.length) : RefD P at' at' := ⟨by omega, h, by omega, fun j h1 h2 => by omega⟩
theorem RefD.step {P : List UInt8} {at' k : Nat} (h : RefD P at' k) (h1 : k < P.length) (h2 : k < at' + 9) (h3 : 127 < (P.getD k 0).toNat) : RefD P at' (k + 1) := by
  refine ⟨by have := h.lo; omega, by omega, by omega, fun j h4 h5 => ?_⟩
  by_cases q : j = k
  · subst q; omega
  · exact h.big j h4 (by omega)
theorem RefD.lead {P : List UInt8} {at' k : Nat} (h : RefD P at' k) (hs : ¬ k < P.length ∨ ¬ k < at' + 9 ∨ ¬ 127 < (P.getD k 0).toNat) : Lead (P.drop at') (k - at') := by
  have h1 := h.lo; have h2 := h.hi; have h3 := h.le
  refine ⟨by omega, by rw [List.length_drop]; omega, fun j hj => ?_, ?_⟩
  · rw [getD_drop8]; exact h.big _ (by omega) (by omega)
  · rw [List.length_drop, getD_drop8, show at' + (k - at') = k by omega]; omega
theorem RefD.bad {P : List UInt8} {at' k : Nat} (h : RefD P at' k) (hs : ¬ k < P.length ∨ ¬ k < at' + 9 ∨ ¬ 127 < (P.getD k 0).toNat) (hb : P.length ≤ k ∨ (k = at' + 9 ∧ 1 < (P.getD k 0).toNat) ∨ (at' < k ∧ (P.getD k 0).toNat = 0)) : numN (P.drop at') = 0 ∧ numK (P.drop at') = 0 := by
  have h1 := h.lo; have h2 := h.hi; have h3 := h.le
  refine num_bad (h.lead hs) ?_
  unfold badN
  rw [List.length_drop, getD_drop8, show at' + (k - at') = k by omega]; omega
/-- what stands behind place n, of a number that ends at k -/
def tail7 (P : List UInt8) (at' k n : Nat) : Nat := val7 (((P.drop at').take (k - at' + 1)).drop (n - at'))
structure RefG (P : List UInt8) (at' k : Nat) : Prop where
  lo : at' ≤ k
  hi : k < P.length
  le : k ≤ at' + 9
  num : numN (P.drop at') = tail7 P at' k at'
  siz : numK (P.drop at') = k - at' + 1
  lt : tail7 P at' k at' < 18446744073709551616
theorem RefD.good {P : List UInt8} {at' k : Nat} (h : RefD P at' k) (hs : ¬ k < P.length ∨ ¬ k < at' + 9 ∨ ¬ 127 < (P.getD k 0).toNat) (hb : ¬ (P.length ≤ k ∨ (k = at' + 9 ∧ 1 < (P.getD k 0).toNat) ∨ (at' < k ∧ (P.getD k 0).toNat = 0))) : RefG P at' k := by
  have h1 := h.lo; have h2 := h.hi; have h3 := h.le
  have hb' : ¬ badN (P.drop at') (k - at') := by
    unfold badN
    rw [List.length_drop, getD_drop8, show at' + (k - at') = k by omega]; omega
  have hg := num_good (h.lead hs) hb'
  have e : tail7 P at' k at' = val7 ((P.drop at').take (k - at' + 1)) := by unfold tail7; rw [Nat.sub_self, List.drop_zero]
  exact ⟨h1, by omega, h3, by rw [hg.1, e], hg.2, by rw [e]; exact val_fit hb'⟩
end Go.Proofs.YtcpmjogeafhpnaaDoor

/- Numbers of 8 and 32 bits; slices of literals; a marked block. -/
set_option linter.all false
set_option maxRecDepth 100000
namespace Go.Proofs.YtcpmjogeafhpnaaDoor
open Go.RowKit Go.Sep

theorem bsl_lit {I : IM} {b n : Nat} {cs : Array Value} {T : TypeId} {fr : Nat × Nat} {l : List UInt8} (h : I b = some (.cells cs T fr)) (hc : cs.toList = l.map bV) (hn : n = l.length) : BSl I l (.slice (some ⟨b, 0, none⟩) n n) := by
  subst hn
  refine ⟨_, _, rfl, Nat.le_refl _, fun j x hj => ⟨b, 0, cs, T, fr, rfl, h, ?_⟩⟩
  have : cs.toList[j]? = some (bV x) := by rw [hc, List.getElem?_map, hj]; rfl
  rw [Nat.zero_add]
  have h2 : cs[j]? = some (bV x) := by simpa using this
  exact h2
theorem under5 : Tryd.prog.underlying 5 = some (.int .u8) := by kernel_rfl
theorem run_eqnil {w : World} {a : Option Addr} {n c : Nat} : (binOp .eql 61 (.slice a n c) (.slice none 0 0)).run Tryd.prog w = .ok (.bool a.isNone) w := by
  cases a <;> kernel_rfl
def rounds_step {P : Program} {c : Code} {Q : Exit → Act → World → Prop} {n : Nat} {a : Act} {w : World} (h : c.wp P (Exit.then (Code.rounds P c Q n) Q) a w) : Code.rounds P c Q (n + 1) a w := by
  rw [Go.rounds_succ]; exact h
theorem leMono {A I J : IM} (le : I.Le J) (h : A.Le I) : A.Le J := h.trans le
theorem drop_cons {s : List UInt8} {k : Nat} (h : k < s.length) : s.drop k = s.getD k 0 :: s.drop (k + 1) := by
  rw [List.drop_eq_getElem_cons h]; simp [h]
end Go.Proofs.YtcpmjogeafhpnaaDoor

/- Rows of bytes that grow. -/
set_option linter.all false
set_option maxRecDepth 100000
namespace Go.Proofs.YtcpmjogeafhpnaaDoor
open Go.RowKit Go.Sep
theorem row_snoc {v : Value} {k : Nat} {x y : List UInt8} {nw : List Value} {F : List OB} (h : RowH 5 1 v k (x.map bV ++ nw) F) (e : nw = y.map bV) : RowH 5 1 v (x ++ y).length ((x ++ y).map bV) F := by
  subst e
  have hk : k = (x ++ y).length := by have := h.1; simp at this ⊢; omega
  subst hk
  rw [List.map_append]; exact h
theorem row_app {v : Value} {k : Nat} {x y : List UInt8} {F : List OB} (h : RowH 5 1 v k (x.map bV ++ y.map bV) F) : RowH 5 1 v (x ++ y).length ((x ++ y).map bV) F := row_snoc h rfl
theorem cell_byte {a : Nat} (h : a < 256) : Value.int .u8 ((a : Nat) : Int) = bV (UInt8.ofNat a) := by
  unfold bV; rw [UInt8.toNat_ofNat_of_lt' h]
theorem cells_bytes1 {a : Nat} (h : a < 256) : [Value.int .u8 ((a : Nat) : Int)] = [bV (UInt8.ofNat a)] := by rw [cell_byte h]
theorem bsl_none {I : IM} {l : List UInt8} {n c : Nat} (h : BSl I l (.slice none n c)) : l = [] := by
  obtain ⟨a, c', hv, hc, hr⟩ := h
  cases l with
  | nil => rfl
  | cons x l =>
    obtain ⟨b, o, cs, T, fr, e, _⟩ := hr 0 x rfl
    cases hv; cases e
theorem bsl_eq {I : IM} {l l2 : List UInt8} {v : Value} (h : BSl I l v) (e : l = l2) : BSl I l2 v := e ▸ h
end Go.Proofs.YtcpmjogeafhpnaaDoor

/- Slices of bools, as those of bytes. -/
set_option linter.all false
set_option maxRecDepth 100000
namespace Go.Proofs.YtcpmjogeafhpnaaDoor
open Go.RowKit Go.Sep
def BoS (I : IM) (l : List Bool) (v : Value) : Prop := ∃ a cap, v = .slice a l.length cap ∧ l.length ≤ cap ∧ ∀ j x, l[j]? = some x → ∃ b o cs T fr, a = some ⟨b, o, none⟩ ∧ I b = some (.cells cs T fr) ∧ cs[o + j]? = some (.bool x)
theorem BoS.mono {I J : IM} (le : I.Le J) {l : List Bool} {v : Value} (h : BoS I l v) : BoS J l v := by
  obtain ⟨a, cap, hv, hc, hr⟩ := h
  refine ⟨a, cap, hv, hc, fun j x hj => ?_⟩
  obtain ⟨b, o, cs, T, fr, h1, h2, h3⟩ := hr j x hj
  exact ⟨b, o, cs, T, fr, h1, le _ _ h2, h3⟩
theorem BoS.cap {I : IM} {l : List Bool} {a : Option Addr} {n c : Nat} (h : BoS I l (.slice a n c)) : n = l.length ∧ l.length ≤ c := by
  obtain ⟨a', c', hv, hc, _⟩ := h
  cases hv; exact ⟨rfl, hc⟩
theorem BoS.open {I : IM} {l : List Bool} {v : Value} (h : BoS I l v) : ∃ a c, v = .slice a l.length c ∧ l.length ≤ c ∧ BoS I l (.slice a l.length c) := by
  obtain ⟨a, c, hv, hc, _⟩ := id h
  subst hv
  exact ⟨a, c, rfl, hc, h⟩
end Go.Proofs.YtcpmjogeafhpnaaDoor

/- Bytes as strings. -/
set_option linter.all false
set_option maxRecDepth 100000
namespace Go.Proofs.YtcpmjogeafhpnaaDoor
open Go.RowKit Go.Sep
theorem under9 : Tryd.prog.underlying 9 = some .string := by kernel_rfl
theorem fold_push : ∀ (l : List UInt8) (s : List UInt8), (l.map fun x => ((x.toNat : Nat) : Int)).foldl (fun (r : ByteArray) n => r.push (UInt8.ofNat n.toNat)) ⟨s.toArray⟩ = ⟨(s ++ l).toArray⟩
  | [], s => by simp
  | x :: l, s => by
    rw [List.map_cons, List.foldl_cons]
    have e : (⟨s.toArray⟩ : ByteArray).push (UInt8.ofNat ((x.toNat : Nat) : Int).toNat) = ⟨(s ++ [x]).toArray⟩ := by
      apply ByteArray.ext
      simp [ByteArray.push]
    rw [e, fold_push l (s ++ [x]), List.append_assoc]; rfl
theorem run_b2s {I : IM} {w : World} (hS : I.Sub w) {l : List UInt8} {a : Option Addr} {n c : Nat} (h : BSl I l (.slice a n c)) : (convert 61 9 (.slice a n c)).run Tryd.prog w = .ok (.string ⟨l.toArray⟩) w := by
  rw [run_convert_bytes_string w 61 9 5 a n c under34 under5 under9]
  obtain ⟨a', c', hv, hc, hr⟩ := h
  cases hv
  cases a with
  | none =>
    have : l = [] := by
      cases l with
      | nil => rfl
      | cons x l => obtain ⟨b, o, cs, T, fr, e, _⟩ := hr 0 x rfl; cases e
    subst this; rfl
  | some x =>
    have hl : (loadCells x (l.map bV).length).run Tryd.prog w = .ok (l.map bV).toArray w := run_loadCells_list w x (l.map bV) fun j v hv => by
      rw [List.getElem?_map, Option.map_eq_some_iff] at hv
      obtain ⟨y, hy, rfl⟩ := hv
      obtain ⟨b, o, cs, T, fr, e1, e2, e3⟩ := hr j y hy
      cases e1
      rw [addr_addO, run_cell (a := ⟨b, o + j, none⟩) (hS _ _ e2) rfl rfl]
      exact e3
    rw [List.length_map] at hl
    have e : l.map bV = (l.map fun x => ((x.toNat : Nat) : Int)).map (Value.int .u8) := by rw [List.map_map]; rfl
    rw [e] at hl
    rw [run_bytesToString w x l.length c _ hl]
    have := fold_push l []
    rw [List.nil_append] at this
    rw [show ByteArray.empty = ⟨([] : List UInt8).toArray⟩ from rfl, this]
end Go.Proofs.YtcpmjogeafhpnaaDoor

/- Append to what is never written, and full; strings as bytes. -/
set_option linter.all false
set_option maxRecDepth 100000
namespace Go.Sep
open Go.RowKit
section
variable {w0 : World} {I0 : IM} {m : List Nat} {I : IM} {P : Program} {Q : Exit → Act → World → Prop}
/-- RULE: append, its outcome shown by hand. -/
theorem append_ruleG {N : Nat} {ops : Array Oper} {ev : Ev} {l : List Oper} {H : List OB} {w : World} (t tx : TypeId) (d : Option Tmp) {v x : Value} {RH : Value → List OB → Prop}
    (hex : ∀ ty, ∃ v' w' F', (Builtin.append_ #[t, tx] ty #[v, x]).run P w = .ok v' w' ∧ St w0 I0 m I w' (H ++ F') ∧ RH v' F')
    (h : appOf N ops ev l = some (t, tx, v, x, d))
    (kk : ∀ v' w' F', St w0 I0 m I w' (H ++ F') → RH v' F' → wpList P ops Q l.tail (ActOf N (putE d v' ev)) w') : wpList P ops Q l (ActOf N ev) w := by
  cases l with
  | nil => simp [appOf] at h
  | cons o l' =>
    simp only [appOf] at h
    split at h
    · rename_i hw
      split at h
      · rename_i args tys hop
        split at h
        · rename_i a b t' tx' ha htys
          simp only [Option.some.injEq, Prod.mk.injEq] at h
          obtain ⟨rfl, rfl, rfl, rfl, rfl⟩ := h
          obtain ⟨v', w', F', hr, s', row'⟩ := hex o.type
          have ha' : args = #[a, b] := by rw [← Array.toArray_toList (xs := args), ha]
          have ht' : tys = #[t', tx'] := by rw [← Array.toArray_toList (xs := tys), htys]
          refine wpList_step fun K hK => ?_
          rw [ActOf_yield, if_pos hw]
          unfold Oper.wp
          rw [ActOf_eval]
          have hrun : (execOp (evalE N ev) o).run P w = .ok (.value v') w' := by
            simp only [execOp, hop, resolve, invoke, builtin, ha', ht', Sem.run_bind, Sem.run_pure, Result.andThen_ok, List.map_toArray, List.map_cons, List.map_nil, hr]
          rw [hrun]
          simp only [Oper.upon]
          refine hK _ _ ?_
          rw [ActOf_put]
          exact kk v' w' F' s' row'
        · cases h
      · cases h
    · cases h
end
end Go.Sep
namespace Go.Proofs.YtcpmjogeafhpnaaDoor
open Go.RowKit Go.Sep
theorem bsl_clip {I : IM} {l : List UInt8} {a : Option Addr} {n c : Nat} (h : BSl I l (.slice a n c)) : BSl I l (.slice a l.length l.length) := by
  have := bsl_to3 h (Nat.le_refl _) (Nat.le_refl _)
  rwa [List.take_length] at this
theorem append_full {w0 : World} {I0 : IM} {m : List Nat} {I : IM} {w : World} {H : List OB} (s : St w0 I0 m I w H) {l : List UInt8} {a : Option Addr} (hb : BSl I l (.slice a l.length l.length)) {tx ty : TypeId} {x : Value} {k : Nat} {news : List Value} (hs : Src Tryd.prog 1 tx x k news w) (hk : 0 < k) (hsz : l.length + k ≤ 1000000) :
    ∃ v' w' F', (Builtin.append_ #[61, tx] ty #[.slice a l.length l.length, x]).run Tryd.prog w = .ok v' w' ∧ St w0 I0 m I w' (H ++ F') ∧ RowH 5 1 v' (l.length + k) (l.map bV ++ news) F' := by
  have hold : (Builtin.firstCells 1 l.length (.slice a l.length l.length)).run Tryd.prog w.drew = .ok (l.map bV).toArray w.drew := by
    have hS : I.Sub w.drew := s.sub
    obtain ⟨a', c', hv, hc, hr⟩ := hb
    cases hv
    cases a with
    | none =>
      have : l = [] := by
        cases l with
        | nil => rfl
        | cons y l => obtain ⟨b, o, cs, T, fr, e, _⟩ := hr 0 y rfl; cases e
      subst this; rfl
    | some z =>
      refine run_firstCells_some w.drew 1 l.length z l.length l.length (l.map bV) (by simp) fun j u hu => ?_
      rw [List.getElem?_map, Option.map_eq_some_iff] at hu
      obtain ⟨y, hy, rfl⟩ := hu
      obtain ⟨b, o, cs, T, fr, e1, e2, e3⟩ := hr j y hy
      cases e1
      rw [addr_addO, run_cell (a := ⟨b, o + j, none⟩) (hS _ _ e2) rfl rfl]
      exact e3
  have hr := run_append_grow_src (P := Tryd.prog) w 61 tx ty 5 Tryd.t5 (.int .u8 0) under34 (by kernel_rfl) (by kernel_rfl) a l.length l.length (l.map bV) hold x k news hs (by omega) (by omega) (growslice_fits (by omega) (by show (l.length + k) * 1 ≤ _; omega))
  have hge := grownCap_ge w (l.length + k) l.length 5
  have hcm := grownCap_le_maxLen w (l.length + k) l.length 5 (by simp only [maxLen]; omega)
  have hlen : (l.map bV ++ news).length = (l.length + k) * 1 := by rw [List.length_append, List.length_map, hs.newsLen, Nat.mul_one, Nat.mul_one]
  refine ⟨_, _, [(w.heap.size, .cells ((l.map bV ++ news).toArray ++ Builtin.zeroCells (Value.int .u8 0).cells (grownCap w (l.length + k) l.length 5 - (l.length + k))) 5)], hr, ?_, hlen, .inr ⟨w.heap.size, _, _, rfl, rfl, hge, hcm, ?_, ?_⟩⟩
  · exact s.drew.push (.cells ((l.map bV ++ news).toArray ++ Builtin.zeroCells (Value.int .u8 0).cells (grownCap w (l.length + k) l.length 5 - (l.length + k))) 5)
  · have hz : (Value.int .u8 0).cells.size = 1 := rfl
    simp only [Array.size_append, List.size_toArray, size_zeroCells, hz, hlen]
    omega
  · simp only [Array.toList_append]
    rw [← hlen]
    exact List.take_left
/-- What may be appended to: a row of one's own, or what is never written, and full. -/
def RowA (I : IM) (l : List UInt8) (v : Value) (F : List OB) : Prop := RowH 5 1 v l.length (l.map bV) F ∨ (F = [] ∧ ∃ a, v = .slice a l.length l.length ∧ BSl I l (.slice a l.length l.length))
theorem append_any {w0 : World} {I0 : IM} {m : List Nat} {I : IM} {w : World} {H F : List OB} (s : St w0 I0 m I w (H ++ F)) {l : List UInt8} {v : Value} (hA : RowA I l v F) {tx ty : TypeId} {x : Value} {k : Nat} {news : List Value} (hs : Src Tryd.prog 1 tx x k news w) (hk : 0 < k) (hsz : l.length + k ≤ 1000000) :
    ∃ v' w' F', (Builtin.append_ #[61, tx] ty #[v, x]).run Tryd.prog w = .ok v' w' ∧ St w0 I0 m I w' (H ++ F') ∧ RowH 5 1 v' (l.length + k) (l.map bV ++ news) F' := by
  rcases hA with h | ⟨rfl, a, rfl, hb⟩
  · exact append_row s 61 tx ty 5 Tryd.t5 (.int .u8 0) 1 1 under34 (by kernel_rfl) (by kernel_rfl) (by kernel_rfl) (by kernel_rfl) (by kernel_rfl) (by decide) h hs (by simp only [maxLen]; omega) (by omega)
  · rw [List.append_nil] at s
    exact append_full s hb hs hk hsz
theorem s2b {w0 : World} {I0 : IM} {m : List Nat} {I : IM} {w : World} {H : List OB} (s : St w0 I0 m I w H) (l : List UInt8) :
    ∃ a c I' w', (convert 9 61 (.string ⟨l.toArray⟩)).run Tryd.prog w = .ok (.slice a l.length c) w' ∧ I.Le I' ∧ St w0 I0 m I' w' H ∧ BSl I' l (.slice a l.length c) := by
  have hr := run_bytes_of_string (P := Tryd.prog) w 9 61 5 ⟨l.toArray⟩ under9 under34 under5
  have hge := grownCap_ge w (⟨l.toArray⟩ : ByteArray).size 0 5
  have hcell : ∀ j x, l[j]? = some x → (bytesRow ⟨l.toArray⟩ (grownCap w (⟨l.toArray⟩ : ByteArray).size 0 5))[0 + j]? = some (.int .u8 ((x.toNat : Nat) : Int)) := fun j x hj => by
    have hlt : j < l.length := (List.getElem?_eq_some_iff.1 hj).1
    have hx : l[j] = x := (List.getElem?_eq_some_iff.1 hj).2
    simp [bytesRow, Array.getElem?_append, hlt, hx]
  generalize bytesRow ⟨l.toArray⟩ (grownCap w (⟨l.toArray⟩ : ByteArray).size 0 5) = R at hr hcell
  generalize grownCap w (⟨l.toArray⟩ : ByteArray).size 0 5 = C at hr hge
  have s2 := s.drew.push (.cells R 5 (R.size, R.size + 1))
  have s3 : St w0 I0 m I (w.drew.alloc (.cells R 5 (R.size, R.size + 1))) ((w.heap.size, .cells R 5 (R.size, R.size + 1)) :: H) := s2.perm (List.perm_append_comm)
  exact ⟨_, _, _, _, hr, IM.le_add (s3.free (w.heap.size, .cells R 5 (R.size, R.size + 1)) (by simp)) _, s3.freeze, _, _, rfl, hge, fun j x hj => ⟨_, 0, R, 5, (R.size, R.size + 1), rfl, IM.add_self _ _ _, hcell j x hj⟩⟩
end Go.Proofs.YtcpmjogeafhpnaaDoor

/- Slices of pairs: a byte and a number. -/
set_option linter.all false
set_option maxRecDepth 100000
namespace Go.Proofs.YtcpmjogeafhpnaaDoor
open Go.RowKit Go.Sep
def ASl (I : IM) (L : List (Nat × Int)) (v : Value) : Prop := ∃ a cap, v = .slice a L.length cap ∧ L.length ≤ cap ∧ ∀ j x, L[j]? = some x → (x.1 < 256 ∧ x.2 < 9223372036854775808) ∧ ∃ b o cs T fr, a = some ⟨b, o, none⟩ ∧ I b = some (.cells cs T fr) ∧ cs[o + j * 2]? = some (.int .u8 ((x.1 : Nat) : Int)) ∧ cs[o + j * 2 + 1]? = some (.int .i64 x.2)
theorem ASl.mono {I J : IM} (le : I.Le J) {L : List (Nat × Int)} {v : Value} (h : ASl I L v) : ASl J L v := by
  obtain ⟨a, cap, hv, hc, hr⟩ := h
  refine ⟨a, cap, hv, hc, fun j x hj => ?_⟩
  obtain ⟨hx, b, o, cs, T, fr, h1, h2, h3, h4⟩ := hr j x hj
  exact ⟨hx, b, o, cs, T, fr, h1, le _ _ h2, h3, h4⟩
theorem ASl.cap {I : IM} {L : List (Nat × Int)} {a : Option Addr} {n c : Nat} (h : ASl I L (.slice a n c)) : n = L.length ∧ L.length ≤ c := by
  obtain ⟨a', c', hv, hc, _⟩ := h
  cases hv; exact ⟨rfl, hc⟩
end Go.Proofs.YtcpmjogeafhpnaaDoor

/- The sums; are bytes alike. -/
set_option linter.all false
set_option maxRecDepth 100000
namespace Go.Proofs.YtcpmjogeafhpnaaDoor
open Go.RowKit Go.Sep
attribute [local irreducible] Go.wpList Go.Code.wp

theorem same_go {l m : List UInt8} {i : Nat} (h : i < l.length) (h2 : i < m.length) (e : l.drop i = m.drop i ↔ l = m) (hc : ¬ (l.getD i 0).toNat ≠ (m.getD i 0).toNat) : l.drop (i + 1) = m.drop (i + 1) ↔ l = m := by
  rw [← e, drop_cons h, drop_cons h2]
  have : l.getD i 0 = m.getD i 0 := UInt8.toNat_inj.1 (Decidable.not_not.1 hc)
  rw [this]; simp
theorem same_no {l m : List UInt8} {i : Nat} (hc : (l.getD i 0).toNat ≠ (m.getD i 0).toNat) : ¬ l = m := fun e => hc (by rw [e])

set_option maxHeartbeats 2000000 in
theorem same_c {I : IM} {l : List UInt8} {a : Option Addr} {n c : Nat} (hl : BSl I l (.slice a n c)) (hn : l.length ≤ 1000000000) {l2 : List UInt8} {a2 : Option Addr} {n2 c2 : Nat} (hl2 : BSl I l2 (.slice a2 n2 c2)) (hn2 : l2.length ≤ 1000000000) : Fun Tryd.prog 41 #[.slice a n c, .slice a2 n2 c2] I (fun v J => v = .bool (decide (l = l2))) := by
  obtain ⟨rfl, -⟩ := hl.cap
  obtain ⟨rfl, -⟩ := hl2.cap
  refine enter_rule 26 [(0, .slice a l.length c), (1, .slice a2 l2.length c2)] Tryd.func41 rfl (by kernel_rfl) ?_
  intro w s
  refine wp_seq ?_
  refine region_rule ?_
  refine ops_rule (C := []) [] [] 1 [] 0 (fun φ1 => [(4, .bool false)]) (fun φ1 => []) (fun φ1 => []) s trivial (fun φ1 => by kernel_rfl) ?_
  intro φ1 w1 s
  refine ops_done (by kernel_rfl) ?_
  refine wp_seq ?_
  refine wp_seq ?_
  refine region_rule ?_
  refine ops_rule (C := []) [] [] 5 [] 0 (fun φ2 => [(10, .bool (((l.length : Nat) : Int) != ((l2.length : Nat) : Int))), (9, .int .i64 ((l2.length : Nat) : Int)), (8, .slice a2 l2.length c2), (7, .int .i64 ((l.length : Nat) : Int)), (6, .slice a l.length c)]) (fun φ2 => []) (fun φ2 => []) s trivial (fun φ2 => by kernel_rfl) ?_
  intro φ2 w2 s
  rw [nat_neq (a := l.length) (b := l2.length)]
  refine ops_done (by kernel_rfl) ?_
  rcases Bool.eq_false_or_eq_true (decide (l.length ≠ l2.length)) with hc3 | hc3
  ·
    rw [hc3]
    refine cond_true_rule (b := true) (by kernel_rfl) rfl ?_
    refine wp_seq ?_
    refine region_rule ?_
    refine ops_rule (C := []) [] [] 1 [] 0 (fun φ4 => [(4, .bool false)]) (fun φ4 => []) (fun φ4 => []) s trivial (fun φ4 => by kernel_rfl) ?_
    intro φ4 w4 s
    refine ops_done (by kernel_rfl) ?_
    refine wp_ret ?_
    refine ret_rule (C := []) [] [] (.bool false) [] [] s trivial (by kernel_rfl) ?_
    exact ⟨_, _, _, rfl, s, (congrArg Value.bool (decide_eq_false (fun e => (of_decide_eq_true hc3) (congrArg List.length e))).symm)⟩
  ·
    rw [hc3]
    refine cond_false_rule (b := false) (by kernel_rfl) rfl ?_
    refine wp_skip ?_
    refine wp_seq ?_
    refine wp_seq ?_
    refine region_rule ?_
    refine ops_rule (C := []) [] [] 3 [] 0 (fun φ5 => [(13, .int .i64 0), (12, .int .i64 ((l.length : Nat) : Int)), (11, .slice a l.length c)]) (fun φ5 => []) (fun φ5 => []) s trivial (fun φ5 => by kernel_rfl) ?_
    intro φ5 w5 s
    refine ops_done (by kernel_rfl) ?_
    refine wp_block ?_
    have hlen := Decidable.not_not.1 (of_decide_eq_false hc3)
    have hle6 := IM.Le.refl I
    refine loop_rule (fun (x : Nat) => [(0, .slice a l.length c), (1, .slice a2 l2.length c2), (12, .int .i64 ((l.length : Nat) : Int)), (13, .int .i64 ((x : Nat) : Int))]) (fun (x : Nat) => []) (fun m (x : Nat) J => IM.Le I J ∧ x + m = l.length ∧ (l.drop x = l2.drop x ↔ l = l2)) (l.length) 0 s (by kernel_rfl) List.Sublist.slnil ⟨IM.Le.refl _, Nat.zero_add _, Iff.rfl⟩ ?_
    rintro m7 i7 I7 w7 ev7 s ⟨le7, hi7_0, hi7_1⟩
    try dsimp only at s hi7_0 hi7_1 ⊢
    replace hl := BSl.mono le7 hl
    replace hl2 := BSl.mono le7 hl2
    replace hle6 := leMono le7 hle6
    refine wp_seq ?_
    refine region_rule ?_
    refine ops_rule (C := []) [] [] 1 [] 0 (fun φ8 => [(14, .bool (decide (((i7 : Nat) : Int) < ((l.length : Nat) : Int))))]) (fun φ8 => []) (fun φ8 => []) s trivial (fun φ8 => by kernel_rfl) ?_
    intro φ8 w8 s
    rw [nat_lss (a := i7) (b := l.length)]
    refine ops_done (by kernel_rfl) ?_
    refine wp_seq ?_
    rcases Bool.eq_false_or_eq_true (decide (i7 < l.length)) with hc9 | hc9
    ·
      rw [hc9]
      refine cond_true_rule (b := true) (by kernel_rfl) rfl ?_
      refine wp_skip ?_
      refine wp_seq ?_
      refine wp_block ?_
      refine wp_seq ?_
      refine region_rule ?_
      refine ops_rule (C := []) [] [] 2 [] 0 (fun φ10 => [(5, .int .i64 ((i7 : Nat) : Int)), (15, .int .i64 ((i7 : Nat) : Int))]) (fun φ10 => []) (fun φ10 => []) s trivial (fun φ10 => by kernel_rfl) ?_
      intro φ10 w10 s
      refine ops_done (by kernel_rfl) ?_
      refine wp_seq ?_
      refine draw_rule (C := []) ⟨(fun φ11 xs11 => [.look 0 [] [], .look 0 [] [], .ran (Instr.indexAt 61 (.slice a l.length c) (.int .i64 ((i7 : Nat) : Int))), .ran (Instr.loadAt 5 (.pointer (pAt a i7))), .look 0 [] [], .look 0 [] [], .ran (Instr.indexAt 61 (.slice a2 l2.length c2) (.int .i64 ((i7 : Nat) : Int))), .ran (Instr.loadAt 5 (.pointer (pAt a2 i7))), .sub 0 [] [] (.bool ((((l.getD i7 0).toNat : Nat) : Int) != (((l2.getD i7 0).toNat : Nat) : Int)))]), (fun φ11 xs11 => [.slice a l.length c, .int .i64 ((i7 : Nat) : Int), .pointer (pAt a i7), .int .u8 (((l.getD i7 0).toNat : Nat) : Int), .slice a2 l2.length c2, .int .i64 ((i7 : Nat) : Int), .pointer (pAt a2 i7), .int .u8 (((l2.getD i7 0).toNat : Nat) : Int), .bool (decide (((l.getD i7 0).toNat) ≠ ((l2.getD i7 0).toNat)))]), (fun φ11 xs11 => [[]]), (fun φ11 xs11 => [[default, default, default, default, default, default, default, default, default]]), [], [1, 1, 6, 6, 1, 1, 6, 6, 5]⟩ (fun j => ([MP.any, MP.any, MP.any, MP.any, MP.any, MP.any, MP.any, MP.any, MP.any] : List MP).getD j MP.any) [] [8] [2, 3, 6, 7] (fun φ11 xs11 => []) (fun φ11 xs11 => [(16, .slice a l.length c), (17, .int .i64 ((i7 : Nat) : Int)), (18, .pointer (pAt a i7)), (19, .int .u8 (((l.getD i7 0).toNat : Nat) : Int)), (20, .slice a2 l2.length c2), (21, .int .i64 ((i7 : Nat) : Int)), (22, .pointer (pAt a2 i7)), (23, .int .u8 (((l2.getD i7 0).toNat : Nat) : Int)), (24, .bool (decide (((l.getD i7 0).toNat) ≠ ((l2.getD i7 0).toNat))))]) (fun φ11 xs11 => []) s trivial (by kernel_rfl) (by kernel_rfl) (fun _ _ => by kernel_rfl) (fun _ _ => by kernel_rfl) ⟨fun _ _ => by kernel_rfl, fun _ _ => by kernel_rfl, fun _ _ => by kernel_rfl, fun _ _ => by kernel_rfl⟩ (fun _ _ _ => by kernel_rfl) (fun _ _ => by kernel_rfl) (fun _ _ => by kernel_rfl) (fun _ _ => by kernel_rfl) (fun _ _ => by kernel_rfl) (fun _ _ => by kernel_rfl) ⟨kcast (A := ∀ (φ11 : Nat → Nat) (xs11 : Xs), (.bool ((((l.getD i7 0).toNat : Nat) : Int) != (((l2.getD i7 0).toNat : Nat) : Int)) : Value) = .bool (decide (((l.getD i7 0).toNat) ≠ ((l2.getD i7 0).toNat)))) (by kernel_rfl) (fun φ11 xs11 => congrArg Value.bool ((nat_neq (a := ((l.getD i7 0).toNat)) (b := ((l2.getD i7 0).toNat))))), trivial⟩ ⟨kcast (A := ∀ (φ11 : Nat → Nat) (xs11 : Xs) (J : IM) (w : World), I7.Le J → J.Sub w → ((Instr.indexAt 61 (.slice a l.length c) (.int .i64 ((i7 : Nat) : Int))) : Sem Value).run Tryd.prog w = .ok (.pointer (pAt a i7)) w) (by kernel_rfl) (fun φ11 xs11 J w hJ hS => bsl_idx (BSl.mono hJ hl) (by try have hln := hlen; have hq0 := of_decide_eq_false hc3; have hq1 := of_decide_eq_true hc9; omega)), ⟨kcast (A := ∀ (φ11 : Nat → Nat) (xs11 : Xs) (J : IM) (w : World), I7.Le J → J.Sub w → ((Instr.loadAt 5 (.pointer (pAt a i7))) : Sem Value).run Tryd.prog w = .ok (.int .u8 (((l.getD i7 0).toNat : Nat) : Int)) w) (by kernel_rfl) (fun φ11 xs11 J w hJ hS => bsl_ld hS (BSl.mono hJ hl) (by try have hln := hlen; have hq0 := of_decide_eq_false hc3; have hq1 := of_decide_eq_true hc9; omega)), ⟨kcast (A := ∀ (φ11 : Nat → Nat) (xs11 : Xs) (J : IM) (w : World), I7.Le J → J.Sub w → ((Instr.indexAt 61 (.slice a2 l2.length c2) (.int .i64 ((i7 : Nat) : Int))) : Sem Value).run Tryd.prog w = .ok (.pointer (pAt a2 i7)) w) (by kernel_rfl) (fun φ11 xs11 J w hJ hS => bsl_idx (BSl.mono hJ hl2) (by try have hln := hlen; have hq0 := of_decide_eq_false hc3; have hq1 := of_decide_eq_true hc9; omega)), ⟨kcast (A := ∀ (φ11 : Nat → Nat) (xs11 : Xs) (J : IM) (w : World), I7.Le J → J.Sub w → ((Instr.loadAt 5 (.pointer (pAt a2 i7))) : Sem Value).run Tryd.prog w = .ok (.int .u8 (((l2.getD i7 0).toNat : Nat) : Int)) w) (by kernel_rfl) (fun φ11 xs11 J w hJ hS => bsl_ld hS (BSl.mono hJ hl2) (by try have hln := hlen; have hq0 := of_decide_eq_false hc3; have hq1 := of_decide_eq_true hc9; omega)), trivial⟩⟩⟩⟩ (by kernel_rfl) trivial ?k11
      case k11 =>
        rintro φ11 xs11 I11 w11 le11 s 
        replace hl := BSl.mono le11 hl
        replace hl2 := BSl.mono le11 hl2
        replace hle6 := leMono le11 hle6
        rcases Bool.eq_false_or_eq_true (decide (((l.getD i7 0).toNat) ≠ ((l2.getD i7 0).toNat))) with hc12 | hc12
        ·
          rw [hc12]
          refine cond_true_rule (b := true) (by kernel_rfl) rfl ?_
          refine wp_seq ?_
          refine region_rule ?_
          refine ops_rule (C := []) [] [] 1 [] 0 (fun φ13 => [(4, .bool false)]) (fun φ13 => []) (fun φ13 => []) s trivial (fun φ13 => by kernel_rfl) ?_
          intro φ13 w13 s
          refine ops_done (by kernel_rfl) ?_
          refine wp_ret ?_
          refine ret_rule (C := []) [] [] (.bool false) [] [] s trivial (by kernel_rfl) ?_
          exact ⟨_, _, _, rfl, s, (congrArg Value.bool (decide_eq_false (same_no (of_decide_eq_true hc12))).symm)⟩
        ·
          rw [hc12]
          refine cond_false_rule (b := false) (by kernel_rfl) rfl ?_
          refine wp_skip ?_
          refine region_rule ?_
          refine ops_rule (C := []) [] [] 2 [] 0 (fun φ14 => [(13, .int .i64 (IntKind.wrap .i64 (((i7 : Nat) : Int) + ((1 : Nat) : Int)))), (25, .int .i64 (IntKind.wrap .i64 (((i7 : Nat) : Int) + ((1 : Nat) : Int))))]) (fun φ14 => []) (fun φ14 => []) s trivial (fun φ14 => by kernel_rfl) ?_
          intro φ14 w14 s
          rw [nat_addI (a := i7) (b := 1) (by try have hln := hlen; have hq0 := of_decide_eq_false hc3; have hq1 := of_decide_eq_true hc9; have hq2 := of_decide_eq_false hc12; omega)]
          refine ops_done (by kernel_rfl) ?_
          have hq9 := of_decide_eq_true hc9
          exact ⟨⟨m7 - 1, i7 + 1, _, _, _, by omega, rfl, s, List.Sublist.slnil, by kernel_rfl, hle6, by show i7 + 1 + (m7 - 1) = l.length; omega, same_go hq9 (by omega) hi7_1 (of_decide_eq_false hc12)⟩⟩
    ·
      rw [hc9]
      refine cond_false_rule (b := false) (by kernel_rfl) rfl ?_
      refine wp_exit ?_
      refine wp_seq ?_
      refine region_rule ?_
      refine ops_rule (C := []) [] [] 1 [] 0 (fun φ15 => [(4, .bool true)]) (fun φ15 => []) (fun φ15 => []) s trivial (fun φ15 => by kernel_rfl) ?_
      intro φ15 w15 s
      refine ops_done (by kernel_rfl) ?_
      refine wp_ret ?_
      refine ret_rule (C := []) [] [] (.bool true) [] [] s trivial (by kernel_rfl) ?_
      exact ⟨_, _, _, rfl, s, (congrArg Value.bool (decide_eq_true (hi7_1.1 (by have := of_decide_eq_false hc9; rw [List.drop_of_length_le (by omega), List.drop_of_length_le (by omega)]))).symm)⟩

end Go.Proofs.YtcpmjogeafhpnaaDoor

/- Bytes are cut, joined, cloned; the document's examples. -/
set_option linter.all false
set_option maxRecDepth 100000
namespace Go.Proofs.YtcpmjogeafhpnaaDoor
open Go.RowKit Go.Sep
attribute [local irreducible] Go.wpList Go.Code.wp

theorem sameR_c {I : IM} {l : List UInt8} {a a2 : Option Addr} {n c n2 c2 : Nat} (hl : BSl I l (.slice a n c)) (hl2 : BSl I l (.slice a2 n2 c2)) (hn : l.length ≤ 1000000000) : Fun Tryd.prog 41 #[.slice a n c, .slice a2 n2 c2] I (fun v J => v = .bool true) :=
  (same_c hl hn hl2 hn).mono fun v J _ h => h.trans (congrArg Value.bool (decide_eq_true rfl))
theorem clone_none {I : IM} {n c : Nat} : Fun Tryd.prog 93 #[.slice none n c] I (fun v J => v = .slice none 0 0) := by
  refine enter_rule 8 [(0, .slice none n c)] Tryd.func93 rfl (by kernel_rfl) ?_
  intro w s
  refine wp_seq ?_
  refine region_rule ?_
  refine ops_rule (C := []) [] [] 1 [] 0 (fun φ1 => [(2, .slice none 0 0)]) (fun φ1 => []) (fun φ1 => []) s trivial (fun φ1 => by kernel_rfl) ?_
  intro φ1 w1 s
  refine ops_done (by kernel_rfl) ?_
  refine wp_seq ?_
  refine wp_seq ?_
  refine region_rule ?_
  refine ops_rule (C := []) [] [] 1 [] 0 (fun φ2 => [(3, .slice none n c)]) (fun φ2 => []) (fun φ2 => []) s trivial (fun φ2 => by kernel_rfl) ?_
  intro φ2 w2 s
  refine sem_rule (binOp .eql 61 (.slice none n c) (.slice none 0 0)) (some 4) (.bool true) (by kernel_rfl) (run_eqnil) ?_
  refine ops_done (by kernel_rfl) ?_
  refine cond_true_rule (b := true) (by kernel_rfl) rfl ?_
  refine wp_seq ?_
  refine region_rule ?_
  refine ops_rule (C := []) [] [] 1 [] 0 (fun φ3 => [(2, .slice none 0 0)]) (fun φ3 => []) (fun φ3 => []) s trivial (fun φ3 => by kernel_rfl) ?_
  intro φ3 w3 s
  refine ops_done (by kernel_rfl) ?_
  refine wp_ret ?_
  refine ret_rule (C := []) [] [] (.slice none 0 0) [] [] s trivial (by kernel_rfl) ?_
  exact ⟨_, _, _, rfl, s, rfl⟩

set_option maxHeartbeats 400000 in
theorem clone_some {I : IM} {l : List UInt8} {x : Addr} {c : Nat} (hl : BSl I l (.slice (some x) l.length c)) (hn : l.length ≤ 1000000000) : FunM Tryd.prog 93 #[.slice (some x) l.length c] I [] (fun v J F => RowH 5 1 v l.length (l.map bV) F) := by
  refine enterM_rule 8 [(0, .slice (some x) l.length c)] Tryd.func93 rfl (by kernel_rfl) ?_
  intro w s
  refine wp_seq ?_
  refine region_rule ?_
  refine ops_rule (C := []) [] [] 1 [] 0 (fun φ1 => [(2, .slice none 0 0)]) (fun φ1 => []) (fun φ1 => []) s trivial (fun φ1 => by kernel_rfl) ?_
  intro φ1 w1 s
  refine ops_done (by kernel_rfl) ?_
  refine wp_seq ?_
  refine wp_seq ?_
  refine region_rule ?_
  refine ops_rule (C := []) [] [] 1 [] 0 (fun φ2 => [(3, .slice (some x) l.length c)]) (fun φ2 => []) (fun φ2 => []) s trivial (fun φ2 => by kernel_rfl) ?_
  intro φ2 w2 s
  refine sem_rule (binOp .eql 61 (.slice (some x) l.length c) (.slice none 0 0)) (some 4) (.bool false) (by kernel_rfl) (run_eqnil) ?_
  refine ops_done (by kernel_rfl) ?_
  refine cond_false_rule (b := false) (by kernel_rfl) rfl ?_
  refine wp_skip ?_
  refine wp_seq ?_
  refine region_rule ?_
  refine ops_rule (C := []) [] [] 2 [] 1 (fun φ3 => [(6, .slice (some x) l.length c), (5, .slice (some ⟨(φ3 0), 0, none⟩) 0 0)]) (fun φ3 => [((φ3 0), .cells #[] 5)]) (fun φ3 => []) s trivial (fun φ3 => by kernel_rfl) ?_
  intro φ3 w3 s
  refine append_rule (H := []) (F := [((φ3 0), .cells #[] 5)]) 61 61 5 Tryd.t5 (.int .u8 0) 1 1 (some 7) s Tryd.underlying61 (by kernel_rfl) (by kernel_rfl) (by kernel_rfl) (by kernel_rfl) (by kernel_rfl) (by decide) (row_new (φ3 0)) (src_bsl s.sub hl) (by   (try simp only [maxLen, List.length_append, List.length_cons, List.length_nil, List.length_take, List.length_drop]); omega) (by   (try simp only [maxLen, List.length_append, List.length_cons, List.length_nil, List.length_take, List.length_drop]); omega) (by kernel_rfl) ?_
  intro v4 w4 F4 s h4
  replace h4 : RowH 5 1 v4 ((l).length) ((l).map bV) F4 := row_app (x := []) (y := l) h4
  refine ops_rule (C := []) [] F4 1 [] 0 (fun φ5 => [(2, v4)]) (fun φ5 => []) (fun φ5 => []) s trivial (fun φ5 => by kernel_rfl) ?_
  intro φ5 w5 s
  refine ops_done (by kernel_rfl) ?_
  refine wp_ret ?_
  refine ret_rule (C := []) [] F4 (v4) [] [] s trivial (by kernel_rfl) ?_
  replace s := s.drop (List.sublist_append_right [] F4)
  exact ⟨_, _, _, rfl, s, h4⟩

theorem clone_c {I : IM} {l : List UInt8} {a : Option Addr} {n c : Nat} (hl : BSl I l (.slice a n c)) (hn : l.length ≤ 1000000000) : Fun Tryd.prog 93 #[.slice a n c] I (fun v J => bsR l v J) := by
  obtain ⟨rfl, -⟩ := hl.cap
  cases a with
  | none =>
    have := bsl_none hl
    subst this
    exact clone_none.mono fun v J _ h => ⟨none, 0, h, bsl_nil J⟩
  | some x => exact fun_of_rowB (clone_some hl hn)

set_option maxHeartbeats 1000000 in
theorem join3_r {I : IM} {g : Nat} {l1 : List UInt8} {a1 : Option Addr} {n1 c1 : Nat} {l2 : List UInt8} {a2 : Option Addr} {n2 c2 : Nat} {l3 : List UInt8} {a3 : Option Addr} {n3 c3 : Nat} (hg : I g = some (.cells #[.slice a1 n1 c1, .slice a2 n2 c2, .slice a3 n3 c3] 61)) (hl1 : BSl I l1 (.slice a1 n1 c1)) (hl2 : BSl I l2 (.slice a2 n2 c2)) (hl3 : BSl I l3 (.slice a3 n3 c3)) (hn1 : l1.length ≤ 1000000000) (hn2 : l2.length ≤ 1000000000) (hn3 : l3.length ≤ 1000000000) : FunM Tryd.prog 84 #[.slice (some ⟨g, 0, none⟩) 3 3] I [] (fun v J F => RowH 5 1 v (l1 ++ l2 ++ l3).length ((l1 ++ l2 ++ l3).map bV) F) := by
  obtain ⟨rfl, -⟩ := hl1.cap
  obtain ⟨rfl, -⟩ := hl2.cap
  obtain ⟨rfl, -⟩ := hl3.cap
  refine enterM_rule 17 [(0, .slice (some ⟨g, 0, none⟩) 3 3)] Tryd.func84 rfl (by kernel_rfl) ?_
  intro w s
  refine wp_seq ?_
  refine region_rule ?_
  refine ops_rule (C := []) [] [] 1 [] 0 (fun φ1 => [(2, .slice none 0 0)]) (fun φ1 => []) (fun φ1 => []) s trivial (fun φ1 => by kernel_rfl) ?_
  intro φ1 w1 s
  refine ops_done (by kernel_rfl) ?_
  refine wp_seq ?_
  refine region_rule ?_
  refine ops_rule (C := []) [] [] 1 [] 0 (fun φ2 => [(3, .slice none 0 0)]) (fun φ2 => []) (fun φ2 => []) s trivial (fun φ2 => by kernel_rfl) ?_
  intro φ2 w2 s
  refine ops_done (by kernel_rfl) ?_
  refine wp_seq ?_
  refine wp_seq ?_
  refine region_rule ?_
  refine ops_rule (C := []) [] [] 3 [] 0 (fun φ3 => [(8, .int .i64 0), (7, .int .i64 3), (6, .slice (some ⟨g, 0, none⟩) 3 3)]) (fun φ3 => []) (fun φ3 => []) s trivial (fun φ3 => by kernel_rfl) ?_
  intro φ3 w3 s
  refine ops_done (by kernel_rfl) ?_
  refine wp_block ?_
  refine Go.wp_loop_rounds 4 ?_
  refine rounds_step (n := 3) ?_
  refine wp_seq ?_
  refine region_rule ?_
  refine ops_rule (C := []) [] [] 1 [] 0 (fun φ4 => [(9, .bool true)]) (fun φ4 => []) (fun φ4 => []) s trivial (fun φ4 => by kernel_rfl) ?_
  intro φ4 w4 s
  refine ops_done (by kernel_rfl) ?_
  refine wp_seq ?_
  refine cond_true_rule (b := true) (by kernel_rfl) rfl ?_
  refine wp_skip ?_
  refine wp_seq ?_
  refine wp_block ?_
  refine wp_seq ?_
  refine region_rule ?_
  refine ops_rule (C := [(g, .cells #[.slice a1 l1.length c1, .slice a2 l2.length c2, .slice a3 l3.length c3] 61)]) [] [] 3 [.c 0] 0 (fun φ5 => [(5, .slice a1 l1.length c1), (11, .slice a1 l1.length c1), (10, .pointer (some ⟨g, 0, none⟩))]) (fun φ5 => []) (fun φ5 => [g]) s ⟨hg, trivial⟩ (fun φ5 => by kernel_rfl) ?_
  intro φ5 w5 s
  refine ops_done (by kernel_rfl) ?_
  refine region_rule ?_
  refine ops_rule (C := []) [] [] 2 [] 0 (fun φ6 => [(13, .slice a1 l1.length c1), (12, .slice none 0 0)]) (fun φ6 => []) (fun φ6 => []) s trivial (fun φ6 => by kernel_rfl) ?_
  intro φ6 w6 s
  refine append_rule (H := []) (F := []) 61 61 5 Tryd.t5 (.int .u8 0) 1 1 (some 14) s Tryd.underlying61 (by kernel_rfl) (by kernel_rfl) (by kernel_rfl) (by kernel_rfl) (by kernel_rfl) (by decide) row_nilB (src_bsl s.sub hl1) (by   (try simp only [maxLen, List.length_append, List.length_cons, List.length_nil, List.length_take, List.length_drop]); omega) (by   (try simp only [maxLen, List.length_append, List.length_cons, List.length_nil, List.length_take, List.length_drop]); omega) (by kernel_rfl) ?_
  intro v7 w7 F7 s h7
  replace h7 : RowH 5 1 v7 ((l1).length) ((l1).map bV) F7 := row_app (x := []) (y := l1) h7
  refine ops_rule (C := []) [] F7 1 [] 0 (fun φ8 => [(3, v7)]) (fun φ8 => []) (fun φ8 => []) s trivial (fun φ8 => by kernel_rfl) ?_
  intro φ8 w8 s
  refine ops_done (by kernel_rfl) ?_
  refine region_rule ?_
  refine ops_rule (C := []) [] F7 2 [] 0 (fun φ9 => [(8, .int .i64 1), (15, .int .i64 1)]) (fun φ9 => []) (fun φ9 => []) s trivial (fun φ9 => by kernel_rfl) ?_
  intro φ9 w9 s
  refine ops_done (by kernel_rfl) ?_
  refine rounds_step (n := 2) ?_
  refine wp_seq ?_
  refine region_rule ?_
  refine ops_rule (C := []) [] F7 1 [] 0 (fun φ10 => [(9, .bool true)]) (fun φ10 => []) (fun φ10 => []) s trivial (fun φ10 => by kernel_rfl) ?_
  intro φ10 w10 s
  refine ops_done (by kernel_rfl) ?_
  refine wp_seq ?_
  refine cond_true_rule (b := true) (by kernel_rfl) rfl ?_
  refine wp_skip ?_
  refine wp_seq ?_
  refine wp_block ?_
  refine wp_seq ?_
  refine region_rule ?_
  refine ops_rule (C := [(g, .cells #[.slice a1 l1.length c1, .slice a2 l2.length c2, .slice a3 l3.length c3] 61)]) [] F7 3 [.c 0] 0 (fun φ11 => [(5, .slice a2 l2.length c2), (11, .slice a2 l2.length c2), (10, .pointer (some ⟨g, 1, none⟩))]) (fun φ11 => []) (fun φ11 => [g]) s ⟨hg, trivial⟩ (fun φ11 => by kernel_rfl) ?_
  intro φ11 w11 s
  refine ops_done (by kernel_rfl) ?_
  refine region_rule ?_
  refine ops_rule (C := []) [] F7 2 [] 0 (fun φ12 => [(13, .slice a2 l2.length c2), (12, v7)]) (fun φ12 => []) (fun φ12 => []) s trivial (fun φ12 => by kernel_rfl) ?_
  intro φ12 w12 s
  refine append_rule (H := []) (F := F7) 61 61 5 Tryd.t5 (.int .u8 0) 1 1 (some 14) s Tryd.underlying61 (by kernel_rfl) (by kernel_rfl) (by kernel_rfl) (by kernel_rfl) (by kernel_rfl) (by decide) h7 (src_bsl s.sub hl2) (by   (try simp only [maxLen, List.length_append, List.length_cons, List.length_nil, List.length_take, List.length_drop]); omega) (by   (try simp only [maxLen, List.length_append, List.length_cons, List.length_nil, List.length_take, List.length_drop]); omega) (by kernel_rfl) ?_
  intro v13 w13 F13 s h13
  replace h13 : RowH 5 1 v13 ((l1 ++ l2).length) ((l1 ++ l2).map bV) F13 := row_app (x := l1) (y := l2) h13
  refine ops_rule (C := []) [] F13 1 [] 0 (fun φ14 => [(3, v13)]) (fun φ14 => []) (fun φ14 => []) s trivial (fun φ14 => by kernel_rfl) ?_
  intro φ14 w14 s
  refine ops_done (by kernel_rfl) ?_
  refine region_rule ?_
  refine ops_rule (C := []) [] F13 2 [] 0 (fun φ15 => [(8, .int .i64 2), (15, .int .i64 2)]) (fun φ15 => []) (fun φ15 => []) s trivial (fun φ15 => by kernel_rfl) ?_
  intro φ15 w15 s
  refine ops_done (by kernel_rfl) ?_
  refine rounds_step (n := 1) ?_
  refine wp_seq ?_
  refine region_rule ?_
  refine ops_rule (C := []) [] F13 1 [] 0 (fun φ16 => [(9, .bool true)]) (fun φ16 => []) (fun φ16 => []) s trivial (fun φ16 => by kernel_rfl) ?_
  intro φ16 w16 s
  refine ops_done (by kernel_rfl) ?_
  refine wp_seq ?_
  refine cond_true_rule (b := true) (by kernel_rfl) rfl ?_
  refine wp_skip ?_
  refine wp_seq ?_
  refine wp_block ?_
  refine wp_seq ?_
  refine region_rule ?_
  refine ops_rule (C := [(g, .cells #[.slice a1 l1.length c1, .slice a2 l2.length c2, .slice a3 l3.length c3] 61)]) [] F13 3 [.c 0] 0 (fun φ17 => [(5, .slice a3 l3.length c3), (11, .slice a3 l3.length c3), (10, .pointer (some ⟨g, 2, none⟩))]) (fun φ17 => []) (fun φ17 => [g]) s ⟨hg, trivial⟩ (fun φ17 => by kernel_rfl) ?_
  intro φ17 w17 s
  refine ops_done (by kernel_rfl) ?_
  refine region_rule ?_
  refine ops_rule (C := []) [] F13 2 [] 0 (fun φ18 => [(13, .slice a3 l3.length c3), (12, v13)]) (fun φ18 => []) (fun φ18 => []) s trivial (fun φ18 => by kernel_rfl) ?_
  intro φ18 w18 s
  refine append_rule (H := []) (F := F13) 61 61 5 Tryd.t5 (.int .u8 0) 1 1 (some 14) s Tryd.underlying61 (by kernel_rfl) (by kernel_rfl) (by kernel_rfl) (by kernel_rfl) (by kernel_rfl) (by decide) h13 (src_bsl s.sub hl3) (by   (try simp only [maxLen, List.length_append, List.length_cons, List.length_nil, List.length_take, List.length_drop]); omega) (by   (try simp only [maxLen, List.length_append, List.length_cons, List.length_nil, List.length_take, List.length_drop]); omega) (by kernel_rfl) ?_
  intro v19 w19 F19 s h19
  replace h19 : RowH 5 1 v19 ((l1 ++ l2 ++ l3).length) ((l1 ++ l2 ++ l3).map bV) F19 := row_app (x := (l1 ++ l2)) (y := l3) h19
  refine ops_rule (C := []) [] F19 1 [] 0 (fun φ20 => [(3, v19)]) (fun φ20 => []) (fun φ20 => []) s trivial (fun φ20 => by kernel_rfl) ?_
  intro φ20 w20 s
  refine ops_done (by kernel_rfl) ?_
  refine region_rule ?_
  refine ops_rule (C := []) [] F19 2 [] 0 (fun φ21 => [(8, .int .i64 3), (15, .int .i64 3)]) (fun φ21 => []) (fun φ21 => []) s trivial (fun φ21 => by kernel_rfl) ?_
  intro φ21 w21 s
  refine ops_done (by kernel_rfl) ?_
  refine rounds_step (n := 0) ?_
  refine wp_seq ?_
  refine region_rule ?_
  refine ops_rule (C := []) [] F19 1 [] 0 (fun φ22 => [(9, .bool false)]) (fun φ22 => []) (fun φ22 => []) s trivial (fun φ22 => by kernel_rfl) ?_
  intro φ22 w22 s
  refine ops_done (by kernel_rfl) ?_
  refine wp_seq ?_
  refine cond_false_rule (b := false) (by kernel_rfl) rfl ?_
  refine wp_exit ?_
  refine wp_seq ?_
  refine region_rule ?_
  refine ops_rule (C := []) [] F19 2 [] 0 (fun φ23 => [(2, v19), (16, v19)]) (fun φ23 => []) (fun φ23 => []) s trivial (fun φ23 => by kernel_rfl) ?_
  intro φ23 w23 s
  refine ops_done (by kernel_rfl) ?_
  refine wp_ret ?_
  refine ret_rule (C := []) [] F19 (v19) [] [] s trivial (by kernel_rfl) ?_
  replace s := s.drop (List.sublist_append_right [] F19)
  exact ⟨_, _, _, rfl, s, h19⟩

end Go.Proofs.YtcpmjogeafhpnaaDoor

/- Numbers and texts in bytes. -/
set_option linter.all false
set_option maxRecDepth 100000
namespace Go.Proofs.YtcpmjogeafhpnaaDoor
open Go.RowKit Go.Sep
attribute [local irreducible] Go.wpList Go.Code.wp

theorem row_oneU (g : Nat) {x : Nat} (h : x < 256) : RowH 5 1 (.slice (some ⟨g, 0, none⟩) 1 1) 1 (([UInt8.ofNat x] : List UInt8).map bV) [(g, .cells #[.int .u8 ((x : Nat) : Int)] 5)] :=
  ⟨rfl, .inr ⟨g, 1, _, rfl, rfl, Nat.le_refl _, by decide, rfl, by show [Value.int .u8 ((x : Nat) : Int)] = [bV (UInt8.ofNat x)]; rw [cell_byte h]⟩⟩
theorem src_str {l : List UInt8} {w : World} : Src Tryd.prog 1 9 (.string ⟨l.toArray⟩) l.length (l.map bV) w := by
  have h := Src.ofString w under9 ⟨l.toArray⟩
  have e : Go.byteCells ⟨l.toArray⟩ = l.map bV := rfl
  rw [e] at h; exact h
theorem bandn8_lt {a b : Nat} : bandn 8 a b < 256 := BitVec.isLt _
theorem bor8_lt' {a b : Nat} : bor 8 a b < 256 := BitVec.isLt _

set_option maxHeartbeats 2000000 in
theorem numB_r {I : IM} {l : List UInt8} {a : Option Addr} {m c : Nat} (hl : BSl I l (.slice a m c)) (hn9 : l.length ≤ 900000) {n : Nat} (hn : n < 18446744073709551616) : FunM Tryd.prog 83 #[.slice a m c, .int .u64 ((n : Nat) : Int)] I [] (fun v J F => RowH 5 1 v (l ++ encF 9 n).length ((l ++ encF 9 n).map bV) F) := by
  obtain ⟨rfl, -⟩ := hl.cap
  refine enterM_rule 26 [(0, .slice a l.length c), (1, .int .u64 ((n : Nat) : Int))] Tryd.func83 rfl (by kernel_rfl) ?_
  intro w s
  refine wp_seq ?_
  refine region_rule ?_
  refine ops_rule (C := []) [] [] 1 [] 0 (fun φ1 => [(4, .slice none 0 0)]) (fun φ1 => []) (fun φ1 => []) s trivial (fun φ1 => by kernel_rfl) ?_
  intro φ1 w1 s
  refine ops_done (by kernel_rfl) ?_
  refine wp_seq ?_
  refine region_rule ?_
  refine ops_rule (C := []) [] [] 5 [] 0 (fun φ2 => [(9, .int .i64 ((l.length : Nat) : Int)), (8, .slice a l.length c), (7, .int .i64 ((l.length : Nat) : Int)), (6, .slice a l.length c), (5, .slice a l.length c)]) (fun φ2 => []) (fun φ2 => []) s trivial (fun φ2 => by kernel_rfl) ?_
  intro φ2 w2 s
  refine sem_rule (Instr.sliceAt 61 (.slice a l.length c) none (some (.int .i64 ((l.length : Nat) : Int))) (some (.int .i64 ((l.length : Nat) : Int)))) (some 10) (.slice a l.length l.length) (by kernel_rfl) (run_to3 (by have hcp := (BSl.cap hl).2; (try simp only [List.length_drop, List.length_take, List.length_append, List.length_cons, List.length_nil] at hcp ⊢);   (try simp only [List.length_drop, List.length_take, List.length_append, List.length_cons, List.length_nil]); omega) (by have hcp := (BSl.cap hl).2; (try simp only [List.length_drop, List.length_take, List.length_append, List.length_cons, List.length_nil] at hcp ⊢);   (try simp only [List.length_drop, List.length_take, List.length_append, List.length_cons, List.length_nil]); omega)) ?_
  refine ops_rule (C := []) [] [] 1 [] 0 (fun φ3 => [(0, .slice a l.length l.length)]) (fun φ3 => []) (fun φ3 => []) s trivial (fun φ3 => by kernel_rfl) ?_
  intro φ3 w3 s
  refine ops_done (by kernel_rfl) ?_
  refine wp_seq ?_
  refine wp_block ?_
  have hle4 := IM.Le.refl I
  refine loop_rule (fun (x : List UInt8 × Nat × Value × List OB) => [(0, x.2.2.1), (1, .int .u64 ((x.2.1 : Nat) : Int))]) (fun (x : List UInt8 × Nat × Value × List OB) => [] ++ x.2.2.2) (fun m (x : List UInt8 × Nat × Value × List OB) J => IM.Le I J ∧ x.1 ++ encF m x.2.1 = l ++ encF 9 n ∧ x.2.1 < 2 ^ (m * 7 + 1) ∧ List.length x.1 + m ≤ l.length + 9 ∧ x.2.1 < 18446744073709551616 ∧ RowA J x.1 x.2.2.1 x.2.2.2) (9) (l, n, .slice a l.length l.length, []) s (by kernel_rfl) (List.Sublist.refl _) ⟨IM.Le.refl _, rfl, hn, (Nat.le_refl _), hn, Or.inr ⟨rfl, a, rfl, (bsl_clip hl)⟩⟩ ?_
  rintro m5 ⟨cur5, nn5, v5, F5⟩ I5 w5 ev5 s ⟨le5, hi5_0, hi5_1, hi5_2, hi5_3, hi5_4⟩
  try dsimp only at s hi5_0 hi5_1 hi5_2 hi5_3 hi5_4 ⊢
  replace hl := BSl.mono le5 hl
  replace hle4 := leMono le5 hle4
  refine wp_seq ?_
  refine wp_seq ?_
  refine region_rule ?_
  refine ops_rule (C := []) [] F5 2 [] 0 (fun φ6 => [(12, .bool (decide (((nn5 : Nat) : Int) ≥ ((128 : Nat) : Int)))), (11, .int .u64 ((nn5 : Nat) : Int))]) (fun φ6 => []) (fun φ6 => []) s trivial (fun φ6 => by kernel_rfl) ?_
  intro φ6 w6 s
  rw [nat_geq (a := nn5) (b := 128)]
  refine ops_done (by kernel_rfl) ?_
  rcases Bool.eq_false_or_eq_true (decide (128 ≤ nn5)) with hc7 | hc7
  ·
    rw [hc7]
    refine cond_true_rule (b := true) (by kernel_rfl) rfl ?_
    refine wp_skip ?_
    refine wp_block ?_
    refine wp_seq ?_
    refine region_rule ?_
    refine ops_rule (C := []) [] F5 2 [] 0 (fun φ8 => [(14, .int .u64 ((nn5 : Nat) : Int)), (13, v5)]) (fun φ8 => []) (fun φ8 => []) s trivial (fun φ8 => by kernel_rfl) ?_
    intro φ8 w8 s
    refine sem_rule (convert 114 5 (.int .u64 ((nn5 : Nat) : Int))) (some 15) (.int .u8 ((nn5 % 256 : Nat) : Int)) (by kernel_rfl) (run_conv8 (by kernel_rfl) ⟨_, Tryd.underlying114⟩) ?_
    refine sem_rule (binOp .or 5 (.int .u8 ((nn5 % 256 : Nat) : Int)) (.int .u8 ((128 : Nat) : Int))) (some 16) (.int .u8 ((bor 8 (nn5 % 256) 128 : Nat) : Int)) (by kernel_rfl) (run_bit8.2.2.1) ?_
    refine ops_rule (C := []) [] F5 1 [] 1 (fun φ9 => [(17, .slice (some ⟨(φ9 0), 0, none⟩) 1 1)]) (fun φ9 => [((φ9 0), .cells #[.int .u8 ((bor 8 (nn5 % 256) 128 : Nat) : Int)] 5)]) (fun φ9 => []) s trivial (fun φ9 => by kernel_rfl) ?_
    intro φ9 w9 s
    refine append_ruleG (H := [((φ9 0), .cells #[.int .u8 ((bor 8 (nn5 % 256) 128 : Nat) : Int)] 5)]) (RH := fun v' F' => RowH 5 1 v' (cur5.length + 1) (cur5.map bV ++ [.int .u8 ((bor 8 (nn5 % 256) 128 : Nat) : Int)]) F') 61 61 (some 18) (fun ty => append_any (H := [((φ9 0), .cells #[.int .u8 ((bor 8 (nn5 % 256) 128 : Nat) : Int)] 5)]) (F := F5) s hi5_4 (src_own (H := [((φ9 0), .cells #[.int .u8 ((bor 8 (nn5 % 256) 128 : Nat) : Int)] 5)]) s 0 (φ9 0) #[.int .u8 ((bor 8 (nn5 % 256) 128 : Nat) : Int)] 5 61 5 1 1 1 [.int .u8 ((bor 8 (nn5 % 256) 128 : Nat) : Int)] (by kernel_rfl) under34 (by kernel_rfl) (by kernel_rfl) (by kernel_rfl)) (by omega) (by have hn2 := hi5_2; have hn3 := hi5_3; (try simp only [maxLen, List.length_append, List.length_cons, List.length_nil]); omega)) (by kernel_rfl) ?_
    intro v10 w10 F10 s h10
    replace h10 : RowH 5 1 v10 ((cur5 ++ ([UInt8.ofNat (bor 8 (nn5 % 256) 128)] : List UInt8)).length) ((cur5 ++ ([UInt8.ofNat (bor 8 (nn5 % 256) 128)] : List UInt8)).map bV) F10 := row_snoc (x := cur5) (y := ([UInt8.ofNat (bor 8 (nn5 % 256) 128)] : List UInt8)) h10 (by simp only [List.map_cons, List.map_nil]; exact cells_bytes1 (by exact bor8_lt'))
    refine ops_rule (C := []) [((φ9 0), .cells #[.int .u8 ((bor 8 (nn5 % 256) 128 : Nat) : Int)] 5)] F10 1 [] 0 (fun φ11 => [(0, v10)]) (fun φ11 => [((φ9 0), .cells #[.int .u8 ((bor 8 (nn5 % 256) 128 : Nat) : Int)] 5)]) (fun φ11 => []) s trivial (fun φ11 => by kernel_rfl) ?_
    intro φ11 w11 s
    refine ops_done (by kernel_rfl) ?_
    refine region_rule ?_
    refine ops_rule (C := []) [((φ9 0), .cells #[.int .u8 ((bor 8 (nn5 % 256) 128 : Nat) : Int)] 5)] F10 1 [] 0 (fun φ12 => [(19, .int .u64 ((nn5 : Nat) : Int))]) (fun φ12 => [((φ9 0), .cells #[.int .u8 ((bor 8 (nn5 % 256) 128 : Nat) : Int)] 5)]) (fun φ12 => []) s trivial (fun φ12 => by kernel_rfl) ?_
    intro φ12 w12 s
    refine sem_rule (binOp .shr 114 (.int .u64 ((nn5 : Nat) : Int)) (.int .u64 ((7 : Nat) : Int))) (some 20) (.int .u64 ((nn5 / 2 ^ 7 : Nat) : Int)) (by kernel_rfl) (run_shrU (by show _ < 18446744073709551616; have hn2 := hi5_2; have hn3 := hi5_3; have hq0 := of_decide_eq_true hc7; omega)) ?_
    refine ops_rule (C := []) [((φ9 0), .cells #[.int .u8 ((bor 8 (nn5 % 256) 128 : Nat) : Int)] 5)] F10 1 [] 0 (fun φ13 => [(1, .int .u64 ((nn5 / 2 ^ 7 : Nat) : Int))]) (fun φ13 => [((φ9 0), .cells #[.int .u8 ((bor 8 (nn5 % 256) 128 : Nat) : Int)] 5)]) (fun φ13 => []) s trivial (fun φ13 => by kernel_rfl) ?_
    intro φ13 w13 s
    refine ops_done (by kernel_rfl) ?_
    have hq9 : ¬ nn5 < 128 := (by have := of_decide_eq_true hc7; omega)
    have hs9 := enc_step hi5_0 hi5_1 hq9
    have hm9 := m_pos hi5_1 hq9
    exact ⟨⟨m5 - 1, (cur5 ++ ([UInt8.ofNat (bor 8 (nn5 % 256) 128)] : List UInt8), nn5 / 2 ^ 7, v10, F10), _, _, _, by omega, rfl, s, (List.Sublist.append (List.Sublist.cons _ List.Sublist.slnil) (List.Sublist.refl _)), by kernel_rfl, hle4, hs9.1, hs9.2, by have := hi5_2; show List.length (cur5 ++ ([UInt8.ofNat (bor 8 (nn5 % 256) 128)] : List UInt8)) + (m5 - 1) ≤ l.length + 9; rw [List.length_append]; simp only [List.length_cons, List.length_nil]; omega, Nat.lt_of_le_of_lt (Nat.div_le_self _ _) hi5_3, Or.inl h10⟩⟩
  ·
    rw [hc7]
    refine cond_false_rule (b := false) (by kernel_rfl) rfl ?_
    refine wp_exit ?_
    refine wp_seq ?_
    refine region_rule ?_
    refine ops_rule (C := []) [] F5 2 [] 0 (fun φ14 => [(22, .int .u64 ((nn5 : Nat) : Int)), (21, v5)]) (fun φ14 => []) (fun φ14 => []) s trivial (fun φ14 => by kernel_rfl) ?_
    intro φ14 w14 s
    refine sem_rule (convert 114 5 (.int .u64 ((nn5 : Nat) : Int))) (some 23) (.int .u8 ((nn5 % 256 : Nat) : Int)) (by kernel_rfl) (run_conv8 (by kernel_rfl) ⟨_, Tryd.underlying114⟩) ?_
    refine ops_rule (C := []) [] F5 1 [] 1 (fun φ15 => [(24, .slice (some ⟨(φ15 0), 0, none⟩) 1 1)]) (fun φ15 => [((φ15 0), .cells #[.int .u8 ((nn5 % 256 : Nat) : Int)] 5)]) (fun φ15 => []) s trivial (fun φ15 => by kernel_rfl) ?_
    intro φ15 w15 s
    refine append_ruleG (H := [((φ15 0), .cells #[.int .u8 ((nn5 % 256 : Nat) : Int)] 5)]) (RH := fun v' F' => RowH 5 1 v' (cur5.length + 1) (cur5.map bV ++ [.int .u8 ((nn5 % 256 : Nat) : Int)]) F') 61 61 (some 25) (fun ty => append_any (H := [((φ15 0), .cells #[.int .u8 ((nn5 % 256 : Nat) : Int)] 5)]) (F := F5) s hi5_4 (src_own (H := [((φ15 0), .cells #[.int .u8 ((nn5 % 256 : Nat) : Int)] 5)]) s 0 (φ15 0) #[.int .u8 ((nn5 % 256 : Nat) : Int)] 5 61 5 1 1 1 [.int .u8 ((nn5 % 256 : Nat) : Int)] (by kernel_rfl) under34 (by kernel_rfl) (by kernel_rfl) (by kernel_rfl)) (by omega) (by have hn2 := hi5_2; have hn3 := hi5_3; (try simp only [maxLen, List.length_append, List.length_cons, List.length_nil]); omega)) (by kernel_rfl) ?_
    intro v16 w16 F16 s h16
    replace h16 : RowH 5 1 v16 ((cur5 ++ ([UInt8.ofNat (nn5 % 256)] : List UInt8)).length) ((cur5 ++ ([UInt8.ofNat (nn5 % 256)] : List UInt8)).map bV) F16 := row_snoc (x := cur5) (y := ([UInt8.ofNat (nn5 % 256)] : List UInt8)) h16 (by simp only [List.map_cons, List.map_nil]; exact cells_bytes1 (by have hn2 := hi5_2; have hn3 := hi5_3; have hq0 := of_decide_eq_false hc7; omega))
    refine ops_rule (C := []) [((φ15 0), .cells #[.int .u8 ((nn5 % 256 : Nat) : Int)] 5)] F16 1 [] 0 (fun φ17 => [(4, v16)]) (fun φ17 => [((φ15 0), .cells #[.int .u8 ((nn5 % 256 : Nat) : Int)] 5)]) (fun φ17 => []) s trivial (fun φ17 => by kernel_rfl) ?_
    intro φ17 w17 s
    refine ops_done (by kernel_rfl) ?_
    refine wp_ret ?_
    refine ret_rule (C := []) [((φ15 0), .cells #[.int .u8 ((nn5 % 256 : Nat) : Int)] 5)] F16 (v16) [] [] s trivial (by kernel_rfl) ?_
    replace s := s.drop (List.sublist_append_right [((φ15 0), .cells #[.int .u8 ((nn5 % 256 : Nat) : Int)] 5)] F16)
    exact ⟨_, _, _, rfl, s, (by have e9 := h16; have h8 := hi5_0; rw [encF_stop (by have := of_decide_eq_false hc7; omega)] at h8; rw [h8] at e9; exact e9)⟩

set_option maxHeartbeats 2000000 in
theorem textB_r {I : IM} {l : List UInt8} {a : Option Addr} {m c : Nat} (hl : BSl I l (.slice a m c)) (hn9 : l.length ≤ 900000) {ss : List UInt8} (hss : ss.length ≤ 1000) : FunM Tryd.prog 111 #[.slice a m c, .string ⟨(ss).toArray⟩] I [] (fun v J F => RowH 5 1 v ((l ++ encF 9 ss.length) ++ ss).length (((l ++ encF 9 ss.length) ++ ss).map bV) F) := by
  obtain ⟨rfl, -⟩ := hl.cap
  refine enterM_rule 12 [(0, .slice a l.length c), (1, .string ⟨(ss).toArray⟩)] Tryd.func111 rfl (by kernel_rfl) ?_
  intro w s
  refine wp_seq ?_
  refine region_rule ?_
  refine ops_rule (C := []) [] [] 1 [] 0 (fun φ1 => [(4, .slice none 0 0)]) (fun φ1 => []) (fun φ1 => []) s trivial (fun φ1 => by kernel_rfl) ?_
  intro φ1 w1 s
  refine ops_done (by kernel_rfl) ?_
  refine wp_seq ?_
  refine region_rule ?_
  refine ops_rule (C := []) [] [] 4 [] 0 (fun φ2 => [(8, .int .u64 (IntKind.wrap .u64 (((ss).length : Nat) : Int))), (7, .int .i64 (((ss).length : Nat) : Int)), (6, .string ⟨(ss).toArray⟩), (5, .slice a l.length c)]) (fun φ2 => []) (fun φ2 => []) s trivial (fun φ2 => by kernel_rfl) ?_
  intro φ2 w2 s
  rw [nat_wrapU (a := ((ss).length)) (by   (try simp only [List.length_drop, List.length_take, List.length_append, List.length_cons, List.length_nil]); omega)]
  refine callF_rule (H := []) (F := []) (some 9) s (numB_r (n := (ss).length) hl (by omega) (by   (try simp only [List.length_drop, List.length_take, List.length_append, List.length_cons, List.length_nil]); omega)) (by kernel_rfl) ?_
  intro v3 I3 w3 F3 le3 h3 s
  replace hl := BSl.mono le3 hl
  refine ops_rule (C := []) [] F3 1 [] 0 (fun φ4 => [(10, .string ⟨(ss).toArray⟩)]) (fun φ4 => []) (fun φ4 => []) s trivial (fun φ4 => by kernel_rfl) ?_
  intro φ4 w4 s
  refine append_rule (H := []) (F := F3) 61 9 5 Tryd.t5 (.int .u8 0) 1 1 (some 11) s Tryd.underlying61 (by kernel_rfl) (by kernel_rfl) (by kernel_rfl) (by kernel_rfl) (by kernel_rfl) (by decide) h3 (src_str (l := ss)) (by have := (encF_len 9 (ss).length).2; (try simp only [maxLen, List.length_append]); omega) (by have := (encF_len 9 (ss).length).2; (try simp only [maxLen, List.length_append]); omega) (by kernel_rfl) ?_
  intro v5 w5 F5 s h5
  replace h5 : RowH 5 1 v5 (((l ++ encF 9 ((ss).length)) ++ ss).length) (((l ++ encF 9 ((ss).length)) ++ ss).map bV) F5 := row_app (x := (l ++ encF 9 ((ss).length))) (y := ss) h5
  refine ops_rule (C := []) [] F5 1 [] 0 (fun φ6 => [(4, v5)]) (fun φ6 => []) (fun φ6 => []) s trivial (fun φ6 => by kernel_rfl) ?_
  intro φ6 w6 s
  refine ops_done (by kernel_rfl) ?_
  refine wp_ret ?_
  refine ret_rule (C := []) [] F5 (v5) [] [] s trivial (by kernel_rfl) ?_
  replace s := s.drop (List.sublist_append_right [] F5)
  exact ⟨_, _, _, rfl, s, h5⟩

theorem refnum0 {I : IM} {f n : Nat} (h : n < 128) : FunM Tryd.prog 86 #[.int .u64 ((n : Nat) : Int)] I [] (fun v J F => RowH 5 1 v (encF f n).length ((encF f n).map bV) F) := by
  refine enterM_rule 17 [(0, .int .u64 ((n : Nat) : Int))] Tryd.func86 rfl (by kernel_rfl) ?_
  intro w s
  refine wp_seq ?_
  refine region_rule ?_
  refine ops_rule (C := []) [] [] 1 [] 0 (fun φ1 => [(2, .slice none 0 0)]) (fun φ1 => []) (fun φ1 => []) s trivial (fun φ1 => by kernel_rfl) ?_
  intro φ1 w1 s
  refine ops_done (by kernel_rfl) ?_
  refine wp_seq ?_
  refine wp_seq ?_
  refine region_rule ?_
  refine ops_rule (C := []) [] [] 2 [] 0 (fun φ2 => [(4, .bool (decide (((n : Nat) : Int) < ((128 : Nat) : Int)))), (3, .int .u64 ((n : Nat) : Int))]) (fun φ2 => []) (fun φ2 => []) s trivial (fun φ2 => by kernel_rfl) ?_
  intro φ2 w2 s
  rw [nat_lss (a := n) (b := 128)]
  refine ops_done (by kernel_rfl) ?_
  rcases Bool.eq_false_or_eq_true (decide (n < 128)) with hc3 | hc3
  ·
    rw [hc3]
    refine cond_true_rule (b := true) (by kernel_rfl) rfl ?_
    refine wp_seq ?_
    refine region_rule ?_
    refine ops_rule (C := []) [] [] 1 [] 0 (fun φ4 => [(5, .int .u64 ((n : Nat) : Int))]) (fun φ4 => []) (fun φ4 => []) s trivial (fun φ4 => by kernel_rfl) ?_
    intro φ4 w4 s
    refine sem_rule (convert 114 5 (.int .u64 ((n : Nat) : Int))) (some 6) (.int .u8 ((n % 256 : Nat) : Int)) (by kernel_rfl) (run_conv8 (by kernel_rfl) ⟨_, Tryd.underlying114⟩) ?_
    refine ops_rule (C := []) [] [] 2 [] 1 (fun φ5 => [(2, .slice (some ⟨(φ5 0), 0, none⟩) 1 1), (7, .slice (some ⟨(φ5 0), 0, none⟩) 1 1)]) (fun φ5 => [((φ5 0), .cells #[.int .u8 ((n % 256 : Nat) : Int)] 5)]) (fun φ5 => []) s trivial (fun φ5 => by kernel_rfl) ?_
    intro φ5 w5 s
    refine ops_done (by kernel_rfl) ?_
    refine wp_ret ?_
    refine ret_rule (C := []) [((φ5 0), .cells #[.int .u8 ((n % 256 : Nat) : Int)] 5)] [] (.slice (some ⟨(φ5 0), 0, none⟩) 1 1) [] [] s trivial (by kernel_rfl) ?_
    exact ⟨_, _, _, rfl, s, (by rw [encF_stop (of_decide_eq_true hc3)]; exact row_oneU (φ5 0) (by omega))⟩
  ·
    exact absurd (of_decide_eq_false hc3) (fun q => q h)

theorem refnumS {I : IM} {f n : Nat} (h : ¬ n < 128) (hn : n < 18446744073709551616) (hf : f ≤ 100) (ih : ∀ {I : IM}, FunM Tryd.prog 86 #[.int .u64 (((n / 128) : Nat) : Int)] I [] (fun v J F => RowH 5 1 v (encF f (n / 128)).length ((encF f (n / 128)).map bV) F)) : FunM Tryd.prog 86 #[.int .u64 ((n : Nat) : Int)] I [] (fun v J F => RowH 5 1 v (encF (f + 1) n).length ((encF (f + 1) n).map bV) F) := by
  refine enterM_rule 17 [(0, .int .u64 ((n : Nat) : Int))] Tryd.func86 rfl (by kernel_rfl) ?_
  intro w s
  refine wp_seq ?_
  refine region_rule ?_
  refine ops_rule (C := []) [] [] 1 [] 0 (fun φ1 => [(2, .slice none 0 0)]) (fun φ1 => []) (fun φ1 => []) s trivial (fun φ1 => by kernel_rfl) ?_
  intro φ1 w1 s
  refine ops_done (by kernel_rfl) ?_
  refine wp_seq ?_
  refine wp_seq ?_
  refine region_rule ?_
  refine ops_rule (C := []) [] [] 2 [] 0 (fun φ2 => [(4, .bool (decide (((n : Nat) : Int) < ((128 : Nat) : Int)))), (3, .int .u64 ((n : Nat) : Int))]) (fun φ2 => []) (fun φ2 => []) s trivial (fun φ2 => by kernel_rfl) ?_
  intro φ2 w2 s
  rw [nat_lss (a := n) (b := 128)]
  refine ops_done (by kernel_rfl) ?_
  rcases Bool.eq_false_or_eq_true (decide (n < 128)) with hc3 | hc3
  ·
    exact absurd (of_decide_eq_true hc3) h
  ·
    rw [hc3]
    refine cond_false_rule (b := false) (by kernel_rfl) rfl ?_
    refine wp_skip ?_
    refine wp_seq ?_
    refine region_rule ?_
    refine ops_rule (C := []) [] [] 3 [] 0 (fun φ4 => [(10, .int .u64 (IntKind.wrap .u64 ((Int.tmod ((n : Nat) : Int) ((128 : Nat) : Int)) + ((128 : Nat) : Int)))), (9, .int .u64 (Int.tmod ((n : Nat) : Int) ((128 : Nat) : Int))), (8, .int .u64 ((n : Nat) : Int))]) (fun φ4 => []) (fun φ4 => []) s trivial (fun φ4 => by kernel_rfl) ?_
    intro φ4 w4 s
    rw [nat_rem (a := n) (b := 128)]
    rw [nat_addU (a := (n % 128)) (b := 128) (by  have hq0 := of_decide_eq_false hc3; omega)]
    refine sem_rule (convert 114 5 (.int .u64 (((n % 128) + 128 : Nat) : Int))) (some 11) (.int .u8 ((((n % 128) + 128) % 256 : Nat) : Int)) (by kernel_rfl) (run_conv8 (by kernel_rfl) ⟨_, Tryd.underlying114⟩) ?_
    refine ops_rule (C := []) [] [] 3 [] 1 (fun φ5 => [(14, .int .u64 (IntKind.wrap .u64 (Int.tdiv ((n : Nat) : Int) ((128 : Nat) : Int)))), (13, .int .u64 ((n : Nat) : Int)), (12, .slice (some ⟨(φ5 0), 0, none⟩) 1 1)]) (fun φ5 => [((φ5 0), .cells #[.int .u8 ((((n % 128) + 128) % 256 : Nat) : Int)] 5)]) (fun φ5 => []) s trivial (fun φ5 => by kernel_rfl) ?_
    intro φ5 w5 s
    rw [nat_quoU (a := n) (b := 128) (by  have hq0 := of_decide_eq_false hc3; omega)]
    refine call_rule (some 15) s (fun_of_rowB (ih )) (by kernel_rfl) ?_
    intro v6 I6 w6 le6 h6 s
    obtain ⟨a6, c6, rfl, h6_0⟩ := h6
    refine append_rule (H := []) (F := [((φ5 0), .cells #[.int .u8 ((((n % 128) + 128) % 256 : Nat) : Int)] 5)]) 61 61 5 Tryd.t5 (.int .u8 0) 1 1 (some 16) s Tryd.underlying61 (by kernel_rfl) (by kernel_rfl) (by kernel_rfl) (by kernel_rfl) (by kernel_rfl) (by decide) (row_oneU (φ5 0) (by  have hq0 := of_decide_eq_false hc3; omega)) (src_bsl s.sub h6_0) (by have := (encF_len f (n / 128)).2; (try simp only [maxLen, List.length_append, List.length_cons, List.length_nil]); omega) (by have := (encF_len f (n / 128)).2; (try simp only [maxLen, List.length_append, List.length_cons, List.length_nil]); omega) (by kernel_rfl) ?_
    intro v7 w7 F7 s h7
    replace h7 : RowH 5 1 v7 ((([UInt8.ofNat (((n % 128) + 128) % 256)] : List UInt8) ++ (encF f (n / 128))).length) ((([UInt8.ofNat (((n % 128) + 128) % 256)] : List UInt8) ++ (encF f (n / 128))).map bV) F7 := row_app (x := ([UInt8.ofNat (((n % 128) + 128) % 256)] : List UInt8)) (y := (encF f (n / 128))) h7
    refine ops_rule (C := []) [] F7 1 [] 0 (fun φ8 => [(2, v7)]) (fun φ8 => []) (fun φ8 => []) s trivial (fun φ8 => by kernel_rfl) ?_
    intro φ8 w8 s
    refine ops_done (by kernel_rfl) ?_
    refine wp_ret ?_
    refine ret_rule (C := []) [] F7 (v7) [] [] s trivial (by kernel_rfl) ?_
    replace s := s.drop (List.sublist_append_right [] F7)
    exact ⟨_, _, _, rfl, s, (by rw [encF_go h]; have e9 := h7; rw [show (n % 128 + 128) % 256 = n % 128 + 128 by omega] at e9; exact e9)⟩

theorem refnumF_r : ∀ (f : Nat) {I : IM} {n : Nat}, f ≤ 100 → n < 18446744073709551616 → n < 2 ^ (f * 7 + 1) → FunM Tryd.prog 86 #[.int .u64 ((n : Nat) : Int)] I [] (fun v J F => RowH 5 1 v (encF f n).length ((encF f n).map bV) F)
  | 0, I, n, _, _, h => refnum0 (by rw [Nat.zero_mul, Nat.zero_add, Nat.pow_one] at h; omega)
  | f + 1, I, n, hf, hn, h => by
    by_cases q : n < 128
    · exact refnum0 q
    · exact refnumS q hn (by omega) (refnumF_r f (by omega) (Nat.lt_of_le_of_lt (Nat.div_le_self _ _) hn) (div_pow h))
theorem refnum6_r {I : IM} {n : Nat} (hn : n < 18446744073709551616) : FunM Tryd.prog 86 #[.int .u64 ((n : Nat) : Int)] I [] (fun v J F => RowH 5 1 v (encF 9 n).length ((encF 9 n).map bV) F) := refnumF_r 9 (by decide) hn hn

set_option maxHeartbeats 2000000 in
theorem reftext_r {I : IM} {ss : List UInt8} (hss : ss.length ≤ 1000) : FunM Tryd.prog 112 #[.string ⟨(ss).toArray⟩] I [] (fun v J F => RowH 5 1 v (encF 9 ss.length ++ ss).length ((encF 9 ss.length ++ ss).map bV) F) := by
  refine enterM_rule 10 [(0, .string ⟨(ss).toArray⟩)] Tryd.func112 rfl (by kernel_rfl) ?_
  intro w s
  refine wp_seq ?_
  refine region_rule ?_
  refine ops_rule (C := []) [] [] 1 [] 0 (fun φ1 => [(2, .slice none 0 0)]) (fun φ1 => []) (fun φ1 => []) s trivial (fun φ1 => by kernel_rfl) ?_
  intro φ1 w1 s
  refine ops_done (by kernel_rfl) ?_
  refine wp_seq ?_
  refine region_rule ?_
  refine ops_rule (C := []) [] [] 3 [] 0 (fun φ2 => [(5, .int .u64 (IntKind.wrap .u64 (((ss).length : Nat) : Int))), (4, .int .i64 (((ss).length : Nat) : Int)), (3, .string ⟨(ss).toArray⟩)]) (fun φ2 => []) (fun φ2 => []) s trivial (fun φ2 => by kernel_rfl) ?_
  intro φ2 w2 s
  rw [nat_wrapU (a := ((ss).length)) (by   (try simp only [List.length_drop, List.length_take, List.length_append, List.length_cons, List.length_nil]); omega)]
  refine callF_rule (H := []) (F := []) (some 6) s (refnum6_r (n := (ss).length) (by omega)) (by kernel_rfl) ?_
  intro v3 I3 w3 F3 le3 h3 s
  refine ops_rule (C := []) [] F3 1 [] 0 (fun φ4 => [(7, .string ⟨(ss).toArray⟩)]) (fun φ4 => []) (fun φ4 => []) s trivial (fun φ4 => by kernel_rfl) ?_
  intro φ4 w4 s
  obtain ⟨a5, c5, I5, w5, hr5, le5, s, hb5⟩ := s2b s ss
  refine sem_rule (convert 9 61 (.string ⟨(ss).toArray⟩)) (some 8) (.slice a5 (List.length ss) c5) (by kernel_rfl) hr5 ?_
  refine append_rule (H := []) (F := F3) 61 61 5 Tryd.t5 (.int .u8 0) 1 1 (some 9) s Tryd.underlying61 (by kernel_rfl) (by kernel_rfl) (by kernel_rfl) (by kernel_rfl) (by kernel_rfl) (by decide) h3 (src_bsl s.sub hb5) (by have := (encF_len 9 (ss).length).2; (try simp only [maxLen, List.length_append]); omega) (by have := (encF_len 9 (ss).length).2; (try simp only [maxLen, List.length_append]); omega) (by kernel_rfl) ?_
  intro v6 w6 F6 s h6
  replace h6 : RowH 5 1 v6 (((encF 9 ((ss).length)) ++ ss).length) (((encF 9 ((ss).length)) ++ ss).map bV) F6 := row_app (x := (encF 9 ((ss).length))) (y := ss) h6
  refine ops_rule (C := []) [] F6 1 [] 0 (fun φ7 => [(2, v6)]) (fun φ7 => []) (fun φ7 => []) s trivial (fun φ7 => by kernel_rfl) ?_
  intro φ7 w7 s
  refine ops_done (by kernel_rfl) ?_
  refine wp_ret ?_
  refine ret_rule (C := []) [] F6 (v6) [] [] s trivial (by kernel_rfl) ?_
  replace s := s.drop (List.sublist_append_right [] F6)
  exact ⟨_, _, _, rfl, s, h6⟩

end Go.Proofs.YtcpmjogeafhpnaaDoor

/- Texts are read. -/
set_option linter.all false
set_option maxRecDepth 100000
namespace Go.Proofs.YtcpmjogeafhpnaaDoor
open Go.RowKit Go.Sep
attribute [local irreducible] Go.wpList Go.Code.wp

theorem take_string {s : List UInt8} {hi : Nat} : (⟨s.toArray⟩ : ByteArray).extract 0 hi = ⟨(s.take hi).toArray⟩ := by
  apply ByteArray.ext
  rw [ByteArray.data_extract]
  apply Array.ext'
  simp only [Array.toList_extract, List.extract_eq_take_drop]
  rfl
theorem newIn_c {I : IM} {l : List UInt8} {a : Option Addr} {n c : Nat} (hl : BSl I l (.slice a n c)) (hn : l.length ≤ 1000000) : FunM Tryd.prog 51 #[.slice a n c] I [] (fun v J F' => ∃ b a c, v = .pointer (some ⟨b, 0, none⟩) ∧ F' = [(b, .cells #[.slice a (List.length l) c, .int .i64 0] 126)] ∧ BSl J l (.slice a (List.length l) c)) := by
  obtain ⟨rfl, -⟩ := hl.cap
  refine enterM_rule 7 [(0, .slice a l.length c)] Tryd.func51 rfl (by kernel_rfl) ?_
  intro w s
  refine wp_seq ?_
  refine region_rule ?_
  refine ops_rule (C := []) [] [] 1 [] 0 (fun φ1 => [(2, .pointer none)]) (fun φ1 => []) (fun φ1 => []) s trivial (fun φ1 => by kernel_rfl) ?_
  intro φ1 w1 s
  refine ops_done (by kernel_rfl) ?_
  refine wp_seq ?_
  refine region_rule ?_
  refine ops_rule (C := []) [] [] 1 [] 0 (fun φ2 => [(3, .slice a l.length c)]) (fun φ2 => []) (fun φ2 => []) s trivial (fun φ2 => by kernel_rfl) ?_
  intro φ2 w2 s
  refine call_rule (some 4) s (clone_c hl (by omega)) (by kernel_rfl) ?_
  intro v3 I3 w3 le3 h3 s
  replace hl := BSl.mono le3 hl
  obtain ⟨a3, c3, rfl, h3_0⟩ := h3
  refine ops_rule (C := []) [] [] 3 [] 1 (fun φ4 => [(2, .pointer (some ⟨(φ4 0), 0, none⟩)), (6, .pointer (some ⟨(φ4 0), 0, none⟩)), (5, .agg #[.slice a3 (List.length l) c3, .int .i64 0])]) (fun φ4 => [((φ4 0), .cells #[.slice a3 (List.length l) c3, .int .i64 0] 126)]) (fun φ4 => []) s trivial (fun φ4 => by kernel_rfl) ?_
  intro φ4 w4 s
  refine ops_done (by kernel_rfl) ?_
  refine wp_ret ?_
  refine ret_rule (C := []) [((φ4 0), .cells #[.slice a3 (List.length l) c3, .int .i64 0] 126)] [] (.pointer (some ⟨(φ4 0), 0, none⟩)) [] [] s trivial (by kernel_rfl) ?_
  exact ⟨_, _, _, rfl, s, ⟨_, _, _, rfl, rfl, h3_0⟩⟩

theorem errI_c {I : IM} {r e : Nat} {v0 : Value} : FunM Tryd.prog 53 #[.pointer (some ⟨r, 0, none⟩)] I [(r, .cells #[v0, .int .i64 ((e : Nat) : Int)] 126)] (fun v J H' => ∃ b' : OB, H' = [b'] ∧ b'.1 = r ∧ v = .int .i64 ((e : Nat) : Int) ∧ b' = (r, .cells #[v0, .int .i64 ((e : Nat) : Int)] 126)) := by
  refine enterM_rule 9 [(0, .pointer (some ⟨r, 0, none⟩))] Tryd.func53 rfl (by kernel_rfl) ?_
  intro w s
  refine wp_seq ?_
  refine region_rule ?_
  refine ops_rule (C := []) [(r, .cells #[v0, .int .i64 ((e : Nat) : Int)] 126)] [] 1 [] 0 (fun φ1 => [(2, .int .i64 0)]) (fun φ1 => [(r, .cells #[v0, .int .i64 ((e : Nat) : Int)] 126)]) (fun φ1 => []) s trivial (fun φ1 => by kernel_rfl) ?_
  intro φ1 w1 s
  refine ops_done (by kernel_rfl) ?_
  refine wp_seq ?_
  refine wp_seq ?_
  refine region_rule ?_
  refine ops_rule (C := []) [(r, .cells #[v0, .int .i64 ((e : Nat) : Int)] 126)] [] 2 [] 0 (fun φ2 => [(4, .bool false), (3, .pointer (some ⟨r, 0, none⟩))]) (fun φ2 => [(r, .cells #[v0, .int .i64 ((e : Nat) : Int)] 126)]) (fun φ2 => []) s trivial (fun φ2 => by kernel_rfl) ?_
  intro φ2 w2 s
  refine ops_done (by kernel_rfl) ?_
  refine cond_false_rule (b := false) (by kernel_rfl) rfl ?_
  refine wp_skip ?_
  refine wp_seq ?_
  refine region_rule ?_
  refine ops_rule (C := []) [(r, .cells #[v0, .int .i64 ((e : Nat) : Int)] 126)] [] 5 [.o 0] 0 (fun φ3 => [(2, .int .i64 ((e : Nat) : Int)), (8, .int .i64 ((e : Nat) : Int)), (7, .pointer (some ⟨r, 1, none⟩)), (6, .pointer (some ⟨r, 0, none⟩)), (5, .pointer (some ⟨r, 0, none⟩))]) (fun φ3 => [(r, .cells #[v0, .int .i64 ((e : Nat) : Int)] 126)]) (fun φ3 => [r]) s trivial (fun φ3 => by kernel_rfl) ?_
  intro φ3 w3 s
  refine ops_done (by kernel_rfl) ?_
  refine wp_ret ?_
  refine ret_rule (C := []) [(r, .cells #[v0, .int .i64 ((e : Nat) : Int)] 126)] [] (.int .i64 ((e : Nat) : Int)) [] [] s trivial (by kernel_rfl) ?_
  exact ⟨_, _, _, rfl, s, ⟨_, rfl, rfl, rfl, rfl⟩⟩

theorem leftI_c {I : IM} {r e k c : Nat} {a : Option Addr} : FunM Tryd.prog 54 #[.pointer (some ⟨r, 0, none⟩)] I [(r, .cells #[.slice a k c, .int .i64 ((e : Nat) : Int)] 126)] (fun v J H' => ∃ b' : OB, H' = [b'] ∧ b'.1 = r ∧ v = .int .i64 ((k : Nat) : Int) ∧ b' = (r, .cells #[.slice a k c, .int .i64 ((e : Nat) : Int)] 126)) := by
  refine enterM_rule 10 [(0, .pointer (some ⟨r, 0, none⟩))] Tryd.func54 rfl (by kernel_rfl) ?_
  intro w s
  refine wp_seq ?_
  refine region_rule ?_
  refine ops_rule (C := []) [(r, .cells #[.slice a k c, .int .i64 ((e : Nat) : Int)] 126)] [] 1 [] 0 (fun φ1 => [(2, .int .i64 0)]) (fun φ1 => [(r, .cells #[.slice a k c, .int .i64 ((e : Nat) : Int)] 126)]) (fun φ1 => []) s trivial (fun φ1 => by kernel_rfl) ?_
  intro φ1 w1 s
  refine ops_done (by kernel_rfl) ?_
  refine wp_seq ?_
  refine wp_seq ?_
  refine region_rule ?_
  refine ops_rule (C := []) [(r, .cells #[.slice a k c, .int .i64 ((e : Nat) : Int)] 126)] [] 2 [] 0 (fun φ2 => [(4, .bool false), (3, .pointer (some ⟨r, 0, none⟩))]) (fun φ2 => [(r, .cells #[.slice a k c, .int .i64 ((e : Nat) : Int)] 126)]) (fun φ2 => []) s trivial (fun φ2 => by kernel_rfl) ?_
  intro φ2 w2 s
  refine ops_done (by kernel_rfl) ?_
  refine cond_false_rule (b := false) (by kernel_rfl) rfl ?_
  refine wp_skip ?_
  refine wp_seq ?_
  refine region_rule ?_
  refine ops_rule (C := []) [(r, .cells #[.slice a k c, .int .i64 ((e : Nat) : Int)] 126)] [] 6 [.o 0] 0 (fun φ3 => [(2, .int .i64 ((k : Nat) : Int)), (9, .int .i64 ((k : Nat) : Int)), (8, .slice a k c), (7, .pointer (some ⟨r, 0, none⟩)), (6, .pointer (some ⟨r, 0, none⟩)), (5, .pointer (some ⟨r, 0, none⟩))]) (fun φ3 => [(r, .cells #[.slice a k c, .int .i64 ((e : Nat) : Int)] 126)]) (fun φ3 => [r]) s trivial (fun φ3 => by kernel_rfl) ?_
  intro φ3 w3 s
  refine ops_done (by kernel_rfl) ?_
  refine wp_ret ?_
  refine ret_rule (C := []) [(r, .cells #[.slice a k c, .int .i64 ((e : Nat) : Int)] 126)] [] (.int .i64 ((k : Nat) : Int)) [] [] s trivial (by kernel_rfl) ?_
  exact ⟨_, _, _, rfl, s, ⟨_, rfl, rfl, rfl, rfl⟩⟩

end Go.Proofs.YtcpmjogeafhpnaaDoor

/- The number in front, of any bytes. -/
set_option linter.all false
set_option maxRecDepth 100000
namespace Go.Proofs.YtcpmjogeafhpnaaDoor
open Go.RowKit Go.Sep
attribute [local irreducible] Go.wpList Go.Code.wp

set_option maxHeartbeats 2000000 in
theorem numberG_c {I : IM} {l : List UInt8} {a : Option Addr} {m c : Nat} (hl : BSl I l (.slice a m c)) (hn9 : l.length ≤ 1000000) : Fun Tryd.prog 128 #[.slice a m c] I (fun v J => v = .tuple #[.int .u64 ((numN l : Nat) : Int), .int .i64 ((numK l : Nat) : Int)]) := by
  obtain ⟨rfl, -⟩ := hl.cap
  refine enter_rule 49 [(0, .slice a l.length c)] Tryd.func128 rfl (by kernel_rfl) ?_
  intro w s
  refine wp_seq ?_
  refine region_rule ?_
  refine ops_rule (C := []) [] [] 2 [] 0 (fun φ1 => [(3, .int .i64 0), (2, .int .u64 0)]) (fun φ1 => []) (fun φ1 => []) s trivial (fun φ1 => by kernel_rfl) ?_
  intro φ1 w1 s
  refine ops_done (by kernel_rfl) ?_
  refine wp_seq ?_
  refine region_rule ?_
  refine ops_rule (C := []) [] [] 1 [] 0 (fun φ2 => [(4, .int .u64 0)]) (fun φ2 => []) (fun φ2 => []) s trivial (fun φ2 => by kernel_rfl) ?_
  intro φ2 w2 s
  refine ops_done (by kernel_rfl) ?_
  refine wp_seq ?_
  refine wp_seq ?_
  refine region_rule ?_
  refine ops_rule (C := []) [] [] 4 [] 0 (fun φ3 => [(12, .int .i64 0), (11, .int .i64 (if ((10 : Nat) : Int) < ((l.length : Nat) : Int) then ((10 : Nat) : Int) else ((l.length : Nat) : Int))), (10, .int .i64 ((l.length : Nat) : Int)), (9, .slice a l.length c)]) (fun φ3 => []) (fun φ3 => []) s trivial (fun φ3 => by kernel_rfl) ?_
  intro φ3 w3 s
  rw [nat_min (a := l.length) (b := 10)]
  refine ops_done (by kernel_rfl) ?_
  refine wp_block ?_
  have hle4 := IM.Le.refl I
  refine loop_rule (fun (x : Nat × Nat) => [(0, .slice a l.length c), (11, .int .i64 ((min l.length 10 : Nat) : Int)), (4, .int .u64 ((x.2 : Nat) : Int)), (12, .int .i64 ((x.1 : Nat) : Int))]) (fun (x : Nat × Nat) => []) (fun m (x : Nat × Nat) J => IM.Le I J ∧ x.1 + m = 10 ∧ DecG l x.1 x.2) (10) (0, 0) s (by kernel_rfl) List.Sublist.slnil ⟨IM.Le.refl _, rfl, DecG.start l⟩ ?_
  rintro m5 ⟨i5, acc5⟩ I5 w5 ev5 s ⟨le5, hi5_0, hi5_1⟩
  try dsimp only at s hi5_0 hi5_1 ⊢
  replace hl := BSl.mono le5 hl
  replace hle4 := leMono le5 hle4
  refine wp_seq ?_
  refine region_rule ?_
  refine ops_rule (C := []) [] [] 1 [] 0 (fun φ6 => [(13, .bool (decide (((i5 : Nat) : Int) < ((min l.length 10 : Nat) : Int))))]) (fun φ6 => []) (fun φ6 => []) s trivial (fun φ6 => by kernel_rfl) ?_
  intro φ6 w6 s
  rw [nat_lss (a := i5) (b := (min l.length 10))]
  refine ops_done (by kernel_rfl) ?_
  refine wp_seq ?_
  rcases Bool.eq_false_or_eq_true (decide (i5 < (min l.length 10))) with hc7 | hc7
  ·
    rw [hc7]
    refine cond_true_rule (b := true) (by kernel_rfl) rfl ?_
    refine wp_skip ?_
    refine wp_seq ?_
    refine wp_block ?_
    refine wp_seq ?_
    refine region_rule ?_
    refine ops_rule (C := []) [] [] 2 [] 0 (fun φ8 => [(5, .int .i64 ((i5 : Nat) : Int)), (14, .int .i64 ((i5 : Nat) : Int))]) (fun φ8 => []) (fun φ8 => []) s trivial (fun φ8 => by kernel_rfl) ?_
    intro φ8 w8 s
    refine ops_done (by kernel_rfl) ?_
    refine wp_seq ?_
    refine region_rule ?_
    refine ops_rule (C := []) [] [] 2 [] 0 (fun φ9 => [(16, .int .i64 ((i5 : Nat) : Int)), (15, .slice a l.length c)]) (fun φ9 => []) (fun φ9 => []) s trivial (fun φ9 => by kernel_rfl) ?_
    intro φ9 w9 s
    refine sem_rule (Instr.indexAt 61 (.slice a l.length c) (.int .i64 ((i5 : Nat) : Int))) (some 17) (.pointer (pAt a i5)) (by kernel_rfl) (bsl_idx hl (by have hd1 := hi5_1.le; have hd2 := hi5_1.len; have hq0 := of_decide_eq_true hc7; omega)) ?_
    refine sem_rule (Instr.loadAt 5 (.pointer (pAt a i5))) (some 18) (.int .u8 (((l.getD i5 0).toNat : Nat) : Int)) (by kernel_rfl) (bsl_ld s.sub hl (by have hd1 := hi5_1.le; have hd2 := hi5_1.len; have hq0 := of_decide_eq_true hc7; omega)) ?_
    refine ops_rule (C := []) [] [] 1 [] 0 (fun φ10 => [(6, .int .u8 (((l.getD i5 0).toNat : Nat) : Int))]) (fun φ10 => []) (fun φ10 => []) s trivial (fun φ10 => by kernel_rfl) ?_
    intro φ10 w10 s
    refine ops_done (by kernel_rfl) ?_
    refine wp_seq ?_
    refine region_rule ?_
    refine ops_rule (C := []) [] [] 2 [] 0 (fun φ11 => [(20, .int .u8 (((l.getD i5 0).toNat : Nat) : Int)), (19, .int .u64 ((acc5 : Nat) : Int))]) (fun φ11 => []) (fun φ11 => []) s trivial (fun φ11 => by kernel_rfl) ?_
    intro φ11 w11 s
    refine sem_rule (binOp .andNot 5 (.int .u8 (((l.getD i5 0).toNat : Nat) : Int)) (.int .u8 ((128 : Nat) : Int))) (some 21) (.int .u8 ((bandn 8 ((l.getD i5 0).toNat) 128 : Nat) : Int)) (by kernel_rfl) (run_bit8.2.2.2) ?_
    refine ops_rule (C := []) [] [] 3 [] 0 (fun φ12 => [(24, .int .i64 (IntKind.wrap .i64 (((i5 : Nat) : Int) * ((7 : Nat) : Int)))), (23, .int .i64 ((i5 : Nat) : Int)), (22, .int .u64 (IntKind.wrap .u64 ((bandn 8 ((l.getD i5 0).toNat) 128 : Nat) : Int)))]) (fun φ12 => []) (fun φ12 => []) s trivial (fun φ12 => by kernel_rfl) ?_
    intro φ12 w12 s
    rw [nat_mulI (a := i5) (b := 7) (by have hd1 := hi5_1.le; have hd2 := hi5_1.len; have hq0 := of_decide_eq_true hc7; omega)]
    rw [nat_wrapU (a := (bandn 8 ((l.getD i5 0).toNat) 128)) (by have := bandn8_lt (a := (l.getD i5 0).toNat) (b := 128); omega)]
    refine sem_rule (binOp .shl 114 (.int .u64 ((bandn 8 ((l.getD i5 0).toNat) 128 : Nat) : Int)) (.int .i64 ((i5 * 7 : Nat) : Int))) (some 25) (.int .u64 ((bshl 64 (bandn 8 ((l.getD i5 0).toNat) 128) (i5 * 7) : Nat) : Int)) (by kernel_rfl) (run_shlU (.inr (.inr (.inl rfl)))) ?_
    refine sem_rule (binOp .or 114 (.int .u64 ((acc5 : Nat) : Int)) (.int .u64 ((bshl 64 (bandn 8 ((l.getD i5 0).toNat) 128) (i5 * 7) : Nat) : Int))) (some 26) (.int .u64 ((bor 64 acc5 (bshl 64 (bandn 8 ((l.getD i5 0).toNat) 128) (i5 * 7)) : Nat) : Int)) (by kernel_rfl) (run_bit64.2.2.1) ?_
    refine ops_rule (C := []) [] [] 1 [] 0 (fun φ13 => [(4, .int .u64 ((bor 64 acc5 (bshl 64 (bandn 8 ((l.getD i5 0).toNat) 128) (i5 * 7)) : Nat) : Int))]) (fun φ13 => []) (fun φ13 => []) s trivial (fun φ13 => by kernel_rfl) ?_
    intro φ13 w13 s
    refine ops_done (by kernel_rfl) ?_
    refine wp_seq ?_
    refine wp_seq ?_
    refine region_rule ?_
    refine ops_rule (C := []) [] [] 2 [] 0 (fun φ14 => [(28, .bool (decide ((((l.getD i5 0).toNat : Nat) : Int) ≥ ((128 : Nat) : Int)))), (27, .int .u8 (((l.getD i5 0).toNat : Nat) : Int))]) (fun φ14 => []) (fun φ14 => []) s trivial (fun φ14 => by kernel_rfl) ?_
    intro φ14 w14 s
    rw [nat_geq (a := ((l.getD i5 0).toNat)) (b := 128)]
    refine ops_done (by kernel_rfl) ?_
    rcases Bool.eq_false_or_eq_true (decide (128 ≤ ((l.getD i5 0).toNat))) with hc15 | hc15
    ·
      rw [hc15]
      refine cond_true_rule (b := true) (by kernel_rfl) rfl ?_
      refine wp_exit ?_
      refine region_rule ?_
      refine ops_rule (C := []) [] [] 2 [] 0 (fun φ16 => [(12, .int .i64 (IntKind.wrap .i64 (((i5 : Nat) : Int) + ((1 : Nat) : Int)))), (48, .int .i64 (IntKind.wrap .i64 (((i5 : Nat) : Int) + ((1 : Nat) : Int))))]) (fun φ16 => []) (fun φ16 => []) s trivial (fun φ16 => by kernel_rfl) ?_
      intro φ16 w16 s
      rw [nat_addI (a := i5) (b := 1) (by have hd1 := hi5_1.le; have hd2 := hi5_1.len; have hq0 := of_decide_eq_true hc7; have hq1 := of_decide_eq_true hc15; omega)]
      refine ops_done (by kernel_rfl) ?_
      have hs9 := DecG.step hi5_1 (by have := of_decide_eq_true hc7; omega) (by have := of_decide_eq_true hc7; omega) (of_decide_eq_true hc15)
      exact ⟨⟨m5 - 1, (i5 + 1, bor 64 acc5 (bshl 64 (bandn 8 ((l.getD i5 0).toNat) 128) (i5 * 7))), _, _, _, by have := hi5_0; have := hi5_1.le; have : i5 < 10 := (by have := of_decide_eq_true hc7; omega); omega, rfl, s, List.Sublist.slnil, by kernel_rfl, hle4, by have := hi5_0; have := hi5_1.le; have : i5 < 10 := (by have := of_decide_eq_true hc7; omega); show i5 + 1 + (m5 - 1) = 10; omega, hs9⟩⟩
    ·
      rw [hc15]
      refine cond_false_rule (b := false) (by kernel_rfl) rfl ?_
      refine wp_skip ?_
      refine wp_seq ?_
      refine region_rule ?_
      refine ops_rule (C := []) [] [] 3 [] 0 (fun φ17 => [(31, .bool (decide (((i5 : Nat) : Int) > ((0 : Nat) : Int)))), (30, .bool (decide (((i5 : Nat) : Int) > ((0 : Nat) : Int)))), (29, .int .i64 ((i5 : Nat) : Int))]) (fun φ17 => []) (fun φ17 => []) s trivial (fun φ17 => by kernel_rfl) ?_
      intro φ17 w17 s
      rw [nat_gtr (a := i5) (b := 0)]
      rcases Bool.eq_false_or_eq_true (decide (0 < i5)) with hc18 | hc18
      ·
        rw [hc18]
        refine ops_rule (C := []) [] [] 4 [] 0 (fun φ19 => [(7, .bool ((((l.getD i5 0).toNat : Nat) : Int) == ((0 : Nat) : Int))), (34, .bool ((((l.getD i5 0).toNat : Nat) : Int) == ((0 : Nat) : Int))), (33, .bool ((((l.getD i5 0).toNat : Nat) : Int) == ((0 : Nat) : Int))), (32, .int .u8 (((l.getD i5 0).toNat : Nat) : Int))]) (fun φ19 => []) (fun φ19 => []) s trivial (fun φ19 => by kernel_rfl) ?_
        intro φ19 w19 s
        rw [nat_eql (a := ((l.getD i5 0).toNat)) (b := 0)]
        refine ops_done (by kernel_rfl) ?_
        refine wp_seq ?_
        refine region_rule ?_
        refine ops_rule (C := []) [] [] 3 [] 0 (fun φ20 => [(37, .bool (((i5 : Nat) : Int) == ((9 : Nat) : Int))), (36, .bool (((i5 : Nat) : Int) == ((9 : Nat) : Int))), (35, .int .i64 ((i5 : Nat) : Int))]) (fun φ20 => []) (fun φ20 => []) s trivial (fun φ20 => by kernel_rfl) ?_
        intro φ20 w20 s
        rw [nat_eql (a := i5) (b := 9)]
        rcases Bool.eq_false_or_eq_true (decide (i5 = 9)) with hc21 | hc21
        ·
          rw [hc21]
          refine ops_rule (C := []) [] [] 4 [] 0 (fun φ22 => [(8, .bool (decide ((((l.getD i5 0).toNat : Nat) : Int) > ((1 : Nat) : Int)))), (40, .bool (decide ((((l.getD i5 0).toNat : Nat) : Int) > ((1 : Nat) : Int)))), (39, .bool (decide ((((l.getD i5 0).toNat : Nat) : Int) > ((1 : Nat) : Int)))), (38, .int .u8 (((l.getD i5 0).toNat : Nat) : Int))]) (fun φ22 => []) (fun φ22 => []) s trivial (fun φ22 => by kernel_rfl) ?_
          intro φ22 w22 s
          rw [nat_gtr (a := ((l.getD i5 0).toNat)) (b := 1)]
          refine ops_done (by kernel_rfl) ?_
          refine wp_seq ?_
          refine wp_seq ?_
          refine region_rule ?_
          refine ops_rule (C := []) [] [] 2 [] 0 (fun φ23 => [(42, .bool (decide (((l.getD i5 0).toNat) = 0))), (41, .bool (decide (((l.getD i5 0).toNat) = 0)))]) (fun φ23 => []) (fun φ23 => []) s trivial (fun φ23 => by kernel_rfl) ?_
          intro φ23 w23 s
          rcases Bool.eq_false_or_eq_true (decide (((l.getD i5 0).toNat) = 0)) with hc24 | hc24
          ·
            rw [hc24]
            refine ops_rule (C := []) [] [] 2 [] 0 (fun φ25 => [(44, .bool true), (43, undef)]) (fun φ25 => []) (fun φ25 => []) s trivial (fun φ25 => by kernel_rfl) ?_
            intro φ25 w25 s
            refine ops_done (by kernel_rfl) ?_
            refine cond_true_rule (b := true) (by kernel_rfl) rfl ?_
            refine wp_seq ?_
            refine region_rule ?_
            refine ops_rule (C := []) [] [] 2 [] 0 (fun φ26 => [(3, .int .i64 0), (2, .int .u64 0)]) (fun φ26 => []) (fun φ26 => []) s trivial (fun φ26 => by kernel_rfl) ?_
            intro φ26 w26 s
            refine ops_done (by kernel_rfl) ?_
            refine wp_ret ?_
            refine ret_rule (C := []) [] [] (.tuple #[.int .u64 0, .int .i64 0]) [] [] s trivial (by kernel_rfl) ?_
            exact ⟨_, _, _, rfl, s, (by have hq0 := of_decide_eq_true hc7; have hq1 := of_decide_eq_false hc15; have hq2 := of_decide_eq_true hc18; have hq3 := of_decide_eq_true hc21; have hq4 := of_decide_eq_true hc24; have h9 := DecG.bad0 hi5_1 (by have := of_decide_eq_true hc7; omega) (by have := of_decide_eq_true hc7; omega) (of_decide_eq_false hc15) (by omega); rw [h9.1, h9.2]; rfl)⟩
          ·
            rw [hc24]
            refine ops_rule (C := []) [] [] 2 [] 0 (fun φ27 => [(44, .bool (decide (1 < ((l.getD i5 0).toNat)))), (43, .bool (decide (1 < ((l.getD i5 0).toNat))))]) (fun φ27 => []) (fun φ27 => []) s trivial (fun φ27 => by kernel_rfl) ?_
            intro φ27 w27 s
            refine ops_done (by kernel_rfl) ?_
            rcases Bool.eq_false_or_eq_true (decide (1 < ((l.getD i5 0).toNat))) with hc28 | hc28
            ·
              rw [hc28]
              refine cond_true_rule (b := true) (by kernel_rfl) rfl ?_
              refine wp_seq ?_
              refine region_rule ?_
              refine ops_rule (C := []) [] [] 2 [] 0 (fun φ29 => [(3, .int .i64 0), (2, .int .u64 0)]) (fun φ29 => []) (fun φ29 => []) s trivial (fun φ29 => by kernel_rfl) ?_
              intro φ29 w29 s
              refine ops_done (by kernel_rfl) ?_
              refine wp_ret ?_
              refine ret_rule (C := []) [] [] (.tuple #[.int .u64 0, .int .i64 0]) [] [] s trivial (by kernel_rfl) ?_
              exact ⟨_, _, _, rfl, s, (by have hq0 := of_decide_eq_true hc7; have hq1 := of_decide_eq_false hc15; have hq2 := of_decide_eq_true hc18; have hq3 := of_decide_eq_true hc21; have hq4 := of_decide_eq_false hc24; have hq5 := of_decide_eq_true hc28; have h9 := DecG.bad0 hi5_1 (by have := of_decide_eq_true hc7; omega) (by have := of_decide_eq_true hc7; omega) (of_decide_eq_false hc15) (by omega); rw [h9.1, h9.2]; rfl)⟩
            ·
              rw [hc28]
              refine cond_false_rule (b := false) (by kernel_rfl) rfl ?_
              refine wp_skip ?_
              refine wp_seq ?_
              refine region_rule ?_
              refine ops_rule (C := []) [] [] 5 [] 0 (fun φ30 => [(3, .int .i64 (IntKind.wrap .i64 (((i5 : Nat) : Int) + ((1 : Nat) : Int)))), (2, .int .u64 ((bor 64 acc5 (bshl 64 (bandn 8 ((l.getD i5 0).toNat) 128) (i5 * 7)) : Nat) : Int)), (47, .int .i64 (IntKind.wrap .i64 (((i5 : Nat) : Int) + ((1 : Nat) : Int)))), (46, .int .i64 ((i5 : Nat) : Int)), (45, .int .u64 ((bor 64 acc5 (bshl 64 (bandn 8 ((l.getD i5 0).toNat) 128) (i5 * 7)) : Nat) : Int))]) (fun φ30 => []) (fun φ30 => []) s trivial (fun φ30 => by kernel_rfl) ?_
              intro φ30 w30 s
              rw [nat_addI (a := i5) (b := 1) (by have hd1 := hi5_1.le; have hd2 := hi5_1.len; have hq0 := of_decide_eq_true hc7; have hq1 := of_decide_eq_false hc15; have hq2 := of_decide_eq_true hc18; have hq3 := of_decide_eq_true hc21; have hq4 := of_decide_eq_false hc24; have hq5 := of_decide_eq_false hc28; omega)]
              refine ops_done (by kernel_rfl) ?_
              refine wp_ret ?_
              refine ret_rule (C := []) [] [] (.tuple #[.int .u64 ((bor 64 acc5 (bshl 64 (bandn 8 ((l.getD i5 0).toNat) 128) (i5 * 7)) : Nat) : Int), .int .i64 ((i5 + 1 : Nat) : Int)]) [] [] s trivial (by kernel_rfl) ?_
              exact ⟨_, _, _, rfl, s, (by have hq0 := of_decide_eq_true hc7; have hq1 := of_decide_eq_false hc15; have hq2 := of_decide_eq_true hc18; have hq3 := of_decide_eq_true hc21; have hq4 := of_decide_eq_false hc24; have hq5 := of_decide_eq_false hc28; have h9 := DecG.good hi5_1 (by have := of_decide_eq_true hc7; omega) (by have := of_decide_eq_true hc7; omega) (of_decide_eq_false hc15) (by omega) (by omega); rw [← h9.1, ← h9.2])⟩
        ·
          rw [hc21]
          refine ops_rule (C := []) [] [] 4 [] 0 (fun φ31 => [(8, .bool false), (40, .bool false), (39, undef), (38, undef)]) (fun φ31 => []) (fun φ31 => []) s trivial (fun φ31 => by kernel_rfl) ?_
          intro φ31 w31 s
          refine ops_done (by kernel_rfl) ?_
          refine wp_seq ?_
          refine wp_seq ?_
          refine region_rule ?_
          refine ops_rule (C := []) [] [] 2 [] 0 (fun φ32 => [(42, .bool (decide (((l.getD i5 0).toNat) = 0))), (41, .bool (decide (((l.getD i5 0).toNat) = 0)))]) (fun φ32 => []) (fun φ32 => []) s trivial (fun φ32 => by kernel_rfl) ?_
          intro φ32 w32 s
          rcases Bool.eq_false_or_eq_true (decide (((l.getD i5 0).toNat) = 0)) with hc33 | hc33
          ·
            rw [hc33]
            refine ops_rule (C := []) [] [] 2 [] 0 (fun φ34 => [(44, .bool true), (43, undef)]) (fun φ34 => []) (fun φ34 => []) s trivial (fun φ34 => by kernel_rfl) ?_
            intro φ34 w34 s
            refine ops_done (by kernel_rfl) ?_
            refine cond_true_rule (b := true) (by kernel_rfl) rfl ?_
            refine wp_seq ?_
            refine region_rule ?_
            refine ops_rule (C := []) [] [] 2 [] 0 (fun φ35 => [(3, .int .i64 0), (2, .int .u64 0)]) (fun φ35 => []) (fun φ35 => []) s trivial (fun φ35 => by kernel_rfl) ?_
            intro φ35 w35 s
            refine ops_done (by kernel_rfl) ?_
            refine wp_ret ?_
            refine ret_rule (C := []) [] [] (.tuple #[.int .u64 0, .int .i64 0]) [] [] s trivial (by kernel_rfl) ?_
            exact ⟨_, _, _, rfl, s, (by have hq0 := of_decide_eq_true hc7; have hq1 := of_decide_eq_false hc15; have hq2 := of_decide_eq_true hc18; have hq3 := of_decide_eq_false hc21; have hq4 := of_decide_eq_true hc33; have h9 := DecG.bad0 hi5_1 (by have := of_decide_eq_true hc7; omega) (by have := of_decide_eq_true hc7; omega) (of_decide_eq_false hc15) (by omega); rw [h9.1, h9.2]; rfl)⟩
          ·
            rw [hc33]
            refine ops_rule (C := []) [] [] 2 [] 0 (fun φ36 => [(44, .bool false), (43, .bool false)]) (fun φ36 => []) (fun φ36 => []) s trivial (fun φ36 => by kernel_rfl) ?_
            intro φ36 w36 s
            refine ops_done (by kernel_rfl) ?_
            refine cond_false_rule (b := false) (by kernel_rfl) rfl ?_
            refine wp_skip ?_
            refine wp_seq ?_
            refine region_rule ?_
            refine ops_rule (C := []) [] [] 5 [] 0 (fun φ37 => [(3, .int .i64 (IntKind.wrap .i64 (((i5 : Nat) : Int) + ((1 : Nat) : Int)))), (2, .int .u64 ((bor 64 acc5 (bshl 64 (bandn 8 ((l.getD i5 0).toNat) 128) (i5 * 7)) : Nat) : Int)), (47, .int .i64 (IntKind.wrap .i64 (((i5 : Nat) : Int) + ((1 : Nat) : Int)))), (46, .int .i64 ((i5 : Nat) : Int)), (45, .int .u64 ((bor 64 acc5 (bshl 64 (bandn 8 ((l.getD i5 0).toNat) 128) (i5 * 7)) : Nat) : Int))]) (fun φ37 => []) (fun φ37 => []) s trivial (fun φ37 => by kernel_rfl) ?_
            intro φ37 w37 s
            rw [nat_addI (a := i5) (b := 1) (by have hd1 := hi5_1.le; have hd2 := hi5_1.len; have hq0 := of_decide_eq_true hc7; have hq1 := of_decide_eq_false hc15; have hq2 := of_decide_eq_true hc18; have hq3 := of_decide_eq_false hc21; have hq4 := of_decide_eq_false hc33; omega)]
            refine ops_done (by kernel_rfl) ?_
            refine wp_ret ?_
            refine ret_rule (C := []) [] [] (.tuple #[.int .u64 ((bor 64 acc5 (bshl 64 (bandn 8 ((l.getD i5 0).toNat) 128) (i5 * 7)) : Nat) : Int), .int .i64 ((i5 + 1 : Nat) : Int)]) [] [] s trivial (by kernel_rfl) ?_
            exact ⟨_, _, _, rfl, s, (by have hq0 := of_decide_eq_true hc7; have hq1 := of_decide_eq_false hc15; have hq2 := of_decide_eq_true hc18; have hq3 := of_decide_eq_false hc21; have hq4 := of_decide_eq_false hc33; have h9 := DecG.good hi5_1 (by have := of_decide_eq_true hc7; omega) (by have := of_decide_eq_true hc7; omega) (of_decide_eq_false hc15) (by omega) (by omega); rw [← h9.1, ← h9.2])⟩
      ·
        rw [hc18]
        refine ops_rule (C := []) [] [] 4 [] 0 (fun φ38 => [(7, .bool false), (34, .bool false), (33, undef), (32, undef)]) (fun φ38 => []) (fun φ38 => []) s trivial (fun φ38 => by kernel_rfl) ?_
        intro φ38 w38 s
        refine ops_done (by kernel_rfl) ?_
        refine wp_seq ?_
        refine region_rule ?_
        refine ops_rule (C := []) [] [] 3 [] 0 (fun φ39 => [(37, .bool (((i5 : Nat) : Int) == ((9 : Nat) : Int))), (36, .bool (((i5 : Nat) : Int) == ((9 : Nat) : Int))), (35, .int .i64 ((i5 : Nat) : Int))]) (fun φ39 => []) (fun φ39 => []) s trivial (fun φ39 => by kernel_rfl) ?_
        intro φ39 w39 s
        rw [nat_eql (a := i5) (b := 9)]
        rcases Bool.eq_false_or_eq_true (decide (i5 = 9)) with hc40 | hc40
        ·
          rw [hc40]
          refine ops_rule (C := []) [] [] 4 [] 0 (fun φ41 => [(8, .bool (decide ((((l.getD i5 0).toNat : Nat) : Int) > ((1 : Nat) : Int)))), (40, .bool (decide ((((l.getD i5 0).toNat : Nat) : Int) > ((1 : Nat) : Int)))), (39, .bool (decide ((((l.getD i5 0).toNat : Nat) : Int) > ((1 : Nat) : Int)))), (38, .int .u8 (((l.getD i5 0).toNat : Nat) : Int))]) (fun φ41 => []) (fun φ41 => []) s trivial (fun φ41 => by kernel_rfl) ?_
          intro φ41 w41 s
          rw [nat_gtr (a := ((l.getD i5 0).toNat)) (b := 1)]
          refine ops_done (by kernel_rfl) ?_
          refine wp_seq ?_
          refine wp_seq ?_
          refine region_rule ?_
          refine ops_rule (C := []) [] [] 4 [] 0 (fun φ42 => [(44, .bool (decide (1 < ((l.getD i5 0).toNat)))), (43, .bool (decide (1 < ((l.getD i5 0).toNat)))), (42, .bool false), (41, .bool false)]) (fun φ42 => []) (fun φ42 => []) s trivial (fun φ42 => by kernel_rfl) ?_
          intro φ42 w42 s
          refine ops_done (by kernel_rfl) ?_
          rcases Bool.eq_false_or_eq_true (decide (1 < ((l.getD i5 0).toNat))) with hc43 | hc43
          ·
            rw [hc43]
            refine cond_true_rule (b := true) (by kernel_rfl) rfl ?_
            refine wp_seq ?_
            refine region_rule ?_
            refine ops_rule (C := []) [] [] 2 [] 0 (fun φ44 => [(3, .int .i64 0), (2, .int .u64 0)]) (fun φ44 => []) (fun φ44 => []) s trivial (fun φ44 => by kernel_rfl) ?_
            intro φ44 w44 s
            refine ops_done (by kernel_rfl) ?_
            refine wp_ret ?_
            refine ret_rule (C := []) [] [] (.tuple #[.int .u64 0, .int .i64 0]) [] [] s trivial (by kernel_rfl) ?_
            exact ⟨_, _, _, rfl, s, (by have hq0 := of_decide_eq_true hc7; have hq1 := of_decide_eq_false hc15; have hq2 := of_decide_eq_false hc18; have hq3 := of_decide_eq_true hc40; have hq4 := of_decide_eq_true hc43; have h9 := DecG.bad0 hi5_1 (by have := of_decide_eq_true hc7; omega) (by have := of_decide_eq_true hc7; omega) (of_decide_eq_false hc15) (by omega); rw [h9.1, h9.2]; rfl)⟩
          ·
            rw [hc43]
            refine cond_false_rule (b := false) (by kernel_rfl) rfl ?_
            refine wp_skip ?_
            refine wp_seq ?_
            refine region_rule ?_
            refine ops_rule (C := []) [] [] 5 [] 0 (fun φ45 => [(3, .int .i64 (IntKind.wrap .i64 (((i5 : Nat) : Int) + ((1 : Nat) : Int)))), (2, .int .u64 ((bor 64 acc5 (bshl 64 (bandn 8 ((l.getD i5 0).toNat) 128) (i5 * 7)) : Nat) : Int)), (47, .int .i64 (IntKind.wrap .i64 (((i5 : Nat) : Int) + ((1 : Nat) : Int)))), (46, .int .i64 ((i5 : Nat) : Int)), (45, .int .u64 ((bor 64 acc5 (bshl 64 (bandn 8 ((l.getD i5 0).toNat) 128) (i5 * 7)) : Nat) : Int))]) (fun φ45 => []) (fun φ45 => []) s trivial (fun φ45 => by kernel_rfl) ?_
            intro φ45 w45 s
            rw [nat_addI (a := i5) (b := 1) (by have hd1 := hi5_1.le; have hd2 := hi5_1.len; have hq0 := of_decide_eq_true hc7; have hq1 := of_decide_eq_false hc15; have hq2 := of_decide_eq_false hc18; have hq3 := of_decide_eq_true hc40; have hq4 := of_decide_eq_false hc43; omega)]
            refine ops_done (by kernel_rfl) ?_
            refine wp_ret ?_
            refine ret_rule (C := []) [] [] (.tuple #[.int .u64 ((bor 64 acc5 (bshl 64 (bandn 8 ((l.getD i5 0).toNat) 128) (i5 * 7)) : Nat) : Int), .int .i64 ((i5 + 1 : Nat) : Int)]) [] [] s trivial (by kernel_rfl) ?_
            exact ⟨_, _, _, rfl, s, (by have hq0 := of_decide_eq_true hc7; have hq1 := of_decide_eq_false hc15; have hq2 := of_decide_eq_false hc18; have hq3 := of_decide_eq_true hc40; have hq4 := of_decide_eq_false hc43; have h9 := DecG.good hi5_1 (by have := of_decide_eq_true hc7; omega) (by have := of_decide_eq_true hc7; omega) (of_decide_eq_false hc15) (by omega) (by omega); rw [← h9.1, ← h9.2])⟩
        ·
          rw [hc40]
          refine ops_rule (C := []) [] [] 4 [] 0 (fun φ46 => [(8, .bool false), (40, .bool false), (39, undef), (38, undef)]) (fun φ46 => []) (fun φ46 => []) s trivial (fun φ46 => by kernel_rfl) ?_
          intro φ46 w46 s
          refine ops_done (by kernel_rfl) ?_
          refine wp_seq ?_
          refine wp_seq ?_
          refine region_rule ?_
          refine ops_rule (C := []) [] [] 4 [] 0 (fun φ47 => [(44, .bool false), (43, .bool false), (42, .bool false), (41, .bool false)]) (fun φ47 => []) (fun φ47 => []) s trivial (fun φ47 => by kernel_rfl) ?_
          intro φ47 w47 s
          refine ops_done (by kernel_rfl) ?_
          refine cond_false_rule (b := false) (by kernel_rfl) rfl ?_
          refine wp_skip ?_
          refine wp_seq ?_
          refine region_rule ?_
          refine ops_rule (C := []) [] [] 5 [] 0 (fun φ48 => [(3, .int .i64 (IntKind.wrap .i64 (((i5 : Nat) : Int) + ((1 : Nat) : Int)))), (2, .int .u64 ((bor 64 acc5 (bshl 64 (bandn 8 ((l.getD i5 0).toNat) 128) (i5 * 7)) : Nat) : Int)), (47, .int .i64 (IntKind.wrap .i64 (((i5 : Nat) : Int) + ((1 : Nat) : Int)))), (46, .int .i64 ((i5 : Nat) : Int)), (45, .int .u64 ((bor 64 acc5 (bshl 64 (bandn 8 ((l.getD i5 0).toNat) 128) (i5 * 7)) : Nat) : Int))]) (fun φ48 => []) (fun φ48 => []) s trivial (fun φ48 => by kernel_rfl) ?_
          intro φ48 w48 s
          rw [nat_addI (a := i5) (b := 1) (by have hd1 := hi5_1.le; have hd2 := hi5_1.len; have hq0 := of_decide_eq_true hc7; have hq1 := of_decide_eq_false hc15; have hq2 := of_decide_eq_false hc18; have hq3 := of_decide_eq_false hc40; omega)]
          refine ops_done (by kernel_rfl) ?_
          refine wp_ret ?_
          refine ret_rule (C := []) [] [] (.tuple #[.int .u64 ((bor 64 acc5 (bshl 64 (bandn 8 ((l.getD i5 0).toNat) 128) (i5 * 7)) : Nat) : Int), .int .i64 ((i5 + 1 : Nat) : Int)]) [] [] s trivial (by kernel_rfl) ?_
          exact ⟨_, _, _, rfl, s, (by have hq0 := of_decide_eq_true hc7; have hq1 := of_decide_eq_false hc15; have hq2 := of_decide_eq_false hc18; have hq3 := of_decide_eq_false hc40; have h9 := DecG.good hi5_1 (by have := of_decide_eq_true hc7; omega) (by have := of_decide_eq_true hc7; omega) (of_decide_eq_false hc15) (by omega) (by omega); rw [← h9.1, ← h9.2])⟩
  ·
    rw [hc7]
    refine cond_false_rule (b := false) (by kernel_rfl) rfl ?_
    refine wp_exit ?_
    refine wp_seq ?_
    refine region_rule ?_
    refine ops_rule (C := []) [] [] 2 [] 0 (fun φ49 => [(3, .int .i64 0), (2, .int .u64 0)]) (fun φ49 => []) (fun φ49 => []) s trivial (fun φ49 => by kernel_rfl) ?_
    intro φ49 w49 s
    refine ops_done (by kernel_rfl) ?_
    refine wp_ret ?_
    refine ret_rule (C := []) [] [] (.tuple #[.int .u64 0, .int .i64 0]) [] [] s trivial (by kernel_rfl) ?_
    exact ⟨_, _, _, rfl, s, (by have h9 := DecG.out hi5_1 (of_decide_eq_false hc7); rw [h9.1, h9.2]; rfl)⟩

end Go.Proofs.YtcpmjogeafhpnaaDoor

