/- Numbers of seven bits: what is read, written again, is just these bytes. -/
import Derived.Test.YtcpmjogeafhpnaaDoorPtM12
import Derived.Test.YtcpmjogeafhpnaaDoorProg
import Derived.Test.YtcpmjogeafhpnaaDoorPtS10
import Derived.LoopN
import Derived.Shelf.Unicode.ValidAny
import Derived.Laws.MakeOwn
import Derived.Lib.TrimUEq
import Derived.Laws.IdiomStrings
import Derived.Lib.MapLaws
import Derived.Lib.ValidU
import Derived.Lib.FieldsP
import Derived.Lib.Join
import Derived.Shelf.Strings.OnBuilder
import Derived.Shelf.Strings.FieldsFuncAny
import Derived.Shelf.Strings.Builder1
import Derived.WalkKit
import Derived.Test.YtcpmjogeafhpnaaDoorPtM15
set_option linter.all false
set_option maxRecDepth 100000
namespace Go.Proofs.YtcpmjogeafhpnaaDoor
open Go.RowKit Go.Sep
theorem lead_from (l : List UInt8) : ∀ (n i : Nat), n = 9 - i → i ≤ 9 → i ≤ l.length → (∀ j, j < i → 128 ≤ (l.getD j 0).toNat) → ∃ k, Lead l k
  | 0, i, hn, h9, hl, hb => ⟨i, h9, hl, hb, .inl (by omega)⟩
  | n + 1, i, hn, h9, hl, hb => by
    by_cases h1 : i = l.length
    · exact ⟨i, h9, hl, hb, .inr (.inl h1)⟩
    · by_cases h2 : 128 ≤ (l.getD i 0).toNat
      · exact lead_from l n (i + 1) (by omega) (by omega) (by omega) (fun j hj => by
          by_cases h3 : j = i
          · subst h3; exact h2
          · exact hb j (by omega))
      · exact ⟨i, h9, hl, hb, .inr (.inr (by omega))⟩
theorem lead_ex (l : List UInt8) : ∃ k, Lead l k := lead_from l 9 0 rfl (by omega) (Nat.zero_le _) (fun j h => by omega)
/-- a number's bytes: all but the last one go on, the last one isn't 0 unless it is alone -/
def okB : List UInt8 → Prop
  | [] => False
  | [b] => b.toNat < 128
  | b :: c :: r => 128 ≤ b.toNat ∧ okB (c :: r) ∧ ((c :: r).getLast?.getD 0).toNat ≠ 0
theorem val7_pos : ∀ (l : List UInt8), okB l → (l.getLast?.getD 0).toNat ≠ 0 → val7 l ≠ 0
  | [], h, _ => h.elim
  | [b], h, h0 => by
    simp only [okB] at h
    simp only [List.getLast?_singleton, Option.getD_some] at h0
    simp only [val7]; omega
  | b :: c :: r, h, h0 => by
    have := val7_pos (c :: r) h.2.1 h.2.2
    simp only [val7] at this ⊢; omega
theorem u8_eq {b : UInt8} {n : Nat} (h : b.toNat = n) (hn : n < 256) : UInt8.ofNat n = b := by
  subst h; simp
theorem enc_val : ∀ (l : List UInt8) (f : Nat), okB l → l.length ≤ f + 1 → encF f (val7 l) = l
  | [], _, h, _ => h.elim
  | [b], f, h, _ => by
    simp only [okB] at h
    have e : val7 [b] = b.toNat := by simp only [val7]; omega
    rw [e, encF_stop h, u8_eq (b := b) (n := b.toNat % 256) (by omega) (by omega)]
  | b :: c :: r, 0, h, hl => by simp only [List.length_cons] at hl; omega
  | b :: c :: r, f + 1, h, hl => by
    have hp := val7_pos (c :: r) h.2.1 h.2.2
    have ih := enc_val (c :: r) f h.2.1 (by simp only [List.length_cons] at hl ⊢; omega)
    have hb := b.toNat_lt
    have h1 := h.1
    have e : val7 (b :: c :: r) = b.toNat % 128 + 128 * val7 (c :: r) := rfl
    rw [e, encF_go (by omega), show (b.toNat % 128 + 128 * val7 (c :: r)) / 128 = val7 (c :: r) by omega, ih, u8_eq (b := b) (by omega) (by omega)]
theorem okB_take : ∀ (k : Nat) (l : List UInt8), k < l.length → (∀ j, j < k → 128 ≤ (l.getD j 0).toNat) → (l.getD k 0).toNat < 128 → (0 < k → (l.getD k 0).toNat ≠ 0) → okB (l.take (k + 1)) ∧ (l.take (k + 1)).getLast?.getD 0 = l.getD k 0
  | _, [], h, _, _, _ => by simp at h
  | 0, b :: l, h, hb, h1, h2 => by simpa [okB] using h1
  | k + 1, b :: l, h, hb, h1, h2 => by
    have hk : k < l.length := by simpa using h
    have ih := okB_take k l hk (fun j hj => by simpa using hb (j + 1) (by omega)) (by simpa using h1) (fun _ => by simpa using h2 (by omega))
    have hb0 := hb 0 (by omega)
    have hne : l.take (k + 1) ≠ [] := by
      intro q
      have := congrArg List.length q
      rw [List.length_take] at this
      simp only [List.length_nil] at this; omega
    rw [List.take_succ_cons]
    cases hc : l.take (k + 1) with
    | nil => exact absurd hc hne
    | cons c r =>
      rw [hc] at ih
      refine ⟨⟨by simpa using hb0, ih.1, ?_⟩, ?_⟩
      · rw [ih.2]; have := h2 (by omega); simpa using this
      · rw [List.getLast?_cons_cons, ih.2]; simp
theorem num_enc {l : List UInt8} (h : numK l ≠ 0) : encF 9 (numN l) = l.take (numK l) := by
  obtain ⟨k, hk⟩ := lead_ex l
  by_cases hb : badN l k
  · exact absurd (num_bad hk hb).2 h
  · obtain ⟨h1, h2⟩ := num_good hk hb
    rw [h1, h2]
    unfold badN at hb
    have hlt : k < l.length := by omega
    have hend : (l.getD k 0).toNat < 128 := by
      rcases hk.stop with q | q | q
      · have := hb; omega
      · omega
      · exact q
    have ho := okB_take k l hlt hk.big hend (fun h0 q => hb (.inr (.inr (.inl ⟨h0, q⟩))))
    exact enc_val _ 9 ho.1 (by rw [List.length_take]; have := hk.le; omega)
end Go.Proofs.YtcpmjogeafhpnaaDoor
/- Slices of bytes that are never written: read, cut; rows of bytes; bits of numbers. -/
set_option linter.all false
set_option maxRecDepth 100000
namespace Go.Proofs.YtcpmjogeafhpnaaDoor.Tx
open Go.RowKit Go.Sep

def bV (x : UInt8) : Value := .int .u8 ((x.toNat : Nat) : Int)
def BSl (I : IM) (l : List UInt8) (v : Value) : Prop := ∃ a cap, v = .slice a l.length cap ∧ l.length ≤ cap ∧ ∀ j x, l[j]? = some x → ∃ b o cs T fr, a = some ⟨b, o, none⟩ ∧ I b = some (.cells cs T fr) ∧ cs[o + j]? = some (.int .u8 ((x.toNat : Nat) : Int))
theorem BSl.mono {I J : IM} (le : I.Le J) {l : List UInt8} {v : Value} (h : BSl I l v) : BSl J l v := by
  obtain ⟨a, cap, hv, hc, hr⟩ := h
  refine ⟨a, cap, hv, hc, fun j x hj => ?_⟩
  obtain ⟨b, o, cs, T, fr, h1, h2, h3⟩ := hr j x hj
  exact ⟨b, o, cs, T, fr, h1, le _ _ h2, h3⟩
theorem BSl.cap {I : IM} {l : List UInt8} {a : Option Addr} {n c : Nat} (h : BSl I l (.slice a n c)) : n = l.length ∧ l.length ≤ c := by
  obtain ⟨a', c', hv, hc, _⟩ := h
  cases hv; exact ⟨rfl, hc⟩
theorem BSl.open {I : IM} {l : List UInt8} {v : Value} (h : BSl I l v) : ∃ a c, v = .slice a l.length c ∧ l.length ≤ c ∧ BSl I l (.slice a l.length c) := by
  obtain ⟨a, c, hv, hc, _⟩ := id h
  subst hv
  exact ⟨a, c, rfl, hc, h⟩
theorem addr_addO (b o k : Nat) : (⟨b, o, none⟩ : Addr).add k = ⟨b, o + k, none⟩ := by unfold Addr.add; split <;> simp_all
theorem getD_some {l : List UInt8} {i : Nat} (h : i < l.length) : l[i]? = some (l.getD i 0) := by simp [h]
/-- bits -/
def bxor (k a b : Nat) : Nat := (BitVec.ofNat k a ^^^ BitVec.ofNat k b).toNat
def band (k a b : Nat) : Nat := (BitVec.ofNat k a &&& BitVec.ofNat k b).toNat
def bor (k a b : Nat) : Nat := (BitVec.ofNat k a ||| BitVec.ofNat k b).toNat
def bandn (k a b : Nat) : Nat := (BitVec.ofNat k a &&& ~~~ BitVec.ofNat k b).toNat
theorem wrapN8 (n : Nat) (h : n < 256) : IntKind.wrap .u8 (n : Int) = (n : Int) := by simp only [IntKind.wrap, IntKind.signed, IntKind.bits]; simp; omega
theorem run_bit8 {w : World} {t : TypeId} {a b : Nat} :
    (binOp .xor t (.int .u8 ((a : Nat) : Int)) (.int .u8 ((b : Nat) : Int))).run Tryd.prog w = .ok (.int .u8 ((bxor 8 a b : Nat) : Int)) w ∧
    (binOp .and t (.int .u8 ((a : Nat) : Int)) (.int .u8 ((b : Nat) : Int))).run Tryd.prog w = .ok (.int .u8 ((band 8 a b : Nat) : Int)) w ∧
    (binOp .or t (.int .u8 ((a : Nat) : Int)) (.int .u8 ((b : Nat) : Int))).run Tryd.prog w = .ok (.int .u8 ((bor 8 a b : Nat) : Int)) w ∧
    (binOp .andNot t (.int .u8 ((a : Nat) : Int)) (.int .u8 ((b : Nat) : Int))).run Tryd.prog w = .ok (.int .u8 ((bandn 8 a b : Nat) : Int)) w := by
  refine ⟨?_, ?_, ?_, ?_⟩ <;> simp only [binOp, Op.intBits, ne_eq, not_true_eq_false, if_false, IntKind.bits, BitVec.ofInt_natCast, Sem.run_pure] <;> rw [wrapN8 _ (BitVec.isLt _)] <;> rfl
theorem run_shrU {w : World} {t : TypeId} {a n : Nat} {k yk : IntKind} (ha : a < 2 ^ k.bits) : (binOp .shr t (.int k ((a : Nat) : Int)) (.int yk ((n : Nat) : Int))).run Tryd.prog w = .ok (.int k ((a / 2 ^ n : Nat) : Int)) w := by
  rw [run_shr]
  congr 2
  have : ((a : Nat) : Int).fdiv (2 ^ min n k.bits) = ((a / 2 ^ min n k.bits : Nat) : Int) := by
    rw [Int.fdiv_eq_ediv_of_nonneg _ (Int.pow_nonneg (by omega))]
    simp
  rw [this]
  by_cases h : n ≤ k.bits
  · rw [Nat.min_eq_left h]
  · rw [Nat.min_eq_right (by omega), Nat.div_eq_of_lt ha, Nat.div_eq_of_lt (Nat.lt_of_lt_of_le ha (Nat.pow_le_pow_right (by decide) (by omega)))]
end Go.Proofs.YtcpmjogeafhpnaaDoor.Tx

/- Numbers of 8 and 32 bits; slices of literals; a marked block. -/
set_option linter.all false
set_option maxRecDepth 100000
namespace Go.Proofs.YtcpmjogeafhpnaaDoor.Tx
open Go.RowKit Go.Sep

theorem bsl_lit {I : IM} {b n : Nat} {cs : Array Value} {T : TypeId} {fr : Nat × Nat} {l : List UInt8} (h : I b = some (.cells cs T fr)) (hc : cs.toList = l.map bV) (hn : n = l.length) : BSl I l (.slice (some ⟨b, 0, none⟩) n n) := by
  subst hn
  refine ⟨_, _, rfl, Nat.le_refl _, fun j x hj => ⟨b, 0, cs, T, fr, rfl, h, ?_⟩⟩
  have : cs.toList[j]? = some (bV x) := by rw [hc, List.getElem?_map, hj]; rfl
  rw [Nat.zero_add]
  have h2 : cs[j]? = some (bV x) := by simpa using this
  exact h2
theorem under5 : Tryd.prog.underlying 5 = some (.int .u8) := by kernel_rfl
theorem leMono {A I J : IM} (le : I.Le J) (h : A.Le I) : A.Le J := h.trans le
theorem drop_cons {s : List UInt8} {k : Nat} (h : k < s.length) : s.drop k = s.getD k 0 :: s.drop (k + 1) := by
  rw [List.drop_eq_getElem_cons h]; simp [h]
end Go.Proofs.YtcpmjogeafhpnaaDoor.Tx

/- Rows of bytes that grow. -/
set_option linter.all false
set_option maxRecDepth 100000
namespace Go.Proofs.YtcpmjogeafhpnaaDoor.Tx
open Go.RowKit Go.Sep
theorem cell_byte {a : Nat} (h : a < 256) : Value.int .u8 ((a : Nat) : Int) = bV (UInt8.ofNat a) := by
  unfold bV; rw [UInt8.toNat_ofNat_of_lt' h]
theorem cells_bytes1 {a : Nat} (h : a < 256) : [Value.int .u8 ((a : Nat) : Int)] = [bV (UInt8.ofNat a)] := by rw [cell_byte h]
end Go.Proofs.YtcpmjogeafhpnaaDoor.Tx

/-
  DERIVED: THE SHELF's CONTRACTS AT THIS DUMP, IN PLAIN WORDS (tools/lay-plain.mjs out of 'TrydShelf.lean', which tools/lay-shelf.mjs wrote): THE SAME DECLARATIONS UNDER THE SAME NAMES: 'import', 'namespace', 'open', 'def', 'theorem' AND NOTHING ELSE: no command of the shelf's: FOR A HAND-IN. Each laying: the table of numbers ('.._ren') and one theorem, a field a fact of the dump's own or the kernel's comparison; each contract: ONE APPLICATION.
-/
namespace Go.Proofs
open Go.Shelf
def Tryd.lays196_ren : Go.Shelf.Ren := ⟨fun | 196 => 99 | 259 => 118 | n => n, fun | 9 => 9 | 4 => 4 | 3 => 3 | 5 => 5 | 12 => 12 | 119 => 150 | 0 => 0 | 46 => 142 | 139 => 153 | 138 => 152 | 53 => 114 | n => n, fun | 3 => 1 | 4 => 2 | n => n⟩
theorem Tryd.lays196 : Go.Proofs.Lays.n196 Tryd.prog Tryd.lays196_ren := {
  mixed := by kernel_rfl
  f196 := Tryd.func99.trans (congrArg some (by kernel_rfl))
  f259 := Tryd.func118.trans (congrArg some (by kernel_rfl))
  t0 := Tryd.underlying0
  a0 := Tryd.isAgg0
  z0 := Tryd.sizeOf0
  v0 := Tryd.zeroValue0
  t3 := Tryd.underlying3
  a3 := Tryd.isAgg3
  z3 := Tryd.sizeOf3
  v3 := Tryd.zeroValue3
  t4 := Tryd.underlying4
  a4 := Tryd.isAgg4
  z4 := Tryd.sizeOf4
  v4 := Tryd.zeroValue4
  t5 := Tryd.underlying5
  a5 := Tryd.isAgg5
  z5 := Tryd.sizeOf5
  v5 := Tryd.zeroValue5
  t9 := Tryd.underlying9
  a9 := Tryd.isAgg9
  z9 := Tryd.sizeOf9
  v9 := Tryd.zeroValue9
  t12 := Tryd.underlying12
  a12 := Tryd.isAgg12
  z12 := Tryd.sizeOf12
  v12 := Tryd.zeroValue12
  t46 := Tryd.underlying142
  a46 := Tryd.isAgg142
  z46 := Tryd.sizeOf142
  v46 := Tryd.zeroValue142
  t53 := Tryd.underlying114
  a53 := Tryd.isAgg114
  z53 := Tryd.sizeOf114
  v53 := Tryd.zeroValue114
  t119 := Tryd.underlying150
  a119 := Tryd.isAgg150
  z119 := Tryd.sizeOf150
  t138 := Tryd.underlying152
  a138 := Tryd.isAgg152
  z138 := Tryd.sizeOf152
  v138 := Tryd.zeroValue152
  t139 := Tryd.underlying153
  a139 := Tryd.isAgg153
  z139 := Tryd.sizeOf153
  v139 := Tryd.zeroValue153
  g3 := by kernel_rfl
  g4 := by kernel_rfl }
open Go.RowKit in
/-- utf8.ValidString -/
theorem Tryd.utf8_ValidString (s : ByteArray) (w : World) (hs : s.size ≤ 9223372036854775807) (hT : Lib.Utf8Tabs 1 2 w) :
    Calls Tryd.prog 99 #[.string s] w fun e w' => e = .returned (.bool (Lib.validD s.data.toList)) ∧ Below w.heap.size w w' := Any.utf8_ValidString Tryd.lays196 s w hs hT
end Go.Proofs
/- Strings: what operations on them answer. -/
set_option linter.all false
set_option maxRecDepth 100000
namespace Go.Proofs.YtcpmjogeafhpnaaDoor.Tx
open Go.RowKit Go.Sep

theorem under9 : Tryd.prog.underlying 9 = some .string := by kernel_rfl
theorem mid_string {s : List UInt8} {lo hi : Nat} : (⟨s.toArray⟩ : ByteArray).extract lo hi = ⟨((s.drop lo).take (hi - lo)).toArray⟩ := by
  apply ByteArray.ext
  rw [ByteArray.data_extract]
  apply Array.ext'
  simp only [Array.toList_extract, List.extract_eq_take_drop]
/-- a range over a string begins -/
theorem range_new {w0 : World} {I0 : IM} {m : List Nat} {I : IM} {w : World} {H : List OB} (s : St w0 I0 m I w (H ++ [])) (x : ByteArray) :
    ∃ k w', (Instr.range 9 (.string x)).run Tryd.prog w = .ok (.pointer (some ⟨k, 0, none⟩)) w' ∧ St w0 I0 m I w' ((H ++ [(k, .stringIter x 0)]) ++ []) := by
  rw [List.append_nil] at s
  refine ⟨w.heap.size, { w with heap := w.heap.push (.stringIter x 0) }, ?_, ?_⟩
  · simp [Instr.range, run_underlying under9, newObj, Sem.run]
  · rw [List.append_nil]; exact s.push _
/-- the sign at a place, and how many bytes it has -/
def dR (l : List UInt8) (p : Nat) : Nat := (Lib.decodeL (l.drop p)).1
def dW (l : List UInt8) (p : Nat) : Nat := (Lib.decodeL (l.drop p)).2
theorem dec_at (l : List UInt8) (p : Nat) : Utf8.decode ⟨l.toArray⟩ p = Lib.decodeL (l.drop p) := (Lib.decodeL_drop ⟨l.toArray⟩ p).symm
theorem next_own {w0 : World} {I0 : IM} {m : List Nat} {I : IM} {w : World} {k pos : Nat} {l : List UInt8} {ty : TypeId} (s : St w0 I0 m I w ([(k, .stringIter ⟨l.toArray⟩ pos)] ++ [])) (h : pos < l.length) :
    ∃ w', (Instr.next (.pointer (some ⟨k, 0, none⟩)) true ty).run Tryd.prog w = .ok (.tuple #[.bool true, .int .i64 ((pos : Nat) : Int), .int .i32 ((dR l pos : Nat) : Int)]) w' ∧ St w0 I0 m I w' ([(k, .stringIter ⟨l.toArray⟩ (pos + dW l pos))] ++ []) := by
  rw [List.append_nil] at s
  have hk : w.heap[k]? = some (.stringIter ⟨l.toArray⟩ pos) := s.own (k, _) (by simp)
  have hlt : k < w.heap.size := heap_lt hk
  have hp : pos < (⟨l.toArray⟩ : ByteArray).size := h
  refine ⟨{ w with heap := w.heap.set k (.stringIter ⟨l.toArray⟩ (pos + dW l pos)) hlt }, ?_, ?_⟩
  · simp only [Instr.next, getObj, setObj, Sem.run_bind, Sem.run, hk, Result.andThen, hp, if_true, dec_at]
    simp [goInt, hlt, dR, dW, Array.setIfInBounds]
  · rw [List.append_nil]
    have := St.set (i := 0) (k := k) (o' := .stringIter ⟨l.toArray⟩ (pos + dW l pos)) (w' := { w with heap := w.heap.set k (.stringIter ⟨l.toArray⟩ (pos + dW l pos)) hlt }) s rfl rfl rfl rfl (by simp) (by simp) (fun q hq => by
      simp only [Array.getElem?_set]; rw [if_neg (fun h => hq h.symm)])
    exact this
theorem next_end {w0 : World} {I0 : IM} {m : List Nat} {I : IM} {w : World} {k pos : Nat} {l : List UInt8} {ty : TypeId} (s : St w0 I0 m I w ([(k, .stringIter ⟨l.toArray⟩ pos)] ++ [])) (h : ¬ pos < l.length) :
    (Instr.next (.pointer (some ⟨k, 0, none⟩)) true ty).run Tryd.prog w = .ok (.tuple #[.bool false]) w := by
  have hk : w.heap[k]? = some (.stringIter ⟨l.toArray⟩ pos) := s.own (k, _) (by simp)
  have hp : ¬ pos < (⟨l.toArray⟩ : ByteArray).size := h
  simp [Instr.next, getObj, Sem.run, hk, hp]
end Go.Proofs.YtcpmjogeafhpnaaDoor.Tx

/- The signs of a text, one by one. -/
set_option linter.all false
set_option maxRecDepth 100000
namespace Go.Proofs.YtcpmjogeafhpnaaDoor.Tx
open Go.RowKit Go.Sep Go.Lib

def stepsF : Nat → List UInt8 → List (Nat × Nat)
  | 0, _ => []
  | n + 1, l => if l = [] then [] else decodeL l :: stepsF n (l.drop (decodeL l).2)
def steps (l : List UInt8) : List (Nat × Nat) := stepsF l.length l
theorem stepsF_nil : ∀ n, stepsF n [] = []
  | 0 => rfl
  | n + 1 => by simp [stepsF]
theorem stepsF_more : ∀ (n k : Nat) (l : List UInt8), l.length ≤ n → l.length ≤ k → stepsF n l = stepsF k l
  | 0, k, l, h, _ => by
    have : l = [] := List.length_eq_zero_iff.1 (by omega)
    subst this; rw [stepsF_nil, stepsF_nil]
  | n + 1, 0, l, _, h => by
    have : l = [] := List.length_eq_zero_iff.1 (by omega)
    subst this; rw [stepsF_nil, stepsF_nil]
  | n + 1, k + 1, l, h, h2 => by
    unfold stepsF
    split
    · rfl
    · rename_i hl
      have hw := decodeL_width l
      rw [stepsF_more n k (l.drop (decodeL l).2) (by rw [List.length_drop]; omega) (by rw [List.length_drop]; omega)]
theorem steps_cons {l : List UInt8} (h : l ≠ []) : steps l = decodeL l :: steps (l.drop (decodeL l).2) := by
  have hl : 0 < l.length := List.length_pos_iff.2 h
  have hw := decodeL_width l
  unfold steps
  obtain ⟨n, hn⟩ : ∃ n, l.length = n + 1 := ⟨l.length - 1, by omega⟩
  rw [hn]
  show (if l = [] then [] else decodeL l :: stepsF n (l.drop (decodeL l).2)) = _
  rw [if_neg h, stepsF_more n _ (l.drop (decodeL l).2) (by rw [List.length_drop]; omega) (Nat.le_refl _)]
theorem drop_ne {l : List UInt8} {p : Nat} (h : p < l.length) : l.drop p ≠ [] := fun e => by
  have := congrArg List.length e
  rw [List.length_drop, List.length_nil] at this; omega
theorem steps_at {l : List UInt8} {p : Nat} (h : p < l.length) : steps (l.drop p) = (dR l p, dW l p) :: steps (l.drop (p + dW l p)) := by
  rw [steps_cons (drop_ne h), List.drop_drop]; rfl
theorem steps_end {l : List UInt8} {p : Nat} (h : ¬ p < l.length) : steps (l.drop p) = [] := by
  rw [List.drop_of_length_le (by omega)]; rfl
theorem dW_pos (l : List UInt8) (p : Nat) : 1 ≤ dW l p := decodeL_width _
theorem dW_le {l : List UInt8} {p : Nat} (h : p < l.length) : p + dW l p ≤ l.length := by
  have := decodeL_le (l.drop p) (drop_ne h)
  rw [List.length_drop] at this
  unfold dW; omega
/-- no sign -/
def badD (d : Nat × Nat) : Bool := decide (d.1 = 65533 ∧ d.2 = 1)
def plainD (d : Nat × Nat) : Bool := !(decide (d.1 < 32)) && !(decide (d.1 = 127))
theorem valid_steps : ∀ (n : Nat) (l : List UInt8), l.length ≤ n → validGoD n l = (steps l).all (fun d => !badD d)
  | 0, l, h => by
    have : l = [] := List.length_eq_zero_iff.1 (by omega)
    subst this; rfl
  | n + 1, l, h => by
    unfold validGoD
    split
    · rename_i e; subst e; rfl
    · rename_i e
      have hw := decodeL_width l
      rw [steps_cons e, List.all_cons]
      split
      · rename_i hb
        rw [show badD (decodeL l) = true from decide_eq_true hb]; rfl
      · rename_i hb
        rw [show badD (decodeL l) = false from decide_eq_false hb, valid_steps n _ (by rw [List.length_drop]; omega)]; rfl
theorem validD_steps (l : List UInt8) : validD l = (steps l).all (fun d => !badD d) := valid_steps _ l (Nat.le_refl _)
/-- what Check answers -/
def okS (l : List UInt8) : Bool := (steps l).all (fun d => !badD d && plainD d)
def ckE (l : List UInt8) (mi : Int) : Nat := bif decide ((l.length : Int) > mi) then 9 else bif okS l then 0 else 7
theorem all_and {α : Type} (f g : α → Bool) : ∀ l : List α, l.all (fun d => f d && g d) = (l.all f && l.all g)
  | [] => rfl
  | a :: l => by
    simp only [List.all_cons, all_and f g l]
    cases f a <;> cases g a <;> cases l.all f <;> simp
theorem okS_eq (l : List UInt8) : okS l = (validD l && (steps l).all plainD) := by
  unfold okS; rw [all_and, validD_steps]
theorem byte_lt (x : UInt8) : x.toNat < 256 := x.toNat_lt
end Go.Proofs.YtcpmjogeafhpnaaDoor.Tx

/- Signs are counted and looked at: the document's; the program's Runes. -/
set_option linter.all false
set_option maxRecDepth 100000
namespace Go.Proofs.YtcpmjogeafhpnaaDoor.Tx
open Go.RowKit Go.Sep
attribute [local irreducible] Go.wpList Go.Code.wp

theorem ck_long {l : List UInt8} {mi : Int} (h : ((l.length : Int) > mi)) : Value.int .i64 9 = .int .i64 ((ckE l mi : Nat) : Int) := by
  unfold ckE; rw [decide_eq_true h]; rfl
theorem ck_bad {l : List UInt8} {mi : Int} (h : ¬ ((l.length : Int) > mi)) (e : okS l = false) : Value.int .i64 7 = .int .i64 ((ckE l mi : Nat) : Int) := by
  unfold ckE; rw [decide_eq_false h, e]; rfl
theorem ck_good {l : List UInt8} {mi : Int} (h : ¬ ((l.length : Int) > mi)) (e : okS l = true) : Value.int .i64 0 = .int .i64 ((ckE l mi : Nat) : Int) := by
  unfold ckE; rw [decide_eq_false h, e]; rfl

end Go.Proofs.YtcpmjogeafhpnaaDoor.Tx

/- A byte as signs. -/
set_option linter.all false
set_option maxRecDepth 100000
namespace Go.Proofs.YtcpmjogeafhpnaaDoor.Tx
open Go.RowKit Go.Sep
theorem ofNat_toNat (x : UInt8) : UInt8.ofNat x.toNat = x := by simp
end Go.Proofs.YtcpmjogeafhpnaaDoor.Tx

/- utf8.ValidString. -/
set_option linter.all false
set_option maxRecDepth 100000
namespace Go.Proofs.YtcpmjogeafhpnaaDoor.Tx
open Go.RowKit Go.Sep
/-- the library's two tables are there -/
def U8 (I : IM) : Prop := ∀ w, I.Sub w → Lib.Utf8Tabs 1 2 w
theorem U8.mono {I J : IM} (le : I.Le J) (h : U8 I) : U8 J := fun w hw => h w (fun k o e => hw k o (le k o e))
theorem st_below {I : IM} {w w' : World} (hw : I.Sub w) (b : Below w.heap.size w w') : St w I [] I w' [] where
  sub k o e := (b.block k (hw.lt e)).trans (hw k o e)
  le := IM.Le.refl _
  new _ _ _ := rfl
  fr := ⟨b.os, b.tape, b.output, b.size, fun k hk _ => b.block k hk⟩
  own := by simp
  free := by simp
  fresh := by simp
  nodup := by simp
theorem valid_c {I : IM} {l : List UInt8} (hT : U8 I) (hn : l.length ≤ 1000000000) : Fun Tryd.prog 99 #[.string ⟨l.toArray⟩] I (fun v J => v = .bool (Lib.validD l)) := fun w hw =>
  (Tryd.utf8_ValidString ⟨l.toArray⟩ w (show l.length ≤ _ by omega) (hT w hw)).mono fun e w' ⟨he, b⟩ => by subst he; exact ⟨_, I, [], rfl, st_below hw b, rfl⟩
theorem ck_bad1 {l : List UInt8} {mi : Int} (h : ¬ ((l.length : Int) > mi)) (e : Lib.validD l = false) : Value.int .i64 7 = .int .i64 ((ckE l mi : Nat) : Int) := ck_bad h (by rw [okS_eq, e]; rfl)
theorem pl_bad {l : List UInt8} {p : Nat} (h : p < l.length) (hg : plainD (dR l p, dW l p) = false) (e : (steps l).all plainD = (steps (l.drop p)).all plainD) : okS l = false := by
  rw [okS_eq, e, steps_at h, List.all_cons, hg]; simp
theorem pl_end {l : List UInt8} {p : Nat} (h : ¬ p < l.length) (hv : Lib.validD l = true) (e : (steps l).all plainD = (steps (l.drop p)).all plainD) : okS l = true := by
  rw [okS_eq, e, steps_end h, hv]; rfl
theorem pl_go {l : List UInt8} {p : Nat} (h : p < l.length) (hg : plainD (dR l p, dW l p) = true) (e : (steps l).all plainD = (steps (l.drop p)).all plainD) : (steps l).all plainD = (steps (l.drop (p + dW l p))).all plainD := by
  rw [e, steps_at h, List.all_cons, hg]; rfl
theorem pl_1 {r w : Nat} (h : r < 32) : plainD (r, w) = false := by unfold plainD; simp [h]
theorem pl_2 {r w : Nat} (h : r = 127) : plainD (r, w) = false := by unfold plainD; simp [h]
theorem pl_3 {r w : Nat} (h : ¬ r < 32) (h2 : ¬ r = 127) : plainD (r, w) = true := by unfold plainD; simp [h, h2]
end Go.Proofs.YtcpmjogeafhpnaaDoor.Tx

/- The program's Check. -/
set_option linter.all false
set_option maxRecDepth 100000
namespace Go.Proofs.YtcpmjogeafhpnaaDoor.Tx
open Go.RowKit Go.Sep
attribute [local irreducible] Go.wpList Go.Code.wp

set_option maxHeartbeats 2000000 in
theorem check_c {I : IM} {l : List UInt8} (hT : U8 I) (hn : l.length ≤ 1000000) {mi : Int} : Fun Tryd.prog 60 #[.string ⟨(l).toArray⟩, .int .i64 mi] I (fun v J => v = .int .i64 ((ckE l mi : Nat) : Int)) := by
  refine enter_rule 25 [(0, .string ⟨(l).toArray⟩), (1, .int .i64 mi)] Tryd.func60 rfl (by kernel_rfl) ?_
  intro w s
  refine wp_seq ?_
  refine region_rule ?_
  refine ops_rule (C := []) [] [] 1 [] 0 (fun φ1 => [(4, .int .i64 0)]) (fun φ1 => []) (fun φ1 => []) s trivial (fun φ1 => by kernel_rfl) ?_
  intro φ1 w1 s
  refine ops_done (by kernel_rfl) ?_
  refine wp_seq ?_
  refine wp_seq ?_
  refine region_rule ?_
  refine ops_rule (C := []) [] [] 4 [] 0 (fun φ2 => [(10, .bool (decide (((l.length : Nat) : Int) > mi))), (9, .int .i64 mi), (8, .int .i64 ((l.length : Nat) : Int)), (7, .string ⟨(l).toArray⟩)]) (fun φ2 => []) (fun φ2 => []) s trivial (fun φ2 => by kernel_rfl) ?_
  intro φ2 w2 s
  refine ops_done (by kernel_rfl) ?_
  rcases Bool.eq_false_or_eq_true (decide (((l.length : Nat) : Int) > mi)) with hc3 | hc3
  ·
    rw [hc3]
    refine cond_true_rule (b := true) (by kernel_rfl) rfl ?_
    refine wp_seq ?_
    refine region_rule ?_
    refine ops_rule (C := []) [] [] 1 [] 0 (fun φ4 => [(4, .int .i64 9)]) (fun φ4 => []) (fun φ4 => []) s trivial (fun φ4 => by kernel_rfl) ?_
    intro φ4 w4 s
    refine ops_done (by kernel_rfl) ?_
    refine wp_ret ?_
    refine ret_rule (C := []) [] [] (.int .i64 9) [] [] s trivial (by kernel_rfl) ?_
    exact ⟨_, _, _, rfl, s, (ck_long (of_decide_eq_true hc3))⟩
  ·
    rw [hc3]
    refine cond_false_rule (b := false) (by kernel_rfl) rfl ?_
    refine wp_skip ?_
    refine wp_seq ?_
    refine wp_seq ?_
    refine region_rule ?_
    refine ops_rule (C := []) [] [] 1 [] 0 (fun φ5 => [(11, .string ⟨(l).toArray⟩)]) (fun φ5 => []) (fun φ5 => []) s trivial (fun φ5 => by kernel_rfl) ?_
    intro φ5 w5 s
    refine call_rule (some 12) s (valid_c (l := l) hT (by omega)) (by kernel_rfl) ?_
    intro v6 I6 w6 le6 h6 s
    replace hT := U8.mono le6 hT
    obtain rfl := h6
    refine ops_rule (C := []) [] [] 1 [] 0 (fun φ7 => [(13, .bool (!(Lib.validD l)))]) (fun φ7 => []) (fun φ7 => []) s trivial (fun φ7 => by kernel_rfl) ?_
    intro φ7 w7 s
    refine ops_done (by kernel_rfl) ?_
    rcases Bool.eq_false_or_eq_true (Lib.validD l) with hc8 | hc8
    ·
      rw [hc8]
      refine cond_false_rule (b := false) (by kernel_rfl) rfl ?_
      refine wp_skip ?_
      refine wp_seq ?_
      refine wp_seq ?_
      refine region_rule ?_
      refine ops_rule (C := []) [] [] 1 [] 0 (fun φ9 => [(14, .string ⟨(l).toArray⟩)]) (fun φ9 => []) (fun φ9 => []) s trivial (fun φ9 => by kernel_rfl) ?_
      intro φ9 w9 s
      obtain ⟨k10, w10, hr10, s⟩ := range_new (H := []) s ⟨(l).toArray⟩
      refine sem_rule (Instr.range 9 (.string ⟨(l).toArray⟩)) (some 15) (.pointer (some ⟨k10, 0, none⟩)) (by kernel_rfl) hr10 ?_
      refine ops_done (by kernel_rfl) ?_
      refine wp_block ?_
      have hle11 := IM.Le.refl I6
      refine loop_rule (fun (x : Nat) => [(0, .string ⟨(l).toArray⟩), (1, .int .i64 mi), (4, .int .i64 0), (15, .pointer (some ⟨k10, 0, none⟩))]) (fun (x : Nat) => [(k10, .stringIter ⟨(l).toArray⟩ x)]) (fun m (x : Nat) J => IM.Le I6 J ∧ l.length ≤ x + m ∧ (steps l).all plainD = (steps (l.drop x)).all plainD) (l.length) 0 s (by kernel_rfl) (List.Sublist.cons₂ _ List.Sublist.slnil) ⟨IM.Le.refl _, by omega, rfl⟩ ?_
      rintro m12 p12 I12 w12 ev12 s ⟨le12, hi12_0, hi12_1⟩
      try dsimp only at s hi12_0 hi12_1 ⊢
      replace hT := U8.mono le12 hT
      replace hle11 := leMono le12 hle11
      refine wp_seq ?_
      refine region_rule ?_
      rcases Bool.eq_false_or_eq_true (decide (p12 < l.length)) with hc13 | hc13
      ·
        obtain ⟨w14, hr14, s⟩ := next_own (k := k10) (pos := p12) (l := l) (ty := 0) s (of_decide_eq_true hc13)
        refine sem_rule (Instr.next (.pointer (some ⟨k10, 0, none⟩)) true 0) (some 16) (.tuple #[.bool true, .int .i64 ((p12 : Nat) : Int), .int .i32 ((dR l p12 : Nat) : Int)]) (by kernel_rfl) hr14 ?_
        refine ops_rule (C := []) [(k10, .stringIter ⟨(l).toArray⟩ (p12 + dW l p12))] [] 1 [] 0 (fun φ15 => [(17, .bool true)]) (fun φ15 => [(k10, .stringIter ⟨(l).toArray⟩ (p12 + dW l p12))]) (fun φ15 => []) s trivial (fun φ15 => by kernel_rfl) ?_
        intro φ15 w15 s
        refine ops_done (by kernel_rfl) ?_
        refine wp_seq ?_
        refine cond_true_rule (b := true) (by kernel_rfl) rfl ?_
        refine wp_skip ?_
        refine wp_block ?_
        refine wp_seq ?_
        refine region_rule ?_
        refine ops_rule (C := []) [(k10, .stringIter ⟨(l).toArray⟩ (p12 + dW l p12))] [] 2 [] 0 (fun φ16 => [(6, .int .i32 ((dR l p12 : Nat) : Int)), (18, .int .i32 ((dR l p12 : Nat) : Int))]) (fun φ16 => [(k10, .stringIter ⟨(l).toArray⟩ (p12 + dW l p12))]) (fun φ16 => []) s trivial (fun φ16 => by kernel_rfl) ?_
        intro φ16 w16 s
        refine ops_done (by kernel_rfl) ?_
        refine wp_seq ?_
        refine region_rule ?_
        refine ops_rule (C := []) [(k10, .stringIter ⟨(l).toArray⟩ (p12 + dW l p12))] [] 3 [] 0 (fun φ17 => [(21, .bool (decide (((dR l p12 : Nat) : Int) < ((32 : Nat) : Int)))), (20, .bool (decide (((dR l p12 : Nat) : Int) < ((32 : Nat) : Int)))), (19, .int .i32 ((dR l p12 : Nat) : Int))]) (fun φ17 => [(k10, .stringIter ⟨(l).toArray⟩ (p12 + dW l p12))]) (fun φ17 => []) s trivial (fun φ17 => by kernel_rfl) ?_
        intro φ17 w17 s
        rw [nat_lss (a := (dR l p12)) (b := 32)]
        rcases Bool.eq_false_or_eq_true (decide ((dR l p12) < 32)) with hc18 | hc18
        ·
          rw [hc18]
          refine ops_rule (C := []) [(k10, .stringIter ⟨(l).toArray⟩ (p12 + dW l p12))] [] 3 [] 0 (fun φ19 => [(24, .bool true), (23, undef), (22, undef)]) (fun φ19 => [(k10, .stringIter ⟨(l).toArray⟩ (p12 + dW l p12))]) (fun φ19 => []) s trivial (fun φ19 => by kernel_rfl) ?_
          intro φ19 w19 s
          refine ops_done (by kernel_rfl) ?_
          refine cond_true_rule (b := true) (by kernel_rfl) rfl ?_
          refine wp_seq ?_
          refine region_rule ?_
          refine ops_rule (C := []) [(k10, .stringIter ⟨(l).toArray⟩ (p12 + dW l p12))] [] 1 [] 0 (fun φ20 => [(4, .int .i64 7)]) (fun φ20 => [(k10, .stringIter ⟨(l).toArray⟩ (p12 + dW l p12))]) (fun φ20 => []) s trivial (fun φ20 => by kernel_rfl) ?_
          intro φ20 w20 s
          refine ops_done (by kernel_rfl) ?_
          refine wp_ret ?_
          refine ret_rule (C := []) [(k10, .stringIter ⟨(l).toArray⟩ (p12 + dW l p12))] [] (.int .i64 7) [] [] s trivial (by kernel_rfl) ?_
          exact ⟨_, _, _, rfl, s, (ck_bad (of_decide_eq_false hc3) (pl_bad (of_decide_eq_true hc13) (pl_1 (of_decide_eq_true hc18)) hi12_1))⟩
        ·
          rw [hc18]
          refine ops_rule (C := []) [(k10, .stringIter ⟨(l).toArray⟩ (p12 + dW l p12))] [] 3 [] 0 (fun φ21 => [(24, .bool (((dR l p12 : Nat) : Int) == ((127 : Nat) : Int))), (23, .bool (((dR l p12 : Nat) : Int) == ((127 : Nat) : Int))), (22, .int .i32 ((dR l p12 : Nat) : Int))]) (fun φ21 => [(k10, .stringIter ⟨(l).toArray⟩ (p12 + dW l p12))]) (fun φ21 => []) s trivial (fun φ21 => by kernel_rfl) ?_
          intro φ21 w21 s
          rw [nat_eql (a := (dR l p12)) (b := 127)]
          refine ops_done (by kernel_rfl) ?_
          rcases Bool.eq_false_or_eq_true (decide ((dR l p12) = 127)) with hc22 | hc22
          ·
            rw [hc22]
            refine cond_true_rule (b := true) (by kernel_rfl) rfl ?_
            refine wp_seq ?_
            refine region_rule ?_
            refine ops_rule (C := []) [(k10, .stringIter ⟨(l).toArray⟩ (p12 + dW l p12))] [] 1 [] 0 (fun φ23 => [(4, .int .i64 7)]) (fun φ23 => [(k10, .stringIter ⟨(l).toArray⟩ (p12 + dW l p12))]) (fun φ23 => []) s trivial (fun φ23 => by kernel_rfl) ?_
            intro φ23 w23 s
            refine ops_done (by kernel_rfl) ?_
            refine wp_ret ?_
            refine ret_rule (C := []) [(k10, .stringIter ⟨(l).toArray⟩ (p12 + dW l p12))] [] (.int .i64 7) [] [] s trivial (by kernel_rfl) ?_
            exact ⟨_, _, _, rfl, s, (ck_bad (of_decide_eq_false hc3) (pl_bad (of_decide_eq_true hc13) (pl_2 (of_decide_eq_true hc22)) hi12_1))⟩
          ·
            rw [hc22]
            refine cond_false_rule (b := false) (by kernel_rfl) rfl ?_
            refine wp_skip ?_
            have hq9 := of_decide_eq_true hc13
            have hw9 := dW_pos l p12
            have hv9 := dW_le hq9
            exact ⟨⟨m12 - 1, p12 + dW l p12, _, _, _, by omega, rfl, s, (List.Sublist.cons₂ _ List.Sublist.slnil), by kernel_rfl, hle11, by show l.length ≤ p12 + dW l p12 + (m12 - 1); omega, pl_go hq9 (pl_3 (of_decide_eq_false hc18) (of_decide_eq_false hc22)) hi12_1⟩⟩
      ·
        refine sem_rule (Instr.next (.pointer (some ⟨k10, 0, none⟩)) true 0) (some 16) (.tuple #[.bool false]) (by kernel_rfl) (next_end (k := k10) (pos := p12) (l := l) (ty := 0) s (of_decide_eq_false hc13)) ?_
        refine ops_rule (C := []) [(k10, .stringIter ⟨(l).toArray⟩ p12)] [] 1 [] 0 (fun φ25 => [(17, .bool false)]) (fun φ25 => [(k10, .stringIter ⟨(l).toArray⟩ p12)]) (fun φ25 => []) s trivial (fun φ25 => by kernel_rfl) ?_
        intro φ25 w25 s
        refine ops_done (by kernel_rfl) ?_
        refine wp_seq ?_
        refine cond_false_rule (b := false) (by kernel_rfl) rfl ?_
        refine wp_exit ?_
        refine wp_seq ?_
        refine region_rule ?_
        refine ops_rule (C := []) [(k10, .stringIter ⟨(l).toArray⟩ p12)] [] 1 [] 0 (fun φ26 => [(4, .int .i64 0)]) (fun φ26 => [(k10, .stringIter ⟨(l).toArray⟩ p12)]) (fun φ26 => []) s trivial (fun φ26 => by kernel_rfl) ?_
        intro φ26 w26 s
        refine ops_done (by kernel_rfl) ?_
        refine wp_ret ?_
        refine ret_rule (C := []) [(k10, .stringIter ⟨(l).toArray⟩ p12)] [] (.int .i64 0) [] [] s trivial (by kernel_rfl) ?_
        exact ⟨_, _, _, rfl, s, (ck_good (of_decide_eq_false hc3) (pl_end (of_decide_eq_false hc13) hc8 hi12_1))⟩
    ·
      rw [hc8]
      refine cond_true_rule (b := true) (by kernel_rfl) rfl ?_
      refine wp_seq ?_
      refine region_rule ?_
      refine ops_rule (C := []) [] [] 1 [] 0 (fun φ27 => [(4, .int .i64 7)]) (fun φ27 => []) (fun φ27 => []) s trivial (fun φ27 => by kernel_rfl) ?_
      intro φ27 w27 s
      refine ops_done (by kernel_rfl) ?_
      refine wp_ret ?_
      refine ret_rule (C := []) [] [] (.int .i64 7) [] [] s trivial (by kernel_rfl) ?_
      exact ⟨_, _, _, rfl, s, (ck_bad1 (of_decide_eq_false hc3) hc8)⟩

end Go.Proofs.YtcpmjogeafhpnaaDoor.Tx

/- Blanks. -/
set_option linter.all false
set_option maxRecDepth 100000
namespace Go.Proofs.YtcpmjogeafhpnaaDoor.Tx
open Go.RowKit Go.Sep Go.Lib
/-- the words of a text -/
def wd : List UInt8 → List UInt8 → List (List UInt8)
  | acc, [] => if acc = [] then [] else [acc]
  | acc, b :: l => if b = 32 then (if acc = [] then wd [] l else acc :: wd [] l) else wd (acc ++ [b]) l
def fldS (l : List UInt8) : List UInt8 := join (wd [] l) [32]
theorem wd_plain : ∀ (x acc y : List UInt8), (∀ b ∈ x, b ≠ 32) → wd acc (x ++ y) = wd (acc ++ x) y
  | [], acc, y, _ => by simp
  | b :: x, acc, y, h => by
    have hb : ¬ b = 32 := h b (by simp)
    rw [List.cons_append]
    show (if b = 32 then _ else wd (acc ++ [b]) (x ++ y)) = _
    rw [if_neg hb, wd_plain x (acc ++ [b]) y (fun c hc => h c (by simp [hc])), List.append_assoc]
    rfl
theorem join_cc (x y : List UInt8) (r : List (List UInt8)) : join (x :: y :: r) [32] = x ++ 32 :: join (y :: r) [32] := by
  rw [join_cons, join_cons]; simp [joinTail]
theorem wd_len : ∀ (l acc : List UInt8), (join (wd acc l) [32]).length ≤ acc.length + l.length
  | [], acc => by
    by_cases h : acc = []
    · subst h; simp [wd, join_nil]
    · simp [wd, h, join_one]
  | b :: l, acc => by
    unfold wd
    by_cases hb : b = 32
    · rw [if_pos hb]
      have ih := wd_len l []
      by_cases h : acc = []
      · rw [if_pos h, List.length_cons]; simp at ih; omega
      · rw [if_neg h]
        cases e : wd [] l with
        | nil => rw [join_one, List.length_cons]; omega
        | cons y r => rw [e] at ih; rw [join_cc]; simp at ih ⊢; omega
    · rw [if_neg hb]
      have ih := wd_len l (acc ++ [b])
      rw [List.length_append, List.length_cons, List.length_nil] at ih
      rw [List.length_cons]; omega
theorem fldS_len (l : List UInt8) : (fldS l).length ≤ l.length := by have := wd_len l []; simpa [fldS] using this
/-- a blank is a sign of its own -/
theorem dec_byte {l : List UInt8} {k : Nat} (hk : k < (decodeL l).2) (hg : badD (decodeL l) = false) (h1 : 1 ≤ k) : 128 ≤ (l.getD k 0).toNat := by
  have h := decodeL_N l
  rw [h] at hk
  rcases decodeN_shape l.length (l.getD 0 0).toNat (l.getD 1 0).toNat (l.getD 2 0).toNat (l.getD 3 0).toNat with ⟨c, e⟩ | ⟨c1, c2, c3, cv, e⟩ | ⟨c1, c2, c3, c4, cv, cs, e⟩ | ⟨c1, c2, c3, c4, c5, cv, cw, e⟩ | e
  · rw [e] at hk; dsimp only at hk; omega
  · rw [e] at hk; dsimp only at hk
    obtain rfl : k = 1 := by omega
    omega
  · rw [e] at hk; dsimp only at hk
    rcases (by omega : k = 1 ∨ k = 2) with rfl | rfl <;> omega
  · rw [e] at hk; dsimp only at hk
    rcases (by omega : k = 1 ∨ k = 2 ∨ k = 3) with rfl | rfl | rfl <;> omega
  · rw [e] at hk; dsimp only at hk; omega
theorem dec_32 {l : List UInt8} (h : (l.getD 0 0).toNat = 32) : decodeL l = (32, 1) := by
  rw [decodeL_N, h]; unfold decodeN; rw [if_pos (by decide)]
theorem dec_is32 {l : List UInt8} (h : (decodeL l).1 = 32) : (l.getD 0 0).toNat = 32 := by
  rw [decodeL_N] at h
  rcases decodeN_shape l.length (l.getD 0 0).toNat (l.getD 1 0).toNat (l.getD 2 0).toNat (l.getD 3 0).toNat with ⟨c, e⟩ | ⟨c1, c2, c3, cv, e⟩ | ⟨c1, c2, c3, c4, cv, cs, e⟩ | ⟨c1, c2, c3, c4, c5, cv, cw, e⟩ | e
  all_goals (rw [e] at h; dsimp only at h; omega)
theorem dec_one {l : List UInt8} (hb : badD (decodeL l) = true) : (decodeL l).2 = 1 := (of_decide_eq_true hb).2
end Go.Proofs.YtcpmjogeafhpnaaDoor.Tx

/- The library's fields are the words. -/
set_option linter.all false
set_option maxRecDepth 100000
namespace Go.Proofs.YtcpmjogeafhpnaaDoor.Tx
open Go.RowKit Go.Sep Go.Lib
def pB (r : Nat) : Bool := decide (r = 32)
def piece (l : List UInt8) (x : Nat × Nat) : List UInt8 := (l.drop x.1).take (x.2 - x.1)
def stL (l : List UInt8) (pos : Nat) : Option Nat → List UInt8
  | some a => piece l (a, pos)
  | none => []
theorem piece_ne {l : List UInt8} {a pos : Nat} (h : a < pos) (h2 : pos ≤ l.length) : piece l (a, pos) ≠ [] := fun e => by
  have := congrArg List.length e
  simp [piece] at this; omega
theorem piece_more {l : List UInt8} {a pos w : Nat} (h : a ≤ pos) : piece l (a, pos + w) = piece l (a, pos) ++ (l.drop pos).take w := by
  unfold piece
  dsimp only
  rw [show pos + w - a = (pos - a) + w by omega, List.take_add, List.drop_drop, show a + (pos - a) = pos by omega]
theorem sgn_no32 {l : List UInt8} {pos : Nat} (h : pos < l.length) (hr : ¬ (decodeL (l.drop pos)).1 = 32) : ∀ b ∈ (l.drop pos).take (decodeL (l.drop pos)).2, b ≠ 32 := by
  intro b hb e
  obtain ⟨k, hk, hbk⟩ := List.getElem_of_mem hb
  rw [List.length_take] at hk
  have hk2 : k < (decodeL (l.drop pos)).2 := by omega
  have hg : (l.drop pos).getD k 0 = 32 := by
    have h3 : k < (l.drop pos).length := by omega
    have h4 : (l.drop pos)[k] = b := by rw [← hbk, List.getElem_take]
    rw [← e, ← h4, List.getD, List.getElem?_eq_getElem h3]; rfl
  by_cases hk0 : k = 0
  · subst hk0
    exact hr (by rw [dec_32 (by rw [hg]; rfl)])
  · cases hbad : badD (decodeL (l.drop pos)) with
    | true => have := dec_one hbad; omega
    | false =>
      have := dec_byte hk2 hbad (by omega)
      rw [hg] at this; exact absurd this (by decide)
theorem getD_drop0 (l : List UInt8) (pos : Nat) : (l.drop pos).getD 0 0 = l.getD pos 0 := by simp [List.getD, List.getElem?_drop]
set_option maxHeartbeats 1000000 in
theorem spans_wd (l : List UInt8) : ∀ (f pos : Nat) (st : Option Nat) (acc : List (Nat × Nat)), l.length ≤ pos + f → (∀ a, st = some a → a < pos) → pos ≤ l.length →
    (closeSpans ⟨l.toArray⟩ (spansFromP pB ⟨l.toArray⟩ f pos st acc)).map (piece l) = acc.map (piece l) ++ wd (stL l pos st) (l.drop pos)
  | 0, pos, st, acc, hf, hs, hp => by
    have hpl : pos = l.length := by omega
    rw [List.drop_of_length_le (by omega)]
    cases st with
    | none => simp [spansFromP, closeSpans, stL, wd]
    | some a =>
      have hne := piece_ne (hs a rfl) hp
      show ((acc ++ [(a, l.length)]).map (piece l)) = _
      rw [← hpl]
      show _ = acc.map (piece l) ++ (if piece l (a, pos) = [] then [] else [piece l (a, pos)])
      rw [if_neg hne]; simp
  | f + 1, pos, st, acc, hf, hs, hp => by
    by_cases hlt : pos < l.length
    · have hsz : pos < (⟨l.toArray⟩ : ByteArray).size := hlt
      have hw := dW_pos l pos
      have hle := dW_le hlt
      unfold spansFromP
      rw [if_pos hsz, dec_at]
      by_cases hr : (decodeL (l.drop pos)).1 = 32
      · rw [show pB (decodeL (l.drop pos)).1 = true from decide_eq_true hr]
        have h32 := dec_is32 hr
        have hd : decodeL (l.drop pos) = (32, 1) := dec_32 h32
        have hb : l.getD pos 0 = 32 := by rw [← getD_drop0]; exact UInt8.toNat_inj.1 h32
        have hdr : l.drop pos = 32 :: l.drop (pos + 1) := by rw [drop_cons hlt, hb]
        rw [if_pos rfl, hd]
        cases st with
        | none =>
          dsimp only
          rw [spans_wd l f (pos + 1) none acc (by omega) (by simp) (by omega), hdr]
          simp [stL, wd]
        | some a =>
          dsimp only
          have hne := piece_ne (hs a rfl) hp
          rw [spans_wd l f (pos + 1) none (acc ++ [(a, pos)]) (by omega) (by simp) (by omega), hdr]
          show _ = acc.map (piece l) ++ (if (32 : UInt8) = 32 then (if piece l (a, pos) = [] then _ else piece l (a, pos) :: wd [] (l.drop (pos + 1))) else _)
          rw [if_pos rfl, if_neg hne]
          simp [stL]
      · rw [show pB (decodeL (l.drop pos)).1 = false from decide_eq_false hr]
        have hno := sgn_no32 hlt hr
        have hsp : l.drop pos = (l.drop pos).take (decodeL (l.drop pos)).2 ++ l.drop (pos + (decodeL (l.drop pos)).2) := by
          rw [← List.drop_drop, List.take_append_drop]
        have e2 : (decodeL (l.drop pos)).2 = dW l pos := rfl
        rw [if_neg (by simp)]
        cases st with
        | none =>
          dsimp only
          rw [spans_wd l f (pos + (decodeL (l.drop pos)).2) (some pos) acc (by omega) (fun a ha => by cases ha; omega) (by omega)]
          conv => rhs; rw [hsp, wd_plain _ _ _ hno]
          rw [show stL l (pos + (decodeL (l.drop pos)).2) (some pos) = piece l (pos, pos + (decodeL (l.drop pos)).2) from rfl, piece_more (Nat.le_refl _)]
          rw [show piece l (pos, pos) = [] by simp [piece]]
          rfl
        | some a =>
          dsimp only
          have ha := hs a rfl
          rw [spans_wd l f (pos + (decodeL (l.drop pos)).2) (some a) acc (by omega) (fun a' ha' => by cases ha'; omega) (by omega)]
          conv => rhs; rw [hsp, wd_plain _ _ _ hno]
          rw [show stL l (pos + (decodeL (l.drop pos)).2) (some a) = piece l (a, pos + (decodeL (l.drop pos)).2) from rfl, piece_more (by omega)]
          rfl
    · have hpl : pos = l.length := by omega
      rw [spansFromP_end pB ⟨l.toArray⟩ (f + 1) pos st acc hlt, List.drop_of_length_le (by omega)]
      cases st with
      | none => simp [closeSpans, stL, wd]
      | some a =>
        have hne := piece_ne (hs a rfl) hp
        show ((acc ++ [(a, l.length)]).map (piece l)) = _
        rw [← hpl]
        show _ = acc.map (piece l) ++ (if piece l (a, pos) = [] then [] else [piece l (a, pos)])
        rw [if_neg hne]; simp
theorem fields_wd (l : List UInt8) : (goFieldsP pB ⟨l.toArray⟩).map (·.data.toList) = wd [] l := by
  unfold goFieldsP spansOfP
  rw [List.map_map]
  have h := spans_wd l l.length 0 none [] (by omega) (by simp) (by omega)
  have e : ((·.data.toList) ∘ fun x : Nat × Nat => (⟨l.toArray⟩ : ByteArray).extract x.1 x.2) = piece l := by
    funext x
    show ((⟨l.toArray⟩ : ByteArray).extract x.1 x.2).data.toList = _
    rw [mid_string]; rfl
  rw [e]
  rw [List.map_nil, List.nil_append, List.drop_zero] at h
  exact h
end Go.Proofs.YtcpmjogeafhpnaaDoor.Tx

/- strings.Join and FieldsFunc at this program: each one application of the kit's. -/
set_option linter.all false
namespace Go.Proofs
open Go.Shelf
def Tryd.lays156_ren : Go.Shelf.Ren := ⟨fun | 156 => 119 | 165 => 130 | 166 => 131 | 169 => 132 | 240 => 138 | 241 => 139 | 276 => 144 | 277 => 145 | n => n, fun | 31 => 46 | 9 => 9 | 3 => 3 | 4 => 4 | 0 => 0 | 20 => 20 | 72 => 163 | 76 => 167 | 70 => 161 | 37 => 61 | 75 => 166 | 127 => 173 | 164 => 174 | 5 => 5 | 80 => 48 | n => n, fun | n => n⟩
theorem Tryd.lays156 : Go.Proofs.Lays.n156 Tryd.prog Tryd.lays156_ren := {
  mixed := by kernel_rfl
  f156 := Tryd.func119.trans (congrArg some (by kernel_rfl))
  f165 := Tryd.func130.trans (congrArg some (by kernel_rfl))
  f166 := Tryd.func131.trans (congrArg some (by kernel_rfl))
  f169 := Tryd.func132.trans (congrArg some (by kernel_rfl))
  f240 := Tryd.func138.trans (congrArg some (by kernel_rfl))
  f241 := Tryd.func139.trans (congrArg some (by kernel_rfl))
  f276 := Tryd.func144.trans (congrArg some (by kernel_rfl))
  f277 := Tryd.func145.trans (congrArg some (by kernel_rfl))
  t0 := Tryd.underlying0
  a0 := Tryd.isAgg0
  z0 := Tryd.sizeOf0
  v0 := Tryd.zeroValue0
  t3 := Tryd.underlying3
  a3 := Tryd.isAgg3
  z3 := Tryd.sizeOf3
  v3 := Tryd.zeroValue3
  t4 := Tryd.underlying4
  a4 := Tryd.isAgg4
  z4 := Tryd.sizeOf4
  v4 := Tryd.zeroValue4
  t9 := Tryd.underlying9
  a9 := Tryd.isAgg9
  z9 := Tryd.sizeOf9
  v9 := Tryd.zeroValue9
  t20 := Tryd.underlying20
  a20 := Tryd.isAgg20
  z20 := Tryd.sizeOf20
  v20 := Tryd.zeroValue20
  t31 := Tryd.underlying46
  a31 := Tryd.isAgg46
  z31 := Tryd.sizeOf46
  v31 := Tryd.zeroValue46
  t37 := Tryd.underlying61
  a37 := Tryd.isAgg61
  z37 := Tryd.sizeOf61
  v37 := Tryd.zeroValue61
  t70 := Tryd.underlying161
  a70 := Tryd.isAgg161
  z70 := Tryd.sizeOf161
  v70 := Tryd.zeroValue161
  t72 := Tryd.underlying163
  a72 := Tryd.isAgg163
  z72 := Tryd.sizeOf163
  v72 := Tryd.zeroValue163
  t75 := Tryd.underlying166
  a75 := Tryd.isAgg166
  z75 := Tryd.sizeOf166
  v75 := Tryd.zeroValue166
  t76 := Tryd.underlying167
  a76 := Tryd.isAgg167
  z76 := Tryd.sizeOf167
  v76 := Tryd.zeroValue167
  t127 := Tryd.underlying173
  a127 := Tryd.isAgg173
  z127 := Tryd.sizeOf173
  v127 := Tryd.zeroValue173
  t164 := Tryd.underlying174
  a164 := Tryd.isAgg174
  z164 := Tryd.sizeOf174
  v164 := Tryd.zeroValue174 }
theorem Tryd.Builder_Extra_156 : Builder.Extra Tryd.prog Tryd.lays156_ren := {
  sizeBuilder := by kernel_rfl
  liesBuilder := by kernel_rfl
  t5 := Tryd.underlying5
  a5 := Tryd.isAgg5
  z5 := Tryd.sizeOf5
  v5 := Tryd.zeroValue5
  infoByte := by kernel_rfl
  cellsByte := by kernel_rfl
  sizeByte := by kernel_rfl
  neB5 := by decide }
open Go.RowKit in
/-- strings.Join: "Join concatenates the elements of its first argument to create a single string. The separator string sep is placed between elements in the resulting string.": HOWEVER MANY ELEMENTS. Below the heap's end the world is as it was. (LAID: no walk: one application.) -/
theorem Tryd.strings_Join (bk o c : Nat) (xs : List ByteArray) (sep : ByteArray) (w : World) (hcells : ∀ (j : Nat) x, xs[j]? = some x → w.cell? ⟨bk, o + j, none⟩ = some (.string x)) (hbk : bk < w.heap.size) (hN : xs.length ≤ 140737488355328) (hcap : xs.length ≤ c) (hlen : (Lib.join (xs.map (·.data.toList)) sep.data.toList).length ≤ 140737488355328) :
    Calls Tryd.prog 119 #[.slice (some ⟨bk, o, none⟩) xs.length c, .string sep] w fun e w' => e = .returned (.string ⟨(Lib.join (xs.map (·.data.toList)) sep.data.toList).toArray⟩) ∧ Below w.heap.size w w' := Any.strings_Join Tryd.lays156 Tryd.Builder_Extra_156 bk o c xs sep w hcells hbk hN hcap hlen
def Tryd.lays229_ren : Go.Shelf.Ren := ⟨fun | 229 => 120 | n => n, fun | 9 => 9 | 40 => 156 | 31 => 46 | 152 => 169 | 3 => 3 | 0 => 0 | 4 => 4 | 21 => 21 | 154 => 171 | n => n, fun | n => n⟩
theorem Tryd.lays229 : Go.Proofs.Lays.n229 Tryd.prog Tryd.lays229_ren := {
  mixed := by kernel_rfl
  f229 := Tryd.func120.trans (congrArg some (by kernel_rfl))
  t0 := Tryd.underlying0
  a0 := Tryd.isAgg0
  z0 := Tryd.sizeOf0
  v0 := Tryd.zeroValue0
  t3 := Tryd.underlying3
  a3 := Tryd.isAgg3
  z3 := Tryd.sizeOf3
  v3 := Tryd.zeroValue3
  t4 := Tryd.underlying4
  a4 := Tryd.isAgg4
  z4 := Tryd.sizeOf4
  v4 := Tryd.zeroValue4
  t9 := Tryd.underlying9
  a9 := Tryd.isAgg9
  z9 := Tryd.sizeOf9
  v9 := Tryd.zeroValue9
  t21 := Tryd.underlying21
  a21 := Tryd.isAgg21
  z21 := Tryd.sizeOf21
  v21 := Tryd.zeroValue21
  t31 := Tryd.underlying46
  a31 := Tryd.isAgg46
  z31 := Tryd.sizeOf46
  v31 := Tryd.zeroValue46
  t40 := Tryd.underlying156
  a40 := Tryd.isAgg156
  z40 := Tryd.sizeOf156
  v40 := Tryd.zeroValue156
  t152 := Tryd.underlying169
  a152 := Tryd.isAgg169
  z152 := Tryd.sizeOf169
  v152 := Tryd.zeroValue169
  t154 := Tryd.underlying171
  a154 := Tryd.isAgg171
  z154 := Tryd.sizeOf171
  v154 := Tryd.zeroValue171 }
open Go.RowKit Go.Lib in
theorem Tryd.strings_FieldsFunc_runes (g : Nat) (lb : Array Value) (eg : ∀ args w, (callFunc g args).run Tryd.prog w = .ok (.enter g args) w) (p : Nat → Bool) (s : ByteArray) (w : World) (hs : s.size ≤ 4294967296) (hp : PredAtRunes Tryd.prog g lb p w) :
    Calls Tryd.prog 120 #[.string s, .func (.func g) #[] lb] w fun e w' => ∃ A, e = .returned (.slice (some ⟨A, 0, none⟩) (Lib.goFieldsP p s).length (Lib.goFieldsP p s).length) ∧ w.heap.size ≤ A ∧
      w'.ownsRow w.heap.size 9 1 (.slice (some ⟨A, 0, none⟩) (Lib.goFieldsP p s).length (Lib.goFieldsP p s).length) (Lib.goFieldsP p s).length ((Lib.goFieldsP p s).map Value.string) ∧ Below w.heap.size w w' := Any.strings_FieldsFunc_runes Tryd.lays229 g lb eg p s w hs hp (by kernel_rfl) (by kernel_rfl)
end Go.Proofs
/- Fold's calls. -/
set_option linter.all false
set_option maxRecDepth 100000
namespace Go.Proofs.YtcpmjogeafhpnaaDoor.Tx
open Go.RowKit Go.Sep
theorem blank_calls (x : Nat) (W : World) : Calls Tryd.prog 121 #[.int .i32 ((x : Nat) : Int)] W fun e w' => e = .returned (.bool (pB x)) ∧ ∃ q, w' = W.drewN q := by
  have e : (((x : Nat) : Int) == 32) = pB x := by
    unfold pB
    by_cases h : x = 32
    · subst h; rfl
    · rw [decide_eq_false h]; simp; omega
  rw [← e]
  go_enter Tryd.func121, Tryd.ntmps121
  go_wp2
  go_ret
  exact ⟨by rw [e]; rfl, 0, rfl⟩
theorem blank_enters : ∀ args w, (callFunc 121 args).run Tryd.prog w = .ok (.enter 121 args) w := enters_of Tryd.func121 (by kernel_rfl) rfl
def fN (l : List UInt8) : Nat := (Lib.goFieldsP pB ⟨l.toArray⟩).length
theorem wd_cnt : ∀ (l acc : List UInt8), (wd acc l).length ≤ l.length + 1
  | [], acc => by
    by_cases h : acc = []
    · subst h; simp [wd]
    · simp [wd, h]
  | b :: l, acc => by
    unfold wd
    have h1 := wd_cnt l []
    have h2 := wd_cnt l (acc ++ [b])
    split
    · split
      · rw [List.length_cons]; omega
      · rw [List.length_cons, List.length_cons]; omega
    · rw [List.length_cons]; omega
theorem fN_le (l : List UInt8) : fN l ≤ l.length + 1 := by
  have := wd_cnt l []
  rw [← fields_wd, List.length_map] at this; exact this
theorem fields_c {I : IM} {l : List UInt8} (hn : l.length ≤ 1000000) : Fun Tryd.prog 120 #[.string ⟨l.toArray⟩, .func (.func 121) #[] #[]] I (fun v J => ∃ A cur, v = .slice (some ⟨A, 0, none⟩) (fN l) (fN l) ∧ J A = some (.cells cur 9) ∧ cur.toList.take (fN l) = (Lib.goFieldsP pB ⟨l.toArray⟩).map Value.string) := fun w hw => by
  refine (Tryd.strings_FieldsFunc_runes 121 #[] blank_enters pB ⟨l.toArray⟩ w (show l.length ≤ 4294967296 by omega) (fun W x _ _ => blank_calls x W)).mono ?_
  rintro e w' ⟨A, rfl, hA, hrow, b⟩
  rcases hrow.2 with ⟨h, _⟩ | ⟨g, cap, cur, hv, hg2, hg, hnc, hcm, hcs, ht⟩
  · cases h
  · cases hv
    refine ⟨_, I.add A (.cells cur 9), [], rfl, ⟨fun k o e => ?_, ?_, fun k hk _ => ?_, ⟨b.os, b.tape, b.output, b.size, fun k hk _ => b.block k hk⟩, by simp, by simp, by simp, by simp⟩, A, cur, rfl, IM.add_self _ _ _, ?_⟩
    · unfold IM.add at e
      split at e
      · rename_i q; subst q; cases e; exact hg
      · exact (b.block k (hw.lt e)).trans (hw k o e)
    · refine IM.le_add ?_ _
      cases q : I A with
      | none => rfl
      | some o => exact absurd (hw.lt q) (by omega)
    · unfold IM.add; rw [if_neg (by omega)]
    · rw [Nat.mul_one] at ht; exact ht
theorem join_c {J : IM} {A : Nat} {cur : Array Value} {l : List UInt8} (hn : l.length ≤ 1000000) (hA : J A = some (.cells cur 9)) (hc : cur.toList.take (fN l) = (Lib.goFieldsP pB ⟨l.toArray⟩).map Value.string) :
    Fun Tryd.prog 119 #[.slice (some ⟨A, 0, none⟩) (fN l) (fN l), .string ⟨([32] : List UInt8).toArray⟩] J (fun v _ => v = .string ⟨(fldS l).toArray⟩) := fun w hw => by
  have hl := fN_le l
  have hf := fldS_len l
  have e0 : Lib.join ((Lib.goFieldsP pB ⟨l.toArray⟩).map (·.data.toList)) [32] = fldS l := by rw [fields_wd]; rfl
  refine (Tryd.strings_Join A 0 (fN l) (Lib.goFieldsP pB ⟨l.toArray⟩) ⟨([32] : List UInt8).toArray⟩ w (fun j x hx => ?_) (hw.lt hA) (show fN l ≤ _ by omega) (Nat.le_refl _) (by
    show (Lib.join ((Lib.goFieldsP pB ⟨l.toArray⟩).map (·.data.toList)) [32]).length ≤ _
    rw [e0]; omega)).mono ?_
  · rw [run_cell (a := ⟨A, 0 + j, none⟩) (hw _ _ hA) rfl rfl]
    have hj : j < fN l := (List.getElem?_eq_some_iff.1 hx).1
    have h2 : (cur.toList.take (fN l))[j]? = some (.string x) := by rw [hc, List.getElem?_map, hx]; rfl
    rw [List.getElem?_take, if_pos hj] at h2
    rw [Nat.zero_add]; simpa using h2
  · rintro e w' ⟨rfl, b⟩
    exact ⟨_, J, [], rfl, st_below hw b, by
      show Value.string ⟨(Lib.join ((Lib.goFieldsP pB ⟨l.toArray⟩).map (·.data.toList)) [32]).toArray⟩ = _
      rw [e0]⟩
end Go.Proofs.YtcpmjogeafhpnaaDoor.Tx

/- Fold: the program's and the document's. -/
set_option linter.all false
set_option maxRecDepth 100000
namespace Go.Proofs.YtcpmjogeafhpnaaDoor.Tx
open Go.RowKit Go.Sep
attribute [local irreducible] Go.wpList Go.Code.wp

set_option maxHeartbeats 1000000 in
theorem fold_c {I : IM} {l : List UInt8} (hn : l.length ≤ 1000000) : Fun Tryd.prog 100 #[.string ⟨(l).toArray⟩] I (fun v J => v = .string ⟨(fldS l).toArray⟩) := by
  refine enter_rule 6 [(0, .string ⟨(l).toArray⟩)] Tryd.func100 rfl (by kernel_rfl) ?_
  intro w s
  refine wp_seq ?_
  refine region_rule ?_
  refine ops_rule (C := []) [] [] 1 [] 0 (fun φ1 => [(2, .string ⟨#[]⟩)]) (fun φ1 => []) (fun φ1 => []) s trivial (fun φ1 => by kernel_rfl) ?_
  intro φ1 w1 s
  refine ops_done (by kernel_rfl) ?_
  refine wp_seq ?_
  refine region_rule ?_
  refine ops_rule (C := []) [] [] 1 [] 0 (fun φ2 => [(3, .string ⟨(l).toArray⟩)]) (fun φ2 => []) (fun φ2 => []) s trivial (fun φ2 => by kernel_rfl) ?_
  intro φ2 w2 s
  refine call_rule (some 4) s (fields_c (l := l) hn) (by kernel_rfl) ?_
  rintro v3 I3 w3 le3 ⟨A3, cur3, rfl, hA3, hcur3⟩ s
  refine call_rule (some 5) s (join_c (l := l) hn hA3 hcur3) (by kernel_rfl) ?_
  intro v4 I4 w4 le4 h4 s
  obtain rfl := h4
  refine ops_rule (C := []) [] [] 1 [] 0 (fun φ5 => [(2, .string ⟨((fldS l)).toArray⟩)]) (fun φ5 => []) (fun φ5 => []) s trivial (fun φ5 => by kernel_rfl) ?_
  intro φ5 w5 s
  refine ops_done (by kernel_rfl) ?_
  refine wp_ret ?_
  refine ret_rule (C := []) [] [] (.string ⟨((fldS l)).toArray⟩) [] [] s trivial (by kernel_rfl) ?_
  exact ⟨_, _, _, rfl, s, rfl⟩

end Go.Proofs.YtcpmjogeafhpnaaDoor.Tx

/- Slices of fields, and of ints. -/
set_option linter.all false
set_option maxRecDepth 100000
namespace Go.Proofs.YtcpmjogeafhpnaaDoor
open Go.RowKit Go.Sep
structure Fe where
  k : Int
  a : List UInt8
  v : List UInt8
def Fe.z : Fe := ⟨0, [], []⟩
def fc (x : Fe) : List Value := [.int .i64 x.k, .string ⟨x.a.toArray⟩, .string ⟨x.v.toArray⟩]
def fcs (L : List Fe) : List Value := L.flatMap fc
theorem fcs_append (l m : List Fe) : fcs (l ++ m) = fcs l ++ fcs m := List.flatMap_append
theorem fcs_length : ∀ l : List Fe, (fcs l).length = l.length * 3
  | [] => rfl
  | s :: l => by
    have := fcs_length l
    have e : fcs (s :: l) = fc s ++ fcs l := rfl
    rw [e, List.length_append, this]; simp only [fc, List.length_cons, List.length_nil]; omega
theorem fcs_at : ∀ {L : List Fe} {i : Nat} {x : Fe}, L[i]? = some x → (fcs L)[i * 3]? = some (.int .i64 x.k) ∧ (fcs L)[i * 3 + 1]? = some (.string ⟨x.a.toArray⟩) ∧ (fcs L)[i * 3 + 2]? = some (.string ⟨x.v.toArray⟩)
  | [], _, _, h => by simp at h
  | s :: L, 0, x, h => by
    simp only [List.getElem?_cons_zero, Option.some.injEq] at h
    subst h
    exact ⟨rfl, rfl, rfl⟩
  | s :: L, i + 1, x, h => by
    have := fcs_at (L := L) (i := i) (x := x) (by simpa using h)
    have e : fcs (s :: L) = fc s ++ fcs L := rfl
    have hl : (fc s).length = 3 := rfl
    rw [e, List.getElem?_append_right (by omega), List.getElem?_append_right (by omega), List.getElem?_append_right (by omega), hl,
      show (i + 1) * 3 - 3 = i * 3 by omega, show (i + 1) * 3 + 1 - 3 = i * 3 + 1 by omega, show (i + 1) * 3 + 2 - 3 = i * 3 + 2 by omega]
    exact this
/-- v is a slice of these fields, never written -/
def FSl (I : IM) (L : List Fe) (v : Value) : Prop := ∃ a cap, v = .slice a L.length cap ∧ L.length ≤ cap ∧ ∀ (j : Nat) (x : Fe), L[j]? = some x → ∃ (b o : Nat) (cs : Array Value) (T : TypeId) (fr : Nat × Nat), a = some ⟨b, o, none⟩ ∧ I b = some (.cells cs T fr) ∧ cs[o + j * 3]? = some (.int .i64 x.k) ∧ cs[o + j * 3 + 1]? = some (.string ⟨x.a.toArray⟩) ∧ cs[o + j * 3 + 2]? = some (.string ⟨x.v.toArray⟩)
theorem FSl.mono {I J : IM} (le : I.Le J) {L : List Fe} {v : Value} (h : FSl I L v) : FSl J L v := by
  obtain ⟨a, cap, hv, hc, hr⟩ := h
  refine ⟨a, cap, hv, hc, fun j x hj => ?_⟩
  obtain ⟨b, o, cs, T, fr, h1, h2, h3⟩ := hr j x hj
  exact ⟨b, o, cs, T, fr, h1, le _ _ h2, h3⟩
theorem FSl.open {I : IM} {L : List Fe} {v : Value} (h : FSl I L v) : ∃ a c, v = .slice a L.length c ∧ L.length ≤ c ∧ FSl I L (.slice a L.length c) := by
  obtain ⟨a, c, rfl, hc, hr⟩ := h
  exact ⟨a, c, rfl, hc, a, c, rfl, hc, hr⟩
theorem fsl_nil (I : IM) : FSl I [] (.slice none 0 0) := ⟨none, 0, rfl, Nat.le_refl _, fun j x h => by simp at h⟩
theorem FSl.cap {I : IM} {L : List Fe} {a : Option Addr} {n c : Nat} (h : FSl I L (.slice a n c)) : n = L.length ∧ L.length ≤ c := by
  obtain ⟨a', c', hv, hc, _⟩ := h
  cases hv; exact ⟨rfl, hc⟩
theorem fe_getD {L : List Fe} {i : Nat} (h : i < L.length) : L[i]? = some (L.getD i Fe.z) := by simp [h]
theorem under22s : Tryd.prog.underlying 22 = some (.slice 39) := by kernel_rfl
theorem size39s (w : World) : (sizeOf 39).run Tryd.prog w = .ok 3 w := by kernel_rfl
theorem fsl_idx22 {I : IM} {w : World} {L : List Fe} {a : Option Addr} {n c i : Nat} (h : FSl I L (.slice a n c)) (hi : i < L.length) :
    (Instr.indexAt 22 (.slice a n c) (.int .i64 ((i : Nat) : Int))).run Tryd.prog w = .ok (.pointer (pAt a (i * 3))) w := by
  obtain ⟨a', c', hv, hc, hr⟩ := h
  cases hv
  obtain ⟨b, o, cs, T, fr, rfl, h2, h3, h4⟩ := hr i _ (fe_getD hi)
  have h2 : (i : Int) < (L.length : Int) := by omega
  simp [Instr.indexAt, asIntOf, run_underlying under22s, size39s, h2, pAt]
  intro h3; omega
theorem fsl_ld39 {I : IM} {w : World} (hS : I.Sub w) {L : List Fe} {a : Option Addr} {n c i : Nat} (h : FSl I L (.slice a n c)) (hi : i < L.length) :
    (Instr.loadAt 39 (.pointer (pAt a (i * 3)))).run Tryd.prog w = .ok (.agg #[.int .i64 (L.getD i Fe.z).k, .string ⟨(L.getD i Fe.z).a.toArray⟩, .string ⟨(L.getD i Fe.z).v.toArray⟩]) w := by
  obtain ⟨a', c', hv, hc, hr⟩ := h
  cases hv
  obtain ⟨b, o, cs, T, fr, rfl, h2, h3, h4, h5⟩ := hr i _ (fe_getD hi)
  rw [show pAt (some ⟨b, o, none⟩) (i * 3) = some ⟨b, o + i * 3, none⟩ from congrArg some (addr_addO b o (i * 3))]
  have c1 := run_cell (a := ⟨b, o + i * 3, none⟩) (hS _ _ h2) rfl rfl
  have c2 := run_cell (a := ⟨b, o + i * 3 + 1, none⟩) (hS _ _ h2) rfl rfl
  have c3 := run_cell (a := ⟨b, o + i * 3 + 2, none⟩) (hS _ _ h2) rfl rfl
  rw [h3] at c1
  rw [h4] at c2
  rw [h5] at c3
  have e : (Instr.loadAt 39 (.pointer (some ⟨b, o + i * 3, none⟩))).run Tryd.prog w = ((do pure (.agg (← loadCells ⟨b, o + i * 3, none⟩ 3))) : Sem Value).run Tryd.prog w := by kernel_rfl
  have l1 : (load ⟨b, o + i * 3, none⟩).run Tryd.prog w = .ok (.int .i64 (L.getD i Fe.z).k) w := by simp only [load, Sem.run, c1]
  have l2 : (load ⟨b, o + i * 3 + 1, none⟩).run Tryd.prog w = .ok (.string ⟨(L.getD i Fe.z).a.toArray⟩) w := by simp only [load, Sem.run, c2]
  have l3 : (load ⟨b, o + i * 3 + 2, none⟩).run Tryd.prog w = .ok (.string ⟨(L.getD i Fe.z).v.toArray⟩) w := by simp only [load, Sem.run, c3]
  have a1 : (⟨b, o + i * 3, none⟩ : Addr).add 0 = ⟨b, o + i * 3, none⟩ := rfl
  have a2 : (⟨b, o + i * 3, none⟩ : Addr).add 1 = ⟨b, o + i * 3 + 1, none⟩ := rfl
  have a3 : (⟨b, o + i * 3, none⟩ : Addr).add (1 + 1) = ⟨b, o + i * 3 + 2, none⟩ := rfl
  rw [e]
  simp only [loadCells, loadCellsFrom, Sem.run_bind, Sem.run_pure, a1, a2, a3, Nat.zero_add, l1, l2, l3, Result.andThen_ok]
  rfl
theorem freeze_row39 {w0 : World} {I0 : IM} {m : List Nat} {I : IM} {w : World} {H F : List OB} {L : List Fe} {v : Value} {n : Nat} (s : St w0 I0 m I w (H ++ F)) (h : RowH 39 3 v n (fcs L) F) :
    ∃ I', I.Le I' ∧ FSl I' L v ∧ St w0 I0 m I' w H := by
  have hl : L.length = n := by have := h.1; rw [fcs_length] at this; omega
  rcases h.2 with ⟨rfl, rfl, rfl⟩ | ⟨g, cap, cur, rfl, rfl, hnc, hcm, hcs, ht⟩
  · have : L = [] := List.eq_nil_of_length_eq_zero hl
    subst this
    exact ⟨I, IM.Le.refl I, fsl_nil I, by simpa using s⟩
  · have s2 := (s.perm (H' := (g, .cells cur 39) :: H) (by exact List.perm_append_comm))
    refine ⟨_, IM.le_add (s2.free (g, .cells cur 39) (by simp)) _, ?_, s2.freeze⟩
    refine ⟨some ⟨g, 0, none⟩, cap, congrArg (fun q => Value.slice (some ⟨g, 0, none⟩) q cap) hl.symm, by omega, fun j x hj => ⟨g, 0, cur, 39, (0, 0), rfl, IM.add_self _ _ _, ?_⟩⟩
    have hh := fcs_at hj
    rw [← ht, List.getElem?_take, List.getElem?_take, List.getElem?_take] at hh
    have hj2 := (List.getElem?_eq_some_iff.1 hj).1
    rw [if_pos (by omega), if_pos (by omega), if_pos (by omega)] at hh
    rw [Nat.zero_add]
    simpa using hh
theorem under30s : Tryd.prog.underlying 30 = some (.slice 42) := by kernel_rfl
theorem size42s (w : World) : (sizeOf 42).run Tryd.prog w = .ok 3 w := by kernel_rfl
theorem fsl_idx30 {I : IM} {w : World} {L : List Fe} {a : Option Addr} {n c i : Nat} (h : FSl I L (.slice a n c)) (hi : i < L.length) :
    (Instr.indexAt 30 (.slice a n c) (.int .i64 ((i : Nat) : Int))).run Tryd.prog w = .ok (.pointer (pAt a (i * 3))) w := by
  obtain ⟨a', c', hv, hc, hr⟩ := h
  cases hv
  obtain ⟨b, o, cs, T, fr, rfl, h2, h3, h4⟩ := hr i _ (fe_getD hi)
  have h2 : (i : Int) < (L.length : Int) := by omega
  simp [Instr.indexAt, asIntOf, run_underlying under30s, size42s, h2, pAt]
  intro h3; omega
theorem fsl_ld42 {I : IM} {w : World} (hS : I.Sub w) {L : List Fe} {a : Option Addr} {n c i : Nat} (h : FSl I L (.slice a n c)) (hi : i < L.length) :
    (Instr.loadAt 42 (.pointer (pAt a (i * 3)))).run Tryd.prog w = .ok (.agg #[.int .i64 (L.getD i Fe.z).k, .string ⟨(L.getD i Fe.z).a.toArray⟩, .string ⟨(L.getD i Fe.z).v.toArray⟩]) w := by
  obtain ⟨a', c', hv, hc, hr⟩ := h
  cases hv
  obtain ⟨b, o, cs, T, fr, rfl, h2, h3, h4, h5⟩ := hr i _ (fe_getD hi)
  rw [show pAt (some ⟨b, o, none⟩) (i * 3) = some ⟨b, o + i * 3, none⟩ from congrArg some (addr_addO b o (i * 3))]
  have c1 := run_cell (a := ⟨b, o + i * 3, none⟩) (hS _ _ h2) rfl rfl
  have c2 := run_cell (a := ⟨b, o + i * 3 + 1, none⟩) (hS _ _ h2) rfl rfl
  have c3 := run_cell (a := ⟨b, o + i * 3 + 2, none⟩) (hS _ _ h2) rfl rfl
  rw [h3] at c1
  rw [h4] at c2
  rw [h5] at c3
  have e : (Instr.loadAt 42 (.pointer (some ⟨b, o + i * 3, none⟩))).run Tryd.prog w = ((do pure (.agg (← loadCells ⟨b, o + i * 3, none⟩ 3))) : Sem Value).run Tryd.prog w := by kernel_rfl
  have l1 : (load ⟨b, o + i * 3, none⟩).run Tryd.prog w = .ok (.int .i64 (L.getD i Fe.z).k) w := by simp only [load, Sem.run, c1]
  have l2 : (load ⟨b, o + i * 3 + 1, none⟩).run Tryd.prog w = .ok (.string ⟨(L.getD i Fe.z).a.toArray⟩) w := by simp only [load, Sem.run, c2]
  have l3 : (load ⟨b, o + i * 3 + 2, none⟩).run Tryd.prog w = .ok (.string ⟨(L.getD i Fe.z).v.toArray⟩) w := by simp only [load, Sem.run, c3]
  have a1 : (⟨b, o + i * 3, none⟩ : Addr).add 0 = ⟨b, o + i * 3, none⟩ := rfl
  have a2 : (⟨b, o + i * 3, none⟩ : Addr).add 1 = ⟨b, o + i * 3 + 1, none⟩ := rfl
  have a3 : (⟨b, o + i * 3, none⟩ : Addr).add (1 + 1) = ⟨b, o + i * 3 + 2, none⟩ := rfl
  rw [e]
  simp only [loadCells, loadCellsFrom, Sem.run_bind, Sem.run_pure, a1, a2, a3, Nat.zero_add, l1, l2, l3, Result.andThen_ok]
  rfl
theorem freeze_row42 {w0 : World} {I0 : IM} {m : List Nat} {I : IM} {w : World} {H F : List OB} {L : List Fe} {v : Value} {n : Nat} (s : St w0 I0 m I w (H ++ F)) (h : RowH 42 3 v n (fcs L) F) :
    ∃ I', I.Le I' ∧ FSl I' L v ∧ St w0 I0 m I' w H := by
  have hl : L.length = n := by have := h.1; rw [fcs_length] at this; omega
  rcases h.2 with ⟨rfl, rfl, rfl⟩ | ⟨g, cap, cur, rfl, rfl, hnc, hcm, hcs, ht⟩
  · have : L = [] := List.eq_nil_of_length_eq_zero hl
    subst this
    exact ⟨I, IM.Le.refl I, fsl_nil I, by simpa using s⟩
  · have s2 := (s.perm (H' := (g, .cells cur 42) :: H) (by exact List.perm_append_comm))
    refine ⟨_, IM.le_add (s2.free (g, .cells cur 42) (by simp)) _, ?_, s2.freeze⟩
    refine ⟨some ⟨g, 0, none⟩, cap, congrArg (fun q => Value.slice (some ⟨g, 0, none⟩) q cap) hl.symm, by omega, fun j x hj => ⟨g, 0, cur, 42, (0, 0), rfl, IM.add_self _ _ _, ?_⟩⟩
    have hh := fcs_at hj
    rw [← ht, List.getElem?_take, List.getElem?_take, List.getElem?_take] at hh
    have hj2 := (List.getElem?_eq_some_iff.1 hj).1
    rw [if_pos (by omega), if_pos (by omega), if_pos (by omega)] at hh
    rw [Nat.zero_add]
    simpa using hh
def ic (K : List Nat) : List Value := K.map fun x => .int .i64 ((x : Nat) : Int)
theorem ic_append (l m : List Nat) : ic (l ++ m) = ic l ++ ic m := List.map_append
/-- v is a slice of these ints, never written -/
def KSl (I : IM) (K : List Nat) (v : Value) : Prop := ∃ a cap, v = .slice a K.length cap ∧ K.length ≤ cap ∧ ∀ (j : Nat) (x : Nat), K[j]? = some x → ∃ (b o : Nat) (cs : Array Value) (T : TypeId) (fr : Nat × Nat), a = some ⟨b, o, none⟩ ∧ I b = some (.cells cs T fr) ∧ cs[o + j]? = some (.int .i64 ((x : Nat) : Int))
theorem KSl.mono {I J : IM} (le : I.Le J) {L : List Nat} {v : Value} (h : KSl I L v) : KSl J L v := by
  obtain ⟨a, cap, hv, hc, hr⟩ := h
  refine ⟨a, cap, hv, hc, fun j x hj => ?_⟩
  obtain ⟨b, o, cs, T, fr, h1, h2, h3⟩ := hr j x hj
  exact ⟨b, o, cs, T, fr, h1, le _ _ h2, h3⟩
theorem KSl.open {I : IM} {L : List Nat} {v : Value} (h : KSl I L v) : ∃ a c, v = .slice a L.length c ∧ L.length ≤ c ∧ KSl I L (.slice a L.length c) := by
  obtain ⟨a, c, rfl, hc, hr⟩ := h
  exact ⟨a, c, rfl, hc, a, c, rfl, hc, hr⟩
theorem ksl_nil (I : IM) : KSl I [] (.slice none 0 0) := ⟨none, 0, rfl, Nat.le_refl _, fun j x h => by simp at h⟩
theorem KSl.cap {I : IM} {L : List Nat} {a : Option Addr} {n c : Nat} (h : KSl I L (.slice a n c)) : n = L.length ∧ L.length ≤ c := by
  obtain ⟨a', c', hv, hc, _⟩ := h
  cases hv; exact ⟨rfl, hc⟩
theorem k_getD {L : List Nat} {i : Nat} (h : i < L.length) : L[i]? = some (L.getD i 0) := by simp [h]
theorem under52s : Tryd.prog.underlying 52 = some (.slice 3) := by kernel_rfl
theorem size3s (w : World) : (sizeOf 3).run Tryd.prog w = .ok 1 w := by kernel_rfl
theorem ksl_idx {I : IM} {w : World} {L : List Nat} {a : Option Addr} {n c i : Nat} (h : KSl I L (.slice a n c)) (hi : i < L.length) :
    (Instr.indexAt 52 (.slice a n c) (.int .i64 ((i : Nat) : Int))).run Tryd.prog w = .ok (.pointer (pAt a i)) w := by
  obtain ⟨a', c', hv, hc, hr⟩ := h
  cases hv
  obtain ⟨b, o, cs, T, fr, rfl, h2, h3⟩ := hr i _ (k_getD hi)
  have h2 : (i : Int) < (L.length : Int) := by omega
  simp [Instr.indexAt, asIntOf, run_underlying under52s, size3s, h2, pAt]
  intro h3; omega
theorem ksl_ld {I : IM} {w : World} (hS : I.Sub w) {L : List Nat} {a : Option Addr} {n c i : Nat} (h : KSl I L (.slice a n c)) (hi : i < L.length) :
    (Instr.loadAt 3 (.pointer (pAt a i))).run Tryd.prog w = .ok (.int .i64 ((L.getD i 0 : Nat) : Int)) w := by
  obtain ⟨a', c', hv, hc, hr⟩ := h
  cases hv
  obtain ⟨b, o, cs, T, fr, rfl, h2, h3⟩ := hr i _ (k_getD hi)
  rw [show pAt (some ⟨b, o, none⟩) i = some ⟨b, o + i, none⟩ from congrArg some (addr_addO b o i)]
  have c1 := run_cell (a := ⟨b, o + i, none⟩) (hS _ _ h2) rfl rfl
  rw [h3] at c1
  have e : (Instr.loadAt 3 (.pointer (some ⟨b, o + i, none⟩))).run Tryd.prog w = (load ⟨b, o + i, none⟩).run Tryd.prog w := by kernel_rfl
  rw [e]; simp only [load, Sem.run, c1]
theorem freeze_row3 {w0 : World} {I0 : IM} {m : List Nat} {I : IM} {w : World} {H F : List OB} {L : List Nat} {v : Value} {n : Nat} (s : St w0 I0 m I w (H ++ F)) (h : RowH 3 1 v n (ic L) F) :
    ∃ I', I.Le I' ∧ KSl I' L v ∧ St w0 I0 m I' w H := by
  have hl : L.length = n := by have := h.1; simpa [ic] using this
  rcases h.2 with ⟨rfl, rfl, rfl⟩ | ⟨g, cap, cur, rfl, rfl, hnc, hcm, hcs, ht⟩
  · have : L = [] := List.eq_nil_of_length_eq_zero hl
    subst this
    exact ⟨I, IM.Le.refl I, ksl_nil I, by simpa using s⟩
  · have s2 := (s.perm (H' := (g, .cells cur 3) :: H) (by exact List.perm_append_comm))
    refine ⟨_, IM.le_add (s2.free (g, .cells cur 3) (by simp)) _, ?_, s2.freeze⟩
    refine ⟨some ⟨g, 0, none⟩, cap, congrArg (fun q => Value.slice (some ⟨g, 0, none⟩) q cap) hl.symm, by omega, fun j x hj => ⟨g, 0, cur, 3, (0, 0), rfl, IM.add_self _ _ _, ?_⟩⟩
    have hx : (ic L)[j]? = some (.int .i64 ((x : Nat) : Int)) := by rw [ic, List.getElem?_map, hj]; rfl
    rw [← ht, List.getElem?_take] at hx
    rw [Nat.zero_add]
    split at hx
    · simpa using hx
    · cases hx
/-- the fields that the program reads; the rest; the error -/
noncomputable def pF : Nat → List UInt8 → Nat → List Fe × List UInt8 × Nat
  | 0, l, e => ([], l, e)
  | n + 1, l, e => (⟨(((fdG l e 255 255).k : Nat) : Int), (fdG l e 255 255).a, (fdG l e 255 255).v⟩ :: (pF n (l.drop (fdG l e 255 255).d) (fdG l e 255 255).e).1, (pF n (l.drop (fdG l e 255 255).d) (fdG l e 255 255).e).2)
/-- .. and the document's: none behind an error -/
noncomputable def dFs : Nat → List UInt8 → Nat → List Fe × List UInt8 × Nat
  | 0, l, e => ([], l, e)
  | n + 1, l, e => if e ≠ 0 then ([], l, e) else (⟨(((fdG l e 255 255).k : Nat) : Int), (fdG l e 255 255).a, (fdG l e 255 255).v⟩ :: (dFs n (l.drop (fdG l e 255 255).d) (fdG l e 255 255).e).1, (dFs n (l.drop (fdG l e 255 255).d) (fdG l e 255 255).e).2)
theorem fd_err {l : List UInt8} {e z1 z2 : Nat} (h : e ≠ 0) : (fdG l e z1 z2).e = e ∧ (fdG l e z1 z2).d = 0 := by
  have h1 : byE l e = e := by unfold byE; rw [if_neg (by omega)]
  have h2 : byD l e = 0 := by unfold byD; rw [if_neg (by omega)]
  have h3 : ∀ (m : List UInt8) (z : Int), teE m e z = e := fun m z => by unfold teE; rw [if_neg h]
  have h4 : ∀ (m : List UInt8) (z : Int), teD m e z = 0 := fun m z => by unfold teD; exact if_neg (fun q => h q.1)
  unfold fdG
  simp only [h1, h2, h3, h4, Nat.add_zero, and_self]
theorem pF_err : ∀ (n : Nat) {l : List UInt8} {e : Nat}, e ≠ 0 → (pF n l e).2.2 = e
  | 0, _, _, _ => rfl
  | n + 1, l, e, h => by
    obtain ⟨h1, h2⟩ := fd_err (l := l) (z1 := 255) (z2 := 255) h
    simp only [pF]
    rw [h1]; exact pF_err n h
theorem dF_err {n : Nat} {l : List UInt8} {e : Nat} (h : e ≠ 0) : dFs n l e = ([], l, e) := by
  cases n with
  | zero => rfl
  | succ n => simp only [dFs]; rw [if_pos h]
theorem pdF : ∀ (n : Nat) (l : List UInt8) (e : Nat), (dFs n l e).2.2 = (pF n l e).2.2 ∧ ((pF n l e).2.2 = 0 → dFs n l e = pF n l e)
  | 0, _, _ => ⟨rfl, fun _ => rfl⟩
  | n + 1, l, e => by
    by_cases h : e ≠ 0
    · rw [dF_err h, pF_err _ h]
      exact ⟨rfl, fun q => absurd q h⟩
    · have := pdF n (l.drop (fdG l e 255 255).d) (fdG l e 255 255).e
      simp only [dFs, pF]
      rw [if_neg h]
      exact ⟨this.1, fun q => by rw [this.2 q]⟩
/-- kinds -/
def pK : Nat → List UInt8 → Nat → List Nat × List UInt8 × Nat
  | 0, l, e => ([], l, e)
  | n + 1, l, e => (byV l e :: (pK n (l.drop (byD l e)) (byE l e)).1, (pK n (l.drop (byD l e)) (byE l e)).2)
def dK : Nat → List UInt8 → Nat → List Nat × List UInt8 × Nat
  | 0, l, e => ([], l, e)
  | n + 1, l, e => if e ≠ 0 then ([], l, e) else (byV l e :: (dK n (l.drop (byD l e)) (byE l e)).1, (dK n (l.drop (byD l e)) (byE l e)).2)
theorem by_err {l : List UInt8} {e : Nat} (h : e ≠ 0) : byE l e = e ∧ byD l e = 0 := by
  unfold byE byD; rw [if_neg (by omega), if_neg (by omega)]; exact ⟨rfl, rfl⟩
theorem pK_err : ∀ (n : Nat) {l : List UInt8} {e : Nat}, e ≠ 0 → (pK n l e).2.2 = e
  | 0, _, _, _ => rfl
  | n + 1, l, e, h => by
    simp only [pK]
    rw [(by_err h).1]; exact pK_err n h
theorem dK_err {n : Nat} {l : List UInt8} {e : Nat} (h : e ≠ 0) : dK n l e = ([], l, e) := by
  cases n with
  | zero => rfl
  | succ n => simp only [dK]; rw [if_pos h]
theorem pdK : ∀ (n : Nat) (l : List UInt8) (e : Nat), (dK n l e).2.2 = (pK n l e).2.2 ∧ ((pK n l e).2.2 = 0 → dK n l e = pK n l e)
  | 0, _, _ => ⟨rfl, fun _ => rfl⟩
  | n + 1, l, e => by
    by_cases h : e ≠ 0
    · rw [dK_err h, pK_err _ h]
      exact ⟨rfl, fun q => absurd q h⟩
    · have := pdK n (l.drop (byD l e)) (byE l e)
      simp only [dK, pK]
      rw [if_neg h]
      exact ⟨this.1, fun q => by rw [this.2 q]⟩
/-- a list of fields, a list of kinds -/
noncomputable def gfP (l : List UInt8) (e : Nat) : List Fe × List UInt8 × Nat := pF (coG l e 255 9).1 (l.drop (nuD l e)) (coG l e 255 9).2
noncomputable def gfD (l : List UInt8) (e : Nat) : List Fe × List UInt8 × Nat := dFs (nuV l e) (l.drop (nuD l e)) (coG l e 255 9).2
noncomputable def gkP (l : List UInt8) (e : Nat) : List Nat × List UInt8 × Nat := pK (coG l e 255 9).1 (l.drop (nuD l e)) (coG l e 255 9).2
noncomputable def gkD (l : List UInt8) (e : Nat) : List Nat × List UInt8 × Nat := dK (nuV l e) (l.drop (nuD l e)) (coG l e 255 9).2
theorem co_big {l : List UInt8} {e : Nat} (h : 255 < nuV l e) : (coG l e 255 9).1 = 0 ∧ (coG l e 255 9).2 ≠ 0 := by
  unfold coG; rw [if_pos h]
  refine ⟨rfl, ?_⟩
  show faE 9 _ ≠ 0
  unfold faE; split
  · decide
  · assumption
theorem co_small {l : List UInt8} {e : Nat} (h : ¬ 255 < nuV l e) : coG l e 255 9 = (nuV l e, nuE l e) := by
  unfold coG; rw [if_neg h]
theorem gf_same (l : List UInt8) (e : Nat) : (gfD l e).2.2 = (gfP l e).2.2 ∧ ((gfP l e).2.2 = 0 → gfD l e = gfP l e) := by
  unfold gfD gfP
  by_cases h : 255 < nuV l e
  · obtain ⟨h1, h2⟩ := co_big h
    rw [dF_err h2, h1]
    exact ⟨rfl, fun q => absurd q h2⟩
  · rw [co_small h]
    exact pdF _ _ _
theorem gk_same (l : List UInt8) (e : Nat) : (gkD l e).2.2 = (gkP l e).2.2 ∧ ((gkP l e).2.2 = 0 → gkD l e = gkP l e) := by
  unfold gkD gkP
  by_cases h : 255 < nuV l e
  · obtain ⟨h1, h2⟩ := co_big h
    rw [dK_err h2, h1]
    exact ⟨rfl, fun q => absurd q h2⟩
  · rw [co_small h]
    exact pdK _ _ _
end Go.Proofs.YtcpmjogeafhpnaaDoor
/- Lists of fields and kinds are read. -/
set_option linter.all false
set_option maxRecDepth 100000
namespace Go.Proofs.YtcpmjogeafhpnaaDoor
open Go.RowKit Go.Sep
attribute [local irreducible] Go.wpList Go.Code.wp

theorem co_le {l : List UInt8} {e N E : Nat} (h : coG l e 255 9 = (N, E)) : N ≤ 255 := by
  unfold coG at h
  split at h
  · cases h; omega
  · cases h; omega
theorem pF_step {n m : Nat} {l L L2 : List UInt8} {e E D K e0 : Nat} {A V : List UInt8} {Fs : List Fe} (h : pF n l e0 = (Fs ++ (pF m L e).1, (pF m L e).2)) (hm : 0 < m) (h1 : fdG L e 255 255 = ⟨K, A, V, D, E⟩) (h2 : L.drop D = L2) :
    pF n l e0 = ((Fs ++ [⟨((K : Nat) : Int), A, V⟩]) ++ (pF (m - 1) L2 E).1, (pF (m - 1) L2 E).2) := by
  obtain ⟨q, rfl⟩ : ∃ q, m = q + 1 := ⟨m - 1, by omega⟩
  rw [h]
  simp only [pF, h1, h2, Nat.add_sub_cancel, List.append_assoc, List.singleton_append]
theorem pK_step {n m : Nat} {l L L2 : List UInt8} {e E D V e0 : Nat} {Fs : List Nat} (h : pK n l e0 = (Fs ++ (pK m L e).1, (pK m L e).2)) (hm : 0 < m) (h1 : byV L e = V) (h3 : byE L e = E) (h4 : byD L e = D) (h2 : L.drop D = L2) :
    pK n l e0 = ((Fs ++ [V]) ++ (pK (m - 1) L2 E).1, (pK (m - 1) L2 E).2) := by
  obtain ⟨q, rfl⟩ : ∃ q, m = q + 1 := ⟨m - 1, by omega⟩
  rw [h]
  simp only [pK, h1, h3, h4, h2, Nat.add_sub_cancel, List.append_assoc, List.singleton_append]
theorem row39_snoc {v : Value} {n : Nat} {Fs : List Fe} {x : Fe} {F : List OB} (h : RowH 39 3 v (n + 1) (fcs Fs ++ [.int .i64 x.k, .string ⟨x.a.toArray⟩, .string ⟨x.v.toArray⟩]) F) (hn : n = Fs.length) : RowH 39 3 v (Fs ++ [x]).length (fcs (Fs ++ [x])) F := by
  subst hn
  rw [fcs_append, List.length_append]
  exact h
theorem row3_snoc {v : Value} {n : Nat} {Fs : List Nat} {x : Nat} {F : List OB} (h : RowH 3 1 v (n + 1) (ic Fs ++ [.int .i64 ((x : Nat) : Int)]) F) (hn : n = Fs.length) : RowH 3 1 v (Fs ++ [x]).length (ic (Fs ++ [x])) F := by
  subst hn
  rw [ic_append, List.length_append]
  exact h

set_option maxHeartbeats 4000000 in
theorem getFields_c {I : IM} {l : List UInt8} {a : Option Addr} {k c r e : Nat} (hl : BSl I l (.slice a k c)) (hn9 : l.length ≤ 1000000) : FunM Tryd.prog 87 #[.pointer (some ⟨r, 0, none⟩)] I [(r, .cells #[.slice a k c, .int .i64 ((e : Nat) : Int)] 126)] (fun v J H' => ∃ (b' : OB) (F' : List OB), H' = b' :: F' ∧ b'.1 = r ∧ ∃ (Fs : List Fe) (E : Nat) (L : List UInt8) (a' : Option Addr) (k' c' : Nat), b' = (r, .cells #[.slice a' k' c', .int .i64 ((E : Nat) : Int)] 126) ∧ BSl J L (.slice a' k' c') ∧ gfP l e = (Fs, L, E) ∧ Fs.length ≤ 255 ∧ L.length ≤ 1000000 ∧ RowH 39 3 v Fs.length (fcs Fs) F') := by
  obtain ⟨rfl, -⟩ := hl.cap
  refine enterM_rule 15 [(0, .pointer (some ⟨r, 0, none⟩))] Tryd.func87 rfl (by kernel_rfl) ?_
  intro w s
  refine wp_seq ?_
  refine region_rule ?_
  refine ops_rule (C := []) [(r, .cells #[.slice a l.length c, .int .i64 ((e : Nat) : Int)] 126)] [] 1 [] 0 (fun φ1 => [(2, .slice none 0 0)]) (fun φ1 => [(r, .cells #[.slice a l.length c, .int .i64 ((e : Nat) : Int)] 126)]) (fun φ1 => []) s trivial (fun φ1 => by kernel_rfl) ?_
  intro φ1 w1 s
  refine ops_done (by kernel_rfl) ?_
  refine wp_seq ?_
  refine region_rule ?_
  refine ops_rule (C := []) [(r, .cells #[.slice a l.length c, .int .i64 ((e : Nat) : Int)] 126)] [] 1 [] 0 (fun φ2 => [(3, .slice none 0 0)]) (fun φ2 => [(r, .cells #[.slice a l.length c, .int .i64 ((e : Nat) : Int)] 126)]) (fun φ2 => []) s trivial (fun φ2 => by kernel_rfl) ?_
  intro φ2 w2 s
  refine ops_done (by kernel_rfl) ?_
  refine wp_seq ?_
  refine wp_seq ?_
  refine region_rule ?_
  refine ops_rule (C := []) [(r, .cells #[.slice a l.length c, .int .i64 ((e : Nat) : Int)] 126)] [] 1 [] 0 (fun φ3 => [(4, .pointer (some ⟨r, 0, none⟩))]) (fun φ3 => [(r, .cells #[.slice a l.length c, .int .i64 ((e : Nat) : Int)] 126)]) (fun φ3 => []) s trivial (fun φ3 => by kernel_rfl) ?_
  intro φ3 w3 s
  refine callB_rule (b := (r, .cells #[.slice a l.length c, .int .i64 ((e : Nat) : Int)] 126)) (H := [(r, .cells #[.slice a l.length c, .int .i64 ((e : Nat) : Int)] 126)]) (F := []) (Hr := []) (some 5) 0 s (by kernel_rfl) (by kernel_rfl) (count_c (r := r) (e := e) (most := 255) (q := 9) hl hn9 (by decide)) (by kernel_rfl) ?_
  rintro v4 I4 w4 b4 le4 - h4 s
  replace hl := BSl.mono le4 hl
  obtain ⟨N4, E4, D4, L4, a4, k4, c4, rfl, rfl, h4_0, h4_1, h4_2, h4_3⟩ := h4
  refine ops_rule (C := []) [(r, .cells #[.slice a4 k4 c4, .int .i64 ((E4 : Nat) : Int)] 126)] [] 1 [] 0 (fun φ5 => [(6, .int .i64 0)]) (fun φ5 => [(r, .cells #[.slice a4 k4 c4, .int .i64 ((E4 : Nat) : Int)] 126)]) (fun φ5 => []) s trivial (fun φ5 => by kernel_rfl) ?_
  intro φ5 w5 s
  refine ops_done (by kernel_rfl) ?_
  refine wp_block ?_
  have hN6 := co_le h4_1
  have hle7 := IM.Le.refl I4
  refine loop_rule (fun (x : Nat × List UInt8 × Option Addr × Nat × Nat × Nat × Value × List OB × List Fe) => [(0, .pointer (some ⟨r, 0, none⟩)), (2, .slice none 0 0), (4, .pointer (some ⟨r, 0, none⟩)), (5, .int .i64 ((N4 : Nat) : Int)), (6, .int .i64 ((x.1 : Nat) : Int)), (3, x.2.2.2.2.2.2.1)]) (fun (x : Nat × List UInt8 × Option Addr × Nat × Nat × Nat × Value × List OB × List Fe) => [(r, .cells #[.slice x.2.2.1 x.2.2.2.1 x.2.2.2.2.1, .int .i64 ((x.2.2.2.2.2.1 : Nat) : Int)] 126)] ++ x.2.2.2.2.2.2.2.1) (fun m (x : Nat × List UInt8 × Option Addr × Nat × Nat × Nat × Value × List OB × List Fe) J => IM.Le I4 J ∧ x.1 + m = N4 ∧ BSl J x.2.1 (.slice x.2.2.1 x.2.2.2.1 x.2.2.2.2.1) ∧ x.2.1.length ≤ 1000000 ∧ RowH 39 3 x.2.2.2.2.2.2.1 (x.2.2.2.2.2.2.2.2).length (fcs x.2.2.2.2.2.2.2.2) x.2.2.2.2.2.2.2.1 ∧ (x.2.2.2.2.2.2.2.2).length = x.1 ∧ pF N4 L4 E4 = (x.2.2.2.2.2.2.2.2 ++ (pF m x.2.1 x.2.2.2.2.2.1).1, (pF m x.2.1 x.2.2.2.2.2.1).2)) (N4) (0, L4, a4, k4, c4, E4, (.slice none 0 0), [], []) s (by kernel_rfl) (List.Sublist.refl _) ⟨IM.Le.refl _, Nat.zero_add _, h4_0, (drop_len9 h4_3 hn9), (RowH.nil 39 3), rfl, rfl⟩ ?_
  rintro m8 ⟨i8, L8, a8, k8, c8, e8, v8, F8, Fs8⟩ I8 w8 ev8 s ⟨le8, hi8_0, hi8_1, hi8_2, hi8_3, hi8_4, hi8_5⟩
  try dsimp only at s hi8_0 hi8_1 hi8_2 hi8_3 hi8_4 hi8_5 ⊢
  replace hl := BSl.mono le8 hl
  replace h4_0 := BSl.mono le8 h4_0
  replace hle7 := leMono le8 hle7
  have hl9 : Fs8.length ≤ 255 := by have e9 := hi8_4; have e8 := hi8_0; omega
  refine wp_seq ?_
  refine region_rule ?_
  refine ops_rule (C := []) [(r, .cells #[.slice a8 k8 c8, .int .i64 ((e8 : Nat) : Int)] 126)] F8 1 [] 0 (fun φ9 => [(7, .bool (decide (((i8 : Nat) : Int) < ((N4 : Nat) : Int))))]) (fun φ9 => [(r, .cells #[.slice a8 k8 c8, .int .i64 ((e8 : Nat) : Int)] 126)]) (fun φ9 => []) s trivial (fun φ9 => by kernel_rfl) ?_
  intro φ9 w9 s
  rw [nat_lss (a := i8) (b := N4)]
  refine ops_done (by kernel_rfl) ?_
  refine wp_seq ?_
  rcases Bool.eq_false_or_eq_true (decide (i8 < N4)) with hc10 | hc10
  ·
    rw [hc10]
    refine cond_true_rule (b := true) (by kernel_rfl) rfl ?_
    refine wp_skip ?_
    refine wp_seq ?_
    refine wp_block ?_
    refine region_rule ?_
    refine ops_rule (C := []) [(r, .cells #[.slice a8 k8 c8, .int .i64 ((e8 : Nat) : Int)] 126)] F8 2 [] 0 (fun φ11 => [(9, .pointer (some ⟨r, 0, none⟩)), (8, v8)]) (fun φ11 => [(r, .cells #[.slice a8 k8 c8, .int .i64 ((e8 : Nat) : Int)] 126)]) (fun φ11 => []) s trivial (fun φ11 => by kernel_rfl) ?_
    intro φ11 w11 s
    refine callB_rule (b := (r, .cells #[.slice a8 k8 c8, .int .i64 ((e8 : Nat) : Int)] 126)) (H := [(r, .cells #[.slice a8 k8 c8, .int .i64 ((e8 : Nat) : Int)] 126)]) (F := F8) (Hr := []) (some 10) 0 s (by kernel_rfl) (by kernel_rfl) (getField_c (r := r) (e := e8) (z1 := 255) (z2 := 255) hi8_1 hi8_2 (by decide) (by decide)) (by kernel_rfl) ?_
    rintro v12 I12 w12 b12 le12 - h12 s
    replace hl := BSl.mono le12 hl
    replace h4_0 := BSl.mono le12 h4_0
    replace hle7 := leMono le12 hle7
    replace hi8_1 := BSl.mono le12 hi8_1
    obtain ⟨K12, A12, V12, E12, D12, L12, a12, k12, c12, rfl, rfl, h12_0, h12_1, h12_2, h12_3⟩ := h12
    refine ops_rule (C := []) [(r, .cells #[.slice a12 k12 c12, .int .i64 ((E12 : Nat) : Int)] 126)] F8 1 [] 1 (fun φ13 => [(11, .slice (some ⟨(φ13 0), 0, none⟩) 1 1)]) (fun φ13 => [(r, .cells #[.slice a12 k12 c12, .int .i64 ((E12 : Nat) : Int)] 126), ((φ13 0), .cells #[.int .i64 ((K12 : Nat) : Int), .string ⟨(A12).toArray⟩, .string ⟨(V12).toArray⟩] 39)]) (fun φ13 => []) s trivial (fun φ13 => by kernel_rfl) ?_
    intro φ13 w13 s
    refine append_rule (H := [(r, .cells #[.slice a12 k12 c12, .int .i64 ((E12 : Nat) : Int)] 126), ((φ13 0), .cells #[.int .i64 ((K12 : Nat) : Int), .string ⟨(A12).toArray⟩, .string ⟨(V12).toArray⟩] 39)]) (F := F8) 22 22 39 Tryd.t39 (.agg #[.int .i64 0, .string ⟨#[]⟩, .string ⟨#[]⟩]) 3 40 (some 12) s Tryd.underlying22 (by kernel_rfl) (by kernel_rfl) (by kernel_rfl) (by kernel_rfl) (by kernel_rfl) (by decide) hi8_3 (src_own s 1 (φ13 0) #[.int .i64 ((K12 : Nat) : Int), .string ⟨(A12).toArray⟩, .string ⟨(V12).toArray⟩] 39 22 39 1 1 3 [.int .i64 ((K12 : Nat) : Int), .string ⟨(A12).toArray⟩, .string ⟨(V12).toArray⟩] (by kernel_rfl) Tryd.underlying22 (by kernel_rfl) (by kernel_rfl) (by kernel_rfl)) (by simp only [maxLen]; omega) (by omega) (by kernel_rfl) ?_
    intro v14 w14 F14 s h14
    refine ops_rule (C := []) [(r, .cells #[.slice a12 k12 c12, .int .i64 ((E12 : Nat) : Int)] 126), ((φ13 0), .cells #[.int .i64 ((K12 : Nat) : Int), .string ⟨(A12).toArray⟩, .string ⟨(V12).toArray⟩] 39)] F14 1 [] 0 (fun φ15 => [(3, v14)]) (fun φ15 => [(r, .cells #[.slice a12 k12 c12, .int .i64 ((E12 : Nat) : Int)] 126), ((φ13 0), .cells #[.int .i64 ((K12 : Nat) : Int), .string ⟨(A12).toArray⟩, .string ⟨(V12).toArray⟩] 39)]) (fun φ15 => []) s trivial (fun φ15 => by kernel_rfl) ?_
    intro φ15 w15 s
    refine ops_done (by kernel_rfl) ?_
    refine region_rule ?_
    refine ops_rule (C := []) [(r, .cells #[.slice a12 k12 c12, .int .i64 ((E12 : Nat) : Int)] 126), ((φ13 0), .cells #[.int .i64 ((K12 : Nat) : Int), .string ⟨(A12).toArray⟩, .string ⟨(V12).toArray⟩] 39)] F14 2 [] 0 (fun φ16 => [(6, .int .i64 (IntKind.wrap .i64 (((i8 : Nat) : Int) + ((1 : Nat) : Int)))), (13, .int .i64 (IntKind.wrap .i64 (((i8 : Nat) : Int) + ((1 : Nat) : Int))))]) (fun φ16 => [(r, .cells #[.slice a12 k12 c12, .int .i64 ((E12 : Nat) : Int)] 126), ((φ13 0), .cells #[.int .i64 ((K12 : Nat) : Int), .string ⟨(A12).toArray⟩, .string ⟨(V12).toArray⟩] 39)]) (fun φ16 => []) s trivial (fun φ16 => by kernel_rfl) ?_
    intro φ16 w16 s
    rw [nat_addI (a := i8) (b := 1) (by have e9 := hi8_4; have e8 := hi8_0; have hq0 := of_decide_eq_true hc10; omega)]
    refine ops_done (by kernel_rfl) ?_
    exact ⟨⟨m8 - 1, (i8 + 1, L12, a12, k12, c12, E12, v14, F14, Fs8 ++ [(⟨((K12 : Nat) : Int), A12, V12⟩ : Fe)]), _, _, _, by have hq0 := of_decide_eq_true hc10; have := hi8_0; omega, rfl, s, (List.Sublist.append (List.Sublist.cons₂ _ (List.Sublist.cons _ List.Sublist.slnil)) (List.Sublist.refl _)), by kernel_rfl, hle7, by have hq0 := of_decide_eq_true hc10; have := hi8_0; show i8 + 1 + (m8 - 1) = N4; omega, h12_0, (drop_len9 h12_3 hi8_2), row39_snoc h14 rfl, by have := hi8_4; show (Fs8 ++ [(⟨((K12 : Nat) : Int), A12, V12⟩ : Fe)]).length = i8 + 1; rw [List.length_append, this]; rfl, pF_step hi8_5 (by have hq0 := of_decide_eq_true hc10; have := hi8_0; omega) h12_1 h12_3⟩⟩
  ·
    rw [hc10]
    refine cond_false_rule (b := false) (by kernel_rfl) rfl ?_
    refine wp_exit ?_
    refine wp_seq ?_
    refine region_rule ?_
    refine ops_rule (C := []) [(r, .cells #[.slice a8 k8 c8, .int .i64 ((e8 : Nat) : Int)] 126)] F8 2 [] 0 (fun φ17 => [(2, v8), (14, v8)]) (fun φ17 => [(r, .cells #[.slice a8 k8 c8, .int .i64 ((e8 : Nat) : Int)] 126)]) (fun φ17 => []) s trivial (fun φ17 => by kernel_rfl) ?_
    intro φ17 w17 s
    refine ops_done (by kernel_rfl) ?_
    refine wp_ret ?_
    refine ret_rule (C := []) [(r, .cells #[.slice a8 k8 c8, .int .i64 ((e8 : Nat) : Int)] 126)] F8 (v8) [] [] s trivial (by kernel_rfl) ?_
    replace s := s.drop (List.Sublist.append (List.Sublist.cons₂ _ List.Sublist.slnil) (List.Sublist.refl F8))
    have hm0 : m8 = 0 := by have hq0 := of_decide_eq_false hc10; have := hi8_0; omega
    have e7 := hi8_5
    rw [hm0] at e7
    simp only [pF, List.append_nil] at e7
    have e6 : gfP l e = (Fs8, L8, e8) := by unfold gfP; rw [h4_1, h4_2, h4_3]; exact e7
    exact ⟨_, _, _, rfl, s, ⟨_, _, rfl, rfl, _, _, _, _, _, _, rfl, hi8_1, e6, hl9, hi8_2, hi8_3⟩⟩

set_option maxHeartbeats 4000000 in
theorem getKinds_c {I : IM} {l : List UInt8} {a : Option Addr} {k c r e : Nat} (hl : BSl I l (.slice a k c)) (hn9 : l.length ≤ 1000000) : FunM Tryd.prog 88 #[.pointer (some ⟨r, 0, none⟩)] I [(r, .cells #[.slice a k c, .int .i64 ((e : Nat) : Int)] 126)] (fun v J H' => ∃ (b' : OB) (F' : List OB), H' = b' :: F' ∧ b'.1 = r ∧ ∃ (Fs : List Nat) (E : Nat) (L : List UInt8) (a' : Option Addr) (k' c' : Nat), b' = (r, .cells #[.slice a' k' c', .int .i64 ((E : Nat) : Int)] 126) ∧ BSl J L (.slice a' k' c') ∧ gkP l e = (Fs, L, E) ∧ Fs.length ≤ 255 ∧ L.length ≤ 1000000 ∧ RowH 3 1 v Fs.length (ic Fs) F') := by
  obtain ⟨rfl, -⟩ := hl.cap
  refine enterM_rule 16 [(0, .pointer (some ⟨r, 0, none⟩))] Tryd.func88 rfl (by kernel_rfl) ?_
  intro w s
  refine wp_seq ?_
  refine region_rule ?_
  refine ops_rule (C := []) [(r, .cells #[.slice a l.length c, .int .i64 ((e : Nat) : Int)] 126)] [] 1 [] 0 (fun φ1 => [(2, .slice none 0 0)]) (fun φ1 => [(r, .cells #[.slice a l.length c, .int .i64 ((e : Nat) : Int)] 126)]) (fun φ1 => []) s trivial (fun φ1 => by kernel_rfl) ?_
  intro φ1 w1 s
  refine ops_done (by kernel_rfl) ?_
  refine wp_seq ?_
  refine region_rule ?_
  refine ops_rule (C := []) [(r, .cells #[.slice a l.length c, .int .i64 ((e : Nat) : Int)] 126)] [] 1 [] 0 (fun φ2 => [(3, .slice none 0 0)]) (fun φ2 => [(r, .cells #[.slice a l.length c, .int .i64 ((e : Nat) : Int)] 126)]) (fun φ2 => []) s trivial (fun φ2 => by kernel_rfl) ?_
  intro φ2 w2 s
  refine ops_done (by kernel_rfl) ?_
  refine wp_seq ?_
  refine wp_seq ?_
  refine region_rule ?_
  refine ops_rule (C := []) [(r, .cells #[.slice a l.length c, .int .i64 ((e : Nat) : Int)] 126)] [] 1 [] 0 (fun φ3 => [(4, .pointer (some ⟨r, 0, none⟩))]) (fun φ3 => [(r, .cells #[.slice a l.length c, .int .i64 ((e : Nat) : Int)] 126)]) (fun φ3 => []) s trivial (fun φ3 => by kernel_rfl) ?_
  intro φ3 w3 s
  refine callB_rule (b := (r, .cells #[.slice a l.length c, .int .i64 ((e : Nat) : Int)] 126)) (H := [(r, .cells #[.slice a l.length c, .int .i64 ((e : Nat) : Int)] 126)]) (F := []) (Hr := []) (some 5) 0 s (by kernel_rfl) (by kernel_rfl) (count_c (r := r) (e := e) (most := 255) (q := 9) hl hn9 (by decide)) (by kernel_rfl) ?_
  rintro v4 I4 w4 b4 le4 - h4 s
  replace hl := BSl.mono le4 hl
  obtain ⟨N4, E4, D4, L4, a4, k4, c4, rfl, rfl, h4_0, h4_1, h4_2, h4_3⟩ := h4
  refine ops_rule (C := []) [(r, .cells #[.slice a4 k4 c4, .int .i64 ((E4 : Nat) : Int)] 126)] [] 1 [] 0 (fun φ5 => [(6, .int .i64 0)]) (fun φ5 => [(r, .cells #[.slice a4 k4 c4, .int .i64 ((E4 : Nat) : Int)] 126)]) (fun φ5 => []) s trivial (fun φ5 => by kernel_rfl) ?_
  intro φ5 w5 s
  refine ops_done (by kernel_rfl) ?_
  refine wp_block ?_
  have hN6 := co_le h4_1
  have hle7 := IM.Le.refl I4
  refine loop_rule (fun (x : Nat × List UInt8 × Option Addr × Nat × Nat × Nat × Value × List OB × List Nat) => [(0, .pointer (some ⟨r, 0, none⟩)), (2, .slice none 0 0), (4, .pointer (some ⟨r, 0, none⟩)), (5, .int .i64 ((N4 : Nat) : Int)), (6, .int .i64 ((x.1 : Nat) : Int)), (3, x.2.2.2.2.2.2.1)]) (fun (x : Nat × List UInt8 × Option Addr × Nat × Nat × Nat × Value × List OB × List Nat) => [(r, .cells #[.slice x.2.2.1 x.2.2.2.1 x.2.2.2.2.1, .int .i64 ((x.2.2.2.2.2.1 : Nat) : Int)] 126)] ++ x.2.2.2.2.2.2.2.1) (fun m (x : Nat × List UInt8 × Option Addr × Nat × Nat × Nat × Value × List OB × List Nat) J => IM.Le I4 J ∧ x.1 + m = N4 ∧ BSl J x.2.1 (.slice x.2.2.1 x.2.2.2.1 x.2.2.2.2.1) ∧ x.2.1.length ≤ 1000000 ∧ RowH 3 1 x.2.2.2.2.2.2.1 (x.2.2.2.2.2.2.2.2).length (ic x.2.2.2.2.2.2.2.2) x.2.2.2.2.2.2.2.1 ∧ (x.2.2.2.2.2.2.2.2).length = x.1 ∧ pK N4 L4 E4 = (x.2.2.2.2.2.2.2.2 ++ (pK m x.2.1 x.2.2.2.2.2.1).1, (pK m x.2.1 x.2.2.2.2.2.1).2)) (N4) (0, L4, a4, k4, c4, E4, (.slice none 0 0), [], []) s (by kernel_rfl) (List.Sublist.refl _) ⟨IM.Le.refl _, Nat.zero_add _, h4_0, (drop_len9 h4_3 hn9), (RowH.nil 3 1), rfl, rfl⟩ ?_
  rintro m8 ⟨i8, L8, a8, k8, c8, e8, v8, F8, Fs8⟩ I8 w8 ev8 s ⟨le8, hi8_0, hi8_1, hi8_2, hi8_3, hi8_4, hi8_5⟩
  try dsimp only at s hi8_0 hi8_1 hi8_2 hi8_3 hi8_4 hi8_5 ⊢
  replace hl := BSl.mono le8 hl
  replace h4_0 := BSl.mono le8 h4_0
  replace hle7 := leMono le8 hle7
  have hl9 : Fs8.length ≤ 255 := by have e9 := hi8_4; have e8 := hi8_0; omega
  refine wp_seq ?_
  refine region_rule ?_
  refine ops_rule (C := []) [(r, .cells #[.slice a8 k8 c8, .int .i64 ((e8 : Nat) : Int)] 126)] F8 1 [] 0 (fun φ9 => [(7, .bool (decide (((i8 : Nat) : Int) < ((N4 : Nat) : Int))))]) (fun φ9 => [(r, .cells #[.slice a8 k8 c8, .int .i64 ((e8 : Nat) : Int)] 126)]) (fun φ9 => []) s trivial (fun φ9 => by kernel_rfl) ?_
  intro φ9 w9 s
  rw [nat_lss (a := i8) (b := N4)]
  refine ops_done (by kernel_rfl) ?_
  refine wp_seq ?_
  rcases Bool.eq_false_or_eq_true (decide (i8 < N4)) with hc10 | hc10
  ·
    rw [hc10]
    refine cond_true_rule (b := true) (by kernel_rfl) rfl ?_
    refine wp_skip ?_
    refine wp_seq ?_
    refine wp_block ?_
    refine region_rule ?_
    refine ops_rule (C := []) [(r, .cells #[.slice a8 k8 c8, .int .i64 ((e8 : Nat) : Int)] 126)] F8 2 [] 0 (fun φ11 => [(9, .pointer (some ⟨r, 0, none⟩)), (8, v8)]) (fun φ11 => [(r, .cells #[.slice a8 k8 c8, .int .i64 ((e8 : Nat) : Int)] 126)]) (fun φ11 => []) s trivial (fun φ11 => by kernel_rfl) ?_
    intro φ11 w11 s
    refine callB_rule (b := (r, .cells #[.slice a8 k8 c8, .int .i64 ((e8 : Nat) : Int)] 126)) (H := [(r, .cells #[.slice a8 k8 c8, .int .i64 ((e8 : Nat) : Int)] 126)]) (F := F8) (Hr := []) (some 10) 0 s (by kernel_rfl) (by kernel_rfl) (byteV_c (r := r) (e := e8) hi8_1 hi8_2) (by kernel_rfl) ?_
    rintro v12 I12 w12 b12 le12 - h12 s
    replace hl := BSl.mono le12 hl
    replace h4_0 := BSl.mono le12 h4_0
    replace hle7 := leMono le12 hle7
    replace hi8_1 := BSl.mono le12 hi8_1
    obtain ⟨V12, E12, D12, L12, a12, k12, c12, rfl, rfl, h12_0, h12_1, h12_2, h12_3, h12_4⟩ := h12
    refine ops_rule (C := []) [(r, .cells #[.slice a12 k12 c12, .int .i64 ((E12 : Nat) : Int)] 126)] F8 2 [] 1 (fun φ13 => [(12, .slice (some ⟨(φ13 0), 0, none⟩) 1 1), (11, .int .i64 (IntKind.wrap .i64 ((V12 : Nat) : Int)))]) (fun φ13 => [(r, .cells #[.slice a12 k12 c12, .int .i64 ((E12 : Nat) : Int)] 126), ((φ13 0), .cells #[.int .i64 (IntKind.wrap .i64 ((V12 : Nat) : Int))] 3)]) (fun φ13 => []) s trivial (fun φ13 => by kernel_rfl) ?_
    intro φ13 w13 s
    rw [nat_wrapI (a := V12) (by have h9 := byV_lt L8 e8; rw [h12_1] at h9; omega)] at s ⊢
    refine append_rule (H := [(r, .cells #[.slice a12 k12 c12, .int .i64 ((E12 : Nat) : Int)] 126), ((φ13 0), .cells #[.int .i64 ((V12 : Nat) : Int)] 3)]) (F := F8) 52 52 3 Tryd.t3 (.int .i64 0) 1 8 (some 13) s Tryd.underlying52 (by kernel_rfl) (by kernel_rfl) (by kernel_rfl) (by kernel_rfl) (by kernel_rfl) (by decide) hi8_3 (src_own s 1 (φ13 0) #[.int .i64 ((V12 : Nat) : Int)] 3 52 3 1 1 1 [.int .i64 ((V12 : Nat) : Int)] (by kernel_rfl) Tryd.underlying52 (by kernel_rfl) (by kernel_rfl) (by kernel_rfl)) (by simp only [maxLen]; omega) (by omega) (by kernel_rfl) ?_
    intro v14 w14 F14 s h14
    refine ops_rule (C := []) [(r, .cells #[.slice a12 k12 c12, .int .i64 ((E12 : Nat) : Int)] 126), ((φ13 0), .cells #[.int .i64 ((V12 : Nat) : Int)] 3)] F14 1 [] 0 (fun φ15 => [(3, v14)]) (fun φ15 => [(r, .cells #[.slice a12 k12 c12, .int .i64 ((E12 : Nat) : Int)] 126), ((φ13 0), .cells #[.int .i64 ((V12 : Nat) : Int)] 3)]) (fun φ15 => []) s trivial (fun φ15 => by kernel_rfl) ?_
    intro φ15 w15 s
    refine ops_done (by kernel_rfl) ?_
    refine region_rule ?_
    refine ops_rule (C := []) [(r, .cells #[.slice a12 k12 c12, .int .i64 ((E12 : Nat) : Int)] 126), ((φ13 0), .cells #[.int .i64 ((V12 : Nat) : Int)] 3)] F14 2 [] 0 (fun φ16 => [(6, .int .i64 (IntKind.wrap .i64 (((i8 : Nat) : Int) + ((1 : Nat) : Int)))), (14, .int .i64 (IntKind.wrap .i64 (((i8 : Nat) : Int) + ((1 : Nat) : Int))))]) (fun φ16 => [(r, .cells #[.slice a12 k12 c12, .int .i64 ((E12 : Nat) : Int)] 126), ((φ13 0), .cells #[.int .i64 ((V12 : Nat) : Int)] 3)]) (fun φ16 => []) s trivial (fun φ16 => by kernel_rfl) ?_
    intro φ16 w16 s
    rw [nat_addI (a := i8) (b := 1) (by have e9 := hi8_4; have e8 := hi8_0; have hq0 := of_decide_eq_true hc10; omega)]
    refine ops_done (by kernel_rfl) ?_
    exact ⟨⟨m8 - 1, (i8 + 1, L12, a12, k12, c12, E12, v14, F14, Fs8 ++ [V12]), _, _, _, by have hq0 := of_decide_eq_true hc10; have := hi8_0; omega, rfl, s, (List.Sublist.append (List.Sublist.cons₂ _ (List.Sublist.cons _ List.Sublist.slnil)) (List.Sublist.refl _)), by kernel_rfl, hle7, by have hq0 := of_decide_eq_true hc10; have := hi8_0; show i8 + 1 + (m8 - 1) = N4; omega, h12_0, (drop_len9 h12_4 hi8_2), row3_snoc h14 rfl, by have := hi8_4; show (Fs8 ++ [V12]).length = i8 + 1; rw [List.length_append, this]; rfl, pK_step hi8_5 (by have hq0 := of_decide_eq_true hc10; have := hi8_0; omega) h12_1 h12_2 h12_3 h12_4⟩⟩
  ·
    rw [hc10]
    refine cond_false_rule (b := false) (by kernel_rfl) rfl ?_
    refine wp_exit ?_
    refine wp_seq ?_
    refine region_rule ?_
    refine ops_rule (C := []) [(r, .cells #[.slice a8 k8 c8, .int .i64 ((e8 : Nat) : Int)] 126)] F8 2 [] 0 (fun φ17 => [(2, v8), (15, v8)]) (fun φ17 => [(r, .cells #[.slice a8 k8 c8, .int .i64 ((e8 : Nat) : Int)] 126)]) (fun φ17 => []) s trivial (fun φ17 => by kernel_rfl) ?_
    intro φ17 w17 s
    refine ops_done (by kernel_rfl) ?_
    refine wp_ret ?_
    refine ret_rule (C := []) [(r, .cells #[.slice a8 k8 c8, .int .i64 ((e8 : Nat) : Int)] 126)] F8 (v8) [] [] s trivial (by kernel_rfl) ?_
    replace s := s.drop (List.Sublist.append (List.Sublist.cons₂ _ List.Sublist.slnil) (List.Sublist.refl F8))
    have hm0 : m8 = 0 := by have hq0 := of_decide_eq_false hc10; have := hi8_0; omega
    have e7 := hi8_5
    rw [hm0] at e7
    simp only [pK, List.append_nil] at e7
    have e6 : gkP l e = (Fs8, L8, e8) := by unfold gkP; rw [h4_1, h4_2, h4_3]; exact e7
    exact ⟨_, _, _, rfl, s, ⟨_, _, rfl, rfl, _, _, _, _, _, _, rfl, hi8_1, e6, hl9, hi8_2, hi8_3⟩⟩

end Go.Proofs.YtcpmjogeafhpnaaDoor
