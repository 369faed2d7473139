/-
  DERIVED: THE SHELF's CONTRACTS AT THIS DUMP, IN PLAIN WORDS (tools/lay-plain.mjs out of 'TrydShelf.lean', which tools/lay-shelf.mjs wrote): THE SAME DECLARATIONS UNDER THE SAME NAMES: 'import', 'namespace', 'open', 'def', 'theorem' AND NOTHING ELSE: no command of the shelf's: FOR A HAND-IN. Each laying: the table of numbers ('.._ren') and one theorem, a field a fact of the dump's own or the kernel's comparison; each contract: ONE APPLICATION.
-/
import Derived.Shelf.Unicode.ValidAny
import Derived.Test.YtcpmjogeafhpnaaDoorProg
import Derived.Test.YtcpmjogeafhpnaaDoorRwM18
import Derived.Test.YtcpmjogeafhpnaaDoorRwM17
import Derived.Shelf.Strings.Builder1
import Derived.Lib.FieldsP
import Derived.Lib.Join
import Derived.Shelf.Strings.OnBuilder
import Derived.Shelf.Strings.FieldsFuncAny
import Derived.WalkKit
namespace Go.Proofs
open Go.Shelf
def Tryd.lays196_ren : Go.Shelf.Ren := ⟨fun | 196 => 99 | 259 => 118 | n => n, fun | 9 => 9 | 4 => 4 | 3 => 3 | 5 => 5 | 12 => 12 | 119 => 150 | 0 => 0 | 46 => 142 | 139 => 153 | 138 => 152 | 53 => 114 | n => n, fun | 3 => 1 | 4 => 2 | n => n⟩
theorem Tryd.lays196 : Go.Proofs.Lays.n196 Tryd.prog Tryd.lays196_ren := {
  mixed := by kernel_rfl
  f196 := Tryd.func99.trans (congrArg some (by kernel_rfl))
  f259 := Tryd.func118.trans (congrArg some (by kernel_rfl))
  t0 := Tryd.underlying0
  a0 := Tryd.isAgg0
  z0 := Tryd.sizeOf0
  v0 := Tryd.zeroValue0
  t3 := Tryd.underlying3
  a3 := Tryd.isAgg3
  z3 := Tryd.sizeOf3
  v3 := Tryd.zeroValue3
  t4 := Tryd.underlying4
  a4 := Tryd.isAgg4
  z4 := Tryd.sizeOf4
  v4 := Tryd.zeroValue4
  t5 := Tryd.underlying5
  a5 := Tryd.isAgg5
  z5 := Tryd.sizeOf5
  v5 := Tryd.zeroValue5
  t9 := Tryd.underlying9
  a9 := Tryd.isAgg9
  z9 := Tryd.sizeOf9
  v9 := Tryd.zeroValue9
  t12 := Tryd.underlying12
  a12 := Tryd.isAgg12
  z12 := Tryd.sizeOf12
  v12 := Tryd.zeroValue12
  t46 := Tryd.underlying142
  a46 := Tryd.isAgg142
  z46 := Tryd.sizeOf142
  v46 := Tryd.zeroValue142
  t53 := Tryd.underlying114
  a53 := Tryd.isAgg114
  z53 := Tryd.sizeOf114
  v53 := Tryd.zeroValue114
  t119 := Tryd.underlying150
  a119 := Tryd.isAgg150
  z119 := Tryd.sizeOf150
  t138 := Tryd.underlying152
  a138 := Tryd.isAgg152
  z138 := Tryd.sizeOf152
  v138 := Tryd.zeroValue152
  t139 := Tryd.underlying153
  a139 := Tryd.isAgg153
  z139 := Tryd.sizeOf153
  v139 := Tryd.zeroValue153
  g3 := by kernel_rfl
  g4 := by kernel_rfl }
open Go.RowKit in
/-- utf8.ValidString -/
theorem Tryd.utf8_ValidString (s : ByteArray) (w : World) (hs : s.size ≤ 9223372036854775807) (hT : Lib.Utf8Tabs 1 2 w) :
    Calls Tryd.prog 99 #[.string s] w fun e w' => e = .returned (.bool (Lib.validD s.data.toList)) ∧ Below w.heap.size w w' := Any.utf8_ValidString Tryd.lays196 s w hs hT
end Go.Proofs

/- utf8.ValidString. -/
set_option linter.all false
set_option maxRecDepth 100000
namespace Go.Proofs.YtcpmjogeafhpnaaDoor.Tx
open Go.RowKit Go.Sep
/-- the library's two tables are there -/
def U8 (I : IM) : Prop := ∀ w, I.Sub w → Lib.Utf8Tabs 1 2 w
theorem U8.mono {I J : IM} (le : I.Le J) (h : U8 I) : U8 J := fun w hw => h w (fun k o e => hw k o (le k o e))
theorem st_below {I : IM} {w w' : World} (hw : I.Sub w) (b : Below w.heap.size w w') : St w I [] I w' [] where
  sub k o e := (b.block k (hw.lt e)).trans (hw k o e)
  le := IM.Le.refl _
  new _ _ _ := rfl
  fr := ⟨b.os, b.tape, b.output, b.size, fun k hk _ => b.block k hk⟩
  own := by simp
  free := by simp
  fresh := by simp
  nodup := by simp
theorem valid_c {I : IM} {l : List UInt8} (hT : U8 I) (hn : l.length ≤ 1000000000) : Fun Tryd.prog 99 #[.string ⟨l.toArray⟩] I (fun v J => v = .bool (Lib.validD l)) := fun w hw =>
  (Tryd.utf8_ValidString ⟨l.toArray⟩ w (show l.length ≤ _ by omega) (hT w hw)).mono fun e w' ⟨he, b⟩ => by subst he; exact ⟨_, I, [], rfl, st_below hw b, rfl⟩
theorem ck_bad1 {l : List UInt8} {mi : Int} (h : ¬ ((l.length : Int) > mi)) (e : Lib.validD l = false) : Value.int .i64 7 = .int .i64 ((ckE l mi : Nat) : Int) := ck_bad h (by rw [okS_eq, e]; rfl)
theorem pl_bad {l : List UInt8} {p : Nat} (h : p < l.length) (hg : plainD (dR l p, dW l p) = false) (e : (steps l).all plainD = (steps (l.drop p)).all plainD) : okS l = false := by
  rw [okS_eq, e, steps_at h, List.all_cons, hg]; simp
theorem pl_end {l : List UInt8} {p : Nat} (h : ¬ p < l.length) (hv : Lib.validD l = true) (e : (steps l).all plainD = (steps (l.drop p)).all plainD) : okS l = true := by
  rw [okS_eq, e, steps_end h, hv]; rfl
theorem pl_go {l : List UInt8} {p : Nat} (h : p < l.length) (hg : plainD (dR l p, dW l p) = true) (e : (steps l).all plainD = (steps (l.drop p)).all plainD) : (steps l).all plainD = (steps (l.drop (p + dW l p))).all plainD := by
  rw [e, steps_at h, List.all_cons, hg]; rfl
theorem pl_1 {r w : Nat} (h : r < 32) : plainD (r, w) = false := by unfold plainD; simp [h]
theorem pl_2 {r w : Nat} (h : r = 127) : plainD (r, w) = false := by unfold plainD; simp [h]
theorem pl_3 {r w : Nat} (h : ¬ r < 32) (h2 : ¬ r = 127) : plainD (r, w) = true := by unfold plainD; simp [h, h2]
end Go.Proofs.YtcpmjogeafhpnaaDoor.Tx

/- The program's Check. -/
set_option linter.all false
set_option maxRecDepth 100000
namespace Go.Proofs.YtcpmjogeafhpnaaDoor.Tx
open Go.RowKit Go.Sep
attribute [local irreducible] Go.wpList Go.Code.wp

set_option maxHeartbeats 2000000 in
theorem check_c {I : IM} {l : List UInt8} (hT : U8 I) (hn : l.length ≤ 1000000) {mi : Int} : Fun Tryd.prog 60 #[.string ⟨(l).toArray⟩, .int .i64 mi] I (fun v J => v = .int .i64 ((ckE l mi : Nat) : Int)) := by
 refine enter_rule 25 [(0, .string ⟨(l).toArray⟩), (1, .int .i64 mi)] Tryd.func60 rfl (by kernel_rfl) ?_
 intro w s
 refine seqR ?_
 refine oKD [] [] 1 [] 0 (fun φ1 => [(4, .int .i64 0)]) (fun φ1 => []) s (fun φ1 => by kernel_rfl) (by kernel_rfl) ?_
 intro φ1 w1 s
 refine wp_seq ?_
 refine seqR ?_
 refine oKD [] [] 4 [] 0 (fun φ2 => [(10, .bool (decide (((l.length : Nat) : Int) > mi))), (9, .int .i64 mi), (8, .int .i64 l.length), (7, .string ⟨(l).toArray⟩)]) (fun φ2 => []) s (fun φ2 => by kernel_rfl) (by kernel_rfl) ?_
 intro φ2 w2 s
 rcases Bool.eq_false_or_eq_true (decide (((l.length : Nat) : Int) > mi)) with hc3 | hc3
 ·
  rw [hc3]
  refine cond_true_rule (b := true) (by kernel_rfl) rfl ?_
  refine seqR ?_
  refine oKD [] [] 1 [] 0 (fun φ4 => [(4, .int .i64 9)]) (fun φ4 => []) s (fun φ4 => by kernel_rfl) (by kernel_rfl) ?_
  intro φ4 w4 s
  refine wp_ret ?_
  refine ret_rule (C := []) [] [] (.int .i64 9) [] [] s trivial (by kernel_rfl) ?_
  exact ⟨_, _, _, rfl, s, (ck_long (dT9 hc3))⟩
 ·
  rw [hc3]
  refine cond_false_rule (b := false) (by kernel_rfl) rfl ?_
  refine wp_skip ?_
  refine wp_seq ?_
  refine seqR ?_
  refine oK [] [] 1 [] 0 (fun φ5 => [(11, .string ⟨(l).toArray⟩)]) (fun φ5 => []) s (fun φ5 => by kernel_rfl) ?_
  intro φ5 w5 s
  refine call_rule (some 12) s (valid_c (l := l) hT (by omega)) (by kernel_rfl) ?_
  intro v6 I6 w6 le6 h6 s
  obtain rfl := h6
  refine oKD [] [] 1 [] 0 (fun φ7 => [(13, .bool (!(Lib.validD l)))]) (fun φ7 => []) s (fun φ7 => by kernel_rfl) (by kernel_rfl) ?_
  intro φ7 w7 s
  rcases Bool.eq_false_or_eq_true (Lib.validD l) with hc8 | hc8
  ·
   rw [hc8]
   refine cond_false_rule (b := false) (by kernel_rfl) rfl ?_
   refine wp_skip ?_
   refine wp_seq ?_
   refine seqR ?_
   refine oK [] [] 1 [] 0 (fun φ9 => [(14, .string ⟨(l).toArray⟩)]) (fun φ9 => []) s (fun φ9 => by kernel_rfl) ?_
   intro φ9 w9 s
   obtain ⟨k10, w10, hr10, s⟩ := range_new (H := []) s ⟨(l).toArray⟩
   refine sem_rule (Instr.range 9 (.string ⟨(l).toArray⟩)) (some 15) (pB k10) (by kernel_rfl) hr10 ?_
   refine ops_done (by kernel_rfl) ?_
   refine wp_block ?_
   have hle11 := IM.Le.refl I6
   refine loop_rule (fun (x : Nat) => [(0, .string ⟨(l).toArray⟩), (1, .int .i64 mi), (4, .int .i64 0), (15, pB k10)]) (fun (x : Nat) => [(k10, .stringIter ⟨(l).toArray⟩ x)]) (fun m (x : Nat) J => IM.Le I6 J ∧ l.length ≤ x + m ∧ (steps l).all plainD = (steps (l.drop x)).all plainD) (l.length) 0 s (by kernel_rfl) (List.Sublist.cons₂ _ List.Sublist.slnil) ⟨IM.Le.refl _, by omega, rfl⟩ ?_
   rintro m12 p12 I12 w12 ev12 s ⟨le12, hi12_0, hi12_1⟩
   try dsimp only at s hi12_0 hi12_1 ⊢
   replace hle11 := leMono le12 hle11
   refine seqR ?_
   rcases Bool.eq_false_or_eq_true (decide (p12 < l.length)) with hc13 | hc13
   ·
    obtain ⟨w14, hr14, s⟩ := next_own (k := k10) (pos := p12) (l := l) (ty := 0) s (dT9 hc13)
    refine sem_rule (Instr.next (pB k10) true 0) (some 16) (.tuple #[.bool true, .int .i64 p12, .int .i32 (dR l p12)]) (by kernel_rfl) hr14 ?_
    refine oKD _ [] 1 [] 0 (fun φ15 => [(17, .bool true)]) (fun φ15 => []) s (fun φ15 => by kernel_rfl) (by kernel_rfl) ?_
    intro φ15 w15 s
    refine wp_seq ?_
    refine cond_true_rule (b := true) (by kernel_rfl) rfl ?_
    refine wp_skip ?_
    refine wp_block ?_
    refine seqR ?_
    refine oKD _ [] 2 [] 0 (fun φ16 => [(6, .int .i32 (dR l p12)), (18, .int .i32 (dR l p12))]) (fun φ16 => []) s (fun φ16 => by kernel_rfl) (by kernel_rfl) ?_
    intro φ16 w16 s
    refine seqR ?_
    refine oK _ [] 3 [] 0 (fun φ17 => [(21, .bool (decide (((dR l p12 : Nat) : Int) < ((32 : Nat) : Int)))), (20, .bool (decide (((dR l p12 : Nat) : Int) < ((32 : Nat) : Int)))), (19, .int .i32 (dR l p12))]) (fun φ17 => []) s (fun φ17 => by kernel_rfl) ?_
    intro φ17 w17 s
    rw [nat_lss (a := (dR l p12)) (b := 32)]
    rcases Bool.eq_false_or_eq_true (decide ((dR l p12) < 32)) with hc18 | hc18
    ·
     rw [hc18]
     refine oKD _ [] 3 [] 0 (fun φ19 => [(24, .bool true), (23, undef), (22, undef)]) (fun φ19 => []) s (fun φ19 => by kernel_rfl) (by kernel_rfl) ?_
     intro φ19 w19 s
     refine cond_true_rule (b := true) (by kernel_rfl) rfl ?_
     refine seqR ?_
     refine oKD _ [] 1 [] 0 (fun φ20 => [(4, .int .i64 7)]) (fun φ20 => []) s (fun φ20 => by kernel_rfl) (by kernel_rfl) ?_
     intro φ20 w20 s
     refine wp_ret ?_
     refine ret_rule (C := []) _ [] (.int .i64 7) [] [] s trivial (by kernel_rfl) ?_
     exact ⟨_, _, _, rfl, s, (ck_bad (dF9 hc3) (pl_bad (dT9 hc13) (pl_1 (dT9 hc18)) hi12_1))⟩
    ·
     rw [hc18]
     refine oK _ [] 3 [] 0 (fun φ21 => [(24, .bool (((dR l p12 : Nat) : Int) == ((127 : Nat) : Int))), (23, .bool (((dR l p12 : Nat) : Int) == ((127 : Nat) : Int))), (22, .int .i32 (dR l p12))]) (fun φ21 => []) s (fun φ21 => by kernel_rfl) ?_
     intro φ21 w21 s
     rw [nat_eql (a := (dR l p12)) (b := 127)]
     refine ops_done (by kernel_rfl) ?_
     rcases Bool.eq_false_or_eq_true (decide ((dR l p12) = 127)) with hc22 | hc22
     ·
      rw [hc22]
      refine cond_true_rule (b := true) (by kernel_rfl) rfl ?_
      refine seqR ?_
      refine oKD _ [] 1 [] 0 (fun φ23 => [(4, .int .i64 7)]) (fun φ23 => []) s (fun φ23 => by kernel_rfl) (by kernel_rfl) ?_
      intro φ23 w23 s
      refine wp_ret ?_
      refine ret_rule (C := []) _ [] (.int .i64 7) [] [] s trivial (by kernel_rfl) ?_
      exact ⟨_, _, _, rfl, s, (ck_bad (dF9 hc3) (pl_bad (dT9 hc13) (pl_2 (dT9 hc22)) hi12_1))⟩
     ·
      rw [hc22]
      refine cond_false_rule (b := false) (by kernel_rfl) rfl ?_
      refine wp_skip ?_
      have hq9 := dT9 hc13
      have hw9 := dW_pos l p12
      have hv9 := dW_le hq9
      exact ⟨⟨m12 - 1, p12 + dW l p12, _, _, _, by omega, rfl, s, (List.Sublist.cons₂ _ List.Sublist.slnil), by kernel_rfl, hle11, by show l.length ≤ p12 + dW l p12 + (m12 - 1); omega, pl_go hq9 (pl_3 (dF9 hc18) (dF9 hc22)) hi12_1⟩⟩
   ·
    refine sem_rule (Instr.next (pB k10) true 0) (some 16) (.tuple #[.bool false]) (by kernel_rfl) (next_end (k := k10) (pos := p12) (l := l) (ty := 0) s (dF9 hc13)) ?_
    refine oKD [(k10, .stringIter ⟨(l).toArray⟩ p12)] [] 1 [] 0 (fun φ25 => [(17, .bool false)]) (fun φ25 => []) s (fun φ25 => by kernel_rfl) (by kernel_rfl) ?_
    intro φ25 w25 s
    refine wp_seq ?_
    refine cond_false_rule (b := false) (by kernel_rfl) rfl ?_
    refine wp_exit ?_
    refine seqR ?_
    refine oKD _ [] 1 [] 0 (fun φ26 => [(4, .int .i64 0)]) (fun φ26 => []) s (fun φ26 => by kernel_rfl) (by kernel_rfl) ?_
    intro φ26 w26 s
    refine wp_ret ?_
    refine ret_rule (C := []) _ [] (.int .i64 0) [] [] s trivial (by kernel_rfl) ?_
    exact ⟨_, _, _, rfl, s, (ck_good (dF9 hc3) (pl_end (dF9 hc13) hc8 hi12_1))⟩
  ·
   rw [hc8]
   refine cond_true_rule (b := true) (by kernel_rfl) rfl ?_
   refine seqR ?_
   refine oKD [] [] 1 [] 0 (fun φ27 => [(4, .int .i64 7)]) (fun φ27 => []) s (fun φ27 => by kernel_rfl) (by kernel_rfl) ?_
   intro φ27 w27 s
   refine wp_ret ?_
   refine ret_rule (C := []) [] [] (.int .i64 7) [] [] s trivial (by kernel_rfl) ?_
   exact ⟨_, _, _, rfl, s, (ck_bad1 (dF9 hc3) hc8)⟩

end Go.Proofs.YtcpmjogeafhpnaaDoor.Tx

/- Texts that are joined, and cut. -/
set_option linter.all false
set_option maxRecDepth 100000
namespace Go.Proofs.YtcpmjogeafhpnaaDoor.Tx
open Go.RowKit Go.Sep Go.Lib
theorem getD_takeU (l : List UInt8) (k i : Nat) (h : i < k) : (l.take k).getD i 0 = l.getD i 0 := by simp [List.getD, List.getElem?_take, h]
end Go.Proofs.YtcpmjogeafhpnaaDoor.Tx

/- Quoted bytes; a builder's calls. -/
set_option linter.all false
set_option maxRecDepth 100000
namespace Go.Proofs.YtcpmjogeafhpnaaDoor.Tx
open Go.RowKit Go.Sep
theorem take_snoc {l : List UInt8} {i : Nat} (h : i < l.length) : l.take (i + 1) = l.take i ++ [l.getD i 0] := by
  rw [List.take_succ, getD_some h]; rfl
section
variable {w0 : World} {I0 : IM} {I : IM}
end
end Go.Proofs.YtcpmjogeafhpnaaDoor.Tx

/- Blanks. -/
set_option linter.all false
set_option maxRecDepth 100000
namespace Go.Proofs.YtcpmjogeafhpnaaDoor.Tx
open Go.RowKit Go.Sep Go.Lib
/-- the words of a text -/
def wd : List UInt8 → List UInt8 → List (List UInt8)
  | acc, [] => if acc = [] then [] else [acc]
  | acc, b :: l => if b = 32 then (if acc = [] then wd [] l else acc :: wd [] l) else wd (acc ++ [b]) l
def fldS (l : List UInt8) : List UInt8 := join (wd [] l) [32]
theorem wd_lead (l : List UInt8) : wd [] (32 :: l) = wd [] l := by simp [wd]
theorem wd_end (a : UInt8) : ∀ (l acc : List UInt8), wd acc (l ++ [32]) = wd acc l
  | [], acc => by
    by_cases h : acc = []
    · subst h; simp [wd]
    · simp [wd, h]
  | b :: l, acc => by
    simp only [List.cons_append, wd, wd_end a l]
theorem wd_two : ∀ (x y acc : List UInt8), wd acc (x ++ 32 :: 32 :: y) = wd acc (x ++ 32 :: y)
  | [], y, acc => by
    by_cases h : acc = []
    · subst h; simp [wd]
    · simp [wd, h]
  | b :: x, y, acc => by
    simp only [List.cons_append, wd, wd_two x y]
theorem wd_plain : ∀ (x acc y : List UInt8), (∀ b ∈ x, b ≠ 32) → wd acc (x ++ y) = wd (acc ++ x) y
  | [], acc, y, _ => by simp
  | b :: x, acc, y, h => by
    have hb : ¬ b = 32 := h b (by simp)
    rw [List.cons_append]
    show (if b = 32 then _ else wd (acc ++ [b]) (x ++ y)) = _
    rw [if_neg hb, wd_plain x (acc ++ [b]) y (fun c hc => h c (by simp [hc])), List.append_assoc]
    rfl
theorem join_cc (x y : List UInt8) (r : List (List UInt8)) : join (x :: y :: r) [32] = x ++ 32 :: join (y :: r) [32] := by
  rw [join_cons, join_cons]; simp [joinTail]
theorem wd_len : ∀ (l acc : List UInt8), (join (wd acc l) [32]).length ≤ acc.length + l.length
  | [], acc => by
    by_cases h : acc = []
    · subst h; simp [wd, join_nil]
    · simp [wd, h, join_one]
  | b :: l, acc => by
    unfold wd
    by_cases hb : b = 32
    · rw [if_pos hb]
      have ih := wd_len l []
      by_cases h : acc = []
      · rw [if_pos h, List.length_cons]; simp at ih; omega
      · rw [if_neg h]
        cases e : wd [] l with
        | nil => rw [join_one, List.length_cons]; omega
        | cons y r => rw [e] at ih; rw [join_cc]; simp at ih ⊢; omega
    · rw [if_neg hb]
      have ih := wd_len l (acc ++ [b])
      rw [List.length_append, List.length_cons, List.length_nil] at ih
      rw [List.length_cons]; omega
theorem fldS_len (l : List UInt8) : (fldS l).length ≤ l.length := by have := wd_len l []; simpa [fldS] using this
/-- nothing to fold -/
def tidy : List UInt8 → Prop
  | [] => True
  | [b] => b ≠ 32
  | b :: c :: l => ¬ (b = 32 ∧ c = 32) ∧ tidy (c :: l)
theorem tidy_join : ∀ (l acc : List UInt8), tidy l → (acc = [] → ∀ b r, l = b :: r → b ≠ 32) → join (wd acc l) [32] = acc ++ l
  | [], acc, _, _ => by
    by_cases h : acc = []
    · subst h; simp [wd, join_nil]
    · simp [wd, h, join_one]
  | b :: l, acc, ht, hs => by
    have ht' : tidy l := by
      cases l with
      | nil => trivial
      | cons c l => exact ht.2
    unfold wd
    by_cases hb : b = 32
    · rw [if_pos hb]
      have ha : ¬ acc = [] := fun q => hs q b l rfl hb
      rw [if_neg ha]
      cases l with
      | nil => exact absurd hb ht
      | cons c l =>
        have hc : ¬ c = 32 := fun q => ht.1 ⟨hb, q⟩
        have ih := tidy_join (c :: l) [] ht' (fun _ b' r' e => by cases e; exact hc)
        cases e : wd [] (c :: l) with
        | nil => rw [e, join_nil] at ih; cases ih
        | cons y r => rw [e] at ih; rw [join_cc, ih, hb]; rfl
    · rw [if_neg hb]
      have ih := tidy_join l (acc ++ [b]) ht' (fun q => by simp at q)
      rw [ih]; simp
theorem fldS_tidy {l : List UInt8} (h : tidy l) (h0 : ∀ b r, l = b :: r → b ≠ 32) : fldS l = l := by
  have := tidy_join l [] h (fun _ => h0)
  simpa [fldS] using this
/-- a blank is a sign of its own -/
theorem dec_byte {l : List UInt8} {k : Nat} (hk : k < (decodeL l).2) (hg : badD (decodeL l) = false) (h1 : 1 ≤ k) : 128 ≤ (l.getD k 0).toNat := by
  have h := decodeL_N l
  rw [h] at hk
  rcases decodeN_shape l.length (l.getD 0 0).toNat (l.getD 1 0).toNat (l.getD 2 0).toNat (l.getD 3 0).toNat with ⟨c, e⟩ | ⟨c1, c2, c3, cv, e⟩ | ⟨c1, c2, c3, c4, cv, cs, e⟩ | ⟨c1, c2, c3, c4, c5, cv, cw, e⟩ | e
  · rw [e] at hk; dsimp only at hk; omega
  · rw [e] at hk; dsimp only at hk
    obtain rfl : k = 1 := by omega
    omega
  · rw [e] at hk; dsimp only at hk
    rcases (by omega : k = 1 ∨ k = 2) with rfl | rfl <;> omega
  · rw [e] at hk; dsimp only at hk
    rcases (by omega : k = 1 ∨ k = 2 ∨ k = 3) with rfl | rfl | rfl <;> omega
  · rw [e] at hk; dsimp only at hk; omega
theorem dec_32 {l : List UInt8} (h : (l.getD 0 0).toNat = 32) : decodeL l = (32, 1) := by
  rw [decodeL_N, h]; unfold decodeN; rw [if_pos (by decide)]
theorem dec_is32 {l : List UInt8} (h : (decodeL l).1 = 32) : (l.getD 0 0).toNat = 32 := by
  rw [decodeL_N] at h
  rcases decodeN_shape l.length (l.getD 0 0).toNat (l.getD 1 0).toNat (l.getD 2 0).toNat (l.getD 3 0).toNat with ⟨c, e⟩ | ⟨c1, c2, c3, cv, e⟩ | ⟨c1, c2, c3, c4, cv, cs, e⟩ | ⟨c1, c2, c3, c4, c5, cv, cw, e⟩ | e
  all_goals (rw [e] at h; dsimp only at h; omega)
theorem dec_one {l : List UInt8} (hb : badD (decodeL l) = true) : (decodeL l).2 = 1 := (dT9 hb).2
end Go.Proofs.YtcpmjogeafhpnaaDoor.Tx

/- The library's fields are the words. -/
set_option linter.all false
set_option maxRecDepth 100000
namespace Go.Proofs.YtcpmjogeafhpnaaDoor.Tx
open Go.RowKit Go.Sep Go.Lib
def pB (r : Nat) : Bool := decide (r = 32)
def piece (l : List UInt8) (x : Nat × Nat) : List UInt8 := (l.drop x.1).take (x.2 - x.1)
def stL (l : List UInt8) (pos : Nat) : Option Nat → List UInt8
  | some a => piece l (a, pos)
  | none => []
theorem piece_ne {l : List UInt8} {a pos : Nat} (h : a < pos) (h2 : pos ≤ l.length) : piece l (a, pos) ≠ [] := fun e => by
  have := congrArg List.length e
  simp [piece] at this; omega
theorem piece_more {l : List UInt8} {a pos w : Nat} (h : a ≤ pos) : piece l (a, pos + w) = piece l (a, pos) ++ (l.drop pos).take w := by
  unfold piece
  dsimp only
  rw [show pos + w - a = (pos - a) + w by omega, List.take_add, List.drop_drop, show a + (pos - a) = pos by omega]
theorem sgn_no32 {l : List UInt8} {pos : Nat} (h : pos < l.length) (hr : ¬ (decodeL (l.drop pos)).1 = 32) : ∀ b ∈ (l.drop pos).take (decodeL (l.drop pos)).2, b ≠ 32 := by
  intro b hb e
  obtain ⟨k, hk, hbk⟩ := List.getElem_of_mem hb
  rw [List.length_take] at hk
  have hk2 : k < (decodeL (l.drop pos)).2 := by omega
  have hg : (l.drop pos).getD k 0 = 32 := by
    have h3 : k < (l.drop pos).length := by omega
    have h4 : (l.drop pos)[k] = b := by rw [← hbk, List.getElem_take]
    rw [← e, ← h4, List.getD, List.getElem?_eq_getElem h3]; rfl
  by_cases hk0 : k = 0
  · subst hk0
    exact hr (by rw [dec_32 (by rw [hg]; rfl)])
  · cases hbad : badD (decodeL (l.drop pos)) with
    | true => have := dec_one hbad; omega
    | false =>
      have := dec_byte hk2 hbad (by omega)
      rw [hg] at this; exact absurd this (by decide)
theorem getD_drop0 (l : List UInt8) (pos : Nat) : (l.drop pos).getD 0 0 = l.getD pos 0 := by simp [List.getD, List.getElem?_drop]
set_option maxHeartbeats 1000000 in
theorem spans_wd (l : List UInt8) : ∀ (f pos : Nat) (st : Option Nat) (acc : List (Nat × Nat)), l.length ≤ pos + f → (∀ a, st = some a → a < pos) → pos ≤ l.length →
    (closeSpans ⟨l.toArray⟩ (spansFromP pB ⟨l.toArray⟩ f pos st acc)).map (piece l) = acc.map (piece l) ++ wd (stL l pos st) (l.drop pos)
  | 0, pos, st, acc, hf, hs, hp => by
    have hpl : pos = l.length := by omega
    rw [List.drop_of_length_le (by omega)]
    cases st with
    | none => simp [spansFromP, closeSpans, stL, wd]
    | some a =>
      have hne := piece_ne (hs a rfl) hp
      show ((acc ++ [(a, l.length)]).map (piece l)) = _
      rw [← hpl]
      show _ = acc.map (piece l) ++ (if piece l (a, pos) = [] then [] else [piece l (a, pos)])
      rw [if_neg hne]; simp
  | f + 1, pos, st, acc, hf, hs, hp => by
    by_cases hlt : pos < l.length
    · have hsz : pos < (⟨l.toArray⟩ : ByteArray).size := hlt
      have hw := dW_pos l pos
      have hle := dW_le hlt
      unfold spansFromP
      rw [if_pos hsz, dec_at]
      by_cases hr : (decodeL (l.drop pos)).1 = 32
      · rw [show pB (decodeL (l.drop pos)).1 = true from decide_eq_true hr]
        have h32 := dec_is32 hr
        have hd : decodeL (l.drop pos) = (32, 1) := dec_32 h32
        have hb : l.getD pos 0 = 32 := by rw [← getD_drop0]; exact UInt8.toNat_inj.1 h32
        have hdr : l.drop pos = 32 :: l.drop (pos + 1) := by rw [drop_cons hlt, hb]
        rw [if_pos rfl, hd]
        cases st with
        | none =>
          dsimp only
          rw [spans_wd l f (pos + 1) none acc (by omega) (by simp) (by omega), hdr]
          simp [stL, wd]
        | some a =>
          dsimp only
          have hne := piece_ne (hs a rfl) hp
          rw [spans_wd l f (pos + 1) none (acc ++ [(a, pos)]) (by omega) (by simp) (by omega), hdr]
          show _ = acc.map (piece l) ++ (if (32 : UInt8) = 32 then (if piece l (a, pos) = [] then _ else piece l (a, pos) :: wd [] (l.drop (pos + 1))) else _)
          rw [if_pos rfl, if_neg hne]
          simp [stL]
      · rw [show pB (decodeL (l.drop pos)).1 = false from decide_eq_false hr]
        have hno := sgn_no32 hlt hr
        have hsp : l.drop pos = (l.drop pos).take (decodeL (l.drop pos)).2 ++ l.drop (pos + (decodeL (l.drop pos)).2) := by
          rw [← List.drop_drop, List.take_append_drop]
        have e2 : (decodeL (l.drop pos)).2 = dW l pos := rfl
        rw [if_neg (by simp)]
        cases st with
        | none =>
          dsimp only
          rw [spans_wd l f (pos + (decodeL (l.drop pos)).2) (some pos) acc (by omega) (fun a ha => by cases ha; omega) (by omega)]
          conv => rhs; rw [hsp, wd_plain _ _ _ hno]
          rw [show stL l (pos + (decodeL (l.drop pos)).2) (some pos) = piece l (pos, pos + (decodeL (l.drop pos)).2) from rfl, piece_more (Nat.le_refl _)]
          rw [show piece l (pos, pos) = [] by simp [piece]]
          rfl
        | some a =>
          dsimp only
          have ha := hs a rfl
          rw [spans_wd l f (pos + (decodeL (l.drop pos)).2) (some a) acc (by omega) (fun a' ha' => by cases ha'; omega) (by omega)]
          conv => rhs; rw [hsp, wd_plain _ _ _ hno]
          rw [show stL l (pos + (decodeL (l.drop pos)).2) (some a) = piece l (a, pos + (decodeL (l.drop pos)).2) from rfl, piece_more (by omega)]
          rfl
    · have hpl : pos = l.length := by omega
      rw [spansFromP_end pB ⟨l.toArray⟩ (f + 1) pos st acc hlt, List.drop_of_length_le (by omega)]
      cases st with
      | none => simp [closeSpans, stL, wd]
      | some a =>
        have hne := piece_ne (hs a rfl) hp
        show ((acc ++ [(a, l.length)]).map (piece l)) = _
        rw [← hpl]
        show _ = acc.map (piece l) ++ (if piece l (a, pos) = [] then [] else [piece l (a, pos)])
        rw [if_neg hne]; simp
theorem fields_wd (l : List UInt8) : (goFieldsP pB ⟨l.toArray⟩).map (·.data.toList) = wd [] l := by
  unfold goFieldsP spansOfP
  rw [List.map_map]
  have h := spans_wd l l.length 0 none [] (by omega) (by simp) (by omega)
  have e : ((·.data.toList) ∘ fun x : Nat × Nat => (⟨l.toArray⟩ : ByteArray).extract x.1 x.2) = piece l := by
    funext x
    show ((⟨l.toArray⟩ : ByteArray).extract x.1 x.2).data.toList = _
    rw [mid_string]; rfl
  rw [e]
  rw [List.map_nil, List.nil_append, List.drop_zero] at h
  exact h
end Go.Proofs.YtcpmjogeafhpnaaDoor.Tx

/- strings.Join and FieldsFunc at this program: each one application of the kit's. -/
set_option linter.all false
namespace Go.Proofs
open Go.Shelf
def Tryd.lays156_ren : Go.Shelf.Ren := ⟨fun | 156 => 119 | 165 => 130 | 166 => 131 | 169 => 132 | 240 => 138 | 241 => 139 | 276 => 144 | 277 => 145 | n => n, fun | 31 => 46 | 9 => 9 | 3 => 3 | 4 => 4 | 0 => 0 | 20 => 20 | 72 => 163 | 76 => 167 | 70 => 161 | 37 => 61 | 75 => 166 | 127 => 173 | 164 => 174 | 5 => 5 | 80 => 48 | n => n, fun | n => n⟩
theorem Tryd.lays156 : Go.Proofs.Lays.n156 Tryd.prog Tryd.lays156_ren := {
  mixed := by kernel_rfl
  f156 := Tryd.func119.trans (congrArg some (by kernel_rfl))
  f165 := Tryd.func130.trans (congrArg some (by kernel_rfl))
  f166 := Tryd.func131.trans (congrArg some (by kernel_rfl))
  f169 := Tryd.func132.trans (congrArg some (by kernel_rfl))
  f240 := Tryd.func138.trans (congrArg some (by kernel_rfl))
  f241 := Tryd.func139.trans (congrArg some (by kernel_rfl))
  f276 := Tryd.func144.trans (congrArg some (by kernel_rfl))
  f277 := Tryd.func145.trans (congrArg some (by kernel_rfl))
  t0 := Tryd.underlying0
  a0 := Tryd.isAgg0
  z0 := Tryd.sizeOf0
  v0 := Tryd.zeroValue0
  t3 := Tryd.underlying3
  a3 := Tryd.isAgg3
  z3 := Tryd.sizeOf3
  v3 := Tryd.zeroValue3
  t4 := Tryd.underlying4
  a4 := Tryd.isAgg4
  z4 := Tryd.sizeOf4
  v4 := Tryd.zeroValue4
  t9 := Tryd.underlying9
  a9 := Tryd.isAgg9
  z9 := Tryd.sizeOf9
  v9 := Tryd.zeroValue9
  t20 := Tryd.underlying20
  a20 := Tryd.isAgg20
  z20 := Tryd.sizeOf20
  v20 := Tryd.zeroValue20
  t31 := Tryd.underlying46
  a31 := Tryd.isAgg46
  z31 := Tryd.sizeOf46
  v31 := Tryd.zeroValue46
  t37 := Tryd.underlying61
  a37 := Tryd.isAgg61
  z37 := Tryd.sizeOf61
  v37 := Tryd.zeroValue61
  t70 := Tryd.underlying161
  a70 := Tryd.isAgg161
  z70 := Tryd.sizeOf161
  v70 := Tryd.zeroValue161
  t72 := Tryd.underlying163
  a72 := Tryd.isAgg163
  z72 := Tryd.sizeOf163
  v72 := Tryd.zeroValue163
  t75 := Tryd.underlying166
  a75 := Tryd.isAgg166
  z75 := Tryd.sizeOf166
  v75 := Tryd.zeroValue166
  t76 := Tryd.underlying167
  a76 := Tryd.isAgg167
  z76 := Tryd.sizeOf167
  v76 := Tryd.zeroValue167
  t127 := Tryd.underlying173
  a127 := Tryd.isAgg173
  z127 := Tryd.sizeOf173
  v127 := Tryd.zeroValue173
  t164 := Tryd.underlying174
  a164 := Tryd.isAgg174
  z164 := Tryd.sizeOf174
  v164 := Tryd.zeroValue174 }
theorem Tryd.Builder_Extra_156 : Builder.Extra Tryd.prog Tryd.lays156_ren := {
  sizeBuilder := by kernel_rfl
  liesBuilder := by kernel_rfl
  t5 := Tryd.underlying5
  a5 := Tryd.isAgg5
  z5 := Tryd.sizeOf5
  v5 := Tryd.zeroValue5
  infoByte := by kernel_rfl
  cellsByte := by kernel_rfl
  sizeByte := by kernel_rfl
  neB5 := by decide }
open Go.RowKit in
/-- strings.Join: "Join concatenates the elements of its first argument to create a single string. The separator string sep is placed between elements in the resulting string.": HOWEVER MANY ELEMENTS. Below the heap's end the world is as it was. (LAID: no walk: one application.) -/
theorem Tryd.strings_Join (bk o c : Nat) (xs : List ByteArray) (sep : ByteArray) (w : World) (hcells : ∀ (j : Nat) x, xs[j]? = some x → w.cell? ⟨bk, o + j, none⟩ = some (.string x)) (hbk : bk < w.heap.size) (hN : xs.length ≤ 140737488355328) (hcap : xs.length ≤ c) (hlen : (Lib.join (xs.map (·.data.toList)) sep.data.toList).length ≤ 140737488355328) :
    Calls Tryd.prog 119 #[.slice (some ⟨bk, o, none⟩) xs.length c, .string sep] w fun e w' => e = .returned (.string ⟨(Lib.join (xs.map (·.data.toList)) sep.data.toList).toArray⟩) ∧ Below w.heap.size w w' := Any.strings_Join Tryd.lays156 Tryd.Builder_Extra_156 bk o c xs sep w hcells hbk hN hcap hlen
def Tryd.lays229_ren : Go.Shelf.Ren := ⟨fun | 229 => 120 | n => n, fun | 9 => 9 | 40 => 156 | 31 => 46 | 152 => 169 | 3 => 3 | 0 => 0 | 4 => 4 | 21 => 21 | 154 => 171 | n => n, fun | n => n⟩
theorem Tryd.lays229 : Go.Proofs.Lays.n229 Tryd.prog Tryd.lays229_ren := {
  mixed := by kernel_rfl
  f229 := Tryd.func120.trans (congrArg some (by kernel_rfl))
  t0 := Tryd.underlying0
  a0 := Tryd.isAgg0
  z0 := Tryd.sizeOf0
  v0 := Tryd.zeroValue0
  t3 := Tryd.underlying3
  a3 := Tryd.isAgg3
  z3 := Tryd.sizeOf3
  v3 := Tryd.zeroValue3
  t4 := Tryd.underlying4
  a4 := Tryd.isAgg4
  z4 := Tryd.sizeOf4
  v4 := Tryd.zeroValue4
  t9 := Tryd.underlying9
  a9 := Tryd.isAgg9
  z9 := Tryd.sizeOf9
  v9 := Tryd.zeroValue9
  t21 := Tryd.underlying21
  a21 := Tryd.isAgg21
  z21 := Tryd.sizeOf21
  v21 := Tryd.zeroValue21
  t31 := Tryd.underlying46
  a31 := Tryd.isAgg46
  z31 := Tryd.sizeOf46
  v31 := Tryd.zeroValue46
  t40 := Tryd.underlying156
  a40 := Tryd.isAgg156
  z40 := Tryd.sizeOf156
  v40 := Tryd.zeroValue156
  t152 := Tryd.underlying169
  a152 := Tryd.isAgg169
  z152 := Tryd.sizeOf169
  v152 := Tryd.zeroValue169
  t154 := Tryd.underlying171
  a154 := Tryd.isAgg171
  z154 := Tryd.sizeOf171
  v154 := Tryd.zeroValue171 }
open Go.RowKit Go.Lib in
theorem Tryd.strings_FieldsFunc_runes (g : Nat) (lb : Array Value) (eg : ∀ args w, (callFunc g args).run Tryd.prog w = .ok (.enter g args) w) (p : Nat → Bool) (s : ByteArray) (w : World) (hs : s.size ≤ 4294967296) (hp : PredAtRunes Tryd.prog g lb p w) :
    Calls Tryd.prog 120 #[.string s, .func (.func g) #[] lb] w fun e w' => ∃ A, e = .returned (.slice (some ⟨A, 0, none⟩) (Lib.goFieldsP p s).length (Lib.goFieldsP p s).length) ∧ w.heap.size ≤ A ∧
      w'.ownsRow w.heap.size 9 1 (.slice (some ⟨A, 0, none⟩) (Lib.goFieldsP p s).length (Lib.goFieldsP p s).length) (Lib.goFieldsP p s).length ((Lib.goFieldsP p s).map Value.string) ∧ Below w.heap.size w w' := Any.strings_FieldsFunc_runes Tryd.lays229 g lb eg p s w hs hp (by kernel_rfl) (by kernel_rfl)
end Go.Proofs

/- Fold's calls. -/
set_option linter.all false
set_option maxRecDepth 100000
namespace Go.Proofs.YtcpmjogeafhpnaaDoor.Tx
open Go.RowKit Go.Sep
theorem blank_calls (x : Nat) (W : World) : Calls Tryd.prog 121 #[.int .i32 ((x : Nat) : Int)] W fun e w' => e = .returned (.bool (pB x)) ∧ ∃ q, w' = W.drewN q := by
  have e : (((x : Nat) : Int) == 32) = pB x := by
    unfold pB
    by_cases h : x = 32
    · subst h; rfl
    · rw [decide_eq_false h]; simp; omega
  rw [← e]
  go_enter Tryd.func121, Tryd.ntmps121
  go_wp2
  go_ret
  exact ⟨by rw [e]; rfl, 0, rfl⟩
theorem blank_enters : ∀ args w, (callFunc 121 args).run Tryd.prog w = .ok (.enter 121 args) w := enters_of Tryd.func121 (by kernel_rfl) rfl
def fN (l : List UInt8) : Nat := (Lib.goFieldsP pB ⟨l.toArray⟩).length
theorem wd_cnt : ∀ (l acc : List UInt8), (wd acc l).length ≤ l.length + 1
  | [], acc => by
    by_cases h : acc = []
    · subst h; simp [wd]
    · simp [wd, h]
  | b :: l, acc => by
    unfold wd
    have h1 := wd_cnt l []
    have h2 := wd_cnt l (acc ++ [b])
    split
    · split
      · rw [List.length_cons]; omega
      · rw [List.length_cons, List.length_cons]; omega
    · rw [List.length_cons]; omega
theorem fN_le (l : List UInt8) : fN l ≤ l.length + 1 := by
  have := wd_cnt l []
  rw [← fields_wd, List.length_map] at this; exact this
theorem fields_c {I : IM} {l : List UInt8} (hn : l.length ≤ 1000000) : Fun Tryd.prog 120 #[.string ⟨l.toArray⟩, .func (.func 121) #[] #[]] I (fun v J => ∃ A cur, v = .slice (some ⟨A, 0, none⟩) (fN l) (fN l) ∧ J A = some (.cells cur 9) ∧ cur.toList.take (fN l) = (Lib.goFieldsP pB ⟨l.toArray⟩).map Value.string) := fun w hw => by
  refine (Tryd.strings_FieldsFunc_runes 121 #[] blank_enters pB ⟨l.toArray⟩ w (show l.length ≤ 4294967296 by omega) (fun W x _ _ => blank_calls x W)).mono ?_
  rintro e w' ⟨A, rfl, hA, hrow, b⟩
  rcases hrow.2 with ⟨h, _⟩ | ⟨g, cap, cur, hv, hg2, hg, hnc, hcm, hcs, ht⟩
  · cases h
  · cases hv
    refine ⟨_, I.add A (.cells cur 9), [], rfl, ⟨fun k o e => ?_, ?_, fun k hk _ => ?_, ⟨b.os, b.tape, b.output, b.size, fun k hk _ => b.block k hk⟩, by simp, by simp, by simp, by simp⟩, A, cur, rfl, IM.add_self _ _ _, ?_⟩
    · unfold IM.add at e
      split at e
      · rename_i q; subst q; cases e; exact hg
      · exact (b.block k (hw.lt e)).trans (hw k o e)
    · refine IM.le_add ?_ _
      cases q : I A with
      | none => rfl
      | some o => exact absurd (hw.lt q) (by omega)
    · unfold IM.add; rw [if_neg (by omega)]
    · rw [Nat.mul_one] at ht; exact ht
theorem join_c {J : IM} {A : Nat} {cur : Array Value} {l : List UInt8} (hn : l.length ≤ 1000000) (hA : J A = some (.cells cur 9)) (hc : cur.toList.take (fN l) = (Lib.goFieldsP pB ⟨l.toArray⟩).map Value.string) :
    Fun Tryd.prog 119 #[.slice (some ⟨A, 0, none⟩) (fN l) (fN l), .string ⟨([32] : List UInt8).toArray⟩] J (fun v _ => v = .string ⟨(fldS l).toArray⟩) := fun w hw => by
  have hl := fN_le l
  have hf := fldS_len l
  have e0 : Lib.join ((Lib.goFieldsP pB ⟨l.toArray⟩).map (·.data.toList)) [32] = fldS l := by rw [fields_wd]; rfl
  refine (Tryd.strings_Join A 0 (fN l) (Lib.goFieldsP pB ⟨l.toArray⟩) ⟨([32] : List UInt8).toArray⟩ w (fun j x hx => ?_) (hw.lt hA) (show fN l ≤ _ by omega) (Nat.le_refl _) (by
    show (Lib.join ((Lib.goFieldsP pB ⟨l.toArray⟩).map (·.data.toList)) [32]).length ≤ _
    rw [e0]; omega)).mono ?_
  · rw [run_cell (a := ⟨A, 0 + j, none⟩) (hw _ _ hA) rfl rfl]
    have hj : j < fN l := (List.getElem?_eq_some_iff.1 hx).1
    have h2 : (cur.toList.take (fN l))[j]? = some (.string x) := by rw [hc, List.getElem?_map, hx]; rfl
    rw [List.getElem?_take, if_pos hj] at h2
    rw [Nat.zero_add]; simpa using h2
  · rintro e w' ⟨rfl, b⟩
    exact ⟨_, J, [], rfl, st_below hw b, by
      show Value.string ⟨(Lib.join ((Lib.goFieldsP pB ⟨l.toArray⟩).map (·.data.toList)) [32]).toArray⟩ = _
      rw [e0]⟩
end Go.Proofs.YtcpmjogeafhpnaaDoor.Tx

/- Fold: the program's and the document's. -/
set_option linter.all false
set_option maxRecDepth 100000
namespace Go.Proofs.YtcpmjogeafhpnaaDoor.Tx
open Go.RowKit Go.Sep
attribute [local irreducible] Go.wpList Go.Code.wp

def NLd (r : List UInt8) : Prop := ¬ (0 < r.length ∧ (r.getD 0 0).toNat = 32)
theorem fl_lead {r : List UInt8} (h : 0 < r.length) (e : (r.getD 0 0).toNat = 32) : fldS (r.drop 1) = fldS r := by
  have hr : r = 32 :: r.drop 1 := by
    have := drop_cons (s := r) (k := 0) h
    rw [List.drop_zero, show r.getD 0 0 = 32 from UInt8.toNat_inj.1 e] at this; exact this
  unfold fldS
  conv => rhs; rw [hr, wd_lead]
theorem last_split {r : List UInt8} (h : 0 < r.length) : r = r.take (r.length - 1) ++ [r.getD (r.length - 1) 0] := by
  have := take_snoc (l := r) (i := r.length - 1) (by omega)
  rw [show r.length - 1 + 1 = r.length by omega, List.take_length] at this; exact this
theorem fl_trail {r : List UInt8} (h : 0 < r.length) (e : (r.getD (r.length - 1) 0).toNat = 32) : fldS (r.take (r.length - 1)) = fldS r := by
  have hr := last_split h
  rw [show r.getD (r.length - 1) 0 = 32 from UInt8.toNat_inj.1 e] at hr
  unfold fldS
  conv => rhs; rw [hr, wd_end 0]
theorem fl_two {r : List UInt8} {i : Nat} (h : i + 1 < r.length) (e1 : (r.getD i 0).toNat = 32) (e2 : (r.getD (i + 1) 0).toNat = 32) : fldS (r.take i ++ r.drop (i + 1)) = fldS r := by
  have h1 : r.drop i = 32 :: r.drop (i + 1) := by rw [drop_cons (by omega), show r.getD i 0 = 32 from UInt8.toNat_inj.1 e1]
  have h2 : r.drop (i + 1) = 32 :: r.drop (i + 2) := by rw [drop_cons h, show r.getD (i + 1) 0 = 32 from UInt8.toNat_inj.1 e2]
  have hr : r = r.take i ++ 32 :: 32 :: r.drop (i + 2) := by rw [← h2, ← h1, List.take_append_drop]
  unfold fldS
  conv => rhs; rw [hr, wd_two, ← h2]
theorem nl_take {r : List UInt8} (h : NLd r) : NLd (r.take (r.length - 1)) := fun ⟨q1, q2⟩ => by
  rw [List.length_take] at q1
  rw [getD_takeU r _ 0 (by omega)] at q2
  exact h ⟨by omega, q2⟩
theorem tidy_of : ∀ (r : List UInt8), ¬ (0 < r.length ∧ (r.getD (r.length - 1) 0).toNat = 32) → (∀ j, j + 1 < r.length → ¬ ((r.getD j 0).toNat = 32 ∧ (r.getD (j + 1) 0).toNat = 32)) → tidy r
  | [], _, _ => trivial
  | [b], ht, _ => fun e => ht ⟨by simp, by rw [e]; rfl⟩
  | b :: c :: l, ht, hd => by
    refine ⟨fun ⟨q1, q2⟩ => hd 0 (by simp) ⟨by rw [q1]; rfl, by rw [q2]; rfl⟩, tidy_of (c :: l) (fun ⟨q1, q2⟩ => ht ⟨by simp, ?_⟩) (fun j hj hh => hd (j + 1) (by simp at hj ⊢; omega) hh)⟩
    simpa using q2
theorem fl_end {r : List UInt8} (hl : NLd r) (ht : ¬ (0 < r.length ∧ (r.getD (r.length - 1) 0).toNat = 32)) (hd : ∀ j, j + 1 < r.length → ¬ ((r.getD j 0).toNat = 32 ∧ (r.getD (j + 1) 0).toNat = 32)) : r = fldS r :=
  (fldS_tidy (tidy_of r ht hd) (fun b t e q => hl (by rw [e, q]; exact ⟨by simp, rfl⟩))).symm

set_option maxHeartbeats 1000000 in
theorem fold_c {I : IM} {l : List UInt8} (hn : l.length ≤ 1000000) : Fun Tryd.prog 100 #[.string ⟨(l).toArray⟩] I (fun v J => v = .string ⟨(fldS l).toArray⟩) := by
 refine enter_rule 6 [(0, .string ⟨(l).toArray⟩)] Tryd.func100 rfl (by kernel_rfl) ?_
 intro w s
 refine seqR ?_
 refine oKD [] [] 1 [] 0 (fun φ1 => [(2, .string ⟨#[]⟩)]) (fun φ1 => []) s (fun φ1 => by kernel_rfl) (by kernel_rfl) ?_
 intro φ1 w1 s
 refine seqR ?_
 refine oK [] [] 1 [] 0 (fun φ2 => [(3, .string ⟨(l).toArray⟩)]) (fun φ2 => []) s (fun φ2 => by kernel_rfl) ?_
 intro φ2 w2 s
 refine call_rule (some 4) s (fields_c (l := l) hn) (by kernel_rfl) ?_
 rintro v3 I3 w3 le3 ⟨A3, cur3, rfl, hA3, hcur3⟩ s
 refine call_rule (some 5) s (join_c (l := l) hn hA3 hcur3) (by kernel_rfl) ?_
 intro v4 I4 w4 le4 h4 s
 obtain rfl := h4
 refine oKD [] [] 1 [] 0 (fun φ5 => [(2, .string ⟨((fldS l)).toArray⟩)]) (fun φ5 => []) s (fun φ5 => by kernel_rfl) (by kernel_rfl) ?_
 intro φ5 w5 s
 refine wp_ret ?_
 refine ret_rule (C := []) [] [] (.string ⟨((fldS l)).toArray⟩) [] [] s trivial (by kernel_rfl) ?_
 exact ⟨_, _, _, rfl, s, rfl⟩

set_option maxHeartbeats 4000000 in
theorem refFold_n (n : Nat) : ∀ {I : IM} {l : List UInt8}, l.length < n → l.length ≤ 1000000 → Fun Tryd.prog 63 #[.string ⟨(l).toArray⟩] I (fun v J => v = .string ⟨(fldS l).toArray⟩) := by
 induction n with
 | zero => intro I l h; omega
 | succ n ih =>
  intro I l hlt hn
  refine enter_rule 58 [(0, .string ⟨(l).toArray⟩)] Tryd.func63 rfl (by kernel_rfl) ?_
  intro w s
  refine seqR ?_
  refine oKD [] [] 1 [] 0 (fun φ1 => [(2, .string ⟨#[]⟩)]) (fun φ1 => []) s (fun φ1 => by kernel_rfl) (by kernel_rfl) ?_
  intro φ1 w1 s
  refine wp_seq ?_
  refine wp_block ?_
  have hle2 := IM.Le.refl I
  refine loop_rule (fun (x : List UInt8) => [(2, .string ⟨#[]⟩), (0, .string ⟨(x).toArray⟩)]) (fun (x : List UInt8) => []) (fun m (x : List UInt8) J => IM.Le I J ∧ (x).length ≤ m ∧ fldS x = fldS l ∧ (x).length ≤ l.length) (l.length) l s (by kernel_rfl) List.Sublist.slnil ⟨IM.Le.refl _, Nat.le_refl _, rfl, Nat.le_refl _⟩ ?_
  rintro m3 r3 I3 w3 ev3 s ⟨le3, hi3_0, hi3_1, hi3_2⟩
  try dsimp only at s hi3_0 hi3_1 hi3_2 ⊢
  replace hle2 := leMono le3 hle2
  refine wp_seq ?_
  refine seqR ?_
  refine oK [] [] 4 [] 0 (fun φ4 => [(7, .bool (decide (((r3.length : Nat) : Int) > ((0 : Nat) : Int)))), (6, .bool (decide (((r3.length : Nat) : Int) > ((0 : Nat) : Int)))), (5, .int .i64 r3.length), (4, .string ⟨(r3).toArray⟩)]) (fun φ4 => []) s (fun φ4 => by kernel_rfl) ?_
  intro φ4 w4 s
  rw [nat_gtr (a := r3.length) (b := 0)]
  rcases Bool.eq_false_or_eq_true (decide (0 < r3.length)) with hc5 | hc5
  ·
   rw [hc5]
   refine oK [] [] 1 [] 0 (fun φ6 => [(8, .string ⟨(r3).toArray⟩)]) (fun φ6 => []) s (fun φ6 => by kernel_rfl) ?_
   intro φ6 w6 s
   refine sem_rule (Instr.index 9 (.string ⟨(r3).toArray⟩) (.int .i64 ((0 : Nat) : Int))) (some 9) (.int .u8 (((r3.getD 0 0).toNat : Nat) : Int)) (by kernel_rfl) (run_idxK (s := r3) (i := 0) (by have hzh1 := hi3_2;  have hq0 := dT9 hc5; omega)) ?_
   refine oK [] [] 2 [] 0 (fun φ7 => [(11, .bool ((((r3.getD 0 0).toNat : Nat) : Int) == ((32 : Nat) : Int))), (10, .bool ((((r3.getD 0 0).toNat : Nat) : Int) == ((32 : Nat) : Int)))]) (fun φ7 => []) s (fun φ7 => by kernel_rfl) ?_
   intro φ7 w7 s
   rw [nat_eql (a := ((r3.getD 0 0).toNat)) (b := 32)]
   refine ops_done (by kernel_rfl) ?_
   rcases Bool.eq_false_or_eq_true (decide (((r3.getD 0 0).toNat) = 32)) with hc8 | hc8
   ·
    rw [hc8]
    refine cond_true_rule (b := true) (by kernel_rfl) rfl ?_
    refine wp_skip ?_
    refine wp_block ?_
    refine region_rule ?_
    refine oK [] [] 1 [] 0 (fun φ9 => [(12, .string ⟨(r3).toArray⟩)]) (fun φ9 => []) s (fun φ9 => by kernel_rfl) ?_
    intro φ9 w9 s
    refine sem_rule (Instr.sliceAt 9 (.string ⟨(r3).toArray⟩) (some (.int .i64 ((1 : Nat) : Int))) none none) (some 13) (.string ⟨((r3.drop 1)).toArray⟩) (by kernel_rfl) (run_dropStr (s := r3) (lo := 1) under9 (by have hzh1 := hi3_2;  have hq0 := dT9 hc5; have hq1 := dT9 hc8; omega)) ?_
    refine oKD [] [] 1 [] 0 (fun φ10 => [(0, .string ⟨((r3.drop 1)).toArray⟩)]) (fun φ10 => []) s (fun φ10 => by kernel_rfl) (by kernel_rfl) ?_
    intro φ10 w10 s
    exact ⟨⟨m3 - 1, (r3.drop 1), _, _, _, by have hq0 := dT9 hc5; have hq1 := dT9 hc8; have h6 := hi3_0; omega, rfl, s, List.Sublist.slnil, by kernel_rfl, hle2, by have hq0 := dT9 hc5; have hq1 := dT9 hc8; have h6 := hi3_0; show (r3.drop 1).length ≤ m3 - 1; rw [List.length_drop]; omega, (fl_lead (by have hq0 := dT9 hc5; have hq1 := dT9 hc8; omega) (by have hq0 := dT9 hc5; have hq1 := dT9 hc8; omega)).trans hi3_1, by have h6 := hi3_2; show (r3.drop 1).length ≤ l.length; rw [List.length_drop]; omega⟩⟩
   ·
    rw [hc8]
    refine cond_false_rule (b := false) (by kernel_rfl) rfl ?_
    refine wp_exit ?_
    refine wp_seq ?_
    refine wp_block ?_
    have hnl12 : NLd r3 := (by rintro ⟨q1, q2⟩; have hq0 := dT9 hc5; have hq1 := dF9 hc8; omega)
    have hle11 := IM.Le.refl I3
    refine loop_rule (fun (x : List UInt8) => [(2, .string ⟨#[]⟩), (0, .string ⟨(x).toArray⟩)]) (fun (x : List UInt8) => []) (fun m (x : List UInt8) J => IM.Le I3 J ∧ (x).length ≤ m ∧ fldS x = fldS l ∧ (x).length ≤ l.length ∧ NLd x) (r3.length) r3 s (by kernel_rfl) List.Sublist.slnil ⟨IM.Le.refl _, Nat.le_refl _, hi3_1, hi3_2, hnl12⟩ ?_
    rintro m12 r12 I12 w12 ev12 s ⟨le12, hi12_0, hi12_1, hi12_2, hi12_3⟩
    try dsimp only at s hi12_0 hi12_1 hi12_2 hi12_3 ⊢
    replace hle11 := leMono le12 hle11
    refine wp_seq ?_
    refine seqR ?_
    refine oK [] [] 4 [] 0 (fun φ13 => [(17, .bool (decide (((r12.length : Nat) : Int) > ((0 : Nat) : Int)))), (16, .bool (decide (((r12.length : Nat) : Int) > ((0 : Nat) : Int)))), (15, .int .i64 r12.length), (14, .string ⟨(r12).toArray⟩)]) (fun φ13 => []) s (fun φ13 => by kernel_rfl) ?_
    intro φ13 w13 s
    rw [nat_gtr (a := r12.length) (b := 0)]
    rcases Bool.eq_false_or_eq_true (decide (0 < r12.length)) with hc14 | hc14
    ·
     rw [hc14]
     refine oK [] [] 4 [] 0 (fun φ15 => [(21, .int .i64 (IntKind.wrap .i64 (((r12.length : Nat) : Int) - ((1 : Nat) : Int)))), (20, .int .i64 r12.length), (19, .string ⟨(r12).toArray⟩), (18, .string ⟨(r12).toArray⟩)]) (fun φ15 => []) s (fun φ15 => by kernel_rfl) ?_
     intro φ15 w15 s
     rw [nat_subI (a := r12.length) (b := 1) (by have hzh1 := hi3_2; have hzh2 := hi12_2;  have hq0 := dT9 hc5; have hq1 := dF9 hc8; have hq2 := dT9 hc14; omega) (by have hzh1 := hi3_2; have hzh2 := hi12_2;  have hq0 := dT9 hc5; have hq1 := dF9 hc8; have hq2 := dT9 hc14; omega)]
     refine sem_rule (Instr.index 9 (.string ⟨(r12).toArray⟩) (.int .i64 ((r12.length - 1 : Nat) : Int))) (some 22) (.int .u8 (((r12.getD (r12.length - 1) 0).toNat : Nat) : Int)) (by kernel_rfl) (run_idxK (s := r12) (i := r12.length - 1) (by have hzh1 := hi3_2; have hzh2 := hi12_2;  have hq0 := dT9 hc5; have hq1 := dF9 hc8; have hq2 := dT9 hc14; omega)) ?_
     refine oK [] [] 2 [] 0 (fun φ16 => [(24, .bool ((((r12.getD (r12.length - 1) 0).toNat : Nat) : Int) == ((32 : Nat) : Int))), (23, .bool ((((r12.getD (r12.length - 1) 0).toNat : Nat) : Int) == ((32 : Nat) : Int)))]) (fun φ16 => []) s (fun φ16 => by kernel_rfl) ?_
     intro φ16 w16 s
     rw [nat_eql (a := ((r12.getD (r12.length - 1) 0).toNat)) (b := 32)]
     refine ops_done (by kernel_rfl) ?_
     rcases Bool.eq_false_or_eq_true (decide (((r12.getD (r12.length - 1) 0).toNat) = 32)) with hc17 | hc17
     ·
      rw [hc17]
      refine cond_true_rule (b := true) (by kernel_rfl) rfl ?_
      refine wp_skip ?_
      refine wp_block ?_
      refine region_rule ?_
      refine oK [] [] 4 [] 0 (fun φ18 => [(28, .int .i64 (IntKind.wrap .i64 (((r12.length : Nat) : Int) - ((1 : Nat) : Int)))), (27, .int .i64 r12.length), (26, .string ⟨(r12).toArray⟩), (25, .string ⟨(r12).toArray⟩)]) (fun φ18 => []) s (fun φ18 => by kernel_rfl) ?_
      intro φ18 w18 s
      rw [nat_subI (a := r12.length) (b := 1) (by have hzh1 := hi3_2; have hzh2 := hi12_2;  have hq0 := dT9 hc5; have hq1 := dF9 hc8; have hq2 := dT9 hc14; have hq3 := dT9 hc17; omega) (by have hzh1 := hi3_2; have hzh2 := hi12_2;  have hq0 := dT9 hc5; have hq1 := dF9 hc8; have hq2 := dT9 hc14; have hq3 := dT9 hc17; omega)]
      refine sem_rule (Instr.sliceAt 9 (.string ⟨(r12).toArray⟩) none (some (.int .i64 ((r12.length - 1 : Nat) : Int))) none) (some 29) (.string ⟨((r12.take (r12.length - 1))).toArray⟩) (by kernel_rfl) (run_takeS (s := r12) (hi := r12.length - 1) (by have hzh1 := hi3_2; have hzh2 := hi12_2;  have hq0 := dT9 hc5; have hq1 := dF9 hc8; have hq2 := dT9 hc14; have hq3 := dT9 hc17; omega)) ?_
      refine oKD [] [] 1 [] 0 (fun φ19 => [(0, .string ⟨((r12.take (r12.length - 1))).toArray⟩)]) (fun φ19 => []) s (fun φ19 => by kernel_rfl) (by kernel_rfl) ?_
      intro φ19 w19 s
      exact ⟨⟨m12 - 1, (r12.take (r12.length - 1)), _, _, _, by have hq0 := dT9 hc5; have hq1 := dF9 hc8; have hq2 := dT9 hc14; have hq3 := dT9 hc17; have h6 := hi12_0; omega, rfl, s, List.Sublist.slnil, by kernel_rfl, hle11, by have hq0 := dT9 hc5; have hq1 := dF9 hc8; have hq2 := dT9 hc14; have hq3 := dT9 hc17; have h6 := hi12_0; show (r12.take (r12.length - 1)).length ≤ m12 - 1; rw [List.length_take]; omega, (fl_trail (by have hq0 := dT9 hc5; have hq1 := dF9 hc8; have hq2 := dT9 hc14; have hq3 := dT9 hc17; omega) (by have hq0 := dT9 hc5; have hq1 := dF9 hc8; have hq2 := dT9 hc14; have hq3 := dT9 hc17; omega)).trans hi12_1, by have h6 := hi12_2; show (r12.take (r12.length - 1)).length ≤ l.length; rw [List.length_take]; omega, nl_take hi12_3⟩⟩
     ·
      rw [hc17]
      refine cond_false_rule (b := false) (by kernel_rfl) rfl ?_
      refine wp_exit ?_
      refine wp_seq ?_
      refine seqR ?_
      refine oKD [] [] 1 [] 0 (fun φ20 => [(3, .int .i64 0)]) (fun φ20 => []) s (fun φ20 => by kernel_rfl) (by kernel_rfl) ?_
      intro φ20 w20 s
      refine wp_block ?_
      have hnt22 : ¬ (0 < r12.length ∧ (r12.getD (r12.length - 1) 0).toNat = 32) := (by rintro ⟨q1, q2⟩; have hq0 := dT9 hc5; have hq1 := dF9 hc8; have hq2 := dT9 hc14; have hq3 := dF9 hc17; omega)
      have hle21 := IM.Le.refl I12
      refine loop_rule (fun (x : Nat) => [(0, .string ⟨(r12).toArray⟩), (2, .string ⟨#[]⟩), (3, .int .i64 x)]) (fun (x : Nat) => []) (fun m (x : Nat) J => IM.Le I12 J ∧ r12.length ≤ x + m ∧ (∀ j, j < x → j + 1 < r12.length → ¬ ((r12.getD j 0).toNat = 32 ∧ (r12.getD (j + 1) 0).toNat = 32)) ∧ x ≤ r12.length) (r12.length) 0 s (by kernel_rfl) List.Sublist.slnil ⟨IM.Le.refl _, by omega, (fun j hj => absurd hj (Nat.not_lt_zero j)), Nat.zero_le _⟩ ?_
      rintro m22 i22 I22 w22 ev22 s ⟨le22, hi22_0, hi22_1, hi22_2⟩
      try dsimp only at s hi22_0 hi22_1 hi22_2 ⊢
      replace hle21 := leMono le22 hle21
      refine wp_seq ?_
      refine seqR ?_
      refine oK [] [] 5 [] 0 (fun φ23 => [(34, .bool (decide ((IntKind.wrap .i64 (((i22 : Nat) : Int) + ((1 : Nat) : Int))) < ((r12.length : Nat) : Int)))), (33, .int .i64 r12.length), (32, .string ⟨(r12).toArray⟩), (31, .int .i64 (IntKind.wrap .i64 (((i22 : Nat) : Int) + ((1 : Nat) : Int)))), (30, .int .i64 i22)]) (fun φ23 => []) s (fun φ23 => by kernel_rfl) ?_
      intro φ23 w23 s
      rw [nat_addI (a := i22) (b := 1) (by have hzh1 := hi3_2; have hzh2 := hi12_2;  have hq0 := dT9 hc5; have hq1 := dF9 hc8; have hq2 := dT9 hc14; have hq3 := dF9 hc17; omega)]
      rw [nat_lss (a := (i22 + 1)) (b := r12.length)]
      refine ops_done (by kernel_rfl) ?_
      rcases Bool.eq_false_or_eq_true (decide ((i22 + 1) < r12.length)) with hc24 | hc24
      ·
       rw [hc24]
       refine cond_true_rule (b := true) (by kernel_rfl) rfl ?_
       refine wp_skip ?_
       refine wp_seq ?_
       refine wp_block ?_
       refine seqR ?_
       refine oK [] [] 2 [] 0 (fun φ25 => [(38, .int .i64 i22), (37, .string ⟨(r12).toArray⟩)]) (fun φ25 => []) s (fun φ25 => by kernel_rfl) ?_
       intro φ25 w25 s
       refine sem_rule (Instr.index 9 (.string ⟨(r12).toArray⟩) (.int .i64 i22)) (some 39) (.int .u8 (((r12.getD i22 0).toNat : Nat) : Int)) (by kernel_rfl) (run_idxK (s := r12) (i := i22) (by have hzh1 := hi3_2; have hzh2 := hi12_2;  have hq0 := dT9 hc5; have hq1 := dF9 hc8; have hq2 := dT9 hc14; have hq3 := dF9 hc17; have hq4 := dT9 hc24; omega)) ?_
       refine oK [] [] 2 [] 0 (fun φ26 => [(41, .bool ((((r12.getD i22 0).toNat : Nat) : Int) == ((32 : Nat) : Int))), (40, .bool ((((r12.getD i22 0).toNat : Nat) : Int) == ((32 : Nat) : Int)))]) (fun φ26 => []) s (fun φ26 => by kernel_rfl) ?_
       intro φ26 w26 s
       rw [nat_eql (a := ((r12.getD i22 0).toNat)) (b := 32)]
       rcases Bool.eq_false_or_eq_true (decide (((r12.getD i22 0).toNat) = 32)) with hc27 | hc27
       ·
        rw [hc27]
        refine oK [] [] 3 [] 0 (fun φ28 => [(44, .int .i64 (IntKind.wrap .i64 (((i22 : Nat) : Int) + ((1 : Nat) : Int)))), (43, .int .i64 i22), (42, .string ⟨(r12).toArray⟩)]) (fun φ28 => []) s (fun φ28 => by kernel_rfl) ?_
        intro φ28 w28 s
        rw [nat_addI (a := i22) (b := 1) (by have hzh1 := hi3_2; have hzh2 := hi12_2;  have hq0 := dT9 hc5; have hq1 := dF9 hc8; have hq2 := dT9 hc14; have hq3 := dF9 hc17; have hq4 := dT9 hc24; have hq5 := dT9 hc27; omega)]
        refine sem_rule (Instr.index 9 (.string ⟨(r12).toArray⟩) (.int .i64 ((i22 + 1 : Nat) : Int))) (some 45) (.int .u8 (((r12.getD (i22 + 1) 0).toNat : Nat) : Int)) (by kernel_rfl) (run_idxK (s := r12) (i := i22 + 1) (by have hzh1 := hi3_2; have hzh2 := hi12_2;  have hq0 := dT9 hc5; have hq1 := dF9 hc8; have hq2 := dT9 hc14; have hq3 := dF9 hc17; have hq4 := dT9 hc24; have hq5 := dT9 hc27; omega)) ?_
        refine oK [] [] 2 [] 0 (fun φ29 => [(47, .bool ((((r12.getD (i22 + 1) 0).toNat : Nat) : Int) == ((32 : Nat) : Int))), (46, .bool ((((r12.getD (i22 + 1) 0).toNat : Nat) : Int) == ((32 : Nat) : Int)))]) (fun φ29 => []) s (fun φ29 => by kernel_rfl) ?_
        intro φ29 w29 s
        rw [nat_eql (a := ((r12.getD (i22 + 1) 0).toNat)) (b := 32)]
        refine ops_done (by kernel_rfl) ?_
        rcases Bool.eq_false_or_eq_true (decide (((r12.getD (i22 + 1) 0).toNat) = 32)) with hc30 | hc30
        ·
         rw [hc30]
         refine cond_true_rule (b := true) (by kernel_rfl) rfl ?_
         refine wp_seq ?_
         refine draw_rule (C := []) ⟨(fun φ31 xs31 => [.look 0 [] [], .look 0 [] [], .ran (Instr.sliceAt 9 (.string ⟨(r12).toArray⟩) none (some (.int .i64 i22)) none), .look 0 [] [], .look 0 [] [], .sub 0 [] [] (.int .i64 (IntKind.wrap .i64 (((i22 : Nat) : Int) + ((1 : Nat) : Int)))), .ran (Instr.sliceAt 9 (.string ⟨(r12).toArray⟩) (some (.int .i64 ((i22 + 1 : Nat) : Int))) none none), .ran (binOp .add 9 (.string ⟨((r12.take i22)).toArray⟩) (.string ⟨((r12.drop (i22 + 1))).toArray⟩)), .call 63 #[.string ⟨(((r12.take i22) ++ (r12.drop (i22 + 1)))).toArray⟩], .look 0 [] []]), (fun φ31 xs31 => [.string ⟨(r12).toArray⟩, .int .i64 i22, .string ⟨((r12.take i22)).toArray⟩, .string ⟨(r12).toArray⟩, .int .i64 i22, .int .i64 ((i22 + 1 : Nat) : Int), .string ⟨((r12.drop (i22 + 1))).toArray⟩, .string ⟨(((r12.take i22) ++ (r12.drop (i22 + 1)))).toArray⟩, .string ⟨((fldS ((r12.take i22) ++ (r12.drop (i22 + 1))))).toArray⟩, .string ⟨((fldS ((r12.take i22) ++ (r12.drop (i22 + 1))))).toArray⟩]), (fun φ31 xs31 => [[]]), (fun φ31 xs31 => [[default, default, default, default, default, default, default, default, default, default]]), [], [1, 1, 6, 1, 1, 5, 6, 6, 3, 1]⟩ (fun j => ([MP.any] : List MP).getD j MP.any) [8] [5] [2, 6, 7] (fun φ31 xs31 => []) (fun φ31 xs31 => [(48, .string ⟨(r12).toArray⟩), (49, .int .i64 i22), (50, .string ⟨((r12.take i22)).toArray⟩), (51, .string ⟨(r12).toArray⟩), (52, .int .i64 i22), (53, .int .i64 ((i22 + 1 : Nat) : Int)), (54, .string ⟨((r12.drop (i22 + 1))).toArray⟩), (55, .string ⟨(((r12.take i22) ++ (r12.drop (i22 + 1)))).toArray⟩), (56, .string ⟨((fldS ((r12.take i22) ++ (r12.drop (i22 + 1))))).toArray⟩), (2, .string ⟨((fldS ((r12.take i22) ++ (r12.drop (i22 + 1))))).toArray⟩)]) (fun φ31 xs31 => []) s trivial (by kernel_rfl) (by kernel_rfl) (fun _ _ => by kernel_rfl) (fun _ _ => by kernel_rfl) ⟨fun _ _ => by kernel_rfl, fun _ _ => by kernel_rfl, fun _ _ => by kernel_rfl, fun _ _ => by kernel_rfl⟩ (fun _ _ _ => by kernel_rfl) (fun _ _ => by kernel_rfl) (fun _ _ => by kernel_rfl) (fun _ _ => by kernel_rfl) (fun _ _ => by kernel_rfl) (fun _ _ => by kernel_rfl) ⟨kcast (A := ∀ (φ31 : Nat → Nat) (xs31 : Xs), (.int .i64 (IntKind.wrap .i64 (((i22 : Nat) : Int) + ((1 : Nat) : Int))) : Value) = .int .i64 ((i22 + 1 : Nat) : Int)) (by kernel_rfl) (fun φ31 xs31 => congrArg (Value.int .i64) ((nat_addI (a := i22) (b := 1) (by have hzh1 := hi3_2; have hzh2 := hi12_2;  have hq0 := dT9 hc5; have hq1 := dF9 hc8; have hq2 := dT9 hc14; have hq3 := dF9 hc17; have hq4 := dT9 hc24; have hq5 := dT9 hc27; have hq6 := dT9 hc30; omega)))), trivial⟩ ⟨kcast (A := ∀ (φ31 : Nat → Nat) (xs31 : Xs) (J : IM) (w : World), I22.Le J → J.Sub w → ((Instr.sliceAt 9 (.string ⟨(r12).toArray⟩) none (some (.int .i64 i22)) none) : Sem Value).run Tryd.prog w = .ok (.string ⟨((r12.take i22)).toArray⟩) w) (by kernel_rfl) (fun φ31 xs31 J w hJ hS => run_takeS (s := r12) (hi := i22) (by have hzh1 := hi3_2; have hzh2 := hi12_2;  have hq0 := dT9 hc5; have hq1 := dF9 hc8; have hq2 := dT9 hc14; have hq3 := dF9 hc17; have hq4 := dT9 hc24; have hq5 := dT9 hc27; have hq6 := dT9 hc30; omega)), ⟨kcast (A := ∀ (φ31 : Nat → Nat) (xs31 : Xs) (J : IM) (w : World), I22.Le J → J.Sub w → ((Instr.sliceAt 9 (.string ⟨(r12).toArray⟩) (some (.int .i64 ((i22 + 1 : Nat) : Int))) none none) : Sem Value).run Tryd.prog w = .ok (.string ⟨((r12.drop (i22 + 1))).toArray⟩) w) (by kernel_rfl) (fun φ31 xs31 J w hJ hS => run_dropStr (s := r12) (lo := i22 + 1) under9 (by have hzh1 := hi3_2; have hzh2 := hi12_2;  have hq0 := dT9 hc5; have hq1 := dF9 hc8; have hq2 := dT9 hc14; have hq3 := dF9 hc17; have hq4 := dT9 hc24; have hq5 := dT9 hc27; have hq6 := dT9 hc30; omega)), ⟨kcast (A := ∀ (φ31 : Nat → Nat) (xs31 : Xs) (J : IM) (w : World), I22.Le J → J.Sub w → ((binOp .add 9 (.string ⟨((r12.take i22)).toArray⟩) (.string ⟨((r12.drop (i22 + 1))).toArray⟩)) : Sem Value).run Tryd.prog w = .ok (.string ⟨(((r12.take i22) ++ (r12.drop (i22 + 1)))).toArray⟩) w) (by kernel_rfl) (fun φ31 xs31 J w hJ hS => run_cat (x := (r12.take i22)) (y := (r12.drop (i22 + 1))) (by have h6 := hi12_2; have hq0 := dT9 hc5; have hq1 := dF9 hc8; have hq2 := dT9 hc14; have hq3 := dF9 hc17; have hq4 := dT9 hc24; have hq5 := dT9 hc27; have hq6 := dT9 hc30; rw [List.length_take, List.length_drop]; omega)), trivial⟩⟩⟩ (by kernel_rfl) ⟨?c31_8, trivial⟩ ?k31
         case c31_8 =>
          refine kcast (A := ∀ (φ31 : Nat → Nat) (xs31 : Xs) (J8_31 : IM), I22.Le J8_31 → Fun Tryd.prog 63 #[.string ⟨(((r12.take i22) ++ (r12.drop (i22 + 1)))).toArray⟩] J8_31 (fun v J' => ∃ x : UX, v = .string ⟨((fldS ((r12.take i22) ++ (r12.drop (i22 + 1))))).toArray⟩ ∧ (True))) (by kernel_rfl) ?_
          intro φ31 xs31 J8_31 leJ
          exact Fun.mono (ih (l := ((r12.take i22) ++ (r12.drop (i22 + 1)))) (by have h6 := hi12_2; have hq0 := dT9 hc5; have hq1 := dF9 hc8; have hq2 := dT9 hc14; have hq3 := dF9 hc17; have hq4 := dT9 hc24; have hq5 := dT9 hc27; have hq6 := dT9 hc30; rw [List.length_append, List.length_take, List.length_drop]; omega) (by have h6 := hi12_2; have hq0 := dT9 hc5; have hq1 := dF9 hc8; have hq2 := dT9 hc14; have hq3 := dF9 hc17; have hq4 := dT9 hc24; have hq5 := dT9 hc27; have hq6 := dT9 hc30; rw [List.length_append, List.length_take, List.length_drop]; omega)) (fun v J' _ h => ⟨UX.d, h, trivial⟩)
         case k31 =>
          rintro φ31 xs31 I31 w31 le31 s _
          replace hle21 := leMono le31 hle21
          refine wp_ret ?_
          refine ret_rule (C := []) [] [] (.string ⟨((fldS ((r12.take i22) ++ (r12.drop (i22 + 1))))).toArray⟩) [] [] s trivial (by kernel_rfl) ?_
          exact ⟨_, _, _, rfl, s, (congrArg (fun q : List UInt8 => Value.string ⟨q.toArray⟩) ((fl_two (by have hq0 := dT9 hc5; have hq1 := dF9 hc8; have hq2 := dT9 hc14; have hq3 := dF9 hc17; have hq4 := dT9 hc24; have hq5 := dT9 hc27; have hq6 := dT9 hc30; omega) (by have hq0 := dT9 hc5; have hq1 := dF9 hc8; have hq2 := dT9 hc14; have hq3 := dF9 hc17; have hq4 := dT9 hc24; have hq5 := dT9 hc27; have hq6 := dT9 hc30; omega) (by have hq0 := dT9 hc5; have hq1 := dF9 hc8; have hq2 := dT9 hc14; have hq3 := dF9 hc17; have hq4 := dT9 hc24; have hq5 := dT9 hc27; have hq6 := dT9 hc30; omega)).trans hi12_1))⟩
        ·
         rw [hc30]
         refine cond_false_rule (b := false) (by kernel_rfl) rfl ?_
         refine wp_skip ?_
         refine region_rule ?_
         refine oK [] [] 3 [] 0 (fun φ32 => [(3, .int .i64 (IntKind.wrap .i64 (((i22 : Nat) : Int) + ((1 : Nat) : Int)))), (36, .int .i64 (IntKind.wrap .i64 (((i22 : Nat) : Int) + ((1 : Nat) : Int)))), (35, .int .i64 i22)]) (fun φ32 => []) s (fun φ32 => by kernel_rfl) ?_
         intro φ32 w32 s
         rw [nat_addI (a := i22) (b := 1) (by have hzh1 := hi3_2; have hzh2 := hi12_2;  have hq0 := dT9 hc5; have hq1 := dF9 hc8; have hq2 := dT9 hc14; have hq3 := dF9 hc17; have hq4 := dT9 hc24; have hq5 := dT9 hc27; have hq6 := dF9 hc30; omega)]
         refine ops_done (by kernel_rfl) ?_
         exact ⟨⟨m22 - 1, i22 + 1, _, _, _, by have hq0 := dT9 hc5; have hq1 := dF9 hc8; have hq2 := dT9 hc14; have hq3 := dF9 hc17; have hq4 := dT9 hc24; have hq5 := dT9 hc27; have hq6 := dF9 hc30; have h6 := hi22_0; omega, rfl, s, List.Sublist.slnil, by kernel_rfl, hle21, by have hq0 := dT9 hc5; have hq1 := dF9 hc8; have hq2 := dT9 hc14; have hq3 := dF9 hc17; have hq4 := dT9 hc24; have hq5 := dT9 hc27; have hq6 := dF9 hc30; have h6 := hi22_0; show r12.length ≤ i22 + 1 + (m22 - 1); omega, (by have hq0 := dT9 hc5; have hq1 := dF9 hc8; have hq2 := dT9 hc14; have hq3 := dF9 hc17; have hq4 := dT9 hc24; have hq5 := dT9 hc27; have hq6 := dF9 hc30; intro j hj hl hh; rcases (by omega : j < i22 ∨ j = i22) with q | q; exact hi22_1 j q hl hh; subst q; omega), by have hq0 := dT9 hc5; have hq1 := dF9 hc8; have hq2 := dT9 hc14; have hq3 := dF9 hc17; have hq4 := dT9 hc24; have hq5 := dT9 hc27; have hq6 := dF9 hc30; show i22 + 1 ≤ r12.length; omega⟩⟩
       ·
        rw [hc27]
        refine oKD [] [] 6 [] 0 (fun φ33 => [(47, .bool false), (46, undef), (45, undef), (44, undef), (43, undef), (42, undef)]) (fun φ33 => []) s (fun φ33 => by kernel_rfl) (by kernel_rfl) ?_
        intro φ33 w33 s
        refine cond_false_rule (b := false) (by kernel_rfl) rfl ?_
        refine wp_skip ?_
        refine region_rule ?_
        refine oK [] [] 3 [] 0 (fun φ34 => [(3, .int .i64 (IntKind.wrap .i64 (((i22 : Nat) : Int) + ((1 : Nat) : Int)))), (36, .int .i64 (IntKind.wrap .i64 (((i22 : Nat) : Int) + ((1 : Nat) : Int)))), (35, .int .i64 i22)]) (fun φ34 => []) s (fun φ34 => by kernel_rfl) ?_
        intro φ34 w34 s
        rw [nat_addI (a := i22) (b := 1) (by have hzh1 := hi3_2; have hzh2 := hi12_2;  have hq0 := dT9 hc5; have hq1 := dF9 hc8; have hq2 := dT9 hc14; have hq3 := dF9 hc17; have hq4 := dT9 hc24; have hq5 := dF9 hc27; omega)]
        refine ops_done (by kernel_rfl) ?_
        exact ⟨⟨m22 - 1, i22 + 1, _, _, _, by have hq0 := dT9 hc5; have hq1 := dF9 hc8; have hq2 := dT9 hc14; have hq3 := dF9 hc17; have hq4 := dT9 hc24; have hq5 := dF9 hc27; have h6 := hi22_0; omega, rfl, s, List.Sublist.slnil, by kernel_rfl, hle21, by have hq0 := dT9 hc5; have hq1 := dF9 hc8; have hq2 := dT9 hc14; have hq3 := dF9 hc17; have hq4 := dT9 hc24; have hq5 := dF9 hc27; have h6 := hi22_0; show r12.length ≤ i22 + 1 + (m22 - 1); omega, (by have hq0 := dT9 hc5; have hq1 := dF9 hc8; have hq2 := dT9 hc14; have hq3 := dF9 hc17; have hq4 := dT9 hc24; have hq5 := dF9 hc27; intro j hj hl hh; rcases (by omega : j < i22 ∨ j = i22) with q | q; exact hi22_1 j q hl hh; subst q; omega), by have hq0 := dT9 hc5; have hq1 := dF9 hc8; have hq2 := dT9 hc14; have hq3 := dF9 hc17; have hq4 := dT9 hc24; have hq5 := dF9 hc27; show i22 + 1 ≤ r12.length; omega⟩⟩
      ·
       rw [hc24]
       refine cond_false_rule (b := false) (by kernel_rfl) rfl ?_
       refine wp_exit ?_
       refine seqR ?_
       refine oKD [] [] 2 [] 0 (fun φ35 => [(2, .string ⟨(r12).toArray⟩), (57, .string ⟨(r12).toArray⟩)]) (fun φ35 => []) s (fun φ35 => by kernel_rfl) (by kernel_rfl) ?_
       intro φ35 w35 s
       refine wp_ret ?_
       refine ret_rule (C := []) [] [] (.string ⟨(r12).toArray⟩) [] [] s trivial (by kernel_rfl) ?_
       exact ⟨_, _, _, rfl, s, (congrArg (fun q : List UInt8 => Value.string ⟨q.toArray⟩) ((fl_end hi12_3 hnt22 (by have hq0 := dT9 hc5; have hq1 := dF9 hc8; have hq2 := dT9 hc14; have hq3 := dF9 hc17; have hq4 := dF9 hc24; intro j hl; exact hi22_1 j (by omega) hl)).trans hi12_1))⟩
    ·
     rw [hc14]
     refine oKD [] [] 7 [] 0 (fun φ36 => [(24, .bool false), (23, undef), (22, undef), (21, undef), (20, undef), (19, undef), (18, undef)]) (fun φ36 => []) s (fun φ36 => by kernel_rfl) (by kernel_rfl) ?_
     intro φ36 w36 s
     refine cond_false_rule (b := false) (by kernel_rfl) rfl ?_
     refine wp_exit ?_
     refine wp_seq ?_
     refine seqR ?_
     refine oKD [] [] 1 [] 0 (fun φ37 => [(3, .int .i64 0)]) (fun φ37 => []) s (fun φ37 => by kernel_rfl) (by kernel_rfl) ?_
     intro φ37 w37 s
     refine wp_block ?_
     have hnt39 : ¬ (0 < r12.length ∧ (r12.getD (r12.length - 1) 0).toNat = 32) := (by rintro ⟨q1, q2⟩; have hq0 := dT9 hc5; have hq1 := dF9 hc8; have hq2 := dF9 hc14; omega)
     have hle38 := IM.Le.refl I12
     refine loop_rule (fun (x : Nat) => [(0, .string ⟨(r12).toArray⟩), (2, .string ⟨#[]⟩), (3, .int .i64 x)]) (fun (x : Nat) => []) (fun m (x : Nat) J => IM.Le I12 J ∧ r12.length ≤ x + m ∧ (∀ j, j < x → j + 1 < r12.length → ¬ ((r12.getD j 0).toNat = 32 ∧ (r12.getD (j + 1) 0).toNat = 32)) ∧ x ≤ r12.length) (r12.length) 0 s (by kernel_rfl) List.Sublist.slnil ⟨IM.Le.refl _, by omega, (fun j hj => absurd hj (Nat.not_lt_zero j)), Nat.zero_le _⟩ ?_
     rintro m39 i39 I39 w39 ev39 s ⟨le39, hi39_0, hi39_1, hi39_2⟩
     try dsimp only at s hi39_0 hi39_1 hi39_2 ⊢
     replace hle38 := leMono le39 hle38
     refine wp_seq ?_
     refine seqR ?_
     refine oK [] [] 5 [] 0 (fun φ40 => [(34, .bool (decide ((IntKind.wrap .i64 (((i39 : Nat) : Int) + ((1 : Nat) : Int))) < ((r12.length : Nat) : Int)))), (33, .int .i64 r12.length), (32, .string ⟨(r12).toArray⟩), (31, .int .i64 (IntKind.wrap .i64 (((i39 : Nat) : Int) + ((1 : Nat) : Int)))), (30, .int .i64 i39)]) (fun φ40 => []) s (fun φ40 => by kernel_rfl) ?_
     intro φ40 w40 s
     rw [nat_addI (a := i39) (b := 1) (by have hzh1 := hi3_2; have hzh2 := hi12_2;  have hq0 := dT9 hc5; have hq1 := dF9 hc8; have hq2 := dF9 hc14; omega)]
     rw [nat_lss (a := (i39 + 1)) (b := r12.length)]
     refine ops_done (by kernel_rfl) ?_
     rcases Bool.eq_false_or_eq_true (decide ((i39 + 1) < r12.length)) with hc41 | hc41
     ·
      rw [hc41]
      refine cond_true_rule (b := true) (by kernel_rfl) rfl ?_
      refine wp_skip ?_
      refine wp_seq ?_
      refine wp_block ?_
      refine seqR ?_
      refine oK [] [] 2 [] 0 (fun φ42 => [(38, .int .i64 i39), (37, .string ⟨(r12).toArray⟩)]) (fun φ42 => []) s (fun φ42 => by kernel_rfl) ?_
      intro φ42 w42 s
      refine sem_rule (Instr.index 9 (.string ⟨(r12).toArray⟩) (.int .i64 i39)) (some 39) (.int .u8 (((r12.getD i39 0).toNat : Nat) : Int)) (by kernel_rfl) (run_idxK (s := r12) (i := i39) (by have hzh1 := hi3_2; have hzh2 := hi12_2;  have hq0 := dT9 hc5; have hq1 := dF9 hc8; have hq2 := dF9 hc14; have hq3 := dT9 hc41; omega)) ?_
      refine oK [] [] 2 [] 0 (fun φ43 => [(41, .bool ((((r12.getD i39 0).toNat : Nat) : Int) == ((32 : Nat) : Int))), (40, .bool ((((r12.getD i39 0).toNat : Nat) : Int) == ((32 : Nat) : Int)))]) (fun φ43 => []) s (fun φ43 => by kernel_rfl) ?_
      intro φ43 w43 s
      rw [nat_eql (a := ((r12.getD i39 0).toNat)) (b := 32)]
      rcases Bool.eq_false_or_eq_true (decide (((r12.getD i39 0).toNat) = 32)) with hc44 | hc44
      ·
       rw [hc44]
       refine oK [] [] 3 [] 0 (fun φ45 => [(44, .int .i64 (IntKind.wrap .i64 (((i39 : Nat) : Int) + ((1 : Nat) : Int)))), (43, .int .i64 i39), (42, .string ⟨(r12).toArray⟩)]) (fun φ45 => []) s (fun φ45 => by kernel_rfl) ?_
       intro φ45 w45 s
       rw [nat_addI (a := i39) (b := 1) (by have hzh1 := hi3_2; have hzh2 := hi12_2;  have hq0 := dT9 hc5; have hq1 := dF9 hc8; have hq2 := dF9 hc14; have hq3 := dT9 hc41; have hq4 := dT9 hc44; omega)]
       refine sem_rule (Instr.index 9 (.string ⟨(r12).toArray⟩) (.int .i64 ((i39 + 1 : Nat) : Int))) (some 45) (.int .u8 (((r12.getD (i39 + 1) 0).toNat : Nat) : Int)) (by kernel_rfl) (run_idxK (s := r12) (i := i39 + 1) (by have hzh1 := hi3_2; have hzh2 := hi12_2;  have hq0 := dT9 hc5; have hq1 := dF9 hc8; have hq2 := dF9 hc14; have hq3 := dT9 hc41; have hq4 := dT9 hc44; omega)) ?_
       refine oK [] [] 2 [] 0 (fun φ46 => [(47, .bool ((((r12.getD (i39 + 1) 0).toNat : Nat) : Int) == ((32 : Nat) : Int))), (46, .bool ((((r12.getD (i39 + 1) 0).toNat : Nat) : Int) == ((32 : Nat) : Int)))]) (fun φ46 => []) s (fun φ46 => by kernel_rfl) ?_
       intro φ46 w46 s
       rw [nat_eql (a := ((r12.getD (i39 + 1) 0).toNat)) (b := 32)]
       refine ops_done (by kernel_rfl) ?_
       rcases Bool.eq_false_or_eq_true (decide (((r12.getD (i39 + 1) 0).toNat) = 32)) with hc47 | hc47
       ·
        rw [hc47]
        refine cond_true_rule (b := true) (by kernel_rfl) rfl ?_
        refine wp_seq ?_
        refine draw_rule (C := []) ⟨(fun φ48 xs48 => [.look 0 [] [], .look 0 [] [], .ran (Instr.sliceAt 9 (.string ⟨(r12).toArray⟩) none (some (.int .i64 i39)) none), .look 0 [] [], .look 0 [] [], .sub 0 [] [] (.int .i64 (IntKind.wrap .i64 (((i39 : Nat) : Int) + ((1 : Nat) : Int)))), .ran (Instr.sliceAt 9 (.string ⟨(r12).toArray⟩) (some (.int .i64 ((i39 + 1 : Nat) : Int))) none none), .ran (binOp .add 9 (.string ⟨((r12.take i39)).toArray⟩) (.string ⟨((r12.drop (i39 + 1))).toArray⟩)), .call 63 #[.string ⟨(((r12.take i39) ++ (r12.drop (i39 + 1)))).toArray⟩], .look 0 [] []]), (fun φ48 xs48 => [.string ⟨(r12).toArray⟩, .int .i64 i39, .string ⟨((r12.take i39)).toArray⟩, .string ⟨(r12).toArray⟩, .int .i64 i39, .int .i64 ((i39 + 1 : Nat) : Int), .string ⟨((r12.drop (i39 + 1))).toArray⟩, .string ⟨(((r12.take i39) ++ (r12.drop (i39 + 1)))).toArray⟩, .string ⟨((fldS ((r12.take i39) ++ (r12.drop (i39 + 1))))).toArray⟩, .string ⟨((fldS ((r12.take i39) ++ (r12.drop (i39 + 1))))).toArray⟩]), (fun φ48 xs48 => [[]]), (fun φ48 xs48 => [[default, default, default, default, default, default, default, default, default, default]]), [], [1, 1, 6, 1, 1, 5, 6, 6, 3, 1]⟩ (fun j => ([MP.any] : List MP).getD j MP.any) [8] [5] [2, 6, 7] (fun φ48 xs48 => []) (fun φ48 xs48 => [(48, .string ⟨(r12).toArray⟩), (49, .int .i64 i39), (50, .string ⟨((r12.take i39)).toArray⟩), (51, .string ⟨(r12).toArray⟩), (52, .int .i64 i39), (53, .int .i64 ((i39 + 1 : Nat) : Int)), (54, .string ⟨((r12.drop (i39 + 1))).toArray⟩), (55, .string ⟨(((r12.take i39) ++ (r12.drop (i39 + 1)))).toArray⟩), (56, .string ⟨((fldS ((r12.take i39) ++ (r12.drop (i39 + 1))))).toArray⟩), (2, .string ⟨((fldS ((r12.take i39) ++ (r12.drop (i39 + 1))))).toArray⟩)]) (fun φ48 xs48 => []) s trivial (by kernel_rfl) (by kernel_rfl) (fun _ _ => by kernel_rfl) (fun _ _ => by kernel_rfl) ⟨fun _ _ => by kernel_rfl, fun _ _ => by kernel_rfl, fun _ _ => by kernel_rfl, fun _ _ => by kernel_rfl⟩ (fun _ _ _ => by kernel_rfl) (fun _ _ => by kernel_rfl) (fun _ _ => by kernel_rfl) (fun _ _ => by kernel_rfl) (fun _ _ => by kernel_rfl) (fun _ _ => by kernel_rfl) ⟨kcast (A := ∀ (φ48 : Nat → Nat) (xs48 : Xs), (.int .i64 (IntKind.wrap .i64 (((i39 : Nat) : Int) + ((1 : Nat) : Int))) : Value) = .int .i64 ((i39 + 1 : Nat) : Int)) (by kernel_rfl) (fun φ48 xs48 => congrArg (Value.int .i64) ((nat_addI (a := i39) (b := 1) (by have hzh1 := hi3_2; have hzh2 := hi12_2;  have hq0 := dT9 hc5; have hq1 := dF9 hc8; have hq2 := dF9 hc14; have hq3 := dT9 hc41; have hq4 := dT9 hc44; have hq5 := dT9 hc47; omega)))), trivial⟩ ⟨kcast (A := ∀ (φ48 : Nat → Nat) (xs48 : Xs) (J : IM) (w : World), I39.Le J → J.Sub w → ((Instr.sliceAt 9 (.string ⟨(r12).toArray⟩) none (some (.int .i64 i39)) none) : Sem Value).run Tryd.prog w = .ok (.string ⟨((r12.take i39)).toArray⟩) w) (by kernel_rfl) (fun φ48 xs48 J w hJ hS => run_takeS (s := r12) (hi := i39) (by have hzh1 := hi3_2; have hzh2 := hi12_2;  have hq0 := dT9 hc5; have hq1 := dF9 hc8; have hq2 := dF9 hc14; have hq3 := dT9 hc41; have hq4 := dT9 hc44; have hq5 := dT9 hc47; omega)), ⟨kcast (A := ∀ (φ48 : Nat → Nat) (xs48 : Xs) (J : IM) (w : World), I39.Le J → J.Sub w → ((Instr.sliceAt 9 (.string ⟨(r12).toArray⟩) (some (.int .i64 ((i39 + 1 : Nat) : Int))) none none) : Sem Value).run Tryd.prog w = .ok (.string ⟨((r12.drop (i39 + 1))).toArray⟩) w) (by kernel_rfl) (fun φ48 xs48 J w hJ hS => run_dropStr (s := r12) (lo := i39 + 1) under9 (by have hzh1 := hi3_2; have hzh2 := hi12_2;  have hq0 := dT9 hc5; have hq1 := dF9 hc8; have hq2 := dF9 hc14; have hq3 := dT9 hc41; have hq4 := dT9 hc44; have hq5 := dT9 hc47; omega)), ⟨kcast (A := ∀ (φ48 : Nat → Nat) (xs48 : Xs) (J : IM) (w : World), I39.Le J → J.Sub w → ((binOp .add 9 (.string ⟨((r12.take i39)).toArray⟩) (.string ⟨((r12.drop (i39 + 1))).toArray⟩)) : Sem Value).run Tryd.prog w = .ok (.string ⟨(((r12.take i39) ++ (r12.drop (i39 + 1)))).toArray⟩) w) (by kernel_rfl) (fun φ48 xs48 J w hJ hS => run_cat (x := (r12.take i39)) (y := (r12.drop (i39 + 1))) (by have h6 := hi12_2; have hq0 := dT9 hc5; have hq1 := dF9 hc8; have hq2 := dF9 hc14; have hq3 := dT9 hc41; have hq4 := dT9 hc44; have hq5 := dT9 hc47; rw [List.length_take, List.length_drop]; omega)), trivial⟩⟩⟩ (by kernel_rfl) ⟨?c48_8, trivial⟩ ?k48
        case c48_8 =>
         refine kcast (A := ∀ (φ48 : Nat → Nat) (xs48 : Xs) (J8_48 : IM), I39.Le J8_48 → Fun Tryd.prog 63 #[.string ⟨(((r12.take i39) ++ (r12.drop (i39 + 1)))).toArray⟩] J8_48 (fun v J' => ∃ x : UX, v = .string ⟨((fldS ((r12.take i39) ++ (r12.drop (i39 + 1))))).toArray⟩ ∧ (True))) (by kernel_rfl) ?_
         intro φ48 xs48 J8_48 leJ
         exact Fun.mono (ih (l := ((r12.take i39) ++ (r12.drop (i39 + 1)))) (by have h6 := hi12_2; have hq0 := dT9 hc5; have hq1 := dF9 hc8; have hq2 := dF9 hc14; have hq3 := dT9 hc41; have hq4 := dT9 hc44; have hq5 := dT9 hc47; rw [List.length_append, List.length_take, List.length_drop]; omega) (by have h6 := hi12_2; have hq0 := dT9 hc5; have hq1 := dF9 hc8; have hq2 := dF9 hc14; have hq3 := dT9 hc41; have hq4 := dT9 hc44; have hq5 := dT9 hc47; rw [List.length_append, List.length_take, List.length_drop]; omega)) (fun v J' _ h => ⟨UX.d, h, trivial⟩)
        case k48 =>
         rintro φ48 xs48 I48 w48 le48 s _
         replace hle38 := leMono le48 hle38
         refine wp_ret ?_
         refine ret_rule (C := []) [] [] (.string ⟨((fldS ((r12.take i39) ++ (r12.drop (i39 + 1))))).toArray⟩) [] [] s trivial (by kernel_rfl) ?_
         exact ⟨_, _, _, rfl, s, (congrArg (fun q : List UInt8 => Value.string ⟨q.toArray⟩) ((fl_two (by have hq0 := dT9 hc5; have hq1 := dF9 hc8; have hq2 := dF9 hc14; have hq3 := dT9 hc41; have hq4 := dT9 hc44; have hq5 := dT9 hc47; omega) (by have hq0 := dT9 hc5; have hq1 := dF9 hc8; have hq2 := dF9 hc14; have hq3 := dT9 hc41; have hq4 := dT9 hc44; have hq5 := dT9 hc47; omega) (by have hq0 := dT9 hc5; have hq1 := dF9 hc8; have hq2 := dF9 hc14; have hq3 := dT9 hc41; have hq4 := dT9 hc44; have hq5 := dT9 hc47; omega)).trans hi12_1))⟩
       ·
        rw [hc47]
        refine cond_false_rule (b := false) (by kernel_rfl) rfl ?_
        refine wp_skip ?_
        refine region_rule ?_
        refine oK [] [] 3 [] 0 (fun φ49 => [(3, .int .i64 (IntKind.wrap .i64 (((i39 : Nat) : Int) + ((1 : Nat) : Int)))), (36, .int .i64 (IntKind.wrap .i64 (((i39 : Nat) : Int) + ((1 : Nat) : Int)))), (35, .int .i64 i39)]) (fun φ49 => []) s (fun φ49 => by kernel_rfl) ?_
        intro φ49 w49 s
        rw [nat_addI (a := i39) (b := 1) (by have hzh1 := hi3_2; have hzh2 := hi12_2;  have hq0 := dT9 hc5; have hq1 := dF9 hc8; have hq2 := dF9 hc14; have hq3 := dT9 hc41; have hq4 := dT9 hc44; have hq5 := dF9 hc47; omega)]
        refine ops_done (by kernel_rfl) ?_
        exact ⟨⟨m39 - 1, i39 + 1, _, _, _, by have hq0 := dT9 hc5; have hq1 := dF9 hc8; have hq2 := dF9 hc14; have hq3 := dT9 hc41; have hq4 := dT9 hc44; have hq5 := dF9 hc47; have h6 := hi39_0; omega, rfl, s, List.Sublist.slnil, by kernel_rfl, hle38, by have hq0 := dT9 hc5; have hq1 := dF9 hc8; have hq2 := dF9 hc14; have hq3 := dT9 hc41; have hq4 := dT9 hc44; have hq5 := dF9 hc47; have h6 := hi39_0; show r12.length ≤ i39 + 1 + (m39 - 1); omega, (by have hq0 := dT9 hc5; have hq1 := dF9 hc8; have hq2 := dF9 hc14; have hq3 := dT9 hc41; have hq4 := dT9 hc44; have hq5 := dF9 hc47; intro j hj hl hh; rcases (by omega : j < i39 ∨ j = i39) with q | q; exact hi39_1 j q hl hh; subst q; omega), by have hq0 := dT9 hc5; have hq1 := dF9 hc8; have hq2 := dF9 hc14; have hq3 := dT9 hc41; have hq4 := dT9 hc44; have hq5 := dF9 hc47; show i39 + 1 ≤ r12.length; omega⟩⟩
      ·
       rw [hc44]
       refine oKD [] [] 6 [] 0 (fun φ50 => [(47, .bool false), (46, undef), (45, undef), (44, undef), (43, undef), (42, undef)]) (fun φ50 => []) s (fun φ50 => by kernel_rfl) (by kernel_rfl) ?_
       intro φ50 w50 s
       refine cond_false_rule (b := false) (by kernel_rfl) rfl ?_
       refine wp_skip ?_
       refine region_rule ?_
       refine oK [] [] 3 [] 0 (fun φ51 => [(3, .int .i64 (IntKind.wrap .i64 (((i39 : Nat) : Int) + ((1 : Nat) : Int)))), (36, .int .i64 (IntKind.wrap .i64 (((i39 : Nat) : Int) + ((1 : Nat) : Int)))), (35, .int .i64 i39)]) (fun φ51 => []) s (fun φ51 => by kernel_rfl) ?_
       intro φ51 w51 s
       rw [nat_addI (a := i39) (b := 1) (by have hzh1 := hi3_2; have hzh2 := hi12_2;  have hq0 := dT9 hc5; have hq1 := dF9 hc8; have hq2 := dF9 hc14; have hq3 := dT9 hc41; have hq4 := dF9 hc44; omega)]
       refine ops_done (by kernel_rfl) ?_
       exact ⟨⟨m39 - 1, i39 + 1, _, _, _, by have hq0 := dT9 hc5; have hq1 := dF9 hc8; have hq2 := dF9 hc14; have hq3 := dT9 hc41; have hq4 := dF9 hc44; have h6 := hi39_0; omega, rfl, s, List.Sublist.slnil, by kernel_rfl, hle38, by have hq0 := dT9 hc5; have hq1 := dF9 hc8; have hq2 := dF9 hc14; have hq3 := dT9 hc41; have hq4 := dF9 hc44; have h6 := hi39_0; show r12.length ≤ i39 + 1 + (m39 - 1); omega, (by have hq0 := dT9 hc5; have hq1 := dF9 hc8; have hq2 := dF9 hc14; have hq3 := dT9 hc41; have hq4 := dF9 hc44; intro j hj hl hh; rcases (by omega : j < i39 ∨ j = i39) with q | q; exact hi39_1 j q hl hh; subst q; omega), by have hq0 := dT9 hc5; have hq1 := dF9 hc8; have hq2 := dF9 hc14; have hq3 := dT9 hc41; have hq4 := dF9 hc44; show i39 + 1 ≤ r12.length; omega⟩⟩
     ·
      rw [hc41]
      refine cond_false_rule (b := false) (by kernel_rfl) rfl ?_
      refine wp_exit ?_
      refine seqR ?_
      refine oKD [] [] 2 [] 0 (fun φ52 => [(2, .string ⟨(r12).toArray⟩), (57, .string ⟨(r12).toArray⟩)]) (fun φ52 => []) s (fun φ52 => by kernel_rfl) (by kernel_rfl) ?_
      intro φ52 w52 s
      refine wp_ret ?_
      refine ret_rule (C := []) [] [] (.string ⟨(r12).toArray⟩) [] [] s trivial (by kernel_rfl) ?_
      exact ⟨_, _, _, rfl, s, (congrArg (fun q : List UInt8 => Value.string ⟨q.toArray⟩) ((fl_end hi12_3 hnt39 (by have hq0 := dT9 hc5; have hq1 := dF9 hc8; have hq2 := dF9 hc14; have hq3 := dF9 hc41; intro j hl; exact hi39_1 j (by omega) hl)).trans hi12_1))⟩
  ·
   rw [hc5]
   refine oKD [] [] 4 [] 0 (fun φ53 => [(11, .bool false), (10, undef), (9, undef), (8, undef)]) (fun φ53 => []) s (fun φ53 => by kernel_rfl) (by kernel_rfl) ?_
   intro φ53 w53 s
   refine cond_false_rule (b := false) (by kernel_rfl) rfl ?_
   refine wp_exit ?_
   refine wp_seq ?_
   refine wp_block ?_
   have hnl55 : NLd r3 := (by rintro ⟨q1, q2⟩; have hq0 := dF9 hc5; omega)
   have hle54 := IM.Le.refl I3
   refine loop_rule (fun (x : List UInt8) => [(2, .string ⟨#[]⟩), (0, .string ⟨(x).toArray⟩)]) (fun (x : List UInt8) => []) (fun m (x : List UInt8) J => IM.Le I3 J ∧ (x).length ≤ m ∧ fldS x = fldS l ∧ (x).length ≤ l.length ∧ NLd x) (r3.length) r3 s (by kernel_rfl) List.Sublist.slnil ⟨IM.Le.refl _, Nat.le_refl _, hi3_1, hi3_2, hnl55⟩ ?_
   rintro m55 r55 I55 w55 ev55 s ⟨le55, hi55_0, hi55_1, hi55_2, hi55_3⟩
   try dsimp only at s hi55_0 hi55_1 hi55_2 hi55_3 ⊢
   replace hle54 := leMono le55 hle54
   refine wp_seq ?_
   refine seqR ?_
   refine oK [] [] 4 [] 0 (fun φ56 => [(17, .bool (decide (((r55.length : Nat) : Int) > ((0 : Nat) : Int)))), (16, .bool (decide (((r55.length : Nat) : Int) > ((0 : Nat) : Int)))), (15, .int .i64 r55.length), (14, .string ⟨(r55).toArray⟩)]) (fun φ56 => []) s (fun φ56 => by kernel_rfl) ?_
   intro φ56 w56 s
   rw [nat_gtr (a := r55.length) (b := 0)]
   rcases Bool.eq_false_or_eq_true (decide (0 < r55.length)) with hc57 | hc57
   ·
    rw [hc57]
    refine oK [] [] 4 [] 0 (fun φ58 => [(21, .int .i64 (IntKind.wrap .i64 (((r55.length : Nat) : Int) - ((1 : Nat) : Int)))), (20, .int .i64 r55.length), (19, .string ⟨(r55).toArray⟩), (18, .string ⟨(r55).toArray⟩)]) (fun φ58 => []) s (fun φ58 => by kernel_rfl) ?_
    intro φ58 w58 s
    rw [nat_subI (a := r55.length) (b := 1) (by have hzh1 := hi3_2; have hzh2 := hi55_2;  have hq0 := dF9 hc5; have hq1 := dT9 hc57; omega) (by have hzh1 := hi3_2; have hzh2 := hi55_2;  have hq0 := dF9 hc5; have hq1 := dT9 hc57; omega)]
    refine sem_rule (Instr.index 9 (.string ⟨(r55).toArray⟩) (.int .i64 ((r55.length - 1 : Nat) : Int))) (some 22) (.int .u8 (((r55.getD (r55.length - 1) 0).toNat : Nat) : Int)) (by kernel_rfl) (run_idxK (s := r55) (i := r55.length - 1) (by have hzh1 := hi3_2; have hzh2 := hi55_2;  have hq0 := dF9 hc5; have hq1 := dT9 hc57; omega)) ?_
    refine oK [] [] 2 [] 0 (fun φ59 => [(24, .bool ((((r55.getD (r55.length - 1) 0).toNat : Nat) : Int) == ((32 : Nat) : Int))), (23, .bool ((((r55.getD (r55.length - 1) 0).toNat : Nat) : Int) == ((32 : Nat) : Int)))]) (fun φ59 => []) s (fun φ59 => by kernel_rfl) ?_
    intro φ59 w59 s
    rw [nat_eql (a := ((r55.getD (r55.length - 1) 0).toNat)) (b := 32)]
    refine ops_done (by kernel_rfl) ?_
    rcases Bool.eq_false_or_eq_true (decide (((r55.getD (r55.length - 1) 0).toNat) = 32)) with hc60 | hc60
    ·
     rw [hc60]
     refine cond_true_rule (b := true) (by kernel_rfl) rfl ?_
     refine wp_skip ?_
     refine wp_block ?_
     refine region_rule ?_
     refine oK [] [] 4 [] 0 (fun φ61 => [(28, .int .i64 (IntKind.wrap .i64 (((r55.length : Nat) : Int) - ((1 : Nat) : Int)))), (27, .int .i64 r55.length), (26, .string ⟨(r55).toArray⟩), (25, .string ⟨(r55).toArray⟩)]) (fun φ61 => []) s (fun φ61 => by kernel_rfl) ?_
     intro φ61 w61 s
     rw [nat_subI (a := r55.length) (b := 1) (by have hzh1 := hi3_2; have hzh2 := hi55_2;  have hq0 := dF9 hc5; have hq1 := dT9 hc57; have hq2 := dT9 hc60; omega) (by have hzh1 := hi3_2; have hzh2 := hi55_2;  have hq0 := dF9 hc5; have hq1 := dT9 hc57; have hq2 := dT9 hc60; omega)]
     refine sem_rule (Instr.sliceAt 9 (.string ⟨(r55).toArray⟩) none (some (.int .i64 ((r55.length - 1 : Nat) : Int))) none) (some 29) (.string ⟨((r55.take (r55.length - 1))).toArray⟩) (by kernel_rfl) (run_takeS (s := r55) (hi := r55.length - 1) (by have hzh1 := hi3_2; have hzh2 := hi55_2;  have hq0 := dF9 hc5; have hq1 := dT9 hc57; have hq2 := dT9 hc60; omega)) ?_
     refine oKD [] [] 1 [] 0 (fun φ62 => [(0, .string ⟨((r55.take (r55.length - 1))).toArray⟩)]) (fun φ62 => []) s (fun φ62 => by kernel_rfl) (by kernel_rfl) ?_
     intro φ62 w62 s
     exact ⟨⟨m55 - 1, (r55.take (r55.length - 1)), _, _, _, by have hq0 := dF9 hc5; have hq1 := dT9 hc57; have hq2 := dT9 hc60; have h6 := hi55_0; omega, rfl, s, List.Sublist.slnil, by kernel_rfl, hle54, by have hq0 := dF9 hc5; have hq1 := dT9 hc57; have hq2 := dT9 hc60; have h6 := hi55_0; show (r55.take (r55.length - 1)).length ≤ m55 - 1; rw [List.length_take]; omega, (fl_trail (by have hq0 := dF9 hc5; have hq1 := dT9 hc57; have hq2 := dT9 hc60; omega) (by have hq0 := dF9 hc5; have hq1 := dT9 hc57; have hq2 := dT9 hc60; omega)).trans hi55_1, by have h6 := hi55_2; show (r55.take (r55.length - 1)).length ≤ l.length; rw [List.length_take]; omega, nl_take hi55_3⟩⟩
    ·
     rw [hc60]
     refine cond_false_rule (b := false) (by kernel_rfl) rfl ?_
     refine wp_exit ?_
     refine wp_seq ?_
     refine seqR ?_
     refine oKD [] [] 1 [] 0 (fun φ63 => [(3, .int .i64 0)]) (fun φ63 => []) s (fun φ63 => by kernel_rfl) (by kernel_rfl) ?_
     intro φ63 w63 s
     refine wp_block ?_
     have hnt65 : ¬ (0 < r55.length ∧ (r55.getD (r55.length - 1) 0).toNat = 32) := (by rintro ⟨q1, q2⟩; have hq0 := dF9 hc5; have hq1 := dT9 hc57; have hq2 := dF9 hc60; omega)
     have hle64 := IM.Le.refl I55
     refine loop_rule (fun (x : Nat) => [(0, .string ⟨(r55).toArray⟩), (2, .string ⟨#[]⟩), (3, .int .i64 x)]) (fun (x : Nat) => []) (fun m (x : Nat) J => IM.Le I55 J ∧ r55.length ≤ x + m ∧ (∀ j, j < x → j + 1 < r55.length → ¬ ((r55.getD j 0).toNat = 32 ∧ (r55.getD (j + 1) 0).toNat = 32)) ∧ x ≤ r55.length) (r55.length) 0 s (by kernel_rfl) List.Sublist.slnil ⟨IM.Le.refl _, by omega, (fun j hj => absurd hj (Nat.not_lt_zero j)), Nat.zero_le _⟩ ?_
     rintro m65 i65 I65 w65 ev65 s ⟨le65, hi65_0, hi65_1, hi65_2⟩
     try dsimp only at s hi65_0 hi65_1 hi65_2 ⊢
     replace hle64 := leMono le65 hle64
     refine wp_seq ?_
     refine seqR ?_
     refine oK [] [] 5 [] 0 (fun φ66 => [(34, .bool (decide ((IntKind.wrap .i64 (((i65 : Nat) : Int) + ((1 : Nat) : Int))) < ((r55.length : Nat) : Int)))), (33, .int .i64 r55.length), (32, .string ⟨(r55).toArray⟩), (31, .int .i64 (IntKind.wrap .i64 (((i65 : Nat) : Int) + ((1 : Nat) : Int)))), (30, .int .i64 i65)]) (fun φ66 => []) s (fun φ66 => by kernel_rfl) ?_
     intro φ66 w66 s
     rw [nat_addI (a := i65) (b := 1) (by have hzh1 := hi3_2; have hzh2 := hi55_2;  have hq0 := dF9 hc5; have hq1 := dT9 hc57; have hq2 := dF9 hc60; omega)]
     rw [nat_lss (a := (i65 + 1)) (b := r55.length)]
     refine ops_done (by kernel_rfl) ?_
     rcases Bool.eq_false_or_eq_true (decide ((i65 + 1) < r55.length)) with hc67 | hc67
     ·
      rw [hc67]
      refine cond_true_rule (b := true) (by kernel_rfl) rfl ?_
      refine wp_skip ?_
      refine wp_seq ?_
      refine wp_block ?_
      refine seqR ?_
      refine oK [] [] 2 [] 0 (fun φ68 => [(38, .int .i64 i65), (37, .string ⟨(r55).toArray⟩)]) (fun φ68 => []) s (fun φ68 => by kernel_rfl) ?_
      intro φ68 w68 s
      refine sem_rule (Instr.index 9 (.string ⟨(r55).toArray⟩) (.int .i64 i65)) (some 39) (.int .u8 (((r55.getD i65 0).toNat : Nat) : Int)) (by kernel_rfl) (run_idxK (s := r55) (i := i65) (by have hzh1 := hi3_2; have hzh2 := hi55_2;  have hq0 := dF9 hc5; have hq1 := dT9 hc57; have hq2 := dF9 hc60; have hq3 := dT9 hc67; omega)) ?_
      refine oK [] [] 2 [] 0 (fun φ69 => [(41, .bool ((((r55.getD i65 0).toNat : Nat) : Int) == ((32 : Nat) : Int))), (40, .bool ((((r55.getD i65 0).toNat : Nat) : Int) == ((32 : Nat) : Int)))]) (fun φ69 => []) s (fun φ69 => by kernel_rfl) ?_
      intro φ69 w69 s
      rw [nat_eql (a := ((r55.getD i65 0).toNat)) (b := 32)]
      rcases Bool.eq_false_or_eq_true (decide (((r55.getD i65 0).toNat) = 32)) with hc70 | hc70
      ·
       rw [hc70]
       refine oK [] [] 3 [] 0 (fun φ71 => [(44, .int .i64 (IntKind.wrap .i64 (((i65 : Nat) : Int) + ((1 : Nat) : Int)))), (43, .int .i64 i65), (42, .string ⟨(r55).toArray⟩)]) (fun φ71 => []) s (fun φ71 => by kernel_rfl) ?_
       intro φ71 w71 s
       rw [nat_addI (a := i65) (b := 1) (by have hzh1 := hi3_2; have hzh2 := hi55_2;  have hq0 := dF9 hc5; have hq1 := dT9 hc57; have hq2 := dF9 hc60; have hq3 := dT9 hc67; have hq4 := dT9 hc70; omega)]
       refine sem_rule (Instr.index 9 (.string ⟨(r55).toArray⟩) (.int .i64 ((i65 + 1 : Nat) : Int))) (some 45) (.int .u8 (((r55.getD (i65 + 1) 0).toNat : Nat) : Int)) (by kernel_rfl) (run_idxK (s := r55) (i := i65 + 1) (by have hzh1 := hi3_2; have hzh2 := hi55_2;  have hq0 := dF9 hc5; have hq1 := dT9 hc57; have hq2 := dF9 hc60; have hq3 := dT9 hc67; have hq4 := dT9 hc70; omega)) ?_
       refine oK [] [] 2 [] 0 (fun φ72 => [(47, .bool ((((r55.getD (i65 + 1) 0).toNat : Nat) : Int) == ((32 : Nat) : Int))), (46, .bool ((((r55.getD (i65 + 1) 0).toNat : Nat) : Int) == ((32 : Nat) : Int)))]) (fun φ72 => []) s (fun φ72 => by kernel_rfl) ?_
       intro φ72 w72 s
       rw [nat_eql (a := ((r55.getD (i65 + 1) 0).toNat)) (b := 32)]
       refine ops_done (by kernel_rfl) ?_
       rcases Bool.eq_false_or_eq_true (decide (((r55.getD (i65 + 1) 0).toNat) = 32)) with hc73 | hc73
       ·
        rw [hc73]
        refine cond_true_rule (b := true) (by kernel_rfl) rfl ?_
        refine wp_seq ?_
        refine draw_rule (C := []) ⟨(fun φ74 xs74 => [.look 0 [] [], .look 0 [] [], .ran (Instr.sliceAt 9 (.string ⟨(r55).toArray⟩) none (some (.int .i64 i65)) none), .look 0 [] [], .look 0 [] [], .sub 0 [] [] (.int .i64 (IntKind.wrap .i64 (((i65 : Nat) : Int) + ((1 : Nat) : Int)))), .ran (Instr.sliceAt 9 (.string ⟨(r55).toArray⟩) (some (.int .i64 ((i65 + 1 : Nat) : Int))) none none), .ran (binOp .add 9 (.string ⟨((r55.take i65)).toArray⟩) (.string ⟨((r55.drop (i65 + 1))).toArray⟩)), .call 63 #[.string ⟨(((r55.take i65) ++ (r55.drop (i65 + 1)))).toArray⟩], .look 0 [] []]), (fun φ74 xs74 => [.string ⟨(r55).toArray⟩, .int .i64 i65, .string ⟨((r55.take i65)).toArray⟩, .string ⟨(r55).toArray⟩, .int .i64 i65, .int .i64 ((i65 + 1 : Nat) : Int), .string ⟨((r55.drop (i65 + 1))).toArray⟩, .string ⟨(((r55.take i65) ++ (r55.drop (i65 + 1)))).toArray⟩, .string ⟨((fldS ((r55.take i65) ++ (r55.drop (i65 + 1))))).toArray⟩, .string ⟨((fldS ((r55.take i65) ++ (r55.drop (i65 + 1))))).toArray⟩]), (fun φ74 xs74 => [[]]), (fun φ74 xs74 => [[default, default, default, default, default, default, default, default, default, default]]), [], [1, 1, 6, 1, 1, 5, 6, 6, 3, 1]⟩ (fun j => ([MP.any] : List MP).getD j MP.any) [8] [5] [2, 6, 7] (fun φ74 xs74 => []) (fun φ74 xs74 => [(48, .string ⟨(r55).toArray⟩), (49, .int .i64 i65), (50, .string ⟨((r55.take i65)).toArray⟩), (51, .string ⟨(r55).toArray⟩), (52, .int .i64 i65), (53, .int .i64 ((i65 + 1 : Nat) : Int)), (54, .string ⟨((r55.drop (i65 + 1))).toArray⟩), (55, .string ⟨(((r55.take i65) ++ (r55.drop (i65 + 1)))).toArray⟩), (56, .string ⟨((fldS ((r55.take i65) ++ (r55.drop (i65 + 1))))).toArray⟩), (2, .string ⟨((fldS ((r55.take i65) ++ (r55.drop (i65 + 1))))).toArray⟩)]) (fun φ74 xs74 => []) s trivial (by kernel_rfl) (by kernel_rfl) (fun _ _ => by kernel_rfl) (fun _ _ => by kernel_rfl) ⟨fun _ _ => by kernel_rfl, fun _ _ => by kernel_rfl, fun _ _ => by kernel_rfl, fun _ _ => by kernel_rfl⟩ (fun _ _ _ => by kernel_rfl) (fun _ _ => by kernel_rfl) (fun _ _ => by kernel_rfl) (fun _ _ => by kernel_rfl) (fun _ _ => by kernel_rfl) (fun _ _ => by kernel_rfl) ⟨kcast (A := ∀ (φ74 : Nat → Nat) (xs74 : Xs), (.int .i64 (IntKind.wrap .i64 (((i65 : Nat) : Int) + ((1 : Nat) : Int))) : Value) = .int .i64 ((i65 + 1 : Nat) : Int)) (by kernel_rfl) (fun φ74 xs74 => congrArg (Value.int .i64) ((nat_addI (a := i65) (b := 1) (by have hzh1 := hi3_2; have hzh2 := hi55_2;  have hq0 := dF9 hc5; have hq1 := dT9 hc57; have hq2 := dF9 hc60; have hq3 := dT9 hc67; have hq4 := dT9 hc70; have hq5 := dT9 hc73; omega)))), trivial⟩ ⟨kcast (A := ∀ (φ74 : Nat → Nat) (xs74 : Xs) (J : IM) (w : World), I65.Le J → J.Sub w → ((Instr.sliceAt 9 (.string ⟨(r55).toArray⟩) none (some (.int .i64 i65)) none) : Sem Value).run Tryd.prog w = .ok (.string ⟨((r55.take i65)).toArray⟩) w) (by kernel_rfl) (fun φ74 xs74 J w hJ hS => run_takeS (s := r55) (hi := i65) (by have hzh1 := hi3_2; have hzh2 := hi55_2;  have hq0 := dF9 hc5; have hq1 := dT9 hc57; have hq2 := dF9 hc60; have hq3 := dT9 hc67; have hq4 := dT9 hc70; have hq5 := dT9 hc73; omega)), ⟨kcast (A := ∀ (φ74 : Nat → Nat) (xs74 : Xs) (J : IM) (w : World), I65.Le J → J.Sub w → ((Instr.sliceAt 9 (.string ⟨(r55).toArray⟩) (some (.int .i64 ((i65 + 1 : Nat) : Int))) none none) : Sem Value).run Tryd.prog w = .ok (.string ⟨((r55.drop (i65 + 1))).toArray⟩) w) (by kernel_rfl) (fun φ74 xs74 J w hJ hS => run_dropStr (s := r55) (lo := i65 + 1) under9 (by have hzh1 := hi3_2; have hzh2 := hi55_2;  have hq0 := dF9 hc5; have hq1 := dT9 hc57; have hq2 := dF9 hc60; have hq3 := dT9 hc67; have hq4 := dT9 hc70; have hq5 := dT9 hc73; omega)), ⟨kcast (A := ∀ (φ74 : Nat → Nat) (xs74 : Xs) (J : IM) (w : World), I65.Le J → J.Sub w → ((binOp .add 9 (.string ⟨((r55.take i65)).toArray⟩) (.string ⟨((r55.drop (i65 + 1))).toArray⟩)) : Sem Value).run Tryd.prog w = .ok (.string ⟨(((r55.take i65) ++ (r55.drop (i65 + 1)))).toArray⟩) w) (by kernel_rfl) (fun φ74 xs74 J w hJ hS => run_cat (x := (r55.take i65)) (y := (r55.drop (i65 + 1))) (by have h6 := hi55_2; have hq0 := dF9 hc5; have hq1 := dT9 hc57; have hq2 := dF9 hc60; have hq3 := dT9 hc67; have hq4 := dT9 hc70; have hq5 := dT9 hc73; rw [List.length_take, List.length_drop]; omega)), trivial⟩⟩⟩ (by kernel_rfl) ⟨?c74_8, trivial⟩ ?k74
        case c74_8 =>
         refine kcast (A := ∀ (φ74 : Nat → Nat) (xs74 : Xs) (J8_74 : IM), I65.Le J8_74 → Fun Tryd.prog 63 #[.string ⟨(((r55.take i65) ++ (r55.drop (i65 + 1)))).toArray⟩] J8_74 (fun v J' => ∃ x : UX, v = .string ⟨((fldS ((r55.take i65) ++ (r55.drop (i65 + 1))))).toArray⟩ ∧ (True))) (by kernel_rfl) ?_
         intro φ74 xs74 J8_74 leJ
         exact Fun.mono (ih (l := ((r55.take i65) ++ (r55.drop (i65 + 1)))) (by have h6 := hi55_2; have hq0 := dF9 hc5; have hq1 := dT9 hc57; have hq2 := dF9 hc60; have hq3 := dT9 hc67; have hq4 := dT9 hc70; have hq5 := dT9 hc73; rw [List.length_append, List.length_take, List.length_drop]; omega) (by have h6 := hi55_2; have hq0 := dF9 hc5; have hq1 := dT9 hc57; have hq2 := dF9 hc60; have hq3 := dT9 hc67; have hq4 := dT9 hc70; have hq5 := dT9 hc73; rw [List.length_append, List.length_take, List.length_drop]; omega)) (fun v J' _ h => ⟨UX.d, h, trivial⟩)
        case k74 =>
         rintro φ74 xs74 I74 w74 le74 s _
         replace hle64 := leMono le74 hle64
         refine wp_ret ?_
         refine ret_rule (C := []) [] [] (.string ⟨((fldS ((r55.take i65) ++ (r55.drop (i65 + 1))))).toArray⟩) [] [] s trivial (by kernel_rfl) ?_
         exact ⟨_, _, _, rfl, s, (congrArg (fun q : List UInt8 => Value.string ⟨q.toArray⟩) ((fl_two (by have hq0 := dF9 hc5; have hq1 := dT9 hc57; have hq2 := dF9 hc60; have hq3 := dT9 hc67; have hq4 := dT9 hc70; have hq5 := dT9 hc73; omega) (by have hq0 := dF9 hc5; have hq1 := dT9 hc57; have hq2 := dF9 hc60; have hq3 := dT9 hc67; have hq4 := dT9 hc70; have hq5 := dT9 hc73; omega) (by have hq0 := dF9 hc5; have hq1 := dT9 hc57; have hq2 := dF9 hc60; have hq3 := dT9 hc67; have hq4 := dT9 hc70; have hq5 := dT9 hc73; omega)).trans hi55_1))⟩
       ·
        rw [hc73]
        refine cond_false_rule (b := false) (by kernel_rfl) rfl ?_
        refine wp_skip ?_
        refine region_rule ?_
        refine oK [] [] 3 [] 0 (fun φ75 => [(3, .int .i64 (IntKind.wrap .i64 (((i65 : Nat) : Int) + ((1 : Nat) : Int)))), (36, .int .i64 (IntKind.wrap .i64 (((i65 : Nat) : Int) + ((1 : Nat) : Int)))), (35, .int .i64 i65)]) (fun φ75 => []) s (fun φ75 => by kernel_rfl) ?_
        intro φ75 w75 s
        rw [nat_addI (a := i65) (b := 1) (by have hzh1 := hi3_2; have hzh2 := hi55_2;  have hq0 := dF9 hc5; have hq1 := dT9 hc57; have hq2 := dF9 hc60; have hq3 := dT9 hc67; have hq4 := dT9 hc70; have hq5 := dF9 hc73; omega)]
        refine ops_done (by kernel_rfl) ?_
        exact ⟨⟨m65 - 1, i65 + 1, _, _, _, by have hq0 := dF9 hc5; have hq1 := dT9 hc57; have hq2 := dF9 hc60; have hq3 := dT9 hc67; have hq4 := dT9 hc70; have hq5 := dF9 hc73; have h6 := hi65_0; omega, rfl, s, List.Sublist.slnil, by kernel_rfl, hle64, by have hq0 := dF9 hc5; have hq1 := dT9 hc57; have hq2 := dF9 hc60; have hq3 := dT9 hc67; have hq4 := dT9 hc70; have hq5 := dF9 hc73; have h6 := hi65_0; show r55.length ≤ i65 + 1 + (m65 - 1); omega, (by have hq0 := dF9 hc5; have hq1 := dT9 hc57; have hq2 := dF9 hc60; have hq3 := dT9 hc67; have hq4 := dT9 hc70; have hq5 := dF9 hc73; intro j hj hl hh; rcases (by omega : j < i65 ∨ j = i65) with q | q; exact hi65_1 j q hl hh; subst q; omega), by have hq0 := dF9 hc5; have hq1 := dT9 hc57; have hq2 := dF9 hc60; have hq3 := dT9 hc67; have hq4 := dT9 hc70; have hq5 := dF9 hc73; show i65 + 1 ≤ r55.length; omega⟩⟩
      ·
       rw [hc70]
       refine oKD [] [] 6 [] 0 (fun φ76 => [(47, .bool false), (46, undef), (45, undef), (44, undef), (43, undef), (42, undef)]) (fun φ76 => []) s (fun φ76 => by kernel_rfl) (by kernel_rfl) ?_
       intro φ76 w76 s
       refine cond_false_rule (b := false) (by kernel_rfl) rfl ?_
       refine wp_skip ?_
       refine region_rule ?_
       refine oK [] [] 3 [] 0 (fun φ77 => [(3, .int .i64 (IntKind.wrap .i64 (((i65 : Nat) : Int) + ((1 : Nat) : Int)))), (36, .int .i64 (IntKind.wrap .i64 (((i65 : Nat) : Int) + ((1 : Nat) : Int)))), (35, .int .i64 i65)]) (fun φ77 => []) s (fun φ77 => by kernel_rfl) ?_
       intro φ77 w77 s
       rw [nat_addI (a := i65) (b := 1) (by have hzh1 := hi3_2; have hzh2 := hi55_2;  have hq0 := dF9 hc5; have hq1 := dT9 hc57; have hq2 := dF9 hc60; have hq3 := dT9 hc67; have hq4 := dF9 hc70; omega)]
       refine ops_done (by kernel_rfl) ?_
       exact ⟨⟨m65 - 1, i65 + 1, _, _, _, by have hq0 := dF9 hc5; have hq1 := dT9 hc57; have hq2 := dF9 hc60; have hq3 := dT9 hc67; have hq4 := dF9 hc70; have h6 := hi65_0; omega, rfl, s, List.Sublist.slnil, by kernel_rfl, hle64, by have hq0 := dF9 hc5; have hq1 := dT9 hc57; have hq2 := dF9 hc60; have hq3 := dT9 hc67; have hq4 := dF9 hc70; have h6 := hi65_0; show r55.length ≤ i65 + 1 + (m65 - 1); omega, (by have hq0 := dF9 hc5; have hq1 := dT9 hc57; have hq2 := dF9 hc60; have hq3 := dT9 hc67; have hq4 := dF9 hc70; intro j hj hl hh; rcases (by omega : j < i65 ∨ j = i65) with q | q; exact hi65_1 j q hl hh; subst q; omega), by have hq0 := dF9 hc5; have hq1 := dT9 hc57; have hq2 := dF9 hc60; have hq3 := dT9 hc67; have hq4 := dF9 hc70; show i65 + 1 ≤ r55.length; omega⟩⟩
     ·
      rw [hc67]
      refine cond_false_rule (b := false) (by kernel_rfl) rfl ?_
      refine wp_exit ?_
      refine seqR ?_
      refine oKD [] [] 2 [] 0 (fun φ78 => [(2, .string ⟨(r55).toArray⟩), (57, .string ⟨(r55).toArray⟩)]) (fun φ78 => []) s (fun φ78 => by kernel_rfl) (by kernel_rfl) ?_
      intro φ78 w78 s
      refine wp_ret ?_
      refine ret_rule (C := []) [] [] (.string ⟨(r55).toArray⟩) [] [] s trivial (by kernel_rfl) ?_
      exact ⟨_, _, _, rfl, s, (congrArg (fun q : List UInt8 => Value.string ⟨q.toArray⟩) ((fl_end hi55_3 hnt65 (by have hq0 := dF9 hc5; have hq1 := dT9 hc57; have hq2 := dF9 hc60; have hq3 := dF9 hc67; intro j hl; exact hi65_1 j (by omega) hl)).trans hi55_1))⟩
   ·
    rw [hc57]
    refine oKD [] [] 7 [] 0 (fun φ79 => [(24, .bool false), (23, undef), (22, undef), (21, undef), (20, undef), (19, undef), (18, undef)]) (fun φ79 => []) s (fun φ79 => by kernel_rfl) (by kernel_rfl) ?_
    intro φ79 w79 s
    refine cond_false_rule (b := false) (by kernel_rfl) rfl ?_
    refine wp_exit ?_
    refine wp_seq ?_
    refine seqR ?_
    refine oKD [] [] 1 [] 0 (fun φ80 => [(3, .int .i64 0)]) (fun φ80 => []) s (fun φ80 => by kernel_rfl) (by kernel_rfl) ?_
    intro φ80 w80 s
    refine wp_block ?_
    have hnt82 : ¬ (0 < r55.length ∧ (r55.getD (r55.length - 1) 0).toNat = 32) := (by rintro ⟨q1, q2⟩; have hq0 := dF9 hc5; have hq1 := dF9 hc57; omega)
    have hle81 := IM.Le.refl I55
    refine loop_rule (fun (x : Nat) => [(0, .string ⟨(r55).toArray⟩), (2, .string ⟨#[]⟩), (3, .int .i64 x)]) (fun (x : Nat) => []) (fun m (x : Nat) J => IM.Le I55 J ∧ r55.length ≤ x + m ∧ (∀ j, j < x → j + 1 < r55.length → ¬ ((r55.getD j 0).toNat = 32 ∧ (r55.getD (j + 1) 0).toNat = 32)) ∧ x ≤ r55.length) (r55.length) 0 s (by kernel_rfl) List.Sublist.slnil ⟨IM.Le.refl _, by omega, (fun j hj => absurd hj (Nat.not_lt_zero j)), Nat.zero_le _⟩ ?_
    rintro m82 i82 I82 w82 ev82 s ⟨le82, hi82_0, hi82_1, hi82_2⟩
    try dsimp only at s hi82_0 hi82_1 hi82_2 ⊢
    replace hle81 := leMono le82 hle81
    refine wp_seq ?_
    refine seqR ?_
    refine oK [] [] 5 [] 0 (fun φ83 => [(34, .bool (decide ((IntKind.wrap .i64 (((i82 : Nat) : Int) + ((1 : Nat) : Int))) < ((r55.length : Nat) : Int)))), (33, .int .i64 r55.length), (32, .string ⟨(r55).toArray⟩), (31, .int .i64 (IntKind.wrap .i64 (((i82 : Nat) : Int) + ((1 : Nat) : Int)))), (30, .int .i64 i82)]) (fun φ83 => []) s (fun φ83 => by kernel_rfl) ?_
    intro φ83 w83 s
    rw [nat_addI (a := i82) (b := 1) (by have hzh1 := hi3_2; have hzh2 := hi55_2;  have hq0 := dF9 hc5; have hq1 := dF9 hc57; omega)]
    rw [nat_lss (a := (i82 + 1)) (b := r55.length)]
    refine ops_done (by kernel_rfl) ?_
    rcases Bool.eq_false_or_eq_true (decide ((i82 + 1) < r55.length)) with hc84 | hc84
    ·
     rw [hc84]
     refine cond_true_rule (b := true) (by kernel_rfl) rfl ?_
     refine wp_skip ?_
     refine wp_seq ?_
     refine wp_block ?_
     refine seqR ?_
     refine oK [] [] 2 [] 0 (fun φ85 => [(38, .int .i64 i82), (37, .string ⟨(r55).toArray⟩)]) (fun φ85 => []) s (fun φ85 => by kernel_rfl) ?_
     intro φ85 w85 s
     refine sem_rule (Instr.index 9 (.string ⟨(r55).toArray⟩) (.int .i64 i82)) (some 39) (.int .u8 (((r55.getD i82 0).toNat : Nat) : Int)) (by kernel_rfl) (run_idxK (s := r55) (i := i82) (by have hzh1 := hi3_2; have hzh2 := hi55_2;  have hq0 := dF9 hc5; have hq1 := dF9 hc57; have hq2 := dT9 hc84; omega)) ?_
     refine oK [] [] 2 [] 0 (fun φ86 => [(41, .bool ((((r55.getD i82 0).toNat : Nat) : Int) == ((32 : Nat) : Int))), (40, .bool ((((r55.getD i82 0).toNat : Nat) : Int) == ((32 : Nat) : Int)))]) (fun φ86 => []) s (fun φ86 => by kernel_rfl) ?_
     intro φ86 w86 s
     rw [nat_eql (a := ((r55.getD i82 0).toNat)) (b := 32)]
     rcases Bool.eq_false_or_eq_true (decide (((r55.getD i82 0).toNat) = 32)) with hc87 | hc87
     ·
      rw [hc87]
      refine oK [] [] 3 [] 0 (fun φ88 => [(44, .int .i64 (IntKind.wrap .i64 (((i82 : Nat) : Int) + ((1 : Nat) : Int)))), (43, .int .i64 i82), (42, .string ⟨(r55).toArray⟩)]) (fun φ88 => []) s (fun φ88 => by kernel_rfl) ?_
      intro φ88 w88 s
      rw [nat_addI (a := i82) (b := 1) (by have hzh1 := hi3_2; have hzh2 := hi55_2;  have hq0 := dF9 hc5; have hq1 := dF9 hc57; have hq2 := dT9 hc84; have hq3 := dT9 hc87; omega)]
      refine sem_rule (Instr.index 9 (.string ⟨(r55).toArray⟩) (.int .i64 ((i82 + 1 : Nat) : Int))) (some 45) (.int .u8 (((r55.getD (i82 + 1) 0).toNat : Nat) : Int)) (by kernel_rfl) (run_idxK (s := r55) (i := i82 + 1) (by have hzh1 := hi3_2; have hzh2 := hi55_2;  have hq0 := dF9 hc5; have hq1 := dF9 hc57; have hq2 := dT9 hc84; have hq3 := dT9 hc87; omega)) ?_
      refine oK [] [] 2 [] 0 (fun φ89 => [(47, .bool ((((r55.getD (i82 + 1) 0).toNat : Nat) : Int) == ((32 : Nat) : Int))), (46, .bool ((((r55.getD (i82 + 1) 0).toNat : Nat) : Int) == ((32 : Nat) : Int)))]) (fun φ89 => []) s (fun φ89 => by kernel_rfl) ?_
      intro φ89 w89 s
      rw [nat_eql (a := ((r55.getD (i82 + 1) 0).toNat)) (b := 32)]
      refine ops_done (by kernel_rfl) ?_
      rcases Bool.eq_false_or_eq_true (decide (((r55.getD (i82 + 1) 0).toNat) = 32)) with hc90 | hc90
      ·
       rw [hc90]
       refine cond_true_rule (b := true) (by kernel_rfl) rfl ?_
       refine wp_seq ?_
       refine draw_rule (C := []) ⟨(fun φ91 xs91 => [.look 0 [] [], .look 0 [] [], .ran (Instr.sliceAt 9 (.string ⟨(r55).toArray⟩) none (some (.int .i64 i82)) none), .look 0 [] [], .look 0 [] [], .sub 0 [] [] (.int .i64 (IntKind.wrap .i64 (((i82 : Nat) : Int) + ((1 : Nat) : Int)))), .ran (Instr.sliceAt 9 (.string ⟨(r55).toArray⟩) (some (.int .i64 ((i82 + 1 : Nat) : Int))) none none), .ran (binOp .add 9 (.string ⟨((r55.take i82)).toArray⟩) (.string ⟨((r55.drop (i82 + 1))).toArray⟩)), .call 63 #[.string ⟨(((r55.take i82) ++ (r55.drop (i82 + 1)))).toArray⟩], .look 0 [] []]), (fun φ91 xs91 => [.string ⟨(r55).toArray⟩, .int .i64 i82, .string ⟨((r55.take i82)).toArray⟩, .string ⟨(r55).toArray⟩, .int .i64 i82, .int .i64 ((i82 + 1 : Nat) : Int), .string ⟨((r55.drop (i82 + 1))).toArray⟩, .string ⟨(((r55.take i82) ++ (r55.drop (i82 + 1)))).toArray⟩, .string ⟨((fldS ((r55.take i82) ++ (r55.drop (i82 + 1))))).toArray⟩, .string ⟨((fldS ((r55.take i82) ++ (r55.drop (i82 + 1))))).toArray⟩]), (fun φ91 xs91 => [[]]), (fun φ91 xs91 => [[default, default, default, default, default, default, default, default, default, default]]), [], [1, 1, 6, 1, 1, 5, 6, 6, 3, 1]⟩ (fun j => ([MP.any] : List MP).getD j MP.any) [8] [5] [2, 6, 7] (fun φ91 xs91 => []) (fun φ91 xs91 => [(48, .string ⟨(r55).toArray⟩), (49, .int .i64 i82), (50, .string ⟨((r55.take i82)).toArray⟩), (51, .string ⟨(r55).toArray⟩), (52, .int .i64 i82), (53, .int .i64 ((i82 + 1 : Nat) : Int)), (54, .string ⟨((r55.drop (i82 + 1))).toArray⟩), (55, .string ⟨(((r55.take i82) ++ (r55.drop (i82 + 1)))).toArray⟩), (56, .string ⟨((fldS ((r55.take i82) ++ (r55.drop (i82 + 1))))).toArray⟩), (2, .string ⟨((fldS ((r55.take i82) ++ (r55.drop (i82 + 1))))).toArray⟩)]) (fun φ91 xs91 => []) s trivial (by kernel_rfl) (by kernel_rfl) (fun _ _ => by kernel_rfl) (fun _ _ => by kernel_rfl) ⟨fun _ _ => by kernel_rfl, fun _ _ => by kernel_rfl, fun _ _ => by kernel_rfl, fun _ _ => by kernel_rfl⟩ (fun _ _ _ => by kernel_rfl) (fun _ _ => by kernel_rfl) (fun _ _ => by kernel_rfl) (fun _ _ => by kernel_rfl) (fun _ _ => by kernel_rfl) (fun _ _ => by kernel_rfl) ⟨kcast (A := ∀ (φ91 : Nat → Nat) (xs91 : Xs), (.int .i64 (IntKind.wrap .i64 (((i82 : Nat) : Int) + ((1 : Nat) : Int))) : Value) = .int .i64 ((i82 + 1 : Nat) : Int)) (by kernel_rfl) (fun φ91 xs91 => congrArg (Value.int .i64) ((nat_addI (a := i82) (b := 1) (by have hzh1 := hi3_2; have hzh2 := hi55_2;  have hq0 := dF9 hc5; have hq1 := dF9 hc57; have hq2 := dT9 hc84; have hq3 := dT9 hc87; have hq4 := dT9 hc90; omega)))), trivial⟩ ⟨kcast (A := ∀ (φ91 : Nat → Nat) (xs91 : Xs) (J : IM) (w : World), I82.Le J → J.Sub w → ((Instr.sliceAt 9 (.string ⟨(r55).toArray⟩) none (some (.int .i64 i82)) none) : Sem Value).run Tryd.prog w = .ok (.string ⟨((r55.take i82)).toArray⟩) w) (by kernel_rfl) (fun φ91 xs91 J w hJ hS => run_takeS (s := r55) (hi := i82) (by have hzh1 := hi3_2; have hzh2 := hi55_2;  have hq0 := dF9 hc5; have hq1 := dF9 hc57; have hq2 := dT9 hc84; have hq3 := dT9 hc87; have hq4 := dT9 hc90; omega)), ⟨kcast (A := ∀ (φ91 : Nat → Nat) (xs91 : Xs) (J : IM) (w : World), I82.Le J → J.Sub w → ((Instr.sliceAt 9 (.string ⟨(r55).toArray⟩) (some (.int .i64 ((i82 + 1 : Nat) : Int))) none none) : Sem Value).run Tryd.prog w = .ok (.string ⟨((r55.drop (i82 + 1))).toArray⟩) w) (by kernel_rfl) (fun φ91 xs91 J w hJ hS => run_dropStr (s := r55) (lo := i82 + 1) under9 (by have hzh1 := hi3_2; have hzh2 := hi55_2;  have hq0 := dF9 hc5; have hq1 := dF9 hc57; have hq2 := dT9 hc84; have hq3 := dT9 hc87; have hq4 := dT9 hc90; omega)), ⟨kcast (A := ∀ (φ91 : Nat → Nat) (xs91 : Xs) (J : IM) (w : World), I82.Le J → J.Sub w → ((binOp .add 9 (.string ⟨((r55.take i82)).toArray⟩) (.string ⟨((r55.drop (i82 + 1))).toArray⟩)) : Sem Value).run Tryd.prog w = .ok (.string ⟨(((r55.take i82) ++ (r55.drop (i82 + 1)))).toArray⟩) w) (by kernel_rfl) (fun φ91 xs91 J w hJ hS => run_cat (x := (r55.take i82)) (y := (r55.drop (i82 + 1))) (by have h6 := hi55_2; have hq0 := dF9 hc5; have hq1 := dF9 hc57; have hq2 := dT9 hc84; have hq3 := dT9 hc87; have hq4 := dT9 hc90; rw [List.length_take, List.length_drop]; omega)), trivial⟩⟩⟩ (by kernel_rfl) ⟨?c91_8, trivial⟩ ?k91
       case c91_8 =>
        refine kcast (A := ∀ (φ91 : Nat → Nat) (xs91 : Xs) (J8_91 : IM), I82.Le J8_91 → Fun Tryd.prog 63 #[.string ⟨(((r55.take i82) ++ (r55.drop (i82 + 1)))).toArray⟩] J8_91 (fun v J' => ∃ x : UX, v = .string ⟨((fldS ((r55.take i82) ++ (r55.drop (i82 + 1))))).toArray⟩ ∧ (True))) (by kernel_rfl) ?_
        intro φ91 xs91 J8_91 leJ
        exact Fun.mono (ih (l := ((r55.take i82) ++ (r55.drop (i82 + 1)))) (by have h6 := hi55_2; have hq0 := dF9 hc5; have hq1 := dF9 hc57; have hq2 := dT9 hc84; have hq3 := dT9 hc87; have hq4 := dT9 hc90; rw [List.length_append, List.length_take, List.length_drop]; omega) (by have h6 := hi55_2; have hq0 := dF9 hc5; have hq1 := dF9 hc57; have hq2 := dT9 hc84; have hq3 := dT9 hc87; have hq4 := dT9 hc90; rw [List.length_append, List.length_take, List.length_drop]; omega)) (fun v J' _ h => ⟨UX.d, h, trivial⟩)
       case k91 =>
        rintro φ91 xs91 I91 w91 le91 s _
        replace hle81 := leMono le91 hle81
        refine wp_ret ?_
        refine ret_rule (C := []) [] [] (.string ⟨((fldS ((r55.take i82) ++ (r55.drop (i82 + 1))))).toArray⟩) [] [] s trivial (by kernel_rfl) ?_
        exact ⟨_, _, _, rfl, s, (congrArg (fun q : List UInt8 => Value.string ⟨q.toArray⟩) ((fl_two (by have hq0 := dF9 hc5; have hq1 := dF9 hc57; have hq2 := dT9 hc84; have hq3 := dT9 hc87; have hq4 := dT9 hc90; omega) (by have hq0 := dF9 hc5; have hq1 := dF9 hc57; have hq2 := dT9 hc84; have hq3 := dT9 hc87; have hq4 := dT9 hc90; omega) (by have hq0 := dF9 hc5; have hq1 := dF9 hc57; have hq2 := dT9 hc84; have hq3 := dT9 hc87; have hq4 := dT9 hc90; omega)).trans hi55_1))⟩
      ·
       rw [hc90]
       refine cond_false_rule (b := false) (by kernel_rfl) rfl ?_
       refine wp_skip ?_
       refine region_rule ?_
       refine oK [] [] 3 [] 0 (fun φ92 => [(3, .int .i64 (IntKind.wrap .i64 (((i82 : Nat) : Int) + ((1 : Nat) : Int)))), (36, .int .i64 (IntKind.wrap .i64 (((i82 : Nat) : Int) + ((1 : Nat) : Int)))), (35, .int .i64 i82)]) (fun φ92 => []) s (fun φ92 => by kernel_rfl) ?_
       intro φ92 w92 s
       rw [nat_addI (a := i82) (b := 1) (by have hzh1 := hi3_2; have hzh2 := hi55_2;  have hq0 := dF9 hc5; have hq1 := dF9 hc57; have hq2 := dT9 hc84; have hq3 := dT9 hc87; have hq4 := dF9 hc90; omega)]
       refine ops_done (by kernel_rfl) ?_
       exact ⟨⟨m82 - 1, i82 + 1, _, _, _, by have hq0 := dF9 hc5; have hq1 := dF9 hc57; have hq2 := dT9 hc84; have hq3 := dT9 hc87; have hq4 := dF9 hc90; have h6 := hi82_0; omega, rfl, s, List.Sublist.slnil, by kernel_rfl, hle81, by have hq0 := dF9 hc5; have hq1 := dF9 hc57; have hq2 := dT9 hc84; have hq3 := dT9 hc87; have hq4 := dF9 hc90; have h6 := hi82_0; show r55.length ≤ i82 + 1 + (m82 - 1); omega, (by have hq0 := dF9 hc5; have hq1 := dF9 hc57; have hq2 := dT9 hc84; have hq3 := dT9 hc87; have hq4 := dF9 hc90; intro j hj hl hh; rcases (by omega : j < i82 ∨ j = i82) with q | q; exact hi82_1 j q hl hh; subst q; omega), by have hq0 := dF9 hc5; have hq1 := dF9 hc57; have hq2 := dT9 hc84; have hq3 := dT9 hc87; have hq4 := dF9 hc90; show i82 + 1 ≤ r55.length; omega⟩⟩
     ·
      rw [hc87]
      refine oKD [] [] 6 [] 0 (fun φ93 => [(47, .bool false), (46, undef), (45, undef), (44, undef), (43, undef), (42, undef)]) (fun φ93 => []) s (fun φ93 => by kernel_rfl) (by kernel_rfl) ?_
      intro φ93 w93 s
      refine cond_false_rule (b := false) (by kernel_rfl) rfl ?_
      refine wp_skip ?_
      refine region_rule ?_
      refine oK [] [] 3 [] 0 (fun φ94 => [(3, .int .i64 (IntKind.wrap .i64 (((i82 : Nat) : Int) + ((1 : Nat) : Int)))), (36, .int .i64 (IntKind.wrap .i64 (((i82 : Nat) : Int) + ((1 : Nat) : Int)))), (35, .int .i64 i82)]) (fun φ94 => []) s (fun φ94 => by kernel_rfl) ?_
      intro φ94 w94 s
      rw [nat_addI (a := i82) (b := 1) (by have hzh1 := hi3_2; have hzh2 := hi55_2;  have hq0 := dF9 hc5; have hq1 := dF9 hc57; have hq2 := dT9 hc84; have hq3 := dF9 hc87; omega)]
      refine ops_done (by kernel_rfl) ?_
      exact ⟨⟨m82 - 1, i82 + 1, _, _, _, by have hq0 := dF9 hc5; have hq1 := dF9 hc57; have hq2 := dT9 hc84; have hq3 := dF9 hc87; have h6 := hi82_0; omega, rfl, s, List.Sublist.slnil, by kernel_rfl, hle81, by have hq0 := dF9 hc5; have hq1 := dF9 hc57; have hq2 := dT9 hc84; have hq3 := dF9 hc87; have h6 := hi82_0; show r55.length ≤ i82 + 1 + (m82 - 1); omega, (by have hq0 := dF9 hc5; have hq1 := dF9 hc57; have hq2 := dT9 hc84; have hq3 := dF9 hc87; intro j hj hl hh; rcases (by omega : j < i82 ∨ j = i82) with q | q; exact hi82_1 j q hl hh; subst q; omega), by have hq0 := dF9 hc5; have hq1 := dF9 hc57; have hq2 := dT9 hc84; have hq3 := dF9 hc87; show i82 + 1 ≤ r55.length; omega⟩⟩
    ·
     rw [hc84]
     refine cond_false_rule (b := false) (by kernel_rfl) rfl ?_
     refine wp_exit ?_
     refine seqR ?_
     refine oKD [] [] 2 [] 0 (fun φ95 => [(2, .string ⟨(r55).toArray⟩), (57, .string ⟨(r55).toArray⟩)]) (fun φ95 => []) s (fun φ95 => by kernel_rfl) (by kernel_rfl) ?_
     intro φ95 w95 s
     refine wp_ret ?_
     refine ret_rule (C := []) [] [] (.string ⟨(r55).toArray⟩) [] [] s trivial (by kernel_rfl) ?_
     exact ⟨_, _, _, rfl, s, (congrArg (fun q : List UInt8 => Value.string ⟨q.toArray⟩) ((fl_end hi55_3 hnt82 (by have hq0 := dF9 hc5; have hq1 := dF9 hc57; have hq2 := dF9 hc84; intro j hl; exact hi82_1 j (by omega) hl)).trans hi55_1))⟩

theorem refFold_c {I : IM} {l : List UInt8} (hn : l.length ≤ 1000000) : Fun Tryd.prog 63 #[.string ⟨(l).toArray⟩] I (fun v J => v = .string ⟨(fldS l).toArray⟩) := refFold_n (l.length + 1) (by omega) hn

end Go.Proofs.YtcpmjogeafhpnaaDoor.Tx

/- What a phone's number is, byte by byte. -/
set_option linter.all false
set_option maxRecDepth 100000
namespace Go.Proofs.YtcpmjogeafhpnaaDoor.Tx
open Go.RowKit Go.Sep Go.Lib
theorem dR_byte {l : List UInt8} {p : Nat} (h : (l.getD p 0).toNat < 128) : dR l p = (l.getD p 0).toNat ∧ dW l p = 1 := by
  have e := dN l p
  unfold decodeN at e
  rw [if_pos h] at e
  exact Prod.mk.inj e
set_option maxHeartbeats 2000000 in
theorem dR_small {l : List UInt8} {p : Nat} (h : dR l p < 128) : dR l p = (l.getD p 0).toNat ∧ dW l p = 1 := by
  by_cases hb : (l.getD p 0).toNat < 128
  · exact dR_byte hb
  · exfalso
    have e := dN l p
    unfold decodeN at e
    rw [if_neg hb] at e
    have e1 := (Prod.mk.inj e).1
    revert e
    (repeat' split) <;> (intro e; have e2 := (Prod.mk.inj e).1; omega)
/-- how many digits it has; none: it isn't one -/
def phG : Bool → List UInt8 → Option Nat
  | _, [] => some 0
  | f, b :: r => if 48 ≤ b.toNat ∧ b.toNat ≤ 57 then (phG false r).map (· + 1) else if b.toNat = 32 ∨ b.toNat = 45 ∨ (b.toNat = 43 ∧ f = true) then phG false r else none
def phone (l : List UInt8) : Bool := match phG true l with | none => false | some c => decide (0 < c) && decide (l.length ≤ 20)
def phI (l : List UInt8) (i d : Nat) : Prop := phG true l = (phG (decide (i = 0)) (l.drop i)).map (d + ·)
theorem ph_start (l : List UInt8) : phI l 0 0 := by
  unfold phI
  rw [List.drop_zero, show decide ((0 : Nat) = 0) = true from rfl]
  cases phG true l with
  | none => rfl
  | some c => simp
theorem drop_at {l : List UInt8} {i : Nat} (h : i < l.length) : l.drop i = l.getD i 0 :: l.drop (i + 1) := by
  rw [List.drop_eq_getElem_cons h]; simp [h]
theorem ph_dig {l : List UInt8} {i d : Nat} (h : i < l.length) (h1 : 48 ≤ (l.getD i 0).toNat ∧ (l.getD i 0).toNat ≤ 57) (e : phI l i d) : phI l (i + 1) (d + 1) := by
  unfold phI at e ⊢
  rw [e, drop_at h]
  simp only [phG]
  rw [if_pos h1, decide_eq_false (show ¬ i + 1 = 0 by omega)]
  cases phG false (l.drop (i + 1)) with
  | none => rfl
  | some c => simp only [Option.map_some]; congr 1; omega
theorem ph_skip {l : List UInt8} {i d : Nat} (h : i < l.length) (h1 : ¬ (48 ≤ (l.getD i 0).toNat ∧ (l.getD i 0).toNat ≤ 57)) (h2 : (l.getD i 0).toNat = 32 ∨ (l.getD i 0).toNat = 45 ∨ ((l.getD i 0).toNat = 43 ∧ i = 0)) (e : phI l i d) : phI l (i + 1) d := by
  unfold phI at e ⊢
  rw [e, drop_at h]
  simp only [phG]
  rw [if_neg h1, if_pos (by simpa using h2), decide_eq_false (show ¬ i + 1 = 0 by omega)]
theorem ph_bad {l : List UInt8} {i d : Nat} (h : i < l.length) (h1 : ¬ (48 ≤ (l.getD i 0).toNat ∧ (l.getD i 0).toNat ≤ 57)) (h2 : ¬ ((l.getD i 0).toNat = 32 ∨ (l.getD i 0).toNat = 45 ∨ ((l.getD i 0).toNat = 43 ∧ i = 0))) (e : phI l i d) : phone l = false := by
  unfold phI at e
  rw [drop_at h] at e
  simp only [phG] at e
  rw [if_neg h1, if_neg (by simpa using h2)] at e
  unfold phone
  rw [e]; rfl
theorem ph_end {l : List UInt8} {i d : Nat} (h : ¬ i < l.length) (e : phI l i d) : phG true l = some d := by
  unfold phI at e
  rw [e, List.drop_of_length_le (by omega)]; rfl
theorem ph_fin {l : List UInt8} {d : Nat} (e : phG true l = some d) : phone l = (decide (0 < d) && decide (l.length ≤ 20)) := by
  unfold phone; rw [e]
theorem ph_len : ∀ (l : List UInt8) {f : Bool} {c : Nat}, phG f l = some c → nR l = l.length
  | [], _, _, _ => rfl
  | b :: r, f, c, h => by
    have hb : b.toNat < 128 ∧ ∃ c', phG false r = some c' := by
      simp only [phG] at h
      split at h
      · rename_i h1
        cases q : phG false r with
        | none => rw [q] at h; cases h
        | some c' => exact ⟨by omega, c', rfl⟩
      · split at h
        · rename_i h1 h2
          exact ⟨by omega, c, h⟩
        · cases h
    obtain ⟨h1, c', h2⟩ := hb
    have ih := ph_len r h2
    have hd := dR_byte (l := b :: r) (p := 0) (by simpa using h1)
    have hw : (decodeL (b :: r)).2 = 1 := hd.2
    unfold nR at ih ⊢
    rw [steps_cons (by simp), List.length_cons, hw, List.length_cons]
    simp only [List.drop_succ_cons, List.drop_zero]
    omega
theorem ph_long {l : List UInt8} (h : 20 < nR l) : phone l = false := by
  have := nR_le l
  unfold phone
  split
  · rfl
  · rw [decide_eq_false (show ¬ l.length ≤ 20 by omega), Bool.and_false]
theorem ph_fin2 {l : List UInt8} {d : Nat} (h : ¬ 20 < nR l) (e : phG true l = some d) : phone l = decide (0 < d) := by
  have := ph_len l e
  rw [ph_fin e, decide_eq_true (show l.length ≤ 20 by omega), Bool.and_true]
end Go.Proofs.YtcpmjogeafhpnaaDoor.Tx
