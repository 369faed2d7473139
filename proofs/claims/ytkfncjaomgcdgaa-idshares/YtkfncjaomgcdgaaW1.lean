/- The program's ids: which values are which tree; the small methods' contracts. -/
import Derived.Test.YtkfncjaomgcdgaaProg
import Derived.Test.YtkfncjaomgcdgaaBase
set_option linter.all false
namespace Go.Proofs.Ytkfncjaomgcdgaa
open Go.RowKit Go.Facts

inductive T where
  | zero | one | node (l r : T)
  deriving DecidableEq

def T.depth : T → Nat
  | .node l r => 1 + max l.depth r.depth
  | _ => 0
def T.isZero : T → Bool
  | .zero => true
  | _ => false
def T.isOne : T → Bool
  | .one => true
  | _ => false
def T.left : T → T
  | .node l _ => l
  | t => t
def T.right : T → T
  | .node _ r => r
  | t => t
def T.mk : T → T → T
  | .zero, .zero => .zero
  | .one, .one => .one
  | l, r => .node l r

/-- Types whose blocks are never written to. -/
abbrev TS : List TypeId := [60, 62]

abbrev idv (b : Bool) (p : Option Addr) : Value := .agg #[.bool b, .pointer p]

def Rep (w : World) : T → Bool → Option Addr → Prop
  | .zero, b, p => b = false ∧ p = none
  | .one, b, p => b = true ∧ p = none
  | .node l r, b, p => b = false ∧ ∃ k bl pl br pr, p = some ⟨k, 0, none⟩ ∧
      Blk w k [.bool bl, .pointer pl, .bool br, .pointer pr, .int .i64 ((T.node l r).depth : Nat)] 60 ∧ Rep w l bl pl ∧ Rep w r br pr

theorem Rep.imm {w w' : World} (h : Imm TS w w') : ∀ {t : T} {b : Bool} {p : Option Addr}, Rep w t b p → Rep w' t b p
  | .zero, _, _, r => r
  | .one, _, _, r => r
  | .node _ _, _, _, ⟨hb, k, bl, pl, br, pr, hp, hc, rl, rr⟩ => ⟨hb, k, bl, pl, br, pr, hp, h _ _ _ (by decide) hc, rl.imm h, rr.imm h⟩
theorem Rep.ext {w w' : World} (h : Ext w w') {t : T} {b : Bool} {p : Option Addr} (r : Rep w t b p) : Rep w' t b p := r.imm (imm_of_ext h)

structure PI extends PP where
  imm : ∀ {v : Value} {w w' : World}, Imm TS w w' → p v w → p v w'
def IsId (t : T) : PI := { p := fun v w => ∃ b p, v = idv b p ∧ Rep w t b p, mono := fun h ⟨b, p, hv, hr⟩ => ⟨b, p, hv, hr.ext h⟩, imm := fun h ⟨b, p, hv, hr⟩ => ⟨b, p, hv, hr.imm h⟩ }
/-- The tree, of cells that are written out. -/
structure PRepT where
  p : World → Prop
  mono : ∀ {w w' : World}, Ext w w' → p w → p w'
  imm : ∀ {w w' : World}, Imm TS w w' → p w → p w'
def PRep (t : T) (b : Bool) (q : Option Addr) : PRepT := { p := fun w => Rep w t b q, mono := fun h r => r.ext h, imm := fun h r => r.imm h }
theorem PRep.is {t : T} {b : Bool} {q : Option Addr} {w : World} (h : (PRep t b q).p w) : (IsId t).p (idv b q) w := ⟨b, q, rfl, h⟩
/-- Two results, three results. -/
def Two (A B : PP) : PP := ⟨fun v w => ∃ a b, v = .tuple #[a, b] ∧ A.p a w ∧ B.p b w, fun h ⟨a, b, hv, ha, hb⟩ => ⟨a, b, hv, A.mono h ha, B.mono h hb⟩⟩
def Three (A B C : PP) : PP := ⟨fun v w => ∃ a b c, v = .tuple #[a, b, c] ∧ A.p a w ∧ B.p b w ∧ C.p c w, fun h ⟨a, b, c, hv, ha, hb, hc⟩ => ⟨a, b, c, hv, A.mono h ha, B.mono h hb, C.mono h hc⟩⟩

set_option maxHeartbeats 400000 in
theorem isZero_c {t : T} {v : Value} {w : World} (h : (IsId t).p v w) : Calls Try.prog 22 #[v] w (Ret w (PP.eq (.bool t.isZero)).p) := by
  obtain ⟨b, p, rfl, h⟩ := h
  cases t with
  | node l r =>
    obtain ⟨rfl, k, bl, pl, br, pr, rfl, hc, rl, rr⟩ := h
    have hk := hc.lt
    go_enter Try.func22, Try.ntmps22
    go_wp2
    go_ret
    exact ⟨_, rfl, rfl, (Ext.refl _).alloc _⟩
  | zero =>
    obtain ⟨rfl, rfl⟩ := h
    go_enter Try.func22, Try.ntmps22
    go_wp2
    go_ret
    exact ⟨_, rfl, rfl, (Ext.refl _).alloc _⟩
  | one =>
    obtain ⟨rfl, rfl⟩ := h
    go_enter Try.func22, Try.ntmps22
    go_wp2
    go_ret
    exact ⟨_, rfl, rfl, (Ext.refl _).alloc _⟩

set_option maxHeartbeats 400000 in
theorem isOne_c {t : T} {v : Value} {w : World} (h : (IsId t).p v w) : Calls Try.prog 31 #[v] w (Ret w (PP.eq (.bool t.isOne)).p) := by
  obtain ⟨b, p, rfl, h⟩ := h
  cases t with
  | node l r =>
    obtain ⟨rfl, k, bl, pl, br, pr, rfl, hc, rl, rr⟩ := h
    have hk := hc.lt
    go_enter Try.func31, Try.ntmps31
    go_wp2
    go_ret
    exact ⟨_, rfl, rfl, (Ext.refl _).alloc _⟩
  | zero =>
    obtain ⟨rfl, rfl⟩ := h
    go_enter Try.func31, Try.ntmps31
    go_wp2
    go_ret
    exact ⟨_, rfl, rfl, (Ext.refl _).alloc _⟩
  | one =>
    obtain ⟨rfl, rfl⟩ := h
    go_enter Try.func31, Try.ntmps31
    go_wp2
    go_ret
    exact ⟨_, rfl, rfl, (Ext.refl _).alloc _⟩

set_option maxHeartbeats 400000 in
theorem depth_c {t : T} {v : Value} {w : World} (h : (IsId t).p v w) : Calls Try.prog 29 #[v] w (Ret w (PP.eq (.int .i64 (t.depth : Nat))).p) := by
  obtain ⟨b, p, rfl, h⟩ := h
  cases t with
  | node l r =>
    obtain ⟨rfl, k, bl, pl, br, pr, rfl, hc, rl, rr⟩ := h
    have h4 := hc.c 4 rfl
    have hk := hc.lt
    go_enter Try.func29, Try.ntmps29
    go_wp2
    go_ret
    exact ⟨_, rfl, rfl, (Ext.refl _).alloc _⟩
  | zero =>
    obtain ⟨rfl, rfl⟩ := h
    go_enter Try.func29, Try.ntmps29
    go_wp2
    go_ret
    exact ⟨_, rfl, rfl, (Ext.refl _).alloc _⟩
  | one =>
    obtain ⟨rfl, rfl⟩ := h
    go_enter Try.func29, Try.ntmps29
    go_wp2
    go_ret
    exact ⟨_, rfl, rfl, (Ext.refl _).alloc _⟩

set_option maxHeartbeats 400000 in
theorem left_c {t : T} {v : Value} {w : World} (h : (IsId t).p v w) : Calls Try.prog 13 #[v] w (Ret w (IsId t.left).p) := by
  obtain ⟨b, p, rfl, h⟩ := h
  cases t with
  | node l r =>
    obtain ⟨rfl, k, bl, pl, br, pr, rfl, hc, rl, rr⟩ := h
    have h0 := hc.c 0 rfl
    have h1 := hc.c 1 rfl
    have hk := hc.lt
    go_enter Try.func13, Try.ntmps13
    go_wp2
    exact ret_of (idv bl pl) (by simp [results, Try.results13, go_sem]) rfl ⟨_, _, rfl, rl.ext (((Ext.refl _).alloc _).alloc _)⟩ (((Ext.refl _).alloc _).alloc _)
  | zero =>
    obtain ⟨rfl, rfl⟩ := h
    go_enter Try.func13, Try.ntmps13
    go_wp2
    exact ret_of (idv false none) (by simp [results, Try.results13, go_sem]) rfl ⟨_, _, rfl, rfl, rfl⟩ (((Ext.refl _).alloc _).alloc _)
  | one =>
    obtain ⟨rfl, rfl⟩ := h
    go_enter Try.func13, Try.ntmps13
    go_wp2
    exact ret_of (idv true none) (by simp [results, Try.results13, go_sem]) rfl ⟨_, _, rfl, rfl, rfl⟩ (((Ext.refl _).alloc _).alloc _)

set_option maxHeartbeats 400000 in
theorem right_c {t : T} {v : Value} {w : World} (h : (IsId t).p v w) : Calls Try.prog 14 #[v] w (Ret w (IsId t.right).p) := by
  obtain ⟨b, p, rfl, h⟩ := h
  cases t with
  | node l r =>
    obtain ⟨rfl, k, bl, pl, br, pr, rfl, hc, rl, rr⟩ := h
    have h2 := hc.c 2 rfl
    have h3 := hc.c 3 rfl
    have hk := hc.lt
    go_enter Try.func14, Try.ntmps14
    go_wp2
    exact ret_of (idv br pr) (by simp [results, Try.results14, go_sem]) rfl ⟨_, _, rfl, rr.ext (((Ext.refl _).alloc _).alloc _)⟩ (((Ext.refl _).alloc _).alloc _)
  | zero =>
    obtain ⟨rfl, rfl⟩ := h
    go_enter Try.func14, Try.ntmps14
    go_wp2
    exact ret_of (idv false none) (by simp [results, Try.results14, go_sem]) rfl ⟨_, _, rfl, rfl, rfl⟩ (((Ext.refl _).alloc _).alloc _)
  | one =>
    obtain ⟨rfl, rfl⟩ := h
    go_enter Try.func14, Try.ntmps14
    go_wp2
    exact ret_of (idv true none) (by simp [results, Try.results14, go_sem]) rfl ⟨_, _, rfl, rfl, rfl⟩ (((Ext.refl _).alloc _).alloc _)

set_option maxHeartbeats 400000 in
theorem zero_c {w : World} : Calls Try.prog 30 #[] w (Ret w (IsId .zero).p) := by
  go_enter Try.func30, Try.ntmps30
  go_wp2
  exact ret_of (idv false none) (by simp [results, Try.results30, go_sem]) rfl ⟨_, _, rfl, rfl, rfl⟩ ((Ext.refl _).alloc _)

set_option maxHeartbeats 400000 in
theorem one_c {w : World} : Calls Try.prog 28 #[] w (Ret w (IsId .one).p) := by
  go_enter Try.func28, Try.ntmps28
  go_wp2
  exact ret_of (idv true none) (by simp [results, Try.results28, go_sem]) rfl ⟨_, _, rfl, rfl, rfl⟩ ((Ext.refl _).alloc _)

end Go.Proofs.Ytkfncjaomgcdgaa
