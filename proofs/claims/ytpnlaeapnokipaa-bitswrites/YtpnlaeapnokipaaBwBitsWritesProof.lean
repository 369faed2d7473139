/- For every slice of acts the law BitsWrites of package kinfolklaw05 returns true and leaves its arguments as they were; there is no condition. -/
import Derived.Test.YtpnlaeapnokipaaRows
import Derived.Test.YtpnlaeapnokipaaBwW38
import Derived.Test.YtpnlaeapnokipaaBwArg
import Derived.WalkKit
import Derived.ProofKit
import Derived.OpenShut
import Derived.ShutString
import Derived.ChangeOld
import Derived.Below
import Derived.Deep.Slices
import Derived.Deep.Strs
namespace Go.Proofs.Ytpnlaeapnokipaa.bitsWrites
open Go.Sep
open Go.ChangeShapes Go.WideShapes Go.ChangeAt Go.RowKit
open Go.ChangeMaps (open_string shut_string)

theorem own : ownKnob Try.prog.godebug = none := by kernel_rfl
theorem laidOut : laidOutB Try.prog = true := by kernel_rfl

theorem three {cs : List Value} (h : cs.length = 3) : ∃ a b c, cs = [a, b, c] := by
  match cs, h with
  | [a, b, c], _ => exact ⟨a, b, c, rfl⟩
set_option maxRecDepth 100000 in
theorem acts {H : Type} {enc : TypeId × Value → H} {w : World} {fuel : Nat} {a0 : Option Addr} {len0 cap0 : Nat} {x : DataW H × List MemPlace} (hf : DataW.trod enc Try.prog w 0 (fun _ => true) true fuel 22 [.slice a0 len0 cap0] = some x) :
    ∃ L, TSl (fun k => w.heap[k]?) L (.slice a0 len0 cap0) := by
  rcases Go.Deep.open_slice Try.underlying22 hf with ⟨hcs, _⟩ | ⟨a, len, cap, m, n, D, Pl, hcs, _, hl, _, hm, _, hx⟩
  · simp at hcs
    obtain ⟨rfl, rfl, rfl⟩ := hcs
    exact ⟨[], none, 0, rfl, by simp, fun j y hj => by simp at hj⟩
  · simp at hcs
    obtain ⟨rfl, rfl, rfl⟩ := hcs
    have hm' : m = cap0 := by simpa using hm
    subst hm'
    have c29 : Try.prog.cellsOf 29 = 3 := by kernel_rfl
    have c5 : Try.prog.cellsOf 5 = 1 := by kernel_rfl
    have c27 : Try.prog.cellsOf 27 = 1 := by kernel_rfl
    have c3 : Try.prog.cellsOf 3 = 1 := by kernel_rfl
    have one : ∀ i, i < len0 → ∃ y : Tri, (y.1 < 256 ∧ y.2.1 < 18446744073709551616 ∧ y.2.2 < 9223372036854775808) ∧ w.cell? (a.add (i * 3)) = some (.int .u8 ((y.1 : Nat) : Int)) ∧ w.cell? (a.add (i * 3 + 1)) = some (.int .u64 ((y.2.1 : Nat) : Int)) ∧ w.cell? (a.add (i * 3 + 2)) = some (.int .i64 y.2.2) := by
      intro i hi
      obtain ⟨cs', h1, h2⟩ := hx i (by omega)
      rw [c29] at h1
      obtain ⟨_, hlen, hcell⟩ := World.cells?_some h1
      obtain ⟨y0, y1, y2, n', _, _, t0, t1, t2⟩ := Go.Deep.trod_struct3 Try.underlying29 h2
      obtain ⟨v0, v1, v2, rfl⟩ := three hlen
      simp [c5, c27, c3] at t0 t1 t2
      obtain ⟨p, e1, _, b1⟩ := DataW.trod_int Try.underlying5 t0
      obtain ⟨q, e2, _, b2⟩ := DataW.trod_int Try.underlying27 t1
      obtain ⟨r, e3, _, b3⟩ := DataW.trod_int Try.underlying3 t2
      have d1 := bounds_u8 b1
      have d2 := bounds_u64 b2
      have d3 := bounds_i64 b3
      obtain ⟨p', rfl⟩ := Int.eq_ofNat_of_zero_le d1.1
      obtain ⟨q', rfl⟩ := Int.eq_ofNat_of_zero_le d2.1
      have g0 := hcell 0 (by omega)
      have g1 := hcell 1 (by omega)
      have g2 := hcell 2 (by omega)
      rw [Go.Deep.add_add] at g0 g1 g2
      simp at e1 e2 e3
      subst e1; subst e2; subst e3
      refine ⟨(p', q', r), ⟨?_, ?_, ?_⟩, by simpa using g0, by simpa using g1, by simpa using g2⟩
      · show p' < 256; omega
      · show q' < _; omega
      · show r < _; omega
    obtain ⟨f, hfn⟩ := Go.Deep.choose_lt one
    refine ⟨(List.range len0).map f, some a, m, by simp, by simpa using hl, fun j y hj => ?_⟩
    have hj' : j < len0 := by
      have := (List.getElem?_eq_some_iff.1 hj).1
      simpa using this
    have hy : y = f j := by simpa [hj'] using hj.symm
    subst hy
    obtain ⟨hb, h1, h2, h3⟩ := hfn j hj'
    obtain ⟨b, o, sp⟩ := a
    cases sp with
    | none =>
      rw [addr_addO b o (j * 3)] at h1
      rw [addr_addO b o (j * 3 + 1)] at h2
      rw [addr_addO b o (j * 3 + 2)] at h3
      obtain ⟨cs, T, fr, e1, e2⟩ := cell_block h1
      obtain ⟨cs', T', fr', e1', e2'⟩ := cell_block h2
      obtain ⟨cs'', T'', fr'', e1'', e2''⟩ := cell_block h3
      rw [e1] at e1' e1''
      cases e1'
      cases e1''
      exact ⟨hb, b, o, cs, T, fr, rfl, e1, e2, by rw [Nat.add_assoc]; exact e2', by rw [Nat.add_assoc]; exact e2''⟩
    | some sp =>
      exfalso
      have h0 := (hfn 0 (by omega)).2.1
      unfold World.cell? Addr.add at h0
      rw [if_pos (by rfl)] at h0
      revert h0
      split <;> simp

theorem walk (a0 : Option Addr) (len0 cap0 : Nat) (L : List Tri) (w : World) (hL : TSl (fun k => w.heap[k]?) L (.slice a0 len0 cap0)) :
    Calls Try.prog 3 #[.slice a0 len0 cap0] w fun e w' => e = .returned (.bool true) ∧ Below w.heap.size w w' := by
  refine (bitsWrites_c (I := fun k => w.heap[k]?) hL w (fun k o h => h)).mono fun e w' h => ?_
  obtain ⟨v, J, H, he, s, hv⟩ := h
  exact ⟨by rw [he, hv], s.fr.below⟩

set_option maxRecDepth 100000 in
theorem lifted (os : Os) (started : os.Started) (H : Type) (enc : TypeId × Value → H) :
    ReturnsInHanded {} Try.checked os 3 .any (Rows.bitsWritesSpec.pre6 enc Try.prog Try.f3 Rows.bitsWritesRow.domain false) (Rows.bitsWritesSpec.post enc Try.prog Try.f3 false true false false) := by
  refine returnsInHanded_of_change (C := Try.checked) own started (by kernel_rfl) Try.func3
    (ChangeSpec.witness6 (enc := enc) (C := Try.checked) false ⟨#[], #[.slice none 0 0], []⟩ 8 (by kernel_rfl) (by kernel_rfl) (by kernel_rfl) (by kernel_rfl)) ?_
  intro W base args ds gs before hval0 hW hcnd _
  have hval : ∀ (j : Nat) t v, Try.f3.params[j]? = some t → args[j]? = some v → Value.okWide Try.prog W .any base t v := hval0
  have hW' := hW
  obtain ⟨p, q, hA0, hV, rfl, hfz, hnd⟩ := hW
  have hA : DataW.TrodAll enc Try.prog W 0 (fun _ => true) true Try.f3.params.toList args.toList ds p := hA0
  rw [Try.params3] at hA hval
  obtain ⟨v0, vs0, d0, ds0, p0, q0, hargs, rfl, rfl, h0, r0⟩ := trodAll_cons hA
  obtain ⟨rfl, rfl, rfl⟩ := trodAll_nil r0
  obtain rfl : args = #[v0] := by cases args; simp_all
  obtain ⟨rfl, rfl⟩ := trodVars_none hV
  obtain ⟨a0, len0, cap0, rfl⟩ := okWide_slice Try.underlying22 (hval 0 22 v0 rfl rfl)
  have k0 := h0
  have lt0 : ∀ x ∈ p0, x.block < W.heap.size := by obtain ⟨m, hm⟩ := k0; exact DataW.trod_lt m _ _ _ hm
  obtain ⟨L, hL⟩ : ∃ L, TSl (fun k => W.heap[k]?) L (.slice a0 len0 cap0) := by
    obtain ⟨fuel, hf⟩ := h0
    exact acts (by simpa [Value.cells] using hf)
  clear hA0 hval0
  refine (walk a0 len0 cap0 L W hL).mono fun e W' ⟨he, bel⟩ => ?_
  subst he
  exact ⟨_, rfl, _, _, _, [], _, [], hW', trodAll_mk1 (shut_bool Try.underlying4 _), (trodAll_cons_mk (Below.trod laidOut (by kernel_rfl) (of_decide_eq_true (by kernel_rfl)) k0 bel lt0) trodAll_mk0), rfl, bel.frame _, fun h => by cases h⟩

theorem over : Rows.bitsWritesRow.holds Try.pinned (OpenSpec.ofChange Rows.bitsWritesSpec) :=
  OpenClaim.holds_of_wide 3 Try.f3 rfl rfl rfl rfl rfl rfl rfl ⟨rfl, rfl, rfl, rfl, rfl⟩ rfl rfl rfl rfl rfl (by kernel_rfl) Try.func3 (by kernel_rfl)
    (of_decide_eq_true (by kernel_rfl)) (by unfold Func.isWrapper; first | (rw [if_pos (by decide +kernel)]; kernel_rfl) | (rw [if_neg (by decide +kernel)]; exact ⟨rfl, rfl⟩))
    (fun os started H enc _ => lifted os started H enc)

theorem proved : Rows.BitsWritesSaid := over
end Go.Proofs.Ytpnlaeapnokipaa.bitsWrites
