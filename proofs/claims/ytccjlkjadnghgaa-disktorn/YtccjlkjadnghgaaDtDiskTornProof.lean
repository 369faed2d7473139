/- For every slice of slices of bytes, every byte and every int the law DiskTorn of package kinfolklaw11 returns true and leaves its arguments as they were; there is no condition. -/
import Derived.Test.YtccjlkjadnghgaaRows
import Derived.Test.YtccjlkjadnghgaaDtD5
import Derived.Test.YtccjlkjadnghgaaDtArg
import Derived.WalkKit
import Derived.ProofKit
import Derived.OpenShut
import Derived.ShutString
import Derived.ChangeOld
import Derived.Below
import Derived.Deep.Slices
namespace Go.Proofs.Ytccjlkjadnghgaa.diskTorn
open Go.Sep
open Go.ChangeShapes Go.WideShapes Go.ChangeAt Go.RowKit
open Go.ChangeMaps (open_string shut_string)

theorem own : ownKnob Try.prog.godebug = none := by kernel_rfl
theorem laidOut : laidOutB Try.prog = true := by kernel_rfl
theorem rows {H : Type} {enc : TypeId × Value → H} {w : World} {fuel : Nat} {a0 : Option Addr} {len0 cap0 : Nat} {x : DataW H × List MemPlace} (hf : DataW.trod enc Try.prog w 0 (fun _ => true) true fuel 38 [.slice a0 len0 cap0] = some x) :
    ∃ L, SSl (fun k => w.heap[k]?) L (.slice a0 len0 cap0) := by
  rcases Go.Deep.open_slice1 Try.underlying38 (by kernel_rfl) hf with ⟨hcs, _⟩ | ⟨a, len, cap, m, n, V, D, Pl, hcs, _, hl, _, hm, _, hx⟩
  · simp at hcs
    obtain ⟨rfl, rfl, rfl⟩ := hcs
    exact ⟨[], none, 0, rfl, by simp, fun j y hj => by simp at hj⟩
  · simp at hcs
    obtain ⟨rfl, rfl, rfl⟩ := hcs
    have hm' : m = cap0 := by simpa using hm
    subst hm'
    have one : ∀ i, i < len0 → ∃ l : List UInt8, BSl (fun k => w.heap[k]?) l (V i) := by
      intro i hi
      obtain ⟨_, h2⟩ := hx i (by omega)
      rcases open_ints Try.underlying29 Try.underlying5 (by kernel_rfl) h2 with ⟨hcs, _⟩ | ⟨x, l, c, zs, hcs, _, hl, hm, hz, _, hcell, hwz⟩
      · simp at hcs
        rw [hcs]
        exact ⟨[], bsl_nil _⟩
      · simp at hcs
        rw [hcs]
        exact bslI_row (.inr ⟨_, rfl, hl, hm, by simpa using hz, hcell, hwz⟩)
    obtain ⟨f, hfn⟩ := Go.Deep.choose_lt one
    refine ⟨(List.range len0).map f, some a, m, by simp, by simpa using hl, fun j y hj => ?_⟩
    have hj' : j < len0 := by
      have := (List.getElem?_eq_some_iff.1 hj).1
      simpa using this
    have hy : y = f j := by simpa [hj'] using hj.symm
    subst hy
    obtain ⟨h1, _⟩ := hx j (by omega)
    obtain ⟨b, o, sp⟩ := a
    cases sp with
    | none =>
      have : (⟨b, o, none⟩ : Addr).add j = ⟨b, o + j, none⟩ := addr_addO b o j
      rw [this] at h1
      obtain ⟨cs, T, fr, e1, e2⟩ := cell_block h1
      exact ⟨b, o, cs, T, fr, V j, rfl, e1, e2, hfn j hj'⟩
    | some sp =>
      exfalso
      have h0 := (hx 0 (by omega)).1
      unfold World.cell? Addr.add at h0
      rw [if_pos rfl] at h0
      revert h0
      split <;> simp

theorem walk (a0 : Option Addr) (len0 cap0 : Nat) (L0 : List (List UInt8)) (a1 : Int) (a2 : Int) (w : World) (w0 : SSl (fun k => w.heap[k]?) L0 (.slice a0 len0 cap0)) (w1 : (Lit.int .u8 a1).wf = true) (_ : (Lit.int .i64 a2).wf = true) :
    Calls Try.prog 4 #[.slice a0 len0 cap0, .int .u8 a1, .int .i64 a2] w fun e w' => e = .returned (.bool true) ∧ Below w.heap.size w w' := by
  have k1 : 0 ≤ a1 ∧ a1 < 256 := by
    have := w1; simp [Lit.wf, IntKind.min, IntKind.max, IntKind.signed, IntKind.bits] at this; omega
  obtain ⟨n1, rfl⟩ := Int.eq_ofNat_of_zero_le k1.1
  refine (diskTorn_c (I := fun k => w.heap[k]?) (k := n1) w0 (by omega) w (fun k o h => h)).mono fun e w' h => ?_
  obtain ⟨v, J, H, he, s, hv⟩ := h
  exact ⟨by rw [he, hv], s.fr.below⟩

set_option maxRecDepth 100000 in
theorem lifted (os : Os) (started : os.Started) (H : Type) (enc : TypeId × Value → H) :
    ReturnsInHanded {} Try.checked os 4 .any (Rows.diskTornSpec.pre6 enc Try.prog Try.f4 Rows.diskTornRow.domain false) (Rows.diskTornSpec.post enc Try.prog Try.f4 false true false false) := by
  refine returnsInHanded_of_change (C := Try.checked) own started (by kernel_rfl) Try.func4
    (ChangeSpec.witness6 (enc := enc) (C := Try.checked) false ⟨#[], #[.slice none 0 0, .int .u8 0, .int .i64 0], []⟩ 8 (by kernel_rfl) (by kernel_rfl) (by kernel_rfl) (by kernel_rfl)) ?_
  intro W base args ds gs before hval0 hW hcnd _
  have hval : ∀ (j : Nat) t v, Try.f4.params[j]? = some t → args[j]? = some v → Value.okWide Try.prog W .any base t v := hval0
  have hW' := hW
  obtain ⟨p, q, hA0, hV, rfl, hfz, hnd⟩ := hW
  have hA : DataW.TrodAll enc Try.prog W 0 (fun _ => true) true Try.f4.params.toList args.toList ds p := hA0
  rw [Try.params4] at hA hval
  obtain ⟨v0, vs0, d0, ds0, p0, q0, hargs, rfl, rfl, h0, r0⟩ := trodAll_cons hA
  obtain ⟨v1, vs1, d1, ds1, p1, q1, rfl, rfl, rfl, h1, r1⟩ := trodAll_cons r0
  obtain ⟨v2, vs2, d2, ds2, p2, q2, rfl, rfl, rfl, h2, r2⟩ := trodAll_cons r1
  obtain ⟨rfl, rfl, rfl⟩ := trodAll_nil r2
  obtain rfl : args = #[v0, v1, v2] := by cases args; simp_all
  obtain ⟨rfl, rfl⟩ := trodVars_none hV
  obtain ⟨a0, len0, cap0, rfl⟩ := okWide_slice Try.underlying38 (hval 0 38 v0 rfl rfl)
  have k0 := h0
  have lt0 : ∀ x ∈ p0, x.block < W.heap.size := by obtain ⟨m, hm⟩ := k0; exact DataW.trod_lt m _ _ _ hm
  obtain ⟨L0, w0⟩ : ∃ L, SSl (fun k => W.heap[k]?) L (.slice a0 len0 cap0) := by
    obtain ⟨fuel, hf⟩ := h0
    exact rows (by simpa [Value.cells] using hf)
  obtain ⟨a1, rfl, rfl, rfl, w1⟩ := open_int Try.underlying5 (hval 1 5 v1 rfl rfl) h1
  obtain ⟨a2, rfl, rfl, rfl, w2⟩ := open_int Try.underlying3 (hval 2 3 v2 rfl rfl) h2
  clear hA0 hval0
  refine (walk a0 len0 cap0 L0 a1 a2 W w0 w1 w2).mono fun e W' ⟨he, bel⟩ => ?_
  subst he
  exact ⟨_, rfl, _, _, _, [], _, [], hW', trodAll_mk1 (shut_bool Try.underlying4 _), (trodAll_cons_mk (Below.trod laidOut (by kernel_rfl) (of_decide_eq_true (by kernel_rfl)) k0 bel lt0) (trodAll_cons_mk (shut_int Try.underlying5 w1) (trodAll_cons_mk (shut_int Try.underlying3 w2) trodAll_mk0))), rfl, bel.frame _, fun h => by cases h⟩

theorem over : Rows.diskTornRow.holds Try.pinned (OpenSpec.ofChange Rows.diskTornSpec) :=
  OpenClaim.holds_of_wide 4 Try.f4 rfl rfl rfl rfl rfl rfl rfl ⟨rfl, rfl, rfl, rfl, rfl⟩ rfl rfl rfl rfl rfl (by kernel_rfl) Try.func4 (by kernel_rfl)
    (of_decide_eq_true (by kernel_rfl)) (by unfold Func.isWrapper; first | (rw [if_pos (by decide +kernel)]; kernel_rfl) | (rw [if_neg (by decide +kernel)]; exact ⟨rfl, rfl⟩))
    (fun os started H enc _ => lifted os started H enc)

theorem proved : Rows.DiskTornSaid := over
end Go.Proofs.Ytccjlkjadnghgaa.diskTorn
