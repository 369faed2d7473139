/- For every number of 16 bits and every slice of acts the law DiskRoom of package kinfolklaw11 returns true and leaves its arguments as they were; there is no condition. -/
import Derived.Test.YtccjlkjadnghgaaRows
import Derived.Test.YtccjlkjadnghgaaDrD6
import Derived.Test.YtccjlkjadnghgaaDrArg
import Derived.WalkKit
import Derived.ProofKit
import Derived.OpenShut
import Derived.ShutString
import Derived.ChangeOld
import Derived.Below
import Derived.Deep.Slices
namespace Go.Proofs.Ytccjlkjadnghgaa.diskRoom
open Go.Sep
open Go.ChangeShapes Go.WideShapes Go.ChangeAt Go.RowKit
open Go.ChangeMaps (open_string shut_string)

theorem own : ownKnob Try.prog.godebug = none := by kernel_rfl
theorem laidOut : laidOutB Try.prog = true := by kernel_rfl
theorem xSl_cells {cs : List Value} (h : cs.length = 6) : ∃ v0 v1 v2 v3 v4 v5, cs = [v0, v1, v2, v3, v4, v5] := by
  match cs, h with
  | [v0, v1, v2, v3, v4, v5], _ => exact ⟨v0, v1, v2, v3, v4, v5, rfl⟩
theorem xSl_open {H : Type} {enc : TypeId × Value → H} {w : World} {fuel : Nat} {a0 : Option Addr} {len0 cap0 : Nat} {x : DataW H × List MemPlace} (hf : DataW.trod enc Try.prog w 0 (fun _ => true) true fuel 22 [.slice a0 len0 cap0] = some x) :
    ∃ L, XSl (fun k => w.heap[k]?) L (.slice a0 len0 cap0) := by
  rcases Go.Deep.open_slice Try.underlying22 hf with ⟨hcs, _⟩ | ⟨a, len, cap, m, n, D, Pl, hcs, _, hl, _, hm, _, hx⟩
  · simp at hcs
    obtain ⟨rfl, rfl, rfl⟩ := hcs
    exact ⟨[], xSl_nil _⟩
  · simp at hcs
    obtain ⟨rfl, rfl, rfl⟩ := hcs
    have hm' : m = cap0 := by simpa using hm
    subst hm'
    have ce : Try.prog.cellsOf 31 = 6 := by kernel_rfl
    have c3 : Try.prog.cellsOf 3 = 1 := by kernel_rfl
    have c4 : Try.prog.cellsOf 4 = 1 := by kernel_rfl
    have c5 : Try.prog.cellsOf 5 = 1 := by kernel_rfl
    have c28 : Try.prog.cellsOf 28 = 1 := by kernel_rfl
    have c29 : Try.prog.cellsOf 29 = 1 := by kernel_rfl
    have one : ∀ i, i < len0 → ∃ y : AV, (y.doo < 256 ∧ y.seg < 18446744073709551616 ∧ -9223372036854775808 ≤ y.n ∧ y.n < 9223372036854775808 ∧ -9223372036854775808 ≤ y.t ∧ y.t < 9223372036854775808) ∧ ∃ (pv_p : Value) , w.cell? (a.add (i * 6)) = some (.int .u8 ((y.doo : Nat) : Int)) ∧ w.cell? (a.add (i * 6 + 1)) = some (.int .u64 ((y.seg : Nat) : Int)) ∧ w.cell? (a.add (i * 6 + 2)) = some (pv_p) ∧ w.cell? (a.add (i * 6 + 3)) = some (.int .i64 y.n) ∧ w.cell? (a.add (i * 6 + 4)) = some (.int .i64 y.t) ∧ w.cell? (a.add (i * 6 + 5)) = some (.bool y.on) ∧ BSl (fun k => w.heap[k]?) y.p pv_p := by
      intro i hi
      obtain ⟨cs', h1, h2⟩ := hx i (by omega)
      rw [ce] at h1
      obtain ⟨_, hlen, hcell⟩ := World.cells?_some h1
      obtain ⟨xs, n', _, _, _, hxl, hfs⟩ := DataW.trod_struct Try.underlying31 h2
      obtain ⟨v0, v1, v2, v3, v4, v5, rfl⟩ := xSl_cells hlen
      have hxl' : xs.length = 6 := hxl
      have hx0 : 0 < xs.length := by omega
      have t0 := hfs 0 _ rfl
      rw [List.getElem?_eq_getElem hx0] at t0
      simp [c5] at t0
      obtain ⟨y0, e0, _, b0⟩ := DataW.trod_int Try.underlying5 t0
      simp at e0
      subst e0
      have hx1 : 1 < xs.length := by omega
      have t1 := hfs 1 _ rfl
      rw [List.getElem?_eq_getElem hx1] at t1
      simp [c28] at t1
      obtain ⟨y1, e1, _, b1⟩ := DataW.trod_int Try.underlying28 t1
      simp at e1
      subst e1
      have hx2 : 2 < xs.length := by omega
      have t2 := hfs 2 _ rfl
      rw [List.getElem?_eq_getElem hx2] at t2
      simp [c29] at t2
      obtain ⟨y2, b2⟩ : ∃ l, BSl (fun k => w.heap[k]?) l v2 := by
        rcases open_ints Try.underlying29 Try.underlying5 (by kernel_rfl) t2 with ⟨hcs, _⟩ | ⟨x, l, c, zs, hcs, _, hl, hm, hz, _, hcell, hwz⟩
        · simp at hcs
          rw [hcs]
          exact ⟨[], bsl_nil _⟩
        · simp at hcs
          rw [hcs]
          exact bslI_row (.inr ⟨_, rfl, hl, hm, by simpa using hz, hcell, hwz⟩)
      have hx3 : 3 < xs.length := by omega
      have t3 := hfs 3 _ rfl
      rw [List.getElem?_eq_getElem hx3] at t3
      simp [c3] at t3
      obtain ⟨y3, e3, _, b3⟩ := DataW.trod_int Try.underlying3 t3
      simp at e3
      subst e3
      have hx4 : 4 < xs.length := by omega
      have t4 := hfs 4 _ rfl
      rw [List.getElem?_eq_getElem hx4] at t4
      simp [c3] at t4
      obtain ⟨y4, e4, _, b4⟩ := DataW.trod_int Try.underlying3 t4
      simp at e4
      subst e4
      have hx5 : 5 < xs.length := by omega
      have t5 := hfs 5 _ rfl
      rw [List.getElem?_eq_getElem hx5] at t5
      simp [c4] at t5
      obtain ⟨y5, e5, _⟩ := DataW.trod_bool Try.underlying4 t5
      simp at e5
      subst e5
      have d0 : 0 ≤ y0 ∧ y0 < 256 := by
        have := b0; simp [Lit.wf, IntKind.min, IntKind.max, IntKind.signed, IntKind.bits] at this; omega
      obtain ⟨z0, rfl⟩ := Int.eq_ofNat_of_zero_le d0.1
      have d1 : 0 ≤ y1 ∧ y1 < 18446744073709551616 := by
        have := b1; simp [Lit.wf, IntKind.min, IntKind.max, IntKind.signed, IntKind.bits] at this; omega
      obtain ⟨z1, rfl⟩ := Int.eq_ofNat_of_zero_le d1.1
      have d3 : -9223372036854775808 ≤ y3 ∧ y3 < 9223372036854775808 := by
        have := b3; simp [Lit.wf, IntKind.min, IntKind.max, IntKind.signed, IntKind.bits] at this; omega
      have d4 : -9223372036854775808 ≤ y4 ∧ y4 < 9223372036854775808 := by
        have := b4; simp [Lit.wf, IntKind.min, IntKind.max, IntKind.signed, IntKind.bits] at this; omega
      have g0 := hcell 0 (by omega)
      have g1 := hcell 1 (by omega)
      have g2 := hcell 2 (by omega)
      have g3 := hcell 3 (by omega)
      have g4 := hcell 4 (by omega)
      have g5 := hcell 5 (by omega)
      rw [Go.Deep.add_add] at g0 g1 g2 g3 g4 g5
      exact ⟨⟨z0, z1, y2, y3, y4, y5⟩, ⟨(by show z0 < _; omega), (by show z1 < _; omega), d3.1, d3.2, d4.1, d4.2⟩, v2, (by simpa using g0), (by simpa using g1), (by simpa using g2), (by simpa using g3), (by simpa using g4), (by simpa using g5), b2⟩
    obtain ⟨f, hfn⟩ := Go.Deep.choose_lt one
    refine ⟨(List.range len0).map f, some a, m, by simp, by simpa using hl, fun j y hj => ?_⟩
    have hj' : j < len0 := by
      have := (List.getElem?_eq_some_iff.1 hj).1
      simpa using this
    have hy : y = f j := by simpa [hj'] using hj.symm
    subst hy
    obtain ⟨hb, pv_p, h0, h1, h2, h3, h4, h5, hb_p⟩ := hfn j hj'
    obtain ⟨b, o, sp⟩ := a
    cases sp with
    | none =>
      rw [addr_addO b o (j * 6)] at h0
      obtain ⟨cs0, T0, fr0, e0, k0⟩ := cell_block h0
      rw [addr_addO b o (j * 6 + 1)] at h1
      obtain ⟨cs1, T1, fr1, e1, k1⟩ := cell_block h1
      rw [addr_addO b o (j * 6 + 2)] at h2
      obtain ⟨cs2, T2, fr2, e2, k2⟩ := cell_block h2
      rw [addr_addO b o (j * 6 + 3)] at h3
      obtain ⟨cs3, T3, fr3, e3, k3⟩ := cell_block h3
      rw [addr_addO b o (j * 6 + 4)] at h4
      obtain ⟨cs4, T4, fr4, e4, k4⟩ := cell_block h4
      rw [addr_addO b o (j * 6 + 5)] at h5
      obtain ⟨cs5, T5, fr5, e5, k5⟩ := cell_block h5
      rw [e0] at e1
      cases e1
      rw [e0] at e2
      cases e2
      rw [e0] at e3
      cases e3
      rw [e0] at e4
      cases e4
      rw [e0] at e5
      cases e5
      exact ⟨hb, b, o, cs0, T0, fr0, pv_p, rfl, e0, k0, (by rw [Nat.add_assoc]; exact k1), (by rw [Nat.add_assoc]; exact k2), (by rw [Nat.add_assoc]; exact k3), (by rw [Nat.add_assoc]; exact k4), (by rw [Nat.add_assoc]; exact k5), hb_p⟩
    | some sp =>
      exfalso
      obtain ⟨_, _, h0, _⟩ := hfn 0 (by omega)
      unfold World.cell? Addr.add at h0
      rw [if_pos (by rfl)] at h0
      revert h0
      split <;> simp

theorem walk (a0 : Int) (a1 : Option Addr) (len1 cap1 : Nat) (L1 : List AV) (w : World) (w0 : (Lit.int .u16 a0).wf = true) (w1 : XSl (fun k => w.heap[k]?) L1 (.slice a1 len1 cap1)) :
    Calls Try.prog 7 #[.int .u16 a0, .slice a1 len1 cap1] w fun e w' => e = .returned (.bool true) ∧ Below w.heap.size w w' := by
  have k0 : 0 ≤ a0 ∧ a0 < 65536 := by
    have := w0; simp [Lit.wf, IntKind.min, IntKind.max, IntKind.signed, IntKind.bits] at this; omega
  obtain ⟨n0, rfl⟩ := Int.eq_ofNat_of_zero_le k0.1
  refine (diskRoom_c (I := fun k => w.heap[k]?) (r := n0) w1 (by omega) w (fun k o h => h)).mono fun e w' h => ?_
  obtain ⟨v, J, H, he, s, hv⟩ := h
  exact ⟨by rw [he, hv], s.fr.below⟩

set_option maxRecDepth 100000 in
theorem lifted (os : Os) (started : os.Started) (H : Type) (enc : TypeId × Value → H) :
    ReturnsInHanded {} Try.checked os 7 .any (Rows.diskRoomSpec.pre6 enc Try.prog Try.f7 Rows.diskRoomRow.domain false) (Rows.diskRoomSpec.post enc Try.prog Try.f7 false true false false) := by
  refine returnsInHanded_of_change (C := Try.checked) own started (by kernel_rfl) Try.func7
    (ChangeSpec.witness6 (enc := enc) (C := Try.checked) false ⟨#[], #[.int .u16 0, .slice none 0 0], []⟩ 8 (by kernel_rfl) (by kernel_rfl) (by kernel_rfl) (by kernel_rfl)) ?_
  intro W base args ds gs before hval0 hW hcnd _
  have hval : ∀ (j : Nat) t v, Try.f7.params[j]? = some t → args[j]? = some v → Value.okWide Try.prog W .any base t v := hval0
  have hW' := hW
  obtain ⟨p, q, hA0, hV, rfl, hfz, hnd⟩ := hW
  have hA : DataW.TrodAll enc Try.prog W 0 (fun _ => true) true Try.f7.params.toList args.toList ds p := hA0
  rw [Try.params7] at hA hval
  obtain ⟨v0, vs0, d0, ds0, p0, q0, hargs, rfl, rfl, h0, r0⟩ := trodAll_cons hA
  obtain ⟨v1, vs1, d1, ds1, p1, q1, rfl, rfl, rfl, h1, r1⟩ := trodAll_cons r0
  obtain ⟨rfl, rfl, rfl⟩ := trodAll_nil r1
  obtain rfl : args = #[v0, v1] := by cases args; simp_all
  obtain ⟨rfl, rfl⟩ := trodVars_none hV
  obtain ⟨a0, rfl, rfl, rfl, w0⟩ := open_int Try.underlying62 (hval 0 62 v0 rfl rfl) h0
  obtain ⟨a1, len1, cap1, rfl⟩ := okWide_slice Try.underlying22 (hval 1 22 v1 rfl rfl)
  have k1 := h1
  have lt1 : ∀ x ∈ p1, x.block < W.heap.size := by obtain ⟨m, hm⟩ := k1; exact DataW.trod_lt m _ _ _ hm
  obtain ⟨L1, w1⟩ : ∃ L, XSl (fun k => W.heap[k]?) L (.slice a1 len1 cap1) := by
    obtain ⟨fuel, hf⟩ := h1
    exact xSl_open (by simpa [Value.cells] using hf)
  clear hA0 hval0
  refine (walk a0 a1 len1 cap1 L1 W w0 w1).mono fun e W' ⟨he, bel⟩ => ?_
  subst he
  exact ⟨_, rfl, _, _, _, [], _, [], hW', trodAll_mk1 (shut_bool Try.underlying4 _), (trodAll_cons_mk (shut_int Try.underlying62 w0) (trodAll_cons_mk (Below.trod laidOut (by kernel_rfl) (of_decide_eq_true (by kernel_rfl)) k1 bel lt1) trodAll_mk0)), rfl, bel.frame _, fun h => by cases h⟩

theorem over : Rows.diskRoomRow.holds Try.pinned (OpenSpec.ofChange Rows.diskRoomSpec) :=
  OpenClaim.holds_of_wide 7 Try.f7 rfl rfl rfl rfl rfl rfl rfl ⟨rfl, rfl, rfl, rfl, rfl⟩ rfl rfl rfl rfl rfl (by kernel_rfl) Try.func7 (by kernel_rfl)
    (of_decide_eq_true (by kernel_rfl)) (by unfold Func.isWrapper; first | (rw [if_pos (by decide +kernel)]; kernel_rfl) | (rw [if_neg (by decide +kernel)]; exact ⟨rfl, rfl⟩))
    (fun os started H enc _ => lifted os started H enc)

theorem proved : Rows.DiskRoomSaid := over
end Go.Proofs.Ytccjlkjadnghgaa.diskRoom
