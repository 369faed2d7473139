/- What the laid variables give. -/
import Derived.Test.YtcpmjogeafhpnaaDoorRows
import Derived.Test.YtcpmjogeafhpnaaDoorCoM25
import Derived.ProofKit
import Derived.LaidMore
import Derived.OpenShut
import Derived.Lay
import Derived.Stop.Joined
import Derived.Lib.LaidU8T
import Derived.Test.YtcpmjogeafhpnaaDoorCoM17
import Derived.Test.YtcpmjogeafhpnaaDoorCoM23
import Derived.WalkKit
import Derived.Deep.Slices
set_option linter.all false
set_option maxRecDepth 100000
namespace Go.Proofs.YtcpmjogeafhpnaaDoor
open Go.RowKit Go.Sep Go.Lib
theorem ownKnob_none : ownKnob Tryd.prog.godebug = none := by kernel_rfl
abbrev laidT : List (String × DataW Unit) := Rows.cardMakesRow.laid
theorem tabs_of_laid {W : World} (h : laidMetH Tryd.prog laidT W) : Lib.Utf8Tabs 1 2 W := by
  rw [MakeChecks.laidMetH_plain _ _ _ (by kernel_rfl)] at h
  have h4 := Lib.laidMet.reads h (.head _)
  have h3 := Lib.laidMet.reads h (.tail _ (.tail _ (.head _)))
  exact utf8Tabs_of_readsT (ρ := Tryd.lays196_ren) (U8Types.of196 Tryd.lays196) ⟨by kernel_rfl, by kernel_rfl, by kernel_rfl, by kernel_rfl, by kernel_rfl, by kernel_rfl, by kernel_rfl⟩ (kcast (by kernel_rfl) h3) (kcast (by kernel_rfl) h4)
theorem block_of {W : World} {b o : Nat} {v : Value} (h : W.cell? ⟨b, o, none⟩ = some v) : ∃ cs T fr, W.heap[b]? = some (.cells cs T fr) ∧ cs[o]? = some v := by
  unfold World.cell? at h
  cases hb : W.heap[b]? with
  | none => simp [hb] at h
  | some ob =>
    cases ob <;> simp [hb] at h
    exact ⟨_, _, _, rfl, h⟩
theorem nm_of_laid {W : World} (h : laidMetH Tryd.prog laidT W) : Tx.NmT (fun k => W.heap[k]?) := by
  rw [MakeChecks.laidMetH_plain _ _ _ (by kernel_rfl)] at h
  obtain ⟨g, t, cs, fuel, p, hg, hty, hvar, hd⟩ := Lib.laidMet.reads h (.tail _ (.head _))
  obtain rfl := Option.some.inj ((show Tryd.prog.globalNamed "kinfolk/card.names" = some 0 by kernel_rfl).symm.trans hg)
  obtain rfl := Option.some.inj ((show (Tryd.prog.globals[0]?).map (·.type) = some 98 by kernel_rfl).symm.trans hty)
  have one : ∀ i, i < 7 → W.cell? ⟨0, i, none⟩ = some (.string ⟨(Tx.nmL.getD i []).toArray⟩) := fun i hi => by
    obtain ⟨fuel', d, q, hdi, he⟩ := array_elem (show Tryd.prog.underlying 98 = some (.array 7 9) by kernel_rfl) hd i hi
    have hdl : d = DataW.lit (.string (Tx.nmL.getD i [])) := by
      have : i = 0 ∨ i = 1 ∨ i = 2 ∨ i = 3 ∨ i = 4 ∨ i = 5 ∨ i = 6 := by omega
      rcases this with rfl | rfl | rfl | rfl | rfl | rfl | rfl <;> exact (Option.some.inj hdi).symm
    subst hdl
    obtain ⟨s, hc, hx, -⟩ := DataW.trod_string Tryd.underlying9 he
    have hs : s = ⟨(Tx.nmL.getD i []).toArray⟩ := by
      have h1 := congrArg Prod.fst hx
      simp only [DataW.lit.injEq, Lit.string.injEq] at h1
      obtain ⟨⟨l⟩⟩ := s
      simp only at h1
      exact congrArg ByteArray.mk (congrArg Array.mk h1.symm)
    rw [show Tryd.prog.cellsOf 9 = 1 by kernel_rfl] at hc
    have e0 := congrArg (·[0]?) hc
    simp only [List.getElem?_take, List.getElem?_drop] at e0
    have h2 := World.var?_cell hg hvar i
    rw [← Array.getElem?_toList] at h2
    rw [← hs]
    exact h2.trans (by simpa using e0)
  obtain ⟨cs', T, fr, e1, -⟩ := block_of (one 0 (by decide))
  refine ⟨cs', T, fr, e1, fun i hi => ?_⟩
  obtain ⟨cs2, T2, fr2, f1, f2⟩ := block_of (one i hi)
  rw [e1] at f1
  cases f1
  exact f2
theorem cell_up {W w : World} (hw : IM.Sub (fun k => W.heap[k]?) w) {a : Addr} {v : Value} (h : W.cell? a = some v) : w.cell? a = some v := by
  unfold World.cell? at h ⊢
  cases e : W.heap[a.block]? with
  | none => rw [e] at h; cases h
  | some o => rw [hw _ _ e]; rw [e] at h; exact h
theorem u8_of_laid {W : World} (h : laidMetH Tryd.prog laidT W) : Tx.U8 (fun k => W.heap[k]?) := fun w hw =>
  have t := tabs_of_laid h
  ⟨fun c hc => cell_up hw (t.1 c hc), fun i hi => ⟨cell_up hw (t.2 i hi).1, cell_up hw (t.2 i hi).2⟩⟩
theorem met_wit (os : Os) (args : Array Value) : laidMetH Tryd.prog laidT ((World.laidAll Tryd.prog os laidT).forCall (fun _ _ => 0) ⟨#[], args, []⟩).memory := by
  rw [MakeChecks.laidMetH_plain _ _ _ (by kernel_rfl)]; exact laidMet_laidAll _ (by kernel_rfl) (by kernel_rfl)
end Go.Proofs.YtcpmjogeafhpnaaDoor
/- A slice of bytes that came in, as the contracts want it. -/
set_option linter.all false
namespace Go.Proofs.YtcpmjogeafhpnaaDoor
open Go.RowKit Go.Sep

theorem u8_nat {z : Int} (h : (Lit.int .u8 z).wf = true) : z = (((UInt8.ofNat z.toNat).toNat : Nat) : Int) := by
  have hb : 0 ≤ z ∧ z < 256 := by
    have := h; simp [Lit.wf, IntKind.min, IntKind.max, IntKind.signed, IntKind.bits] at this; omega
  rw [UInt8.toNat_ofNat']
  omega
theorem cell_block {w : World} {b o : Nat} {v : Value} (h : w.cell? ⟨b, o, none⟩ = some v) : ∃ cs T fr, w.heap[b]? = some (.cells cs T fr) ∧ cs[o]? = some v := by
  unfold World.cell? at h
  cases hb : w.heap[b]? with
  | none => simp [hb] at h
  | some ob =>
    cases ob <;> simp [hb] at h
    exact ⟨_, _, _, rfl, h⟩
theorem bslI_row {w : World} {a : Option Addr} {len cap : Nat} {zs : List Int}
    (h : (a = none ∧ len = 0 ∧ cap = 0 ∧ zs = []) ∨ ∃ x, a = some x ∧ len ≤ cap ∧ cap ≤ maxLen ∧ zs.length = cap ∧ (∀ i, i < zs.length → w.cell? (x.add i) = some (.int .u8 (zs.getD i 0))) ∧ ∀ n ∈ zs, (Lit.int .u8 n).wf = true) :
    ∃ l, BSl (fun k => w.heap[k]?) l (.slice a len cap) := by
  rcases h with ⟨rfl, rfl, rfl, rfl⟩ | ⟨x, rfl, hl, hm, hz, hc, hw⟩
  · exact ⟨[], bsl_nil _⟩
  · refine ⟨(zs.take len).map fun z => UInt8.ofNat z.toNat, some x, cap, by rw [List.length_map, List.length_take, Nat.min_eq_left (show len ≤ zs.length by omega)], by rw [List.length_map, List.length_take]; omega, fun j y hj => ?_⟩
    rw [List.getElem?_map, Option.map_eq_some_iff] at hj
    obtain ⟨z, hz1, rfl⟩ := hj
    rw [List.getElem?_take] at hz1
    split at hz1
    · have hjl : j < zs.length := (List.getElem?_eq_some_iff.1 hz1).1
      have h1 := hc j hjl
      have h2 : zs.getD j 0 = z := by simp [hz1]
      rw [h2] at h1
      obtain ⟨b, o, sp⟩ := x
      cases sp with
      | none =>
        have : (⟨b, o, none⟩ : Addr).add j = ⟨b, o + j, none⟩ := by unfold Addr.add; split <;> simp_all
        rw [this] at h1
        obtain ⟨cs, T, fr, e1, e2⟩ := cell_block h1
        refine ⟨b, o, cs, T, fr, rfl, e1, ?_⟩
        rw [← u8_nat (hw z (List.mem_of_getElem? hz1))]; exact e2
      | some sp =>
        exfalso
        have h0 := hc 0 (by omega)
        unfold World.cell? Addr.add at h0
        rw [if_pos rfl] at h0
        revert h0
        split <;> simp
    · cases hz1
end Go.Proofs.YtcpmjogeafhpnaaDoor
/- Slices of fields that came in. -/
set_option linter.all false
set_option maxRecDepth 100000
namespace Go.Proofs.YtcpmjogeafhpnaaDoor
open Go.Sep
open Go.ChangeShapes Go.WideShapes Go.ChangeAt Go.RowKit
structure FX where
  k : Int
  a : List UInt8
  v : List UInt8
def FX.d : FX := ⟨0, [], []⟩
instance : Inhabited FX := ⟨FX.d⟩
def FXl (I : IM) (L : List FX) (v : Value) : Prop := ∃ a cap, v = .slice a L.length cap ∧ L.length ≤ cap ∧ ∀ (j : Nat) (x : FX), L[j]? = some x → (-9223372036854775808 ≤ x.k ∧ x.k < 9223372036854775808 ∧ x.a.length ≤ maxLen ∧ x.v.length ≤ maxLen) ∧ ∃ (b o : Nat) (cs : Array Value) (T : TypeId) (fr : Nat × Nat), a = some ⟨b, o, none⟩ ∧ I b = some (.cells cs T fr) ∧ cs[o + j * 3]? = some (.int .i64 x.k) ∧ cs[o + j * 3 + 1]? = some (.string ⟨x.a.toArray⟩) ∧ cs[o + j * 3 + 2]? = some (.string ⟨x.v.toArray⟩)
theorem FXl.mono {I J : IM} (le : I.Le J) {L : List FX} {v : Value} (h : FXl I L v) : FXl J L v := by
  obtain ⟨a, cap, hv, hc, hr⟩ := h
  refine ⟨a, cap, hv, hc, fun j x hj => ?_⟩
  obtain ⟨hx, b, o, cs, T, fr, h1, h2, h3, h4, h5⟩ := hr j x hj
  exact ⟨hx, b, o, cs, T, fr, h1, le _ _ h2, h3, h4, h5⟩
theorem FXl.cap {I : IM} {L : List FX} {a : Option Addr} {n c : Nat} (h : FXl I L (.slice a n c)) : n = L.length ∧ L.length ≤ c := by
  obtain ⟨a', c', hv, hc, _⟩ := h
  cases hv; exact ⟨rfl, hc⟩
theorem fXl_nil (I : IM) : FXl I [] (.slice none 0 0) := ⟨none, 0, rfl, Nat.le_refl _, fun j x h => by simp at h⟩
theorem fXl_cells {cs : List Value} (h : cs.length = 3) : ∃ v0 v1 v2, cs = [v0, v1, v2] := by
  match cs, h with
  | [v0, v1, v2], _ => exact ⟨v0, v1, v2, rfl⟩
theorem fXl_open {H : Type} {enc : TypeId × Value → H} {w : World} {fuel : Nat} {a0 : Option Addr} {len0 cap0 : Nat} {x : DataW H × List MemPlace} (hf : DataW.trod enc Tryd.prog w 0 (fun _ => true) true fuel 22 [.slice a0 len0 cap0] = some x) :
    ∃ L, FXl (fun k => w.heap[k]?) L (.slice a0 len0 cap0) ∧ L.length ≤ maxLen := by
  rcases Go.Deep.open_slice Tryd.underlying22 hf with ⟨hcs, _⟩ | ⟨a, len, cap, m, n, D, Pl, hcs, _, hl, hml, hm, _, hx⟩
  · simp at hcs
    obtain ⟨rfl, rfl, rfl⟩ := hcs
    exact ⟨[], fXl_nil _, Nat.zero_le _⟩
  · simp at hcs
    obtain ⟨rfl, rfl, rfl⟩ := hcs
    have hm' : m = cap0 := by simpa using hm
    subst hm'
    have ce : Tryd.prog.cellsOf 39 = 3 := by kernel_rfl
    have c3 : Tryd.prog.cellsOf 3 = 1 := by kernel_rfl
    have c9 : Tryd.prog.cellsOf 9 = 1 := by kernel_rfl
    have one : ∀ i, i < len0 → ∃ y : FX, (-9223372036854775808 ≤ y.k ∧ y.k < 9223372036854775808 ∧ y.a.length ≤ maxLen ∧ y.v.length ≤ maxLen) ∧ w.cell? (a.add (i * 3)) = some (.int .i64 y.k) ∧ w.cell? (a.add (i * 3 + 1)) = some (.string ⟨y.a.toArray⟩) ∧ w.cell? (a.add (i * 3 + 2)) = some (.string ⟨y.v.toArray⟩) := by
      intro i hi
      obtain ⟨cs', h1, h2⟩ := hx i (by omega)
      rw [ce] at h1
      obtain ⟨_, hlen, hcell⟩ := World.cells?_some h1
      obtain ⟨xs, n', _, _, _, hxl, hfs⟩ := DataW.trod_struct Tryd.underlying39 h2
      obtain ⟨v0, v1, v2, rfl⟩ := fXl_cells hlen
      have hxl' : xs.length = 3 := hxl
      have hx0 : 0 < xs.length := by omega
      have t0 := hfs 0 _ rfl
      rw [List.getElem?_eq_getElem hx0] at t0
      simp [c3] at t0
      obtain ⟨y0, e0, _, b0⟩ := DataW.trod_int Tryd.underlying3 t0
      simp at e0
      subst e0
      have hx1 : 1 < xs.length := by omega
      have t1 := hfs 1 _ rfl
      rw [List.getElem?_eq_getElem hx1] at t1
      simp [c9] at t1
      obtain ⟨y1, e1, _, b1⟩ := DataW.trod_string Tryd.underlying9 t1
      simp at e1
      subst e1
      have hx2 : 2 < xs.length := by omega
      have t2 := hfs 2 _ rfl
      rw [List.getElem?_eq_getElem hx2] at t2
      simp [c9] at t2
      obtain ⟨y2, e2, _, b2⟩ := DataW.trod_string Tryd.underlying9 t2
      simp at e2
      subst e2
      have d0 : -9223372036854775808 ≤ y0 ∧ y0 < 9223372036854775808 := by
        have := b0; simp [Lit.wf, IntKind.min, IntKind.max, IntKind.signed, IntKind.bits] at this; omega
      have g0 := hcell 0 (by omega)
      have g1 := hcell 1 (by omega)
      have g2 := hcell 2 (by omega)
      rw [Go.Deep.add_add] at g0 g1 g2
      exact ⟨⟨y0, y1.data.toList, y2.data.toList⟩, ⟨d0.1, d0.2, b1, b2⟩, (by simpa using g0), (by simpa using g1), (by simpa using g2)⟩
    obtain ⟨f, hfn⟩ := Go.Deep.choose_lt one
    refine ⟨(List.range len0).map f, ⟨some a, m, by simp, by simpa using hl, fun j y hj => ?_⟩, by simp; omega⟩
    have hj' : j < len0 := by
      have := (List.getElem?_eq_some_iff.1 hj).1
      simpa using this
    have hy : y = f j := by simpa [hj'] using hj.symm
    subst hy
    obtain ⟨hb, h0, h1, h2⟩ := hfn j hj'
    obtain ⟨b, o, sp⟩ := a
    cases sp with
    | none =>
      rw [addr_addO b o (j * 3)] at h0
      obtain ⟨cs0, T0, fr0, e0, k0⟩ := cell_block h0
      rw [addr_addO b o (j * 3 + 1)] at h1
      obtain ⟨cs1, T1, fr1, e1, k1⟩ := cell_block h1
      rw [addr_addO b o (j * 3 + 2)] at h2
      obtain ⟨cs2, T2, fr2, e2, k2⟩ := cell_block h2
      rw [e0] at e1
      cases e1
      rw [e0] at e2
      cases e2
      exact ⟨hb, b, o, cs0, T0, fr0, rfl, e0, k0, (by rw [Nat.add_assoc]; exact k1), (by rw [Nat.add_assoc]; exact k2)⟩
    | some sp =>
      exfalso
      obtain ⟨_, h0, _⟩ := hfn 0 (by omega)
      unfold World.cell? Addr.add at h0
      rw [if_pos (by rfl)] at h0
      revert h0
      split <;> simp
def toFe (x : FX) : Fe := ⟨x.k, x.a, x.v⟩
theorem fxl_fsl {I : IM} {L : List FX} {v : Value} (h : FXl I L v) : FSl I (L.map toFe) v := by
  obtain ⟨a, cap, hv, hc, hr⟩ := h
  refine ⟨a, cap, by rw [List.length_map]; exact hv, by rw [List.length_map]; exact hc, fun j x hj => ?_⟩
  rw [List.getElem?_map] at hj
  cases hq : L[j]? with
  | none => rw [hq] at hj; cases hj
  | some y =>
    rw [hq] at hj
    simp only [Option.map_some, Option.some.injEq] at hj
    subst hj
    obtain ⟨_, b, o, cs, T, fr, h1, h2, h3, h4, h5⟩ := hr j y hq
    exact ⟨b, o, cs, T, fr, h1, h2, h3, h4, h5⟩
/-- fields that came in -/
def FIn (I : IM) (L : List Fe) (v : Value) : Prop := FSl I L v ∧ L.length ≤ maxLen
theorem fin_open {H : Type} {enc : TypeId × Value → H} {w : World} {fuel : Nat} {a0 : Option Addr} {len0 cap0 : Nat} {x : DataW H × List MemPlace} (hf : DataW.trod enc Tryd.prog w 0 (fun _ => true) true fuel 22 [.slice a0 len0 cap0] = some x) :
    ∃ L, FIn (fun k => w.heap[k]?) L (.slice a0 len0 cap0) := by
  obtain ⟨L, h, hl⟩ := fXl_open hf
  exact ⟨L.map toFe, fxl_fsl h, by rw [List.length_map]; exact hl⟩
end Go.Proofs.YtcpmjogeafhpnaaDoor
/- A field that came in. -/
set_option linter.all false
set_option maxRecDepth 100000
namespace Go.Proofs.YtcpmjogeafhpnaaDoor
open Go.Sep
open Go.ChangeShapes Go.WideShapes Go.ChangeAt Go.RowKit
theorem fe_open {H : Type} {enc : TypeId × Value → H} {w : World} {fuel : Nat} {cs : Array Value} {x : DataW H × List MemPlace} (hf : DataW.trod enc Tryd.prog w 0 (fun _ => true) true fuel 39 ((Value.agg cs).cells.toList) = some x) (hs : cs.size = Tryd.prog.cellsOf 39) :
    ∃ y : Fe, cs = #[.int .i64 y.k, .string ⟨(y.a).toArray⟩, .string ⟨(y.v).toArray⟩] := by
  have c3 : Tryd.prog.cellsOf 3 = 1 := by kernel_rfl
  have c9 : Tryd.prog.cellsOf 9 = 1 := by kernel_rfl
  have hlen : cs.toList.length = 3 := by rw [Array.length_toList, hs]; kernel_rfl
  have h2 : DataW.trod enc Tryd.prog w 0 (fun _ => true) true fuel 39 cs.toList = some x := by simpa [Value.cells] using hf
  obtain ⟨xs, n', _, _, _, hxl, hfs⟩ := DataW.trod_struct Tryd.underlying39 h2
  obtain ⟨v0, v1, v2, hv⟩ := fXl_cells hlen
  have hcs : cs = #[v0, v1, v2] := by rw [← Array.toArray_toList (xs := cs), hv]
  rw [hv] at hfs
  have hxl' : xs.length = 3 := hxl
  have hx0 : 0 < xs.length := by omega
  have t0 := hfs 0 _ rfl
  rw [List.getElem?_eq_getElem hx0] at t0
  simp [c3] at t0
  obtain ⟨y0, e0, _, b0⟩ := DataW.trod_int Tryd.underlying3 t0
  simp at e0
  subst e0
  have hx1 : 1 < xs.length := by omega
  have t1 := hfs 1 _ rfl
  rw [List.getElem?_eq_getElem hx1] at t1
  simp [c9] at t1
  obtain ⟨y1, e1, _, b1⟩ := DataW.trod_string Tryd.underlying9 t1
  simp at e1
  subst e1
  have hx2 : 2 < xs.length := by omega
  have t2 := hfs 2 _ rfl
  rw [List.getElem?_eq_getElem hx2] at t2
  simp [c9] at t2
  obtain ⟨y2, e2, _, b2⟩ := DataW.trod_string Tryd.underlying9 t2
  simp at e2
  subst e2
  exact ⟨⟨y0, y1.data.toList, y2.data.toList⟩, hcs⟩
end Go.Proofs.YtcpmjogeafhpnaaDoor
