/- What differs makes the one card the other. -/
import Derived.Test.YtcpmjogeafhpnaaDoorCdM25
import Derived.Test.YtcpmjogeafhpnaaDoorRows
import Derived.Test.YtcpmjogeafhpnaaDoorCdM24
import Derived.ProofKit
import Derived.LaidMore
import Derived.OpenShut
import Derived.Lay
import Derived.Stop.Joined
import Derived.Lib.LaidU8T
import Derived.Test.YtcpmjogeafhpnaaDoorCdM16
import Derived.Test.YtcpmjogeafhpnaaDoorCdM22
import Derived.WalkKit
import Derived.Deep.Slices
set_option linter.all false
set_option maxRecDepth 100000
namespace Go.Proofs.YtcpmjogeafhpnaaDoor
open Go.RowKit Go.Sep
attribute [local irreducible] Go.wpList Go.Code.wp

/-- of two cards the one, patched by what differs, is the other -/
theorem diff_eq {X Y : List Fe} (hX : asc X) (hY : asc Y) : dcL X (keepF (qH X) Y) (keepF (qH Y) X) [] = Y := by
  unfold dcL
  refine asc_eq (asc_foldl _ _ (asc_keep hX)) hY fun y => ?_
  rw [mem_foldl, mem_keep, mem_keep]
  have q1 : qP (keepF (qH Y) X) [] y = false ↔ ¬ (y ∈ X ∧ y ∉ Y) := by
    unfold qP
    rw [show decide (y.k ∈ ([] : List Int)) = false from decide_eq_false (by simp), Bool.false_or, decide_eq_false_iff_not, mem_keep]
    unfold qH
    rw [decide_eq_false_iff_not]
  rw [q1]
  unfold qH
  rw [decide_eq_false_iff_not]
  constructor
  · rintro (⟨h1, h2⟩ | ⟨h1, h2⟩)
    · exact Decidable.byContradiction fun q => h2 ⟨h1, q⟩
    · exact h1
  · intro h
    by_cases q : y ∈ X
    · exact .inl ⟨q, fun r => r.2 h⟩
    · exact .inr ⟨h, q⟩
theorem diff_dc {X Y : List Fe} (hX : asc X) (hY : asc Y) (hr : ∀ y ∈ Y, rtFe y = 0) (h8 : Y.length ≤ 8) : dcF X (keepF (qH X) Y) (keepF (qH Y) X) [] = Y ∧ dcE X (keepF (qH X) Y) (keepF (qH Y) X) [] = 0 := by
  have e : eRt (keepF (qH X) Y) = 0 := eRt_of fun x hx => hr x (mem_keep.1 hx).1
  have d := diff_eq hX hY
  have n8 : ¬ 8 < (dcL X (keepF (qH X) Y) (keepF (qH Y) X) []).length := by rw [d]; omega
  exact ⟨((if_neg (not_not_intro e)).trans (if_neg n8)).trans d, (if_neg (not_not_intro e)).trans (if_neg n8)⟩
theorem keep_same {X Y : List Fe} (hX : asc X) (hY : asc Y) : decide ((keepF (qH X) Y).length + (keepF (qH Y) X).length = 0) = decide (X = Y) := by
  refine decide_eq_decide.2 ⟨fun h => ?_, fun h => ?_⟩
  · have h1 : keepF (qH X) Y = [] := List.eq_nil_of_length_eq_zero (by omega)
    have h2 : keepF (qH Y) X = [] := List.eq_nil_of_length_eq_zero (by omega)
    refine asc_eq hX hY fun y => ⟨fun hy => ?_, fun hy => ?_⟩
    · refine Decidable.byContradiction fun q => ?_
      have : y ∈ keepF (qH Y) X := mem_keep.2 ⟨hy, decide_eq_false q⟩
      rw [h2] at this; simp at this
    · refine Decidable.byContradiction fun q => ?_
      have : y ∈ keepF (qH X) Y := mem_keep.2 ⟨hy, decide_eq_false q⟩
      rw [h1] at this; simp at this
  · subst h
    have : keepF (qH X) X = [] := by
      cases hk : keepF (qH X) X with
      | nil => rfl
      | cons z l =>
        have hz : z ∈ keepF (qH X) X := by rw [hk]; simp
        have := mem_keep.1 hz
        unfold qH at this
        rw [decide_eq_true this.1] at this
        cases this.2
    rw [this]; rfl
theorem run_eqBB {w : World} {x : Bool} : (binOp .eql 4 (.bool x) (.bool x)).run Tryd.prog w = .ok (.bool true) w := by cases x <;> kernel_rfl

theorem run_eqBX {w : World} {x y : Bool} (h : x = y) : (binOp .eql 4 (.bool x) (.bool y)).run Tryd.prog w = .ok (.bool true) w := by subst h; exact run_eqBB

set_option maxHeartbeats 2000000 in
theorem less2_c {I : IM} {L M : List Fe} {a0 a1 : Option Addr} {c0 c1 : Nat} (h0 : FSl I L (.slice a0 L.length c0)) (h1 : FSl I M (.slice a1 M.length c1)) (hl : L.length ≤ 1000) (hlM : M.length ≤ 1000) : Fun Tryd.prog 33 #[.slice a0 L.length c0, .slice a1 M.length c1] I (fun v J => ∃ a c, v = .slice a (keepF (qH M) L).length c ∧ FSl J (keepF (qH M) L) (.slice a (keepF (qH M) L).length c)) := by
  refine enter_rule 24 [(0, .slice a0 L.length c0), (1, .slice a1 M.length c1)] Tryd.func33 rfl (by kernel_rfl) ?_
  intro w s
  refine wp_seq ?_
  refine region_rule ?_
  refine ops_rule (C := []) [] [] 1 [] 0 (fun φ1 => [(4, .slice none 0 0)]) (fun φ1 => []) (fun φ1 => []) s trivial (fun φ1 => by kernel_rfl) ?_
  intro φ1 w1 s
  refine ops_done (by kernel_rfl) ?_
  refine wp_seq ?_
  refine region_rule ?_
  refine ops_rule (C := []) [] [] 1 [] 0 (fun φ2 => [(5, .slice none 0 0)]) (fun φ2 => []) (fun φ2 => []) s trivial (fun φ2 => by kernel_rfl) ?_
  intro φ2 w2 s
  refine ops_done (by kernel_rfl) ?_
  refine wp_seq ?_
  refine wp_seq ?_
  refine region_rule ?_
  refine ops_rule (C := []) [] [] 3 [] 0 (fun φ3 => [(10, .int .i64 0), (9, .int .i64 ((L.length : Nat) : Int)), (8, .slice a0 L.length c0)]) (fun φ3 => []) (fun φ3 => []) s trivial (fun φ3 => by kernel_rfl) ?_
  intro φ3 w3 s
  refine ops_done (by kernel_rfl) ?_
  refine wp_block ?_
  have hle4 := IM.Le.refl I
  refine loop_rule (fun (x : Nat × Value × List OB) => [(0, .slice a0 L.length c0), (1, .slice a1 M.length c1), (4, .slice none 0 0), (8, .slice a0 L.length c0), (9, .int .i64 ((L.length : Nat) : Int)), (10, .int .i64 ((x.1 : Nat) : Int)), (5, x.2.1)]) (fun (x : Nat × Value × List OB) => [] ++ x.2.2) (fun m (x : Nat × Value × List OB) J => IM.Le I J ∧ x.1 + m = L.length ∧ RowH 42 3 x.2.1 (List.length (keepF (qH M) (L.take x.1))) (fcs (keepF (qH M) (L.take x.1))) x.2.2) (L.length) (0, (.slice none 0 0), []) s (by kernel_rfl) (List.Sublist.refl _) ⟨IM.Le.refl _, Nat.zero_add _, (RowH.nil 42 3)⟩ ?_
  rintro m5 ⟨i5, v5, F5⟩ I5 w5 ev5 s ⟨le5, hi5_0, hi5_1⟩
  try dsimp only at s hi5_0 hi5_1 ⊢
  replace h0 := FSl.mono le5 h0
  replace h1 := FSl.mono le5 h1
  replace hle4 := leMono le5 hle4
  refine wp_seq ?_
  refine region_rule ?_
  refine ops_rule (C := []) [] F5 1 [] 0 (fun φ6 => [(11, .bool (decide (((i5 : Nat) : Int) < ((L.length : Nat) : Int))))]) (fun φ6 => []) (fun φ6 => []) s trivial (fun φ6 => by kernel_rfl) ?_
  intro φ6 w6 s
  rw [nat_lss (a := i5) (b := L.length)]
  refine ops_done (by kernel_rfl) ?_
  refine wp_seq ?_
  rcases Bool.eq_false_or_eq_true (decide (i5 < L.length)) with hc7 | hc7
  ·
    rw [hc7]
    refine cond_true_rule (b := true) (by kernel_rfl) rfl ?_
    refine wp_skip ?_
    refine wp_seq ?_
    refine wp_block ?_
    refine wp_seq ?_
    refine region_rule ?_
    refine sem_rule (Instr.indexAt 30 (.slice a0 L.length c0) (.int .i64 ((i5 : Nat) : Int))) (some 12) (.pointer (pAt a0 (i5 * 3))) (by kernel_rfl) (fsl_idx30 h0 (by have e8 := hi5_0; have hq0 := of_decide_eq_true hc7; omega)) ?_
    refine sem_rule (Instr.loadAt 42 (.pointer (pAt a0 (i5 * 3)))) (some 13) (.agg #[.int .i64 ((List.getD L i5 Fe.z).k), .string ⟨((List.getD L i5 Fe.z).a).toArray⟩, .string ⟨((List.getD L i5 Fe.z).v).toArray⟩]) (by kernel_rfl) (fsl_ld42 s.sub h0 (by have e8 := hi5_0; have hq0 := of_decide_eq_true hc7; omega)) ?_
    refine ops_rule (C := []) [] F5 2 [.o 0, .o 0, .o 0] 1 (fun φ8 => [(7, .pointer (some ⟨(φ8 0), 0, none⟩))]) (fun φ8 => [((φ8 0), .cells #[.int .i64 ((List.getD L i5 Fe.z).k), .string ⟨((List.getD L i5 Fe.z).a).toArray⟩, .string ⟨((List.getD L i5 Fe.z).v).toArray⟩] 42)]) (fun φ8 => [(φ8 0), (φ8 0), (φ8 0)]) s trivial (fun φ8 => by kernel_rfl) ?_
    intro φ8 w8 s
    refine ops_done (by kernel_rfl) ?_
    refine wp_seq ?_
    refine region_rule ?_
    refine ops_rule (C := []) [((φ8 0), .cells #[.int .i64 ((List.getD L i5 Fe.z).k), .string ⟨((List.getD L i5 Fe.z).a).toArray⟩, .string ⟨((List.getD L i5 Fe.z).v).toArray⟩] 42)] F5 2 [.o 0, .o 0, .o 0] 0 (fun φ9 => [(15, .agg #[.int .i64 ((List.getD L i5 Fe.z).k), .string ⟨((List.getD L i5 Fe.z).a).toArray⟩, .string ⟨((List.getD L i5 Fe.z).v).toArray⟩]), (14, .slice a1 M.length c1)]) (fun φ9 => [((φ8 0), .cells #[.int .i64 ((List.getD L i5 Fe.z).k), .string ⟨((List.getD L i5 Fe.z).a).toArray⟩, .string ⟨((List.getD L i5 Fe.z).v).toArray⟩] 42)]) (fun φ9 => [(φ8 0), (φ8 0), (φ8 0)]) s trivial (fun φ9 => by kernel_rfl) ?_
    intro φ9 w9 s
    refine call_rule (some 16) s (has_c (xf := (List.getD L i5 Fe.z)) h1 (by omega)) (by kernel_rfl) ?_
    intro v10 I10 w10 le10 h10 s
    replace h0 := FSl.mono le10 h0
    replace h1 := FSl.mono le10 h1
    replace hle4 := leMono le10 hle4
    obtain rfl := h10
    refine ops_rule (C := []) [((φ8 0), .cells #[.int .i64 ((List.getD L i5 Fe.z).k), .string ⟨((List.getD L i5 Fe.z).a).toArray⟩, .string ⟨((List.getD L i5 Fe.z).v).toArray⟩] 42)] F5 1 [] 0 (fun φ11 => [(17, .bool (!(decide ((List.getD L i5 Fe.z) ∈ M))))]) (fun φ11 => [((φ8 0), .cells #[.int .i64 ((List.getD L i5 Fe.z).k), .string ⟨((List.getD L i5 Fe.z).a).toArray⟩, .string ⟨((List.getD L i5 Fe.z).v).toArray⟩] 42)]) (fun φ11 => []) s trivial (fun φ11 => by kernel_rfl) ?_
    intro φ11 w11 s
    refine ops_done (by kernel_rfl) ?_
    rcases Bool.eq_false_or_eq_true (decide ((List.getD L i5 Fe.z) ∈ M)) with hc12 | hc12
    ·
      rw [hc12]
      refine cond_false_rule (b := false) (by kernel_rfl) rfl ?_
      refine wp_skip ?_
      refine region_rule ?_
      refine ops_rule (C := []) [((φ8 0), .cells #[.int .i64 ((List.getD L i5 Fe.z).k), .string ⟨((List.getD L i5 Fe.z).a).toArray⟩, .string ⟨((List.getD L i5 Fe.z).v).toArray⟩] 42)] F5 2 [] 0 (fun φ13 => [(10, .int .i64 (IntKind.wrap .i64 (((i5 : Nat) : Int) + ((1 : Nat) : Int)))), (22, .int .i64 (IntKind.wrap .i64 (((i5 : Nat) : Int) + ((1 : Nat) : Int))))]) (fun φ13 => [((φ8 0), .cells #[.int .i64 ((List.getD L i5 Fe.z).k), .string ⟨((List.getD L i5 Fe.z).a).toArray⟩, .string ⟨((List.getD L i5 Fe.z).v).toArray⟩] 42)]) (fun φ13 => []) s trivial (fun φ13 => by kernel_rfl) ?_
      intro φ13 w13 s
      rw [nat_addI (a := i5) (b := 1) (by have e8 := hi5_0; have hq0 := of_decide_eq_true hc7; have hq1 := of_decide_eq_true hc12; omega)]
      refine ops_done (by kernel_rfl) ?_
      exact ⟨⟨m5 - 1, (i5 + 1, v5, F5), _, _, _, by have hq0 := of_decide_eq_true hc7; have hq1 := of_decide_eq_true hc12; have := hi5_0; omega, rfl, s, (List.Sublist.append (List.Sublist.cons _ List.Sublist.slnil) (List.Sublist.refl _)), by kernel_rfl, hle4, by have hq0 := of_decide_eq_true hc7; have hq1 := of_decide_eq_true hc12; have := hi5_0; show i5 + 1 + (m5 - 1) = L.length; omega, (row_eq42 (keep_no (by have hq0 := of_decide_eq_true hc7; have hq1 := of_decide_eq_true hc12; have := hi5_0; omega) hc12) hi5_1)⟩⟩
    ·
      rw [hc12]
      refine cond_true_rule (b := true) (by kernel_rfl) rfl ?_
      refine region_rule ?_
      refine ops_rule (C := []) [((φ8 0), .cells #[.int .i64 ((List.getD L i5 Fe.z).k), .string ⟨((List.getD L i5 Fe.z).a).toArray⟩, .string ⟨((List.getD L i5 Fe.z).v).toArray⟩] 42)] F5 3 [.o 0, .o 0, .o 0] 1 (fun φ14 => [(20, .slice (some ⟨(φ14 0), 0, none⟩) 1 1), (19, .agg #[.int .i64 ((List.getD L i5 Fe.z).k), .string ⟨((List.getD L i5 Fe.z).a).toArray⟩, .string ⟨((List.getD L i5 Fe.z).v).toArray⟩]), (18, v5)]) (fun φ14 => [((φ8 0), .cells #[.int .i64 ((List.getD L i5 Fe.z).k), .string ⟨((List.getD L i5 Fe.z).a).toArray⟩, .string ⟨((List.getD L i5 Fe.z).v).toArray⟩] 42), ((φ14 0), .cells #[.int .i64 ((List.getD L i5 Fe.z).k), .string ⟨((List.getD L i5 Fe.z).a).toArray⟩, .string ⟨((List.getD L i5 Fe.z).v).toArray⟩] 42)]) (fun φ14 => [(φ8 0), (φ8 0), (φ8 0)]) s trivial (fun φ14 => by kernel_rfl) ?_
      intro φ14 w14 s
      have hb15 : (List.length (keepF (qH M) (L.take i5))) ≤ 100000 := (Nat.le_trans keep_takelen (by omega))
      refine append_rule (H := [((φ8 0), .cells #[.int .i64 ((List.getD L i5 Fe.z).k), .string ⟨((List.getD L i5 Fe.z).a).toArray⟩, .string ⟨((List.getD L i5 Fe.z).v).toArray⟩] 42), ((φ14 0), .cells #[.int .i64 ((List.getD L i5 Fe.z).k), .string ⟨((List.getD L i5 Fe.z).a).toArray⟩, .string ⟨((List.getD L i5 Fe.z).v).toArray⟩] 42)]) (F := F5) 30 30 42 Tryd.t42 (.agg #[.int .i64 0, .string ⟨#[]⟩, .string ⟨#[]⟩]) 3 40 (some 21) s Tryd.underlying30 (by kernel_rfl) (by kernel_rfl) (by kernel_rfl) (by kernel_rfl) (by kernel_rfl) (by decide) hi5_1 (src_own s 1 (φ14 0) #[.int .i64 ((List.getD L i5 Fe.z).k), .string ⟨((List.getD L i5 Fe.z).a).toArray⟩, .string ⟨((List.getD L i5 Fe.z).v).toArray⟩] 42 30 42 1 1 3 [.int .i64 ((List.getD L i5 Fe.z).k), .string ⟨((List.getD L i5 Fe.z).a).toArray⟩, .string ⟨((List.getD L i5 Fe.z).v).toArray⟩] (by kernel_rfl) Tryd.underlying30 (by kernel_rfl) (by kernel_rfl) (by kernel_rfl)) (by simp only [maxLen]; omega) (by omega) (by kernel_rfl) ?_
      intro v15 w15 F15 s h15
      replace h15 : RowH 42 3 v15 (List.length ((keepF (qH M) (L.take i5)) ++ [(List.getD L i5 Fe.z)])) (fcs ((keepF (qH M) (L.take i5)) ++ [(List.getD L i5 Fe.z)])) F15 := row42_snoc (Fs := (keepF (qH M) (L.take i5))) (x := (List.getD L i5 Fe.z)) h15 rfl
      refine ops_rule (C := []) [((φ8 0), .cells #[.int .i64 ((List.getD L i5 Fe.z).k), .string ⟨((List.getD L i5 Fe.z).a).toArray⟩, .string ⟨((List.getD L i5 Fe.z).v).toArray⟩] 42), ((φ14 0), .cells #[.int .i64 ((List.getD L i5 Fe.z).k), .string ⟨((List.getD L i5 Fe.z).a).toArray⟩, .string ⟨((List.getD L i5 Fe.z).v).toArray⟩] 42)] F15 1 [] 0 (fun φ16 => [(5, v15)]) (fun φ16 => [((φ8 0), .cells #[.int .i64 ((List.getD L i5 Fe.z).k), .string ⟨((List.getD L i5 Fe.z).a).toArray⟩, .string ⟨((List.getD L i5 Fe.z).v).toArray⟩] 42), ((φ14 0), .cells #[.int .i64 ((List.getD L i5 Fe.z).k), .string ⟨((List.getD L i5 Fe.z).a).toArray⟩, .string ⟨((List.getD L i5 Fe.z).v).toArray⟩] 42)]) (fun φ16 => []) s trivial (fun φ16 => by kernel_rfl) ?_
      intro φ16 w16 s
      refine ops_done (by kernel_rfl) ?_
      refine region_rule ?_
      refine ops_rule (C := []) [((φ8 0), .cells #[.int .i64 ((List.getD L i5 Fe.z).k), .string ⟨((List.getD L i5 Fe.z).a).toArray⟩, .string ⟨((List.getD L i5 Fe.z).v).toArray⟩] 42), ((φ14 0), .cells #[.int .i64 ((List.getD L i5 Fe.z).k), .string ⟨((List.getD L i5 Fe.z).a).toArray⟩, .string ⟨((List.getD L i5 Fe.z).v).toArray⟩] 42)] F15 2 [] 0 (fun φ17 => [(10, .int .i64 (IntKind.wrap .i64 (((i5 : Nat) : Int) + ((1 : Nat) : Int)))), (22, .int .i64 (IntKind.wrap .i64 (((i5 : Nat) : Int) + ((1 : Nat) : Int))))]) (fun φ17 => [((φ8 0), .cells #[.int .i64 ((List.getD L i5 Fe.z).k), .string ⟨((List.getD L i5 Fe.z).a).toArray⟩, .string ⟨((List.getD L i5 Fe.z).v).toArray⟩] 42), ((φ14 0), .cells #[.int .i64 ((List.getD L i5 Fe.z).k), .string ⟨((List.getD L i5 Fe.z).a).toArray⟩, .string ⟨((List.getD L i5 Fe.z).v).toArray⟩] 42)]) (fun φ17 => []) s trivial (fun φ17 => by kernel_rfl) ?_
      intro φ17 w17 s
      rw [nat_addI (a := i5) (b := 1) (by have e8 := hi5_0; have hq0 := of_decide_eq_true hc7; have hq1 := of_decide_eq_false hc12; omega)]
      refine ops_done (by kernel_rfl) ?_
      exact ⟨⟨m5 - 1, (i5 + 1, v15, F15), _, _, _, by have hq0 := of_decide_eq_true hc7; have hq1 := of_decide_eq_false hc12; have := hi5_0; omega, rfl, s, (List.Sublist.append (List.Sublist.cons _ (List.Sublist.cons _ List.Sublist.slnil)) (List.Sublist.refl _)), by kernel_rfl, hle4, by have hq0 := of_decide_eq_true hc7; have hq1 := of_decide_eq_false hc12; have := hi5_0; show i5 + 1 + (m5 - 1) = L.length; omega, (row_eq42 (keep_yes (by have hq0 := of_decide_eq_true hc7; have hq1 := of_decide_eq_false hc12; have := hi5_0; omega) hc12) h15)⟩⟩
  ·
    rw [hc7]
    refine cond_false_rule (b := false) (by kernel_rfl) rfl ?_
    refine wp_exit ?_
    refine wp_seq ?_
    have hr18 := row_eq42 (by have ei : i5 = L.length := (by have hq0 := of_decide_eq_false hc7; have := hi5_0; omega); rw [ei, List.take_length]) hi5_1
    obtain ⟨J18, le18, hk18, s⟩ := freeze_row42 (H := []) (F := F5) s hr18
    obtain ⟨a18, c18, hv18, -, hk18⟩ := hk18.open
    subst hv18
    replace h0 := FSl.mono le18 h0
    replace h1 := FSl.mono le18 h1
    replace hle4 := leMono le18 hle4
    refine region_rule ?_
    refine ops_rule (C := []) [] [] 2 [] 0 (fun φ19 => [(4, .slice a18 (List.length (keepF (qH M) L)) c18), (23, .slice a18 (List.length (keepF (qH M) L)) c18)]) (fun φ19 => []) (fun φ19 => []) s trivial (fun φ19 => by kernel_rfl) ?_
    intro φ19 w19 s
    refine ops_done (by kernel_rfl) ?_
    refine wp_ret ?_
    refine ret_rule (C := []) [] [] (.slice a18 (List.length (keepF (qH M) L)) c18) [] [] s trivial (by kernel_rfl) ?_
    exact ⟨_, _, _, rfl, s, ⟨_, _, rfl, hk18⟩⟩

set_option maxHeartbeats 1000000 in
theorem sameCd_c {I : IM} {L M : List Fe} {a0 a1 : Option Addr} {c0 c1 : Nat} (h0 : FSl I L (.slice a0 L.length c0)) (h1 : FSl I M (.slice a1 M.length c1)) (hl : L.length ≤ 1000) : Fun Tryd.prog 28 #[.agg #[.slice a0 L.length c0], .agg #[.slice a1 M.length c1]] I (fun v J => v = .bool (decide (L = M))) := by
  refine enter_rule 10 [(0, .agg #[.slice a0 L.length c0]), (1, .agg #[.slice a1 M.length c1])] Tryd.func28 rfl (by kernel_rfl) ?_
  intro w s
  refine wp_seq ?_
  refine region_rule ?_
  refine ops_rule (C := []) [] [] 3 [] 2 (fun φ1 => [(4, .bool false), (3, .pointer (some ⟨(φ1 1), 0, none⟩)), (2, .pointer (some ⟨(φ1 0), 0, none⟩))]) (fun φ1 => [((φ1 0), .cells #[.slice a0 L.length c0] 26), ((φ1 1), .cells #[.slice a1 M.length c1] 26)]) (fun φ1 => []) s trivial (fun φ1 => by kernel_rfl) ?_
  intro φ1 w1 s
  refine ops_done (by kernel_rfl) ?_
  refine wp_seq ?_
  refine region_rule ?_
  refine ops_rule (C := []) [((φ1 0), .cells #[.slice a0 L.length c0] 26), ((φ1 1), .cells #[.slice a1 M.length c1] 26)] [] 4 [.o 0, .o 1] 0 (fun φ2 => [(8, .slice a1 M.length c1), (7, .pointer (some ⟨(φ1 1), 0, none⟩)), (6, .slice a0 L.length c0), (5, .pointer (some ⟨(φ1 0), 0, none⟩))]) (fun φ2 => [((φ1 0), .cells #[.slice a0 L.length c0] 26), ((φ1 1), .cells #[.slice a1 M.length c1] 26)]) (fun φ2 => [(φ1 0), (φ1 1)]) s trivial (fun φ2 => by kernel_rfl) ?_
  intro φ2 w2 s
  refine call_rule (some 9) s (equalG_c h0 h1 hl) (by kernel_rfl) ?_
  intro v3 I3 w3 le3 h3 s
  replace h0 := FSl.mono le3 h0
  replace h1 := FSl.mono le3 h1
  obtain rfl := h3
  refine ops_rule (C := []) [((φ1 0), .cells #[.slice a0 L.length c0] 26), ((φ1 1), .cells #[.slice a1 M.length c1] 26)] [] 1 [] 0 (fun φ4 => [(4, .bool (decide (L = M)))]) (fun φ4 => [((φ1 0), .cells #[.slice a0 L.length c0] 26), ((φ1 1), .cells #[.slice a1 M.length c1] 26)]) (fun φ4 => []) s trivial (fun φ4 => by kernel_rfl) ?_
  intro φ4 w4 s
  refine ops_done (by kernel_rfl) ?_
  refine wp_ret ?_
  refine ret_rule (C := []) [((φ1 0), .cells #[.slice a0 L.length c0] 26), ((φ1 1), .cells #[.slice a1 M.length c1] 26)] [] (.bool (decide (L = M))) [] [] s trivial (by kernel_rfl) ?_
  exact ⟨_, _, _, rfl, s, rfl⟩

set_option maxHeartbeats 2000000 in
theorem diff_c {I : IM} {L M : List Fe} {a0 a1 : Option Addr} {c0 c1 : Nat} (h0 : FSl I L (.slice a0 L.length c0)) (h1 : FSl I M (.slice a1 M.length c1)) (hl : L.length ≤ 1000) (hlM : M.length ≤ 1000) : Fun Tryd.prog 32 #[.agg #[.slice a0 L.length c0], .agg #[.slice a1 M.length c1]] I (fun v J => ∃ a c a' c', v = .agg #[.slice a (keepF (qH L) M).length c, .slice a' (keepF (qH M) L).length c', .slice none 0 0] ∧ FSl J (keepF (qH L) M) (.slice a (keepF (qH L) M).length c) ∧ FSl J (keepF (qH M) L) (.slice a' (keepF (qH M) L).length c')) := by
  refine enter_rule 16 [(0, .agg #[.slice a0 L.length c0]), (1, .agg #[.slice a1 M.length c1])] Tryd.func32 rfl (by kernel_rfl) ?_
  intro w s
  refine wp_seq ?_
  refine region_rule ?_
  refine ops_rule (C := []) [] [] 3 [] 3 (fun φ1 => [(4, .pointer (some ⟨(φ1 2), 0, none⟩)), (3, .pointer (some ⟨(φ1 1), 0, none⟩)), (2, .pointer (some ⟨(φ1 0), 0, none⟩))]) (fun φ1 => [((φ1 0), .cells #[.slice a0 L.length c0] 26), ((φ1 1), .cells #[.slice a1 M.length c1] 26), ((φ1 2), .cells #[.slice none 0 0, .slice none 0 0, .slice none 0 0] 56)]) (fun φ1 => []) s trivial (fun φ1 => by kernel_rfl) ?_
  intro φ1 w1 s
  refine ops_done (by kernel_rfl) ?_
  refine wp_seq ?_
  refine draw_rule (C := []) ⟨(fun φ2 xs2 => [.look 0 [] [], .look 0 [.o 1] [(φ1 1)], .look 0 [.o 0] [(φ1 0)], .look 0 [] [], .call 66 #[.slice a1 M.length c1, .func (.func 71) #[.agg #[.slice a0 L.length c0]] #[]], .look 0 [] [], .look 0 [.o 0] [(φ1 0)], .look 0 [.o 1] [(φ1 1)], .look 0 [] [], .call 66 #[.slice a0 L.length c0, .func (.func 71) #[.agg #[.slice a1 M.length c1]] #[]], .look 0 [] [], .store 0 [.o 2, .o 2, .o 2] [(φ1 2), (φ1 2), (φ1 2)]]), (fun φ2 xs2 => [.pointer (some ⟨(φ1 1), 0, none⟩), .slice a1 M.length c1, .agg #[.slice a0 L.length c0], .func (.func 71) #[.agg #[.slice a0 L.length c0]] #[], .slice ((xs2 4).p 0) (List.length (keepF (qH L) M)) ((xs2 4).n 0), .pointer (some ⟨(φ1 0), 0, none⟩), .slice a0 L.length c0, .agg #[.slice a1 M.length c1], .func (.func 71) #[.agg #[.slice a1 M.length c1]] #[], .slice ((xs2 9).p 0) (List.length (keepF (qH M) L)) ((xs2 9).n 0), .agg #[.slice ((xs2 4).p 0) (List.length (keepF (qH L) M)) ((xs2 4).n 0), .slice ((xs2 9).p 0) (List.length (keepF (qH M) L)) ((xs2 9).n 0), .slice none 0 0], undef]), (fun φ2 xs2 => [[((φ1 0), .cells #[.slice a0 L.length c0] 26), ((φ1 1), .cells #[.slice a1 M.length c1] 26), ((φ1 2), .cells #[.slice none 0 0, .slice none 0 0, .slice none 0 0] 56)], [((φ1 0), .cells #[.slice a0 L.length c0] 26), ((φ1 1), .cells #[.slice a1 M.length c1] 26), ((φ1 2), .cells #[.slice ((xs2 4).p 0) (List.length (keepF (qH L) M)) ((xs2 4).n 0), .slice ((xs2 9).p 0) (List.length (keepF (qH M) L)) ((xs2 9).n 0), .slice none 0 0] 56)]]), (fun φ2 xs2 => [[default, default, default, default, default, default, default, default, default, default, default, default], [default, default, default, default, default, default, default, default, default, default, default, default]]), [11], [1, 1, 1, 1, 3, 1, 1, 1, 1, 3, 1, 4]⟩ (fun j => ([MP.any, MP.any, MP.any, MP.any, ⟨fun x J => FSl J (keepF (qH L) M) (.slice (x.p 0) (List.length (keepF (qH L) M)) (x.n 0)), fun le h => FSl.mono le h⟩, MP.any, MP.any, MP.any, MP.any, ⟨fun x J => FSl J (keepF (qH M) L) (.slice (x.p 0) (List.length (keepF (qH M) L)) (x.n 0)), fun le h => FSl.mono le h⟩, MP.any, MP.any] : List MP).getD j MP.any) [4, 9] [] [] (fun φ2 xs2 => [[none, none, none, none, none, none, none, none, none, none, none, none]]) (fun φ2 xs2 => [(5, .pointer (some ⟨(φ1 1), 0, none⟩)), (6, .slice a1 M.length c1), (7, .agg #[.slice a0 L.length c0]), (8, .func (.func 71) #[.agg #[.slice a0 L.length c0]] #[]), (9, .slice ((xs2 4).p 0) (List.length (keepF (qH L) M)) ((xs2 4).n 0)), (10, .pointer (some ⟨(φ1 0), 0, none⟩)), (11, .slice a0 L.length c0), (12, .agg #[.slice a1 M.length c1]), (13, .func (.func 71) #[.agg #[.slice a1 M.length c1]] #[]), (14, .slice ((xs2 9).p 0) (List.length (keepF (qH M) L)) ((xs2 9).n 0)), (15, .agg #[.slice ((xs2 4).p 0) (List.length (keepF (qH L) M)) ((xs2 4).n 0), .slice ((xs2 9).p 0) (List.length (keepF (qH M) L)) ((xs2 9).n 0), .slice none 0 0])]) (fun φ2 xs2 => [((φ1 0), .cells #[.slice a0 L.length c0] 26), ((φ1 1), .cells #[.slice a1 M.length c1] 26), ((φ1 2), .cells #[.slice ((xs2 4).p 0) (List.length (keepF (qH L) M)) ((xs2 4).n 0), .slice ((xs2 9).p 0) (List.length (keepF (qH M) L)) ((xs2 9).n 0), .slice none 0 0] 56)]) s trivial (by kernel_rfl) (by kernel_rfl) (fun _ _ => by kernel_rfl) (fun _ _ => by kernel_rfl) ⟨fun _ _ => by kernel_rfl, fun _ _ => by kernel_rfl, fun _ _ => by kernel_rfl, fun _ _ => by kernel_rfl⟩ (fun _ _ _ => by kernel_rfl) (fun _ _ => by kernel_rfl) (fun _ _ => by kernel_rfl) (fun _ _ => by kernel_rfl) (fun _ _ => by kernel_rfl) (fun _ _ => by kernel_rfl) trivial trivial (by kernel_rfl) ⟨?c2_4, ?c2_9, trivial⟩ ?k2
  case c2_4 =>
    refine kcast (A := ∀ (φ2 : Nat → Nat) (xs2 : Xs) (J4_2 : IM), I.Le J4_2 → Fun Tryd.prog 66 #[.slice a1 M.length c1, .func (.func 71) #[.agg #[.slice a0 L.length c0]] #[]] J4_2 (fun v J' => ∃ x : UX, v = .slice (x.p 0) (List.length (keepF (qH L) M)) (x.n 0) ∧ (FSl J' (keepF (qH L) M) (.slice (x.p 0) (List.length (keepF (qH L) M)) (x.n 0))))) (by kernel_rfl) ?_
    intro φ2 xs2 J4_2 leJ
    have h0 := FSl.mono leJ h0
    have h1 := FSl.mono leJ h1
    exact Fun.mono (withoutH_c h1 (by omega) h0 (by omega)) (fun v J' _ ⟨y0, y1, hv, g0⟩ => ⟨{ UX.d with p := fun j => y0, n := fun j => y1 }, hv, g0⟩)
  case c2_9 =>
    refine kcast (A := ∀ (φ2 : Nat → Nat) (xs2 : Xs) (J9_2 : IM), I.Le J9_2 → (FSl J9_2 (keepF (qH L) M) (.slice ((xs2 4).p 0) (List.length (keepF (qH L) M)) ((xs2 4).n 0))) → Fun Tryd.prog 66 #[.slice a0 L.length c0, .func (.func 71) #[.agg #[.slice a1 M.length c1]] #[]] J9_2 (fun v J' => ∃ x : UX, v = .slice (x.p 0) (List.length (keepF (qH M) L)) (x.n 0) ∧ (FSl J' (keepF (qH M) L) (.slice (x.p 0) (List.length (keepF (qH M) L)) (x.n 0))))) (by kernel_rfl) ?_
    intro φ2 xs2 J9_2 leJ
    rintro h2_4_0
    have h0 := FSl.mono leJ h0
    have h1 := FSl.mono leJ h1
    exact Fun.mono (withoutH_c h0 (by omega) h1 (by omega)) (fun v J' _ ⟨y0, y1, hv, g0⟩ => ⟨{ UX.d with p := fun j => y0, n := fun j => y1 }, hv, g0⟩)
  case k2 =>
    rintro φ2 xs2 I2 w2 le2 s h2_4_0 h2_9_0
    replace h0 := FSl.mono le2 h0
    replace h1 := FSl.mono le2 h1
    refine wp_ret ?_
    refine ret_rule (C := []) [((φ1 0), .cells #[.slice a0 L.length c0] 26), ((φ1 1), .cells #[.slice a1 M.length c1] 26), ((φ1 2), .cells #[.slice ((xs2 4).p 0) (List.length (keepF (qH L) M)) ((xs2 4).n 0), .slice ((xs2 9).p 0) (List.length (keepF (qH M) L)) ((xs2 9).n 0), .slice none 0 0] 56)] [] (.agg #[.slice ((xs2 4).p 0) (List.length (keepF (qH L) M)) ((xs2 4).n 0), .slice ((xs2 9).p 0) (List.length (keepF (qH M) L)) ((xs2 9).n 0), .slice none 0 0]) [.o 2, .o 2, .o 2] [(φ1 2), (φ1 2), (φ1 2)] s trivial (by kernel_rfl) ?_
    exact ⟨_, _, _, rfl, s, ⟨_, _, _, _, rfl, h2_4_0, h2_9_0⟩⟩

theorem sameS_c {I : IM} {L : List Fe} {a0 a1 : Option Addr} {c0 c1 : Nat} (h0 : FSl I L (.slice a0 L.length c0)) (h1 : FSl I L (.slice a1 L.length c1)) (hl : L.length ≤ 1000) : Fun Tryd.prog 28 #[.agg #[.slice a0 L.length c0], .agg #[.slice a1 L.length c1]] I (fun v J => v = .bool true) :=
  (sameCd_c h0 h1 hl).mono fun v J _ q => q.trans (congrArg Value.bool (decide_eq_true rfl))
theorem patchDf_c {I : IM} {L M : List Fe} {a0 aA aD : Option Addr} {c0 cA cD : Nat} (h0 : FSl I (madeF L) (.slice a0 (madeF L).length c0)) (hN : Tx.NmT I) (hT : Tx.U8 I) (hA : FSl I (keepF (qH (madeF L)) (madeF M)) (.slice aA (keepF (qH (madeF L)) (madeF M)).length cA)) (hD : FSl I (keepF (qH (madeF M)) (madeF L)) (.slice aD (keepF (qH (madeF M)) (madeF L)).length cD)) :
    Fun Tryd.prog 30 #[.agg #[.slice a0 (madeF L).length c0], .agg #[.slice aA (keepF (qH (madeF L)) (madeF M)).length cA, .slice aD (keepF (qH (madeF M)) (madeF L)).length cD, .slice none 0 0]] I (fun v J => ∃ a c, v = .tuple #[.agg #[.slice a (madeF M).length c], .int .i64 0] ∧ FSl J (madeF M) (.slice a (madeF M).length c)) := by
  have q := patchD_c (K := []) (aK := none) (cK := 0) h0 (Nat.le_trans made_len (by decide)) (made_asc L) hN hT hA hD (isl_nil I) (Nat.le_trans keep_len (Nat.le_trans made_len (by decide))) (Nat.le_trans keep_len (Nat.le_trans made_len (by decide))) (by decide) (keep_short made_short)
  have e := diff_dc (made_asc L) (made_asc M) (fun y hy => made_rt hy) made_len
  rw [e.1, e.2] at q
  exact q

set_option maxHeartbeats 4000000 in
theorem cardDiffs_c {I : IM} {L : List Fe} {a0 : Option Addr} {c0 : Nat} (h0 : FSl I L (.slice a0 L.length c0)) (hl : L.length ≤ 9223372036854775807) {M : List Fe} {a1 : Option Addr} {c1 : Nat} (hM : FSl I M (.slice a1 M.length c1)) (hlM : M.length ≤ 9223372036854775807) (hN : Tx.NmT I) (hT : Tx.U8 I) : Fun Tryd.prog 6 #[.slice a0 L.length c0, .slice a1 M.length c1] I (fun v J => v = .bool true) := by
  refine enter_rule 78 [(0, .slice a0 L.length c0), (1, .slice a1 M.length c1)] Tryd.func6 rfl (by kernel_rfl) ?_
  intro w s
  refine wp_seq ?_
  refine region_rule ?_
  refine ops_rule (C := []) [] [] 1 [] 0 (fun φ1 => [(4, .bool false)]) (fun φ1 => []) (fun φ1 => []) s trivial (fun φ1 => by kernel_rfl) ?_
  intro φ1 w1 s
  refine ops_done (by kernel_rfl) ?_
  refine wp_seq ?_
  refine wp_seq ?_
  refine region_rule ?_
  refine call_rule (some 12) s (awake9_c hN hT) (by kernel_rfl) ?_
  intro v2 I2 w2 le2 h2 s
  replace h0 := FSl.mono le2 h0
  replace hM := FSl.mono le2 hM
  replace hN := Tx.NmT.mono le2 hN
  replace hT := Tx.U8.mono le2 hT
  obtain rfl := h2
  refine ops_rule (C := []) [] [] 1 [] 0 (fun φ3 => [(13, .bool false)]) (fun φ3 => []) (fun φ3 => []) s trivial (fun φ3 => by kernel_rfl) ?_
  intro φ3 w3 s
  refine ops_done (by kernel_rfl) ?_
  refine cond_false_rule (b := false) (by kernel_rfl) rfl ?_
  refine wp_skip ?_
  refine wp_seq ?_
  refine region_rule ?_
  refine ops_rule (C := []) [] [] 1 [] 0 (fun φ4 => [(15, .slice a0 L.length c0)]) (fun φ4 => []) (fun φ4 => []) s trivial (fun φ4 => by kernel_rfl) ?_
  intro φ4 w4 s
  refine call_rule (some 16) s (made_c h0 hl hN hT) (by kernel_rfl) ?_
  intro v5 I5 w5 le5 h5 s
  replace h0 := FSl.mono le5 h0
  replace hM := FSl.mono le5 hM
  replace hN := Tx.NmT.mono le5 hN
  replace hT := Tx.U8.mono le5 hT
  obtain ⟨a5, c5, b5, d5, rfl, h5_0, h5_1⟩ := h5
  refine ops_rule (C := []) [] [] 6 [.o 0] 1 (fun φ6 => [(6, .slice b5 (List.length (madeF L)) d5), (5, .pointer (some ⟨(φ6 0), 0, none⟩)), (18, .slice b5 (List.length (madeF L)) d5), (17, .agg #[.slice a5 (List.length (madeF L)) c5]), (14, .tuple #[.agg #[.slice a5 (List.length (madeF L)) c5], .slice b5 (List.length (madeF L)) d5])]) (fun φ6 => [((φ6 0), .cells #[.slice a5 (List.length (madeF L)) c5] 26)]) (fun φ6 => [(φ6 0)]) s trivial (fun φ6 => by kernel_rfl) ?_
  intro φ6 w6 s
  refine ops_done (by kernel_rfl) ?_
  refine wp_seq ?_
  refine region_rule ?_
  refine ops_rule (C := []) [((φ6 0), .cells #[.slice a5 (List.length (madeF L)) c5] 26)] [] 1 [] 0 (fun φ7 => [(20, .slice a1 M.length c1)]) (fun φ7 => [((φ6 0), .cells #[.slice a5 (List.length (madeF L)) c5] 26)]) (fun φ7 => []) s trivial (fun φ7 => by kernel_rfl) ?_
  intro φ7 w7 s
  refine call_rule (some 21) s (made_c hM hlM hN hT) (by kernel_rfl) ?_
  intro v8 I8 w8 le8 h8 s
  replace h0 := FSl.mono le8 h0
  replace hM := FSl.mono le8 hM
  replace hN := Tx.NmT.mono le8 hN
  replace hT := Tx.U8.mono le8 hT
  replace h5_0 := FSl.mono le8 h5_0
  replace h5_1 := FSl.mono le8 h5_1
  obtain ⟨a8, c8, b8, d8, rfl, h8_0, h8_1⟩ := h8
  refine ops_rule (C := []) [((φ6 0), .cells #[.slice a5 (List.length (madeF L)) c5] 26)] [] 6 [.o 1] 1 (fun φ9 => [(8, .slice b8 (List.length (madeF M)) d8), (7, .pointer (some ⟨(φ9 0), 0, none⟩)), (23, .slice b8 (List.length (madeF M)) d8), (22, .agg #[.slice a8 (List.length (madeF M)) c8]), (19, .tuple #[.agg #[.slice a8 (List.length (madeF M)) c8], .slice b8 (List.length (madeF M)) d8])]) (fun φ9 => [((φ6 0), .cells #[.slice a5 (List.length (madeF L)) c5] 26), ((φ9 0), .cells #[.slice a8 (List.length (madeF M)) c8] 26)]) (fun φ9 => [(φ9 0)]) s trivial (fun φ9 => by kernel_rfl) ?_
  intro φ9 w9 s
  refine ops_done (by kernel_rfl) ?_
  refine wp_seq ?_
  refine region_rule ?_
  refine ops_rule (C := []) [((φ6 0), .cells #[.slice a5 (List.length (madeF L)) c5] 26), ((φ9 0), .cells #[.slice a8 (List.length (madeF M)) c8] 26)] [] 2 [.o 0, .o 1] 0 (fun φ10 => [(25, .agg #[.slice a8 (List.length (madeF M)) c8]), (24, .agg #[.slice a5 (List.length (madeF L)) c5])]) (fun φ10 => [((φ6 0), .cells #[.slice a5 (List.length (madeF L)) c5] 26), ((φ9 0), .cells #[.slice a8 (List.length (madeF M)) c8] 26)]) (fun φ10 => [(φ6 0), (φ9 0)]) s trivial (fun φ10 => by kernel_rfl) ?_
  intro φ10 w10 s
  refine call_rule (some 26) s (diff_c h5_0 h8_0 (Nat.le_trans made_len (by decide)) (Nat.le_trans made_len (by decide))) (by kernel_rfl) ?_
  intro v11 I11 w11 le11 h11 s
  replace h0 := FSl.mono le11 h0
  replace hM := FSl.mono le11 hM
  replace hN := Tx.NmT.mono le11 hN
  replace hT := Tx.U8.mono le11 hT
  replace h5_0 := FSl.mono le11 h5_0
  replace h5_1 := FSl.mono le11 h5_1
  replace h8_0 := FSl.mono le11 h8_0
  replace h8_1 := FSl.mono le11 h8_1
  obtain ⟨a11, c11, b11, d11, rfl, h11_0, h11_1⟩ := h11
  refine ops_rule (C := []) [((φ6 0), .cells #[.slice a5 (List.length (madeF L)) c5] 26), ((φ9 0), .cells #[.slice a8 (List.length (madeF M)) c8] 26)] [] 2 [.o 2, .o 2, .o 2] 1 (fun φ12 => [(9, .pointer (some ⟨(φ12 0), 0, none⟩))]) (fun φ12 => [((φ6 0), .cells #[.slice a5 (List.length (madeF L)) c5] 26), ((φ9 0), .cells #[.slice a8 (List.length (madeF M)) c8] 26), ((φ12 0), .cells #[.slice a11 (List.length (keepF (qH (madeF L)) (madeF M))) c11, .slice b11 (List.length (keepF (qH (madeF M)) (madeF L))) d11, .slice none 0 0] 56)]) (fun φ12 => [(φ12 0), (φ12 0), (φ12 0)]) s trivial (fun φ12 => by kernel_rfl) ?_
  intro φ12 w12 s
  refine ops_done (by kernel_rfl) ?_
  refine wp_seq ?_
  refine region_rule ?_
  refine ops_rule (C := []) [((φ6 0), .cells #[.slice a5 (List.length (madeF L)) c5] 26), ((φ9 0), .cells #[.slice a8 (List.length (madeF M)) c8] 26), ((φ12 0), .cells #[.slice a11 (List.length (keepF (qH (madeF L)) (madeF M))) c11, .slice b11 (List.length (keepF (qH (madeF M)) (madeF L))) d11, .slice none 0 0] 56)] [] 2 [.o 0, .o 2, .o 2, .o 2] 0 (fun φ13 => [(29, .agg #[.slice a11 (List.length (keepF (qH (madeF L)) (madeF M))) c11, .slice b11 (List.length (keepF (qH (madeF M)) (madeF L))) d11, .slice none 0 0]), (28, .agg #[.slice a5 (List.length (madeF L)) c5])]) (fun φ13 => [((φ6 0), .cells #[.slice a5 (List.length (madeF L)) c5] 26), ((φ9 0), .cells #[.slice a8 (List.length (madeF M)) c8] 26), ((φ12 0), .cells #[.slice a11 (List.length (keepF (qH (madeF L)) (madeF M))) c11, .slice b11 (List.length (keepF (qH (madeF M)) (madeF L))) d11, .slice none 0 0] 56)]) (fun φ13 => [(φ6 0), (φ12 0), (φ12 0), (φ12 0)]) s trivial (fun φ13 => by kernel_rfl) ?_
  intro φ13 w13 s
  refine call_rule (some 30) s (patchDf_c h5_0 hN hT h11_0 h11_1) (by kernel_rfl) ?_
  intro v14 I14 w14 le14 h14 s
  replace h0 := FSl.mono le14 h0
  replace hM := FSl.mono le14 hM
  replace hN := Tx.NmT.mono le14 hN
  replace hT := Tx.U8.mono le14 hT
  replace h5_0 := FSl.mono le14 h5_0
  replace h5_1 := FSl.mono le14 h5_1
  replace h8_0 := FSl.mono le14 h8_0
  replace h8_1 := FSl.mono le14 h8_1
  replace h11_0 := FSl.mono le14 h11_0
  replace h11_1 := FSl.mono le14 h11_1
  obtain ⟨a14, c14, rfl, h14_0⟩ := h14
  refine ops_rule (C := []) [((φ6 0), .cells #[.slice a5 (List.length (madeF L)) c5] 26), ((φ9 0), .cells #[.slice a8 (List.length (madeF M)) c8] 26), ((φ12 0), .cells #[.slice a11 (List.length (keepF (qH (madeF L)) (madeF M))) c11, .slice b11 (List.length (keepF (qH (madeF M)) (madeF L))) d11, .slice none 0 0] 56)] [] 6 [.o 3] 1 (fun φ15 => [(11, .int .i64 0), (10, .pointer (some ⟨(φ15 0), 0, none⟩)), (32, .int .i64 0), (31, .agg #[.slice a14 (List.length (madeF M)) c14]), (27, .tuple #[.agg #[.slice a14 (List.length (madeF M)) c14], .int .i64 0])]) (fun φ15 => [((φ6 0), .cells #[.slice a5 (List.length (madeF L)) c5] 26), ((φ9 0), .cells #[.slice a8 (List.length (madeF M)) c8] 26), ((φ12 0), .cells #[.slice a11 (List.length (keepF (qH (madeF L)) (madeF M))) c11, .slice b11 (List.length (keepF (qH (madeF M)) (madeF L))) d11, .slice none 0 0] 56), ((φ15 0), .cells #[.slice a14 (List.length (madeF M)) c14] 26)]) (fun φ15 => [(φ15 0)]) s trivial (fun φ15 => by kernel_rfl) ?_
  intro φ15 w15 s
  refine ops_done (by kernel_rfl) ?_
  refine wp_seq ?_
  refine draw_rule (C := []) ⟨(fun φ16 xs16 => [.look 0 [] [], .look 0 [] [], .look 0 [] [], .look 0 [.o 3] [(φ15 0)], .look 0 [.o 1] [(φ9 0)], .call 28 #[.agg #[.slice a14 (List.length (madeF M)) c14], .agg #[.slice a8 (List.length (madeF M)) c8]], .look 0 [] [], .look 0 [] [], .look 0 [] [], .look 0 [.o 2] [(φ12 0)], .call 17 #[.slice a11 (List.length (keepF (qH (madeF L)) (madeF M))) c11], .look 0 [] [], .look 0 [] [], .call 33 #[.slice b8 (List.length (madeF M)) d8, .slice b5 (List.length (madeF L)) d5], .call 18 #[.slice ((xs16 10).p 0) (List.length (keepF (qH (madeF L)) (madeF M))) ((xs16 10).n 0), .slice ((xs16 13).p 0) (List.length (keepF (qH (madeF L)) (madeF M))) ((xs16 13).n 0)], .look 0 [] [], .look 0 [] [], .look 0 [] [], .look 0 [.o 2] [(φ12 0)], .call 17 #[.slice b11 (List.length (keepF (qH (madeF M)) (madeF L))) d11], .look 0 [] [], .look 0 [] [], .call 33 #[.slice b5 (List.length (madeF L)) d5, .slice b8 (List.length (madeF M)) d8], .call 18 #[.slice ((xs16 19).p 0) (List.length (keepF (qH (madeF M)) (madeF L))) ((xs16 19).n 0), .slice ((xs16 22).p 0) (List.length (keepF (qH (madeF M)) (madeF L))) ((xs16 22).n 0)], .look 0 [] [], .look 0 [] [], .look 0 [] [], .look 0 [.o 2] [(φ12 0)], .look 0 [] [], .look 0 [] [], .look 0 [] [], .look 0 [] [], .look 0 [] [], .look 0 [.o 2] [(φ12 0)], .look 0 [] [], .look 0 [] [], .look 0 [.o 2] [(φ12 0)], .look 0 [] [], .sub 0 [] [] (.int .i64 (IntKind.wrap .i64 ((((List.length (keepF (qH (madeF L)) (madeF M))) : Nat) : Int) + (((List.length (keepF (qH (madeF M)) (madeF L))) : Nat) : Int)))), .sub 0 [] [] (.bool ((((List.length (keepF (qH (madeF L)) (madeF M))) + (List.length (keepF (qH (madeF M)) (madeF L))) : Nat) : Int) == ((0 : Nat) : Int))), .look 0 [.o 0] [(φ6 0)], .look 0 [.o 1] [(φ9 0)], .call 28 #[.agg #[.slice a5 (List.length (madeF L)) c5], .agg #[.slice a8 (List.length (madeF M)) c8]], .ran (binOp .eql 4 (.bool (decide (((List.length (keepF (qH (madeF L)) (madeF M))) + (List.length (keepF (qH (madeF M)) (madeF L)))) = 0))) (.bool (decide ((madeF L) = (madeF M))))), .look 0 [] [], .look 0 [] []]), (fun φ16 xs16 => [.int .i64 0, .bool true, .bool true, .agg #[.slice a14 (List.length (madeF M)) c14], .agg #[.slice a8 (List.length (madeF M)) c8], .bool true, .bool true, .bool true, .pointer (some ⟨(φ12 0), 0, none⟩), .slice a11 (List.length (keepF (qH (madeF L)) (madeF M))) c11, .slice ((xs16 10).p 0) (List.length (keepF (qH (madeF L)) (madeF M))) ((xs16 10).n 0), .slice b8 (List.length (madeF M)) d8, .slice b5 (List.length (madeF L)) d5, .slice ((xs16 13).p 0) (List.length (keepF (qH (madeF L)) (madeF M))) ((xs16 13).n 0), .bool true, .bool true, .bool true, .pointer (some ⟨(φ12 0), 1, none⟩), .slice b11 (List.length (keepF (qH (madeF M)) (madeF L))) d11, .slice ((xs16 19).p 0) (List.length (keepF (qH (madeF M)) (madeF L))) ((xs16 19).n 0), .slice b5 (List.length (madeF L)) d5, .slice b8 (List.length (madeF M)) d8, .slice ((xs16 22).p 0) (List.length (keepF (qH (madeF M)) (madeF L))) ((xs16 22).n 0), .bool true, .bool true, .bool true, .pointer (some ⟨(φ12 0), 2, none⟩), .slice none 0 0, .int .i64 0, .bool true, .bool true, .bool true, .pointer (some ⟨(φ12 0), 0, none⟩), .slice a11 (List.length (keepF (qH (madeF L)) (madeF M))) c11, .int .i64 (((List.length (keepF (qH (madeF L)) (madeF M))) : Nat) : Int), .pointer (some ⟨(φ12 0), 1, none⟩), .slice b11 (List.length (keepF (qH (madeF M)) (madeF L))) d11, .int .i64 (((List.length (keepF (qH (madeF M)) (madeF L))) : Nat) : Int), .int .i64 (((List.length (keepF (qH (madeF L)) (madeF M))) + (List.length (keepF (qH (madeF M)) (madeF L))) : Nat) : Int), .bool (decide (((List.length (keepF (qH (madeF L)) (madeF M))) + (List.length (keepF (qH (madeF M)) (madeF L)))) = 0)), .agg #[.slice a5 (List.length (madeF L)) c5], .agg #[.slice a8 (List.length (madeF M)) c8], .bool (decide ((madeF L) = (madeF M))), .bool true, .bool true, .bool true]), (fun φ16 xs16 => [[((φ6 0), .cells #[.slice a5 (List.length (madeF L)) c5] 26), ((φ9 0), .cells #[.slice a8 (List.length (madeF M)) c8] 26), ((φ12 0), .cells #[.slice a11 (List.length (keepF (qH (madeF L)) (madeF M))) c11, .slice b11 (List.length (keepF (qH (madeF M)) (madeF L))) d11, .slice none 0 0] 56), ((φ15 0), .cells #[.slice a14 (List.length (madeF M)) c14] 26)]]), (fun φ16 xs16 => [[default, default, default, default, default, default, default, default, default, default, default, default, default, default, default, default, default, default, default, default, default, default, default, default, default, default, default, default, default, default, default, default, default, default, default, default, default, default, default, default, default, default, default, default, default, default]]), [], [1, 1, 1, 1, 1, 3, 1, 1, 1, 1, 3, 1, 1, 3, 3, 1, 1, 1, 1, 3, 1, 1, 3, 3, 1, 1, 1, 1, 1, 1, 1, 1, 1, 1, 1, 1, 1, 1, 5, 5, 1, 1, 3, 6, 1, 1]⟩ (fun j => ([MP.any, MP.any, MP.any, MP.any, MP.any, MP.any, MP.any, MP.any, MP.any, MP.any, ⟨fun x J => FSl J (keepF (qH (madeF L)) (madeF M)) (.slice (x.p 0) (List.length (keepF (qH (madeF L)) (madeF M))) (x.n 0)), fun le h => FSl.mono le h⟩, MP.any, MP.any, ⟨fun x J => FSl J (keepF (qH (madeF L)) (madeF M)) (.slice (x.p 0) (List.length (keepF (qH (madeF L)) (madeF M))) (x.n 0)), fun le h => FSl.mono le h⟩, MP.any, MP.any, MP.any, MP.any, MP.any, ⟨fun x J => FSl J (keepF (qH (madeF M)) (madeF L)) (.slice (x.p 0) (List.length (keepF (qH (madeF M)) (madeF L))) (x.n 0)), fun le h => FSl.mono le h⟩, MP.any, MP.any, ⟨fun x J => FSl J (keepF (qH (madeF M)) (madeF L)) (.slice (x.p 0) (List.length (keepF (qH (madeF M)) (madeF L))) (x.n 0)), fun le h => FSl.mono le h⟩, MP.any, MP.any, MP.any, MP.any, MP.any, MP.any, MP.any, MP.any, MP.any, MP.any, MP.any, MP.any, MP.any, MP.any, MP.any, MP.any, MP.any, MP.any, MP.any, MP.any, MP.any, MP.any, MP.any] : List MP).getD j MP.any) [5, 10, 13, 14, 19, 22, 23, 42] [38, 39] [43] (fun φ16 xs16 => []) (fun φ16 xs16 => [(33, .int .i64 0), (34, .bool true), (35, .bool true), (36, .agg #[.slice a14 (List.length (madeF M)) c14]), (37, .agg #[.slice a8 (List.length (madeF M)) c8]), (38, .bool true), (39, .bool true), (40, .bool true), (41, .pointer (some ⟨(φ12 0), 0, none⟩)), (42, .slice a11 (List.length (keepF (qH (madeF L)) (madeF M))) c11), (43, .slice ((xs16 10).p 0) (List.length (keepF (qH (madeF L)) (madeF M))) ((xs16 10).n 0)), (44, .slice b8 (List.length (madeF M)) d8), (45, .slice b5 (List.length (madeF L)) d5), (46, .slice ((xs16 13).p 0) (List.length (keepF (qH (madeF L)) (madeF M))) ((xs16 13).n 0)), (47, .bool true), (48, .bool true), (49, .bool true), (50, .pointer (some ⟨(φ12 0), 1, none⟩)), (51, .slice b11 (List.length (keepF (qH (madeF M)) (madeF L))) d11), (52, .slice ((xs16 19).p 0) (List.length (keepF (qH (madeF M)) (madeF L))) ((xs16 19).n 0)), (53, .slice b5 (List.length (madeF L)) d5), (54, .slice b8 (List.length (madeF M)) d8), (55, .slice ((xs16 22).p 0) (List.length (keepF (qH (madeF M)) (madeF L))) ((xs16 22).n 0)), (56, .bool true), (57, .bool true), (58, .bool true), (59, .pointer (some ⟨(φ12 0), 2, none⟩)), (60, .slice none 0 0), (61, .int .i64 0), (62, .bool true), (63, .bool true), (64, .bool true), (65, .pointer (some ⟨(φ12 0), 0, none⟩)), (66, .slice a11 (List.length (keepF (qH (madeF L)) (madeF M))) c11), (67, .int .i64 (((List.length (keepF (qH (madeF L)) (madeF M))) : Nat) : Int)), (68, .pointer (some ⟨(φ12 0), 1, none⟩)), (69, .slice b11 (List.length (keepF (qH (madeF M)) (madeF L))) d11), (70, .int .i64 (((List.length (keepF (qH (madeF M)) (madeF L))) : Nat) : Int)), (71, .int .i64 (((List.length (keepF (qH (madeF L)) (madeF M))) + (List.length (keepF (qH (madeF M)) (madeF L))) : Nat) : Int)), (72, .bool (decide (((List.length (keepF (qH (madeF L)) (madeF M))) + (List.length (keepF (qH (madeF M)) (madeF L)))) = 0))), (73, .agg #[.slice a5 (List.length (madeF L)) c5]), (74, .agg #[.slice a8 (List.length (madeF M)) c8]), (75, .bool (decide ((madeF L) = (madeF M)))), (76, .bool true), (77, .bool true), (4, .bool true)]) (fun φ16 xs16 => [((φ6 0), .cells #[.slice a5 (List.length (madeF L)) c5] 26), ((φ9 0), .cells #[.slice a8 (List.length (madeF M)) c8] 26), ((φ12 0), .cells #[.slice a11 (List.length (keepF (qH (madeF L)) (madeF M))) c11, .slice b11 (List.length (keepF (qH (madeF M)) (madeF L))) d11, .slice none 0 0] 56), ((φ15 0), .cells #[.slice a14 (List.length (madeF M)) c14] 26)]) s trivial (by kernel_rfl) (by kernel_rfl) (fun _ _ => by kernel_rfl) (fun _ _ => by kernel_rfl) ⟨fun _ _ => by kernel_rfl, fun _ _ => by kernel_rfl, fun _ _ => by kernel_rfl, fun _ _ => by kernel_rfl⟩ (fun _ _ _ => by kernel_rfl) (fun _ _ => by kernel_rfl) (fun _ _ => by kernel_rfl) (fun _ _ => by kernel_rfl) (fun _ _ => by kernel_rfl) (fun _ _ => by kernel_rfl) ⟨kcast (A := ∀ (φ16 : Nat → Nat) (xs16 : Xs), (.int .i64 (IntKind.wrap .i64 ((((List.length (keepF (qH (madeF L)) (madeF M))) : Nat) : Int) + (((List.length (keepF (qH (madeF M)) (madeF L))) : Nat) : Int))) : Value) = .int .i64 (((List.length (keepF (qH (madeF L)) (madeF M))) + (List.length (keepF (qH (madeF M)) (madeF L))) : Nat) : Int)) (by kernel_rfl) (fun φ16 xs16 => congrArg (Value.int .i64) ((nat_addI (a := (List.length (keepF (qH (madeF L)) (madeF M)))) (b := (List.length (keepF (qH (madeF M)) (madeF L)))) (by have e5 := keep_len (q := qH (madeF L)) (L := madeF M); have e6 := keep_len (q := qH (madeF M)) (L := madeF L); have e3 := made_len (L := L); have e4 := made_len (L := M);  (try simp only [List.length_drop, List.length_take, List.length_append, List.length_cons, List.length_nil]); omega)))), ⟨kcast (A := ∀ (φ16 : Nat → Nat) (xs16 : Xs), (.bool ((((List.length (keepF (qH (madeF L)) (madeF M))) + (List.length (keepF (qH (madeF M)) (madeF L))) : Nat) : Int) == ((0 : Nat) : Int)) : Value) = .bool (decide (((List.length (keepF (qH (madeF L)) (madeF M))) + (List.length (keepF (qH (madeF M)) (madeF L)))) = 0))) (by kernel_rfl) (fun φ16 xs16 => congrArg Value.bool ((nat_eql (a := ((List.length (keepF (qH (madeF L)) (madeF M))) + (List.length (keepF (qH (madeF M)) (madeF L))))) (b := 0)))), trivial⟩⟩ ⟨kcast (A := ∀ (φ16 : Nat → Nat) (xs16 : Xs) (J : IM) (w : World), I14.Le J → J.Sub w → ((binOp .eql 4 (.bool (decide (((List.length (keepF (qH (madeF L)) (madeF M))) + (List.length (keepF (qH (madeF M)) (madeF L)))) = 0))) (.bool (decide ((madeF L) = (madeF M))))) : Sem Value).run Tryd.prog w = .ok (.bool true) w) (by kernel_rfl) (fun φ16 xs16 J w hJ hS => (run_eqBX (keep_same (made_asc L) (made_asc M)))), trivial⟩ (by kernel_rfl) ⟨?c16_5, ?c16_10, ?c16_13, ?c16_14, ?c16_19, ?c16_22, ?c16_23, ?c16_42, trivial⟩ ?k16
  case c16_5 =>
    refine kcast (A := ∀ (φ16 : Nat → Nat) (xs16 : Xs) (J5_16 : IM), I14.Le J5_16 → Fun Tryd.prog 28 #[.agg #[.slice a14 (List.length (madeF M)) c14], .agg #[.slice a8 (List.length (madeF M)) c8]] J5_16 (fun v J' => ∃ x : UX, v = .bool true ∧ (True))) (by kernel_rfl) ?_
    intro φ16 xs16 J5_16 leJ
    have h8_0 := FSl.mono leJ h8_0
    have h14_0 := FSl.mono leJ h14_0
    exact Fun.mono (sameS_c h14_0 h8_0 (Nat.le_trans made_len (by decide))) (fun v J' _ h => ⟨UX.d, h, trivial⟩)
  case c16_10 =>
    refine kcast (A := ∀ (φ16 : Nat → Nat) (xs16 : Xs) (J10_16 : IM), I14.Le J10_16 → (True) → Fun Tryd.prog 17 #[.slice a11 (List.length (keepF (qH (madeF L)) (madeF M))) c11] J10_16 (fun v J' => ∃ x : UX, v = .slice (x.p 0) (List.length (keepF (qH (madeF L)) (madeF M))) (x.n 0) ∧ (FSl J' (keepF (qH (madeF L)) (madeF M)) (.slice (x.p 0) (List.length (keepF (qH (madeF L)) (madeF M))) (x.n 0))))) (by kernel_rfl) ?_
    intro φ16 xs16 J10_16 leJ
    rintro _
    have h11_0 := FSl.mono leJ h11_0
    exact Fun.mono (own9_c h11_0 (Nat.le_trans keep_len (Nat.le_trans made_len (by decide)))) (fun v J' _ ⟨y0, y1, hv, g0⟩ => ⟨{ UX.d with p := fun j => y0, n := fun j => y1 }, hv, g0⟩)
  case c16_13 =>
    refine kcast (A := ∀ (φ16 : Nat → Nat) (xs16 : Xs) (J13_16 : IM), I14.Le J13_16 → (True) → (FSl J13_16 (keepF (qH (madeF L)) (madeF M)) (.slice ((xs16 10).p 0) (List.length (keepF (qH (madeF L)) (madeF M))) ((xs16 10).n 0))) → Fun Tryd.prog 33 #[.slice b8 (List.length (madeF M)) d8, .slice b5 (List.length (madeF L)) d5] J13_16 (fun v J' => ∃ x : UX, v = .slice (x.p 0) (List.length (keepF (qH (madeF L)) (madeF M))) (x.n 0) ∧ (FSl J' (keepF (qH (madeF L)) (madeF M)) (.slice (x.p 0) (List.length (keepF (qH (madeF L)) (madeF M))) (x.n 0))))) (by kernel_rfl) ?_
    intro φ16 xs16 J13_16 leJ
    rintro _ h16_10_0
    have h5_1 := FSl.mono leJ h5_1
    have h8_1 := FSl.mono leJ h8_1
    exact Fun.mono (less2_c h8_1 h5_1 (Nat.le_trans made_len (by decide)) (Nat.le_trans made_len (by decide))) (fun v J' _ ⟨y0, y1, hv, g0⟩ => ⟨{ UX.d with p := fun j => y0, n := fun j => y1 }, hv, g0⟩)
  case c16_14 =>
    refine kcast (A := ∀ (φ16 : Nat → Nat) (xs16 : Xs) (J14_16 : IM), I14.Le J14_16 → (True) → (FSl J14_16 (keepF (qH (madeF L)) (madeF M)) (.slice ((xs16 10).p 0) (List.length (keepF (qH (madeF L)) (madeF M))) ((xs16 10).n 0))) → (FSl J14_16 (keepF (qH (madeF L)) (madeF M)) (.slice ((xs16 13).p 0) (List.length (keepF (qH (madeF L)) (madeF M))) ((xs16 13).n 0))) → Fun Tryd.prog 18 #[.slice ((xs16 10).p 0) (List.length (keepF (qH (madeF L)) (madeF M))) ((xs16 10).n 0), .slice ((xs16 13).p 0) (List.length (keepF (qH (madeF L)) (madeF M))) ((xs16 13).n 0)] J14_16 (fun v J' => ∃ x : UX, v = .bool true ∧ (True))) (by kernel_rfl) ?_
    intro φ16 xs16 J14_16 leJ
    rintro _ h16_10_0 h16_13_0
    exact Fun.mono (sameF_c h16_10_0 h16_13_0 (Nat.le_trans keep_len (Nat.le_trans made_len (by decide)))) (fun v J' _ h => ⟨UX.d, h, trivial⟩)
  case c16_19 =>
    refine kcast (A := ∀ (φ16 : Nat → Nat) (xs16 : Xs) (J19_16 : IM), I14.Le J19_16 → (True) → (FSl J19_16 (keepF (qH (madeF L)) (madeF M)) (.slice ((xs16 10).p 0) (List.length (keepF (qH (madeF L)) (madeF M))) ((xs16 10).n 0))) → (FSl J19_16 (keepF (qH (madeF L)) (madeF M)) (.slice ((xs16 13).p 0) (List.length (keepF (qH (madeF L)) (madeF M))) ((xs16 13).n 0))) → (True) → Fun Tryd.prog 17 #[.slice b11 (List.length (keepF (qH (madeF M)) (madeF L))) d11] J19_16 (fun v J' => ∃ x : UX, v = .slice (x.p 0) (List.length (keepF (qH (madeF M)) (madeF L))) (x.n 0) ∧ (FSl J' (keepF (qH (madeF M)) (madeF L)) (.slice (x.p 0) (List.length (keepF (qH (madeF M)) (madeF L))) (x.n 0))))) (by kernel_rfl) ?_
    intro φ16 xs16 J19_16 leJ
    rintro _ h16_10_0 h16_13_0 _
    have h11_1 := FSl.mono leJ h11_1
    exact Fun.mono (own9_c h11_1 (Nat.le_trans keep_len (Nat.le_trans made_len (by decide)))) (fun v J' _ ⟨y0, y1, hv, g0⟩ => ⟨{ UX.d with p := fun j => y0, n := fun j => y1 }, hv, g0⟩)
  case c16_22 =>
    refine kcast (A := ∀ (φ16 : Nat → Nat) (xs16 : Xs) (J22_16 : IM), I14.Le J22_16 → (True) → (FSl J22_16 (keepF (qH (madeF L)) (madeF M)) (.slice ((xs16 10).p 0) (List.length (keepF (qH (madeF L)) (madeF M))) ((xs16 10).n 0))) → (FSl J22_16 (keepF (qH (madeF L)) (madeF M)) (.slice ((xs16 13).p 0) (List.length (keepF (qH (madeF L)) (madeF M))) ((xs16 13).n 0))) → (True) → (FSl J22_16 (keepF (qH (madeF M)) (madeF L)) (.slice ((xs16 19).p 0) (List.length (keepF (qH (madeF M)) (madeF L))) ((xs16 19).n 0))) → Fun Tryd.prog 33 #[.slice b5 (List.length (madeF L)) d5, .slice b8 (List.length (madeF M)) d8] J22_16 (fun v J' => ∃ x : UX, v = .slice (x.p 0) (List.length (keepF (qH (madeF M)) (madeF L))) (x.n 0) ∧ (FSl J' (keepF (qH (madeF M)) (madeF L)) (.slice (x.p 0) (List.length (keepF (qH (madeF M)) (madeF L))) (x.n 0))))) (by kernel_rfl) ?_
    intro φ16 xs16 J22_16 leJ
    rintro _ h16_10_0 h16_13_0 _ h16_19_0
    have h5_1 := FSl.mono leJ h5_1
    have h8_1 := FSl.mono leJ h8_1
    exact Fun.mono (less2_c h5_1 h8_1 (Nat.le_trans made_len (by decide)) (Nat.le_trans made_len (by decide))) (fun v J' _ ⟨y0, y1, hv, g0⟩ => ⟨{ UX.d with p := fun j => y0, n := fun j => y1 }, hv, g0⟩)
  case c16_23 =>
    refine kcast (A := ∀ (φ16 : Nat → Nat) (xs16 : Xs) (J23_16 : IM), I14.Le J23_16 → (True) → (FSl J23_16 (keepF (qH (madeF L)) (madeF M)) (.slice ((xs16 10).p 0) (List.length (keepF (qH (madeF L)) (madeF M))) ((xs16 10).n 0))) → (FSl J23_16 (keepF (qH (madeF L)) (madeF M)) (.slice ((xs16 13).p 0) (List.length (keepF (qH (madeF L)) (madeF M))) ((xs16 13).n 0))) → (True) → (FSl J23_16 (keepF (qH (madeF M)) (madeF L)) (.slice ((xs16 19).p 0) (List.length (keepF (qH (madeF M)) (madeF L))) ((xs16 19).n 0))) → (FSl J23_16 (keepF (qH (madeF M)) (madeF L)) (.slice ((xs16 22).p 0) (List.length (keepF (qH (madeF M)) (madeF L))) ((xs16 22).n 0))) → Fun Tryd.prog 18 #[.slice ((xs16 19).p 0) (List.length (keepF (qH (madeF M)) (madeF L))) ((xs16 19).n 0), .slice ((xs16 22).p 0) (List.length (keepF (qH (madeF M)) (madeF L))) ((xs16 22).n 0)] J23_16 (fun v J' => ∃ x : UX, v = .bool true ∧ (True))) (by kernel_rfl) ?_
    intro φ16 xs16 J23_16 leJ
    rintro _ h16_10_0 h16_13_0 _ h16_19_0 h16_22_0
    exact Fun.mono (sameF_c h16_19_0 h16_22_0 (Nat.le_trans keep_len (Nat.le_trans made_len (by decide)))) (fun v J' _ h => ⟨UX.d, h, trivial⟩)
  case c16_42 =>
    refine kcast (A := ∀ (φ16 : Nat → Nat) (xs16 : Xs) (J42_16 : IM), I14.Le J42_16 → (True) → (FSl J42_16 (keepF (qH (madeF L)) (madeF M)) (.slice ((xs16 10).p 0) (List.length (keepF (qH (madeF L)) (madeF M))) ((xs16 10).n 0))) → (FSl J42_16 (keepF (qH (madeF L)) (madeF M)) (.slice ((xs16 13).p 0) (List.length (keepF (qH (madeF L)) (madeF M))) ((xs16 13).n 0))) → (True) → (FSl J42_16 (keepF (qH (madeF M)) (madeF L)) (.slice ((xs16 19).p 0) (List.length (keepF (qH (madeF M)) (madeF L))) ((xs16 19).n 0))) → (FSl J42_16 (keepF (qH (madeF M)) (madeF L)) (.slice ((xs16 22).p 0) (List.length (keepF (qH (madeF M)) (madeF L))) ((xs16 22).n 0))) → (True) → Fun Tryd.prog 28 #[.agg #[.slice a5 (List.length (madeF L)) c5], .agg #[.slice a8 (List.length (madeF M)) c8]] J42_16 (fun v J' => ∃ x : UX, v = .bool (decide ((madeF L) = (madeF M))) ∧ (True))) (by kernel_rfl) ?_
    intro φ16 xs16 J42_16 leJ
    rintro _ h16_10_0 h16_13_0 _ h16_19_0 h16_22_0 _
    have h5_0 := FSl.mono leJ h5_0
    have h8_0 := FSl.mono leJ h8_0
    exact Fun.mono (sameCd_c h5_0 h8_0 (Nat.le_trans made_len (by decide))) (fun v J' _ h => ⟨UX.d, h, trivial⟩)
  case k16 =>
    rintro φ16 xs16 I16 w16 le16 s _ h16_10_0 h16_13_0 _ h16_19_0 h16_22_0 _ _
    replace h0 := FSl.mono le16 h0
    replace hM := FSl.mono le16 hM
    replace hN := Tx.NmT.mono le16 hN
    replace hT := Tx.U8.mono le16 hT
    replace h5_0 := FSl.mono le16 h5_0
    replace h5_1 := FSl.mono le16 h5_1
    replace h8_0 := FSl.mono le16 h8_0
    replace h8_1 := FSl.mono le16 h8_1
    replace h11_0 := FSl.mono le16 h11_0
    replace h11_1 := FSl.mono le16 h11_1
    replace h14_0 := FSl.mono le16 h14_0
    refine wp_ret ?_
    refine ret_rule (C := []) [((φ6 0), .cells #[.slice a5 (List.length (madeF L)) c5] 26), ((φ9 0), .cells #[.slice a8 (List.length (madeF M)) c8] 26), ((φ12 0), .cells #[.slice a11 (List.length (keepF (qH (madeF L)) (madeF M))) c11, .slice b11 (List.length (keepF (qH (madeF M)) (madeF L))) d11, .slice none 0 0] 56), ((φ15 0), .cells #[.slice a14 (List.length (madeF M)) c14] 26)] [] (.bool true) [] [] s trivial (by kernel_rfl) ?_
    exact ⟨_, _, _, rfl, s, rfl⟩

end Go.Proofs.YtcpmjogeafhpnaaDoor
/- What the laid variables give. -/
set_option linter.all false
set_option maxRecDepth 100000
namespace Go.Proofs.YtcpmjogeafhpnaaDoor
open Go.RowKit Go.Sep Go.Lib
theorem ownKnob_none : ownKnob Tryd.prog.godebug = none := by kernel_rfl
abbrev laidT : List (String × DataW Unit) := Rows.cardMakesRow.laid
theorem tabs_of_laid {W : World} (h : laidMetH Tryd.prog laidT W) : Lib.Utf8Tabs 1 2 W := by
  rw [MakeChecks.laidMetH_plain _ _ _ (by kernel_rfl)] at h
  have h4 := Lib.laidMet.reads h (.head _)
  have h3 := Lib.laidMet.reads h (.tail _ (.tail _ (.head _)))
  exact utf8Tabs_of_readsT (ρ := Tryd.lays196_ren) (U8Types.of196 Tryd.lays196) ⟨by kernel_rfl, by kernel_rfl, by kernel_rfl, by kernel_rfl, by kernel_rfl, by kernel_rfl, by kernel_rfl⟩ (kcast (by kernel_rfl) h3) (kcast (by kernel_rfl) h4)
theorem block_of {W : World} {b o : Nat} {v : Value} (h : W.cell? ⟨b, o, none⟩ = some v) : ∃ cs T fr, W.heap[b]? = some (.cells cs T fr) ∧ cs[o]? = some v := by
  unfold World.cell? at h
  cases hb : W.heap[b]? with
  | none => simp [hb] at h
  | some ob =>
    cases ob <;> simp [hb] at h
    exact ⟨_, _, _, rfl, h⟩
theorem nm_of_laid {W : World} (h : laidMetH Tryd.prog laidT W) : Tx.NmT (fun k => W.heap[k]?) := by
  rw [MakeChecks.laidMetH_plain _ _ _ (by kernel_rfl)] at h
  obtain ⟨g, t, cs, fuel, p, hg, hty, hvar, hd⟩ := Lib.laidMet.reads h (.tail _ (.head _))
  obtain rfl := Option.some.inj ((show Tryd.prog.globalNamed "kinfolk/card.names" = some 0 by kernel_rfl).symm.trans hg)
  obtain rfl := Option.some.inj ((show (Tryd.prog.globals[0]?).map (·.type) = some 98 by kernel_rfl).symm.trans hty)
  have one : ∀ i, i < 7 → W.cell? ⟨0, i, none⟩ = some (.string ⟨(Tx.nmL.getD i []).toArray⟩) := fun i hi => by
    obtain ⟨fuel', d, q, hdi, he⟩ := array_elem (show Tryd.prog.underlying 98 = some (.array 7 9) by kernel_rfl) hd i hi
    have hdl : d = DataW.lit (.string (Tx.nmL.getD i [])) := by
      have : i = 0 ∨ i = 1 ∨ i = 2 ∨ i = 3 ∨ i = 4 ∨ i = 5 ∨ i = 6 := by omega
      rcases this with rfl | rfl | rfl | rfl | rfl | rfl | rfl <;> exact (Option.some.inj hdi).symm
    subst hdl
    obtain ⟨s, hc, hx, -⟩ := DataW.trod_string Tryd.underlying9 he
    have hs : s = ⟨(Tx.nmL.getD i []).toArray⟩ := by
      have h1 := congrArg Prod.fst hx
      simp only [DataW.lit.injEq, Lit.string.injEq] at h1
      obtain ⟨⟨l⟩⟩ := s
      simp only at h1
      exact congrArg ByteArray.mk (congrArg Array.mk h1.symm)
    rw [show Tryd.prog.cellsOf 9 = 1 by kernel_rfl] at hc
    have e0 := congrArg (·[0]?) hc
    simp only [List.getElem?_take, List.getElem?_drop] at e0
    have h2 := World.var?_cell hg hvar i
    rw [← Array.getElem?_toList] at h2
    rw [← hs]
    exact h2.trans (by simpa using e0)
  obtain ⟨cs', T, fr, e1, -⟩ := block_of (one 0 (by decide))
  refine ⟨cs', T, fr, e1, fun i hi => ?_⟩
  obtain ⟨cs2, T2, fr2, f1, f2⟩ := block_of (one i hi)
  rw [e1] at f1
  cases f1
  exact f2
theorem cell_up {W w : World} (hw : IM.Sub (fun k => W.heap[k]?) w) {a : Addr} {v : Value} (h : W.cell? a = some v) : w.cell? a = some v := by
  unfold World.cell? at h ⊢
  cases e : W.heap[a.block]? with
  | none => rw [e] at h; cases h
  | some o => rw [hw _ _ e]; rw [e] at h; exact h
theorem u8_of_laid {W : World} (h : laidMetH Tryd.prog laidT W) : Tx.U8 (fun k => W.heap[k]?) := fun w hw =>
  have t := tabs_of_laid h
  ⟨fun c hc => cell_up hw (t.1 c hc), fun i hi => ⟨cell_up hw (t.2 i hi).1, cell_up hw (t.2 i hi).2⟩⟩
theorem met_wit (os : Os) (args : Array Value) : laidMetH Tryd.prog laidT ((World.laidAll Tryd.prog os laidT).forCall (fun _ _ => 0) ⟨#[], args, []⟩).memory := by
  rw [MakeChecks.laidMetH_plain _ _ _ (by kernel_rfl)]; exact laidMet_laidAll _ (by kernel_rfl) (by kernel_rfl)
end Go.Proofs.YtcpmjogeafhpnaaDoor
/- A slice of bytes that came in, as the contracts want it. -/
set_option linter.all false
namespace Go.Proofs.YtcpmjogeafhpnaaDoor
open Go.RowKit Go.Sep

theorem cell_block {w : World} {b o : Nat} {v : Value} (h : w.cell? ⟨b, o, none⟩ = some v) : ∃ cs T fr, w.heap[b]? = some (.cells cs T fr) ∧ cs[o]? = some v := by
  unfold World.cell? at h
  cases hb : w.heap[b]? with
  | none => simp [hb] at h
  | some ob =>
    cases ob <;> simp [hb] at h
    exact ⟨_, _, _, rfl, h⟩
end Go.Proofs.YtcpmjogeafhpnaaDoor
/- Slices of fields that came in. -/
set_option linter.all false
set_option maxRecDepth 100000
namespace Go.Proofs.YtcpmjogeafhpnaaDoor
open Go.Sep
open Go.ChangeShapes Go.WideShapes Go.ChangeAt Go.RowKit
structure FX where
  k : Int
  a : List UInt8
  v : List UInt8
def FX.d : FX := ⟨0, [], []⟩
instance : Inhabited FX := ⟨FX.d⟩
def FXl (I : IM) (L : List FX) (v : Value) : Prop := ∃ a cap, v = .slice a L.length cap ∧ L.length ≤ cap ∧ ∀ (j : Nat) (x : FX), L[j]? = some x → (-9223372036854775808 ≤ x.k ∧ x.k < 9223372036854775808 ∧ x.a.length ≤ maxLen ∧ x.v.length ≤ maxLen) ∧ ∃ (b o : Nat) (cs : Array Value) (T : TypeId) (fr : Nat × Nat), a = some ⟨b, o, none⟩ ∧ I b = some (.cells cs T fr) ∧ cs[o + j * 3]? = some (.int .i64 x.k) ∧ cs[o + j * 3 + 1]? = some (.string ⟨x.a.toArray⟩) ∧ cs[o + j * 3 + 2]? = some (.string ⟨x.v.toArray⟩)
theorem FXl.mono {I J : IM} (le : I.Le J) {L : List FX} {v : Value} (h : FXl I L v) : FXl J L v := by
  obtain ⟨a, cap, hv, hc, hr⟩ := h
  refine ⟨a, cap, hv, hc, fun j x hj => ?_⟩
  obtain ⟨hx, b, o, cs, T, fr, h1, h2, h3, h4, h5⟩ := hr j x hj
  exact ⟨hx, b, o, cs, T, fr, h1, le _ _ h2, h3, h4, h5⟩
theorem FXl.cap {I : IM} {L : List FX} {a : Option Addr} {n c : Nat} (h : FXl I L (.slice a n c)) : n = L.length ∧ L.length ≤ c := by
  obtain ⟨a', c', hv, hc, _⟩ := h
  cases hv; exact ⟨rfl, hc⟩
theorem fXl_nil (I : IM) : FXl I [] (.slice none 0 0) := ⟨none, 0, rfl, Nat.le_refl _, fun j x h => by simp at h⟩
theorem fXl_cells {cs : List Value} (h : cs.length = 3) : ∃ v0 v1 v2, cs = [v0, v1, v2] := by
  match cs, h with
  | [v0, v1, v2], _ => exact ⟨v0, v1, v2, rfl⟩
theorem fXl_open {H : Type} {enc : TypeId × Value → H} {w : World} {fuel : Nat} {a0 : Option Addr} {len0 cap0 : Nat} {x : DataW H × List MemPlace} (hf : DataW.trod enc Tryd.prog w 0 (fun _ => true) true fuel 22 [.slice a0 len0 cap0] = some x) :
    ∃ L, FXl (fun k => w.heap[k]?) L (.slice a0 len0 cap0) ∧ L.length ≤ maxLen := by
  rcases Go.Deep.open_slice Tryd.underlying22 hf with ⟨hcs, _⟩ | ⟨a, len, cap, m, n, D, Pl, hcs, _, hl, hml, hm, _, hx⟩
  · simp at hcs
    obtain ⟨rfl, rfl, rfl⟩ := hcs
    exact ⟨[], fXl_nil _, Nat.zero_le _⟩
  · simp at hcs
    obtain ⟨rfl, rfl, rfl⟩ := hcs
    have hm' : m = cap0 := by simpa using hm
    subst hm'
    have ce : Tryd.prog.cellsOf 39 = 3 := by kernel_rfl
    have c3 : Tryd.prog.cellsOf 3 = 1 := by kernel_rfl
    have c9 : Tryd.prog.cellsOf 9 = 1 := by kernel_rfl
    have one : ∀ i, i < len0 → ∃ y : FX, (-9223372036854775808 ≤ y.k ∧ y.k < 9223372036854775808 ∧ y.a.length ≤ maxLen ∧ y.v.length ≤ maxLen) ∧ w.cell? (a.add (i * 3)) = some (.int .i64 y.k) ∧ w.cell? (a.add (i * 3 + 1)) = some (.string ⟨y.a.toArray⟩) ∧ w.cell? (a.add (i * 3 + 2)) = some (.string ⟨y.v.toArray⟩) := by
      intro i hi
      obtain ⟨cs', h1, h2⟩ := hx i (by omega)
      rw [ce] at h1
      obtain ⟨_, hlen, hcell⟩ := World.cells?_some h1
      obtain ⟨xs, n', _, _, _, hxl, hfs⟩ := DataW.trod_struct Tryd.underlying39 h2
      obtain ⟨v0, v1, v2, rfl⟩ := fXl_cells hlen
      have hxl' : xs.length = 3 := hxl
      have hx0 : 0 < xs.length := by omega
      have t0 := hfs 0 _ rfl
      rw [List.getElem?_eq_getElem hx0] at t0
      simp [c3] at t0
      obtain ⟨y0, e0, _, b0⟩ := DataW.trod_int Tryd.underlying3 t0
      simp at e0
      subst e0
      have hx1 : 1 < xs.length := by omega
      have t1 := hfs 1 _ rfl
      rw [List.getElem?_eq_getElem hx1] at t1
      simp [c9] at t1
      obtain ⟨y1, e1, _, b1⟩ := DataW.trod_string Tryd.underlying9 t1
      simp at e1
      subst e1
      have hx2 : 2 < xs.length := by omega
      have t2 := hfs 2 _ rfl
      rw [List.getElem?_eq_getElem hx2] at t2
      simp [c9] at t2
      obtain ⟨y2, e2, _, b2⟩ := DataW.trod_string Tryd.underlying9 t2
      simp at e2
      subst e2
      have d0 : -9223372036854775808 ≤ y0 ∧ y0 < 9223372036854775808 := by
        have := b0; simp [Lit.wf, IntKind.min, IntKind.max, IntKind.signed, IntKind.bits] at this; omega
      have g0 := hcell 0 (by omega)
      have g1 := hcell 1 (by omega)
      have g2 := hcell 2 (by omega)
      rw [Go.Deep.add_add] at g0 g1 g2
      exact ⟨⟨y0, y1.data.toList, y2.data.toList⟩, ⟨d0.1, d0.2, b1, b2⟩, (by simpa using g0), (by simpa using g1), (by simpa using g2)⟩
    obtain ⟨f, hfn⟩ := Go.Deep.choose_lt one
    refine ⟨(List.range len0).map f, ⟨some a, m, by simp, by simpa using hl, fun j y hj => ?_⟩, by simp; omega⟩
    have hj' : j < len0 := by
      have := (List.getElem?_eq_some_iff.1 hj).1
      simpa using this
    have hy : y = f j := by simpa [hj'] using hj.symm
    subst hy
    obtain ⟨hb, h0, h1, h2⟩ := hfn j hj'
    obtain ⟨b, o, sp⟩ := a
    cases sp with
    | none =>
      rw [addr_addO b o (j * 3)] at h0
      obtain ⟨cs0, T0, fr0, e0, k0⟩ := cell_block h0
      rw [addr_addO b o (j * 3 + 1)] at h1
      obtain ⟨cs1, T1, fr1, e1, k1⟩ := cell_block h1
      rw [addr_addO b o (j * 3 + 2)] at h2
      obtain ⟨cs2, T2, fr2, e2, k2⟩ := cell_block h2
      rw [e0] at e1
      cases e1
      rw [e0] at e2
      cases e2
      exact ⟨hb, b, o, cs0, T0, fr0, rfl, e0, k0, (by rw [Nat.add_assoc]; exact k1), (by rw [Nat.add_assoc]; exact k2)⟩
    | some sp =>
      exfalso
      obtain ⟨_, h0, _⟩ := hfn 0 (by omega)
      unfold World.cell? Addr.add at h0
      rw [if_pos (by rfl)] at h0
      revert h0
      split <;> simp
def toFe (x : FX) : Fe := ⟨x.k, x.a, x.v⟩
theorem fxl_fsl {I : IM} {L : List FX} {v : Value} (h : FXl I L v) : FSl I (L.map toFe) v := by
  obtain ⟨a, cap, hv, hc, hr⟩ := h
  refine ⟨a, cap, by rw [List.length_map]; exact hv, by rw [List.length_map]; exact hc, fun j x hj => ?_⟩
  rw [List.getElem?_map] at hj
  cases hq : L[j]? with
  | none => rw [hq] at hj; cases hj
  | some y =>
    rw [hq] at hj
    simp only [Option.map_some, Option.some.injEq] at hj
    subst hj
    obtain ⟨_, b, o, cs, T, fr, h1, h2, h3, h4, h5⟩ := hr j y hq
    exact ⟨b, o, cs, T, fr, h1, h2, h3, h4, h5⟩
/-- fields that came in -/
def FIn (I : IM) (L : List Fe) (v : Value) : Prop := FSl I L v ∧ L.length ≤ maxLen
theorem fin_open {H : Type} {enc : TypeId × Value → H} {w : World} {fuel : Nat} {a0 : Option Addr} {len0 cap0 : Nat} {x : DataW H × List MemPlace} (hf : DataW.trod enc Tryd.prog w 0 (fun _ => true) true fuel 22 [.slice a0 len0 cap0] = some x) :
    ∃ L, FIn (fun k => w.heap[k]?) L (.slice a0 len0 cap0) := by
  obtain ⟨L, h, hl⟩ := fXl_open hf
  exact ⟨L.map toFe, fxl_fsl h, by rw [List.length_map]; exact hl⟩
end Go.Proofs.YtcpmjogeafhpnaaDoor
