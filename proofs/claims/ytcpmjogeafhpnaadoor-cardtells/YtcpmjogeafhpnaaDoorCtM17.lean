/- What a card tells. -/
import Derived.Test.YtcpmjogeafhpnaaDoorCtM25
set_option linter.all false
set_option maxRecDepth 100000
namespace Go.Proofs.YtcpmjogeafhpnaaDoor
open Go.RowKit Go.Sep
attribute [local irreducible] Go.wpList Go.Code.wp

theorem run_eqZ {w : World} {a b : Int} : (binOp .eql 3 (.int .i64 a) (.int .i64 b)).run Tryd.prog w = .ok (.bool (decide (a = b))) w := by kernel_rfl
theorem rt_parts {x : Fe} (h : rtFe x = 0) : (1 ≤ x.k ∧ x.k ≤ 6) ∧ x.v ≠ [] := by
  unfold rtFe Tx.rtE at h
  split at h
  · cases h
  · rename_i h1
    split at h
    · rename_i h2; exact absurd h h2
    · split at h
      · rename_i h2; exact absurd h h2
      · split at h
        · rename_i h2
          refine ⟨Decidable.not_not.1 h1, fun q => ?_⟩
          unfold Tx.fitsB at h2
          rw [q] at h2
          simp at h2
        · cases h
theorem qK_f {z : Int} {x : Fe} (h : decide (x.k = z) = true) : qK z x = false := by unfold qK; rw [decide_eq_false (not_not_intro (of_decide_eq_true h))]
theorem qK_t {z : Int} {x : Fe} (h : decide (x.k = z) = false) : qK z x = true := by unfold qK; rw [decide_eq_true (of_decide_eq_false h)]
/-- what somebody is called, by the first i -/
def titAt (X : List Fe) (i : Nat) : List UInt8 := if i = 0 then [] else (X.getD 0 Fe.z).v
theorem tit_1 {X : List Fe} {i : Nat} {T : List UInt8} (hne : ∀ x ∈ X, x.v ≠ []) (hi : i < X.length) (h : T = titAt X i) (h0 : T = []) : (X.getD i Fe.z).v = titAt X (i + 1) := by
  by_cases e : i = 0
  · subst e; rfl
  · have h1 : titAt X i = (X.getD 0 Fe.z).v := if_neg e
    exact absurd (h1.symm.trans (h.symm.trans h0)) (hne _ (getD_mem (by omega)))
theorem tit_2 {X : List Fe} {i : Nat} {T : List UInt8} (h : T = titAt X i) (h0 : ¬ T = []) : T = titAt X (i + 1) := by
  by_cases e : i = 0
  · subst e; exact absurd h h0
  · rw [h]; unfold titAt; rw [if_neg e, if_neg (by omega)]
theorem tit_all {X : List Fe} {i : Nat} (h : i = X.length) : titAt X i = titF X := by subst h; rfl
theorem les_k {x y : Fe} (h : lesFe x y = true) : x.k ≤ y.k := by
  unfold lesFe Tx.lesF at h
  split at h
  · have := of_decide_eq_true h; omega
  · rename_i q; have := Decidable.not_not.1 q; omega
theorem first_k {X : List Fe} {i : Nat} (ha : asc X) (hi : i < X.length) : (X.getD 0 Fe.z).k ≤ (X.getD i Fe.z).k := by
  by_cases e : i = 0
  · subst e; exact Int.le_refl _
  · exact les_k (asc_lt ha (by omega) hi)
/-- the names from the end -/
def nameInv (X : List Fe) (n : Nat) (T : List UInt8) : Prop := (n = 0 → T = titF X) ∧ (T = titF X ∨ (0 < X.length ∧ (X.getD 0 Fe.z).k = 1))
theorem name_start {X : List Fe} {T : List UInt8} {n : Nat} (h : T = titF X) : nameInv X n T := ⟨fun _ => h, .inl h⟩
theorem name_yes {X : List Fe} {n : Nat} {T : List UInt8} (ha : asc X) (hr : ∀ x ∈ X, rtFe x = 0) (hn : 0 < n) (hl : n ≤ X.length) (hk : (X.getD (n - 1) Fe.z).k = 1) : nameInv X (n - 1) (X.getD (n - 1) Fe.z).v := by
  have h0 := first_k ha (i := n - 1) (by omega)
  have h1 := (rt_parts (hr _ (getD_mem (L := X) (i := 0) (by omega)))).1
  refine ⟨fun e => ?_, .inr ⟨by omega, by omega⟩⟩
  rw [e]; unfold titF; rw [if_neg (by omega)]
theorem name_no {X : List Fe} {n : Nat} {T : List UInt8} (hn : 0 < n) (hk : ¬ (X.getD (n - 1) Fe.z).k = 1) (h : nameInv X n T) : nameInv X (n - 1) T := by
  refine ⟨fun e => ?_, h.2⟩
  rcases h.2 with q | q
  · exact q
  · rw [e] at hk; exact absurd q.2 hk
theorem run_subD {w : World} {n : Nat} (h : n ≤ 9223372036854775807) : (binOp .sub 3 (.int .i64 ((n : Nat) : Int)) (.int .i64 1)).run Tryd.prog w = .ok (.int .i64 (decI n)) w := by
  have e : (binOp .sub 3 (.int .i64 ((n : Nat) : Int)) (.int .i64 1)).run Tryd.prog w = .ok (.int .i64 (IntKind.i64.wrap ((n : Int) - 1))) w := by kernel_rfl
  have q : IntKind.i64.wrap ((n : Int) - 1) = (n : Int) - 1 := by rw [IntKind.wrap_i64]; omega
  rw [e, q, decI_eq]
theorem run_subD2 {w : World} {n : Nat} (h1 : 1 ≤ n) (h : n ≤ 9223372036854775807) : (binOp .sub 3 (.int .i64 (decI n)) (.int .i64 1)).run Tryd.prog w = .ok (.int .i64 (decI (n - 1))) w := by
  rw [decI_nat h1]; exact run_subD (by omega)
theorem run_geD {w : World} {n : Nat} : (binOp .geq 3 (.int .i64 (decI n)) (.int .i64 0)).run Tryd.prog w = .ok (.bool (decide (0 < n))) w := by
  have e : (binOp .geq 3 (.int .i64 (decI n)) (.int .i64 0)).run Tryd.prog w = .ok (.bool (decide ((0 : Int) ≤ decI n))) w := by kernel_rfl
  have q : decide ((0 : Int) ≤ decI n) = decide (0 < n) := decide_eq_decide.2 (by rw [decI_eq]; omega)
  rw [e, q]
theorem fsl_idxD {I : IM} {w : World} {L : List Fe} {a : Option Addr} {n c j : Nat} (h : FSl I L (.slice a n c)) (hj : 0 < j) (hi : j ≤ L.length) : (Instr.indexAt 30 (.slice a n c) (.int .i64 (decI j))).run Tryd.prog w = .ok (.pointer (pAt a ((j - 1) * 3))) w := by
  rw [decI_nat hj]; exact fsl_idx30 h (by omega)
theorem fsl_fld42k {I : IM} {w : World} {L : List Fe} {a : Option Addr} {n c i : Nat} (h : FSl I L (.slice a n c)) (hi : i < L.length) : (Instr.fieldAt 42 (.pointer (pAt a (i * 3))) 0).run Tryd.prog w = .ok (.pointer (pAt a (i * 3))) w := by
  obtain ⟨a', c', hv, hc, hr⟩ := h
  cases hv
  obtain ⟨b, o, cs, T, fr, rfl, h2, h3, h4, h5⟩ := hr i _ (fe_getD hi)
  rw [show pAt (some ⟨b, o, none⟩) (i * 3) = some ⟨b, o + i * 3, none⟩ from congrArg some (addr_addO b o (i * 3))]
  kernel_rfl
theorem fsl_fld42v {I : IM} {w : World} {L : List Fe} {a : Option Addr} {n c i : Nat} (h : FSl I L (.slice a n c)) (hi : i < L.length) : (Instr.fieldAt 42 (.pointer (pAt a (i * 3))) 2).run Tryd.prog w = .ok (.pointer (pAt a (i * 3 + 2))) w := by
  obtain ⟨a', c', hv, hc, hr⟩ := h
  cases hv
  obtain ⟨b, o, cs, T, fr, rfl, h2, h3, h4, h5⟩ := hr i _ (fe_getD hi)
  rw [show pAt (some ⟨b, o, none⟩) (i * 3) = some ⟨b, o + i * 3, none⟩ from congrArg some (addr_addO b o (i * 3)), show pAt (some ⟨b, o, none⟩) (i * 3 + 2) = some ⟨b, o + i * 3 + 2, none⟩ from congrArg some (addr_addO b o (i * 3 + 2))]
  kernel_rfl
theorem fsl_ldk {I : IM} {w : World} (hS : I.Sub w) {L : List Fe} {a : Option Addr} {n c i : Nat} (h : FSl I L (.slice a n c)) (hi : i < L.length) : (Instr.loadAt 3 (.pointer (pAt a (i * 3)))).run Tryd.prog w = .ok (.int .i64 (L.getD i Fe.z).k) w := by
  obtain ⟨a', c', hv, hc, hr⟩ := h
  cases hv
  obtain ⟨b, o, cs, T, fr, rfl, h2, h3, h4, h5⟩ := hr i _ (fe_getD hi)
  rw [show pAt (some ⟨b, o, none⟩) (i * 3) = some ⟨b, o + i * 3, none⟩ from congrArg some (addr_addO b o (i * 3))]
  have c3 := run_cell (a := ⟨b, o + i * 3, none⟩) (hS _ _ h2) rfl rfl
  rw [h3] at c3
  have e : (Instr.loadAt 3 (.pointer (some ⟨b, o + i * 3, none⟩))).run Tryd.prog w = (load ⟨b, o + i * 3, none⟩).run Tryd.prog w := by kernel_rfl
  rw [e]; simp only [load, Sem.run, c3]
/-- the names in a row -/
def nmC : Array Value := #[.string ⟨#[]⟩, .string ⟨#[110, 97, 109, 101]⟩, .string ⟨#[112, 104, 111, 110, 101]⟩, .string ⟨#[109, 97, 105, 108]⟩, .string ⟨#[97, 100, 100, 114, 101, 115, 115]⟩, .string ⟨#[110, 111, 116, 101]⟩, .string ⟨#[103, 114, 111, 117, 112]⟩]
theorem under46s : Tryd.prog.underlying 46 = some (.slice 9) := by kernel_rfl
theorem size9s (w : World) : (sizeOf 9).run Tryd.prog w = .ok 1 w := by kernel_rfl
theorem idx46 {w : World} {b : Nat} {z : Int} (h1 : 0 ≤ z) (h2 : z < 7) : (Instr.indexAt 46 (.slice (some ⟨b, 0, none⟩) 7 7) (.int .i64 z)).run Tryd.prog w = .ok (.pointer (some ⟨b, z.toNat, none⟩)) w := by
  obtain ⟨n, rfl⟩ := Int.eq_ofNat_of_zero_le h1
  have h3 : (n : Int) < 7 := h2
  simp [Instr.indexAt, asIntOf, run_underlying under46s, size9s, h3, addr_addO]
  intro h4; omega
theorem ld46 {I : IM} {w : World} (hS : I.Sub w) {b : Nat} {z : Int} (hk : I b = some (.cells #[.string ⟨#[]⟩, .string ⟨#[110, 97, 109, 101]⟩, .string ⟨#[112, 104, 111, 110, 101]⟩, .string ⟨#[109, 97, 105, 108]⟩, .string ⟨#[97, 100, 100, 114, 101, 115, 115]⟩, .string ⟨#[110, 111, 116, 101]⟩, .string ⟨#[103, 114, 111, 117, 112]⟩] 9)) (h1 : 0 ≤ z) (h2 : z < 7) : (Instr.loadAt 9 (.pointer (some ⟨b, z.toNat, none⟩))).run Tryd.prog w = .ok (.string ⟨(Tx.nmS z).toArray⟩) w := by
  have e : (Instr.loadAt 9 (.pointer (some ⟨b, z.toNat, none⟩))).run Tryd.prog w = (load ⟨b, z.toNat, none⟩).run Tryd.prog w := by kernel_rfl
  have hc := run_cell (a := ⟨b, z.toNat, none⟩) (hS _ _ hk) rfl rfl
  have hv : (nmC)[z.toNat]? = some (.string ⟨(Tx.nmS z).toArray⟩) := by
    have : z = 0 ∨ z = 1 ∨ z = 2 ∨ z = 3 ∨ z = 4 ∨ z = 5 ∨ z = 6 := by omega
    rcases this with rfl | rfl | rfl | rfl | rfl | rfl | rfl <;> rfl
  have hc2 : w.cell? ⟨b, z.toNat, none⟩ = some (.string ⟨(Tx.nmS z).toArray⟩) := hc.trans hv
  rw [e]; simp only [load, Sem.run, hc2]

set_option maxHeartbeats 4000000 in
theorem cardTells_c {I : IM} {L : List Fe} {a0 : Option Addr} {c0 : Nat} (h0 : FSl I L (.slice a0 L.length c0)) (hl : L.length ≤ 9223372036854775807) {M : List Fe} {a1 : Option Addr} {c1 : Nat} (hM : FSl I M (.slice a1 M.length c1)) (hlM : M.length ≤ 9223372036854775807) {z : Int} {sm : Bool} (hN : Tx.NmT I) (hT : Tx.U8 I) : Fun Tryd.prog 4 #[.slice a0 L.length c0, .slice a1 M.length c1, .int .i64 z, .bool sm] I (fun v J => v = .bool true) := by
  refine enter_rule 115 [(0, .slice a0 L.length c0), (1, .slice a1 M.length c1), (2, .int .i64 z), (3, .bool sm)] Tryd.func4 rfl (by kernel_rfl) ?_
  intro w s
  refine wp_seq ?_
  refine region_rule ?_
  refine ops_rule (C := []) [] [] 1 [] 0 (fun φ1 => [(8, .bool false)]) (fun φ1 => []) (fun φ1 => []) s trivial (fun φ1 => by kernel_rfl) ?_
  intro φ1 w1 s
  refine ops_done (by kernel_rfl) ?_
  refine wp_seq ?_
  refine wp_seq ?_
  refine region_rule ?_
  refine call_rule (some 20) s (awake9_c hN hT) (by kernel_rfl) ?_
  intro v2 I2 w2 le2 h2 s
  replace h0 := FSl.mono le2 h0
  replace hM := FSl.mono le2 hM
  replace hN := Tx.NmT.mono le2 hN
  replace hT := Tx.U8.mono le2 hT
  obtain rfl := h2
  refine ops_rule (C := []) [] [] 1 [] 0 (fun φ3 => [(21, .bool false)]) (fun φ3 => []) (fun φ3 => []) s trivial (fun φ3 => by kernel_rfl) ?_
  intro φ3 w3 s
  refine ops_done (by kernel_rfl) ?_
  refine cond_false_rule (b := false) (by kernel_rfl) rfl ?_
  refine wp_skip ?_
  refine wp_seq ?_
  refine region_rule ?_
  refine ops_rule (C := []) [] [] 1 [] 0 (fun φ4 => [(23, .slice a0 L.length c0)]) (fun φ4 => []) (fun φ4 => []) s trivial (fun φ4 => by kernel_rfl) ?_
  intro φ4 w4 s
  refine call_rule (some 24) s (made_c h0 hl hN hT) (by kernel_rfl) ?_
  intro v5 I5 w5 le5 h5 s
  replace h0 := FSl.mono le5 h0
  replace hM := FSl.mono le5 hM
  replace hN := Tx.NmT.mono le5 hN
  replace hT := Tx.U8.mono le5 hT
  obtain ⟨a5, c5, b5, d5, rfl, h5_0, h5_1⟩ := h5
  refine ops_rule (C := []) [] [] 6 [.o 0] 1 (fun φ6 => [(10, .slice b5 (List.length (madeF L)) d5), (9, .pointer (some ⟨(φ6 0), 0, none⟩)), (26, .slice b5 (List.length (madeF L)) d5), (25, .agg #[.slice a5 (List.length (madeF L)) c5]), (22, .tuple #[.agg #[.slice a5 (List.length (madeF L)) c5], .slice b5 (List.length (madeF L)) d5])]) (fun φ6 => [((φ6 0), .cells #[.slice a5 (List.length (madeF L)) c5] 26)]) (fun φ6 => [(φ6 0)]) s trivial (fun φ6 => by kernel_rfl) ?_
  intro φ6 w6 s
  refine ops_done (by kernel_rfl) ?_
  refine wp_seq ?_
  refine region_rule ?_
  refine ops_rule (C := []) [((φ6 0), .cells #[.slice a5 (List.length (madeF L)) c5] 26)] [] 1 [] 0 (fun φ7 => [(28, .slice a1 M.length c1)]) (fun φ7 => [((φ6 0), .cells #[.slice a5 (List.length (madeF L)) c5] 26)]) (fun φ7 => []) s trivial (fun φ7 => by kernel_rfl) ?_
  intro φ7 w7 s
  refine call_rule (some 29) s (made_c hM hlM hN hT) (by kernel_rfl) ?_
  intro v8 I8 w8 le8 h8 s
  replace h0 := FSl.mono le8 h0
  replace hM := FSl.mono le8 hM
  replace hN := Tx.NmT.mono le8 hN
  replace hT := Tx.U8.mono le8 hT
  replace h5_0 := FSl.mono le8 h5_0
  replace h5_1 := FSl.mono le8 h5_1
  obtain ⟨a8, c8, b8, d8, rfl, h8_0, h8_1⟩ := h8
  refine ops_rule (C := []) [((φ6 0), .cells #[.slice a5 (List.length (madeF L)) c5] 26)] [] 6 [.o 1] 1 (fun φ9 => [(12, .slice b8 (List.length (madeF M)) d8), (11, .pointer (some ⟨(φ9 0), 0, none⟩)), (31, .slice b8 (List.length (madeF M)) d8), (30, .agg #[.slice a8 (List.length (madeF M)) c8]), (27, .tuple #[.agg #[.slice a8 (List.length (madeF M)) c8], .slice b8 (List.length (madeF M)) d8])]) (fun φ9 => [((φ6 0), .cells #[.slice a5 (List.length (madeF L)) c5] 26), ((φ9 0), .cells #[.slice a8 (List.length (madeF M)) c8] 26)]) (fun φ9 => [(φ9 0)]) s trivial (fun φ9 => by kernel_rfl) ?_
  intro φ9 w9 s
  refine ops_done (by kernel_rfl) ?_
  refine wp_seq ?_
  refine wp_seq ?_
  refine region_rule ?_
  refine ops_rule (C := []) [((φ6 0), .cells #[.slice a5 (List.length (madeF L)) c5] 26), ((φ9 0), .cells #[.slice a8 (List.length (madeF M)) c8] 26)] [] 1 [] 0 (fun φ10 => [(32, .bool sm)]) (fun φ10 => [((φ6 0), .cells #[.slice a5 (List.length (madeF L)) c5] 26), ((φ9 0), .cells #[.slice a8 (List.length (madeF M)) c8] 26)]) (fun φ10 => []) s trivial (fun φ10 => by kernel_rfl) ?_
  intro φ10 w10 s
  refine ops_done (by kernel_rfl) ?_
  rcases Bool.eq_false_or_eq_true (sm) with hc11 | hc11
  ·
    rw [hc11]
    refine cond_true_rule (b := true) (by kernel_rfl) rfl ?_
    refine region_rule ?_
    refine ops_rule (C := []) [((φ6 0), .cells #[.slice a5 (List.length (madeF L)) c5] 26), ((φ9 0), .cells #[.slice a8 (List.length (madeF M)) c8] 26)] [] 4 [.o 0, .o 1] 0 (fun φ12 => [(12, .slice b5 (List.length (madeF L)) d5), (34, .slice b5 (List.length (madeF L)) d5), (33, .agg #[.slice a5 (List.length (madeF L)) c5])]) (fun φ12 => [((φ6 0), .cells #[.slice a5 (List.length (madeF L)) c5] 26), ((φ9 0), .cells #[.slice a5 (List.length (madeF L)) c5] 26)]) (fun φ12 => [(φ6 0), (φ9 0)]) s trivial (fun φ12 => by kernel_rfl) ?_
    intro φ12 w12 s
    refine ops_done (by kernel_rfl) ?_
    refine wp_seq ?_
    refine region_rule ?_
    refine ops_rule (C := []) [((φ6 0), .cells #[.slice a5 (List.length (madeF L)) c5] 26), ((φ9 0), .cells #[.slice a5 (List.length (madeF L)) c5] 26)] [] 1 [] 0 (fun φ13 => [(13, .slice none 0 0)]) (fun φ13 => [((φ6 0), .cells #[.slice a5 (List.length (madeF L)) c5] 26), ((φ9 0), .cells #[.slice a5 (List.length (madeF L)) c5] 26)]) (fun φ13 => []) s trivial (fun φ13 => by kernel_rfl) ?_
    intro φ13 w13 s
    refine ops_done (by kernel_rfl) ?_
    refine wp_seq ?_
    refine region_rule ?_
    refine ops_rule (C := []) [((φ6 0), .cells #[.slice a5 (List.length (madeF L)) c5] 26), ((φ9 0), .cells #[.slice a5 (List.length (madeF L)) c5] 26)] [] 1 [] 0 (fun φ14 => [(14, .string ⟨#[]⟩)]) (fun φ14 => [((φ6 0), .cells #[.slice a5 (List.length (madeF L)) c5] 26), ((φ9 0), .cells #[.slice a5 (List.length (madeF L)) c5] 26)]) (fun φ14 => []) s trivial (fun φ14 => by kernel_rfl) ?_
    intro φ14 w14 s
    refine ops_done (by kernel_rfl) ?_
    refine wp_seq ?_
    refine wp_seq ?_
    refine region_rule ?_
    refine ops_rule (C := []) [((φ6 0), .cells #[.slice a5 (List.length (madeF L)) c5] 26), ((φ9 0), .cells #[.slice a5 (List.length (madeF L)) c5] 26)] [] 3 [] 0 (fun φ15 => [(37, .int .i64 0), (36, .int .i64 (((List.length (madeF L)) : Nat) : Int)), (35, .slice b5 (List.length (madeF L)) d5)]) (fun φ15 => [((φ6 0), .cells #[.slice a5 (List.length (madeF L)) c5] 26), ((φ9 0), .cells #[.slice a5 (List.length (madeF L)) c5] 26)]) (fun φ15 => []) s trivial (fun φ15 => by kernel_rfl) ?_
    intro φ15 w15 s
    refine ops_done (by kernel_rfl) ?_
    refine wp_block ?_
    have hle16 := IM.Le.refl I8
    refine loop_rule (fun (x : Nat × List UInt8 × Value × List OB) => [(2, .int .i64 z), (8, .bool false), (9, .pointer (some ⟨(φ6 0), 0, none⟩)), (10, .slice b5 (List.length (madeF L)) d5), (11, .pointer (some ⟨(φ9 0), 0, none⟩)), (12, .slice b5 (List.length (madeF L)) d5), (35, .slice b5 (List.length (madeF L)) d5), (36, .int .i64 (((List.length (madeF L)) : Nat) : Int)), (37, .int .i64 ((x.1 : Nat) : Int)), (14, .string ⟨(x.2.1).toArray⟩), (13, x.2.2.1)]) (fun (x : Nat × List UInt8 × Value × List OB) => [((φ6 0), .cells #[.slice a5 (List.length (madeF L)) c5] 26), ((φ9 0), .cells #[.slice a5 (List.length (madeF L)) c5] 26)] ++ x.2.2.2) (fun m (x : Nat × List UInt8 × Value × List OB) J => IM.Le I8 J ∧ x.1 + m = (madeF L).length ∧ RowH 42 3 x.2.2.1 (List.length (keepF (qK z) ((madeF L).take x.1))) (fcs (keepF (qK z) ((madeF L).take x.1))) x.2.2.2 ∧ x.2.1 = titAt (madeF L) x.1) ((madeF L).length) (0, [], (.slice none 0 0), []) s (by kernel_rfl) (List.Sublist.refl _) ⟨IM.Le.refl _, Nat.zero_add _, (RowH.nil 42 3), rfl⟩ ?_
    rintro m17 ⟨i17, T17, v17, F17⟩ I17 w17 ev17 s ⟨le17, hi17_0, hi17_1, hi17_2⟩
    try dsimp only at s hi17_0 hi17_1 hi17_2 ⊢
    replace h0 := FSl.mono le17 h0
    replace hM := FSl.mono le17 hM
    replace hN := Tx.NmT.mono le17 hN
    replace hT := Tx.U8.mono le17 hT
    replace h5_0 := FSl.mono le17 h5_0
    replace h5_1 := FSl.mono le17 h5_1
    replace h8_0 := FSl.mono le17 h8_0
    replace h8_1 := FSl.mono le17 h8_1
    replace hle16 := leMono le17 hle16
    refine wp_seq ?_
    refine region_rule ?_
    refine ops_rule (C := []) [((φ6 0), .cells #[.slice a5 (List.length (madeF L)) c5] 26), ((φ9 0), .cells #[.slice a5 (List.length (madeF L)) c5] 26)] F17 1 [] 0 (fun φ18 => [(38, .bool (decide (((i17 : Nat) : Int) < (((List.length (madeF L)) : Nat) : Int))))]) (fun φ18 => [((φ6 0), .cells #[.slice a5 (List.length (madeF L)) c5] 26), ((φ9 0), .cells #[.slice a5 (List.length (madeF L)) c5] 26)]) (fun φ18 => []) s trivial (fun φ18 => by kernel_rfl) ?_
    intro φ18 w18 s
    rw [nat_lss (a := i17) (b := (List.length (madeF L)))]
    refine ops_done (by kernel_rfl) ?_
    refine wp_seq ?_
    rcases Bool.eq_false_or_eq_true (decide (i17 < (List.length (madeF L)))) with hc19 | hc19
    ·
      rw [hc19]
      refine cond_true_rule (b := true) (by kernel_rfl) rfl ?_
      refine wp_skip ?_
      refine wp_seq ?_
      refine wp_block ?_
      refine wp_seq ?_
      refine region_rule ?_
      refine sem_rule (Instr.indexAt 30 (.slice b5 (List.length (madeF L)) d5) (.int .i64 ((i17 : Nat) : Int))) (some 39) (.pointer (pAt b5 (i17 * 3))) (by kernel_rfl) (fsl_idx30 h5_1 (by have e8 := hi17_0; have e7 := made_len (L := L); have hq1 := of_decide_eq_true hc19; omega)) ?_
      refine sem_rule (Instr.loadAt 42 (.pointer (pAt b5 (i17 * 3)))) (some 40) (.agg #[.int .i64 ((List.getD (madeF L) i17 Fe.z).k), .string ⟨((List.getD (madeF L) i17 Fe.z).a).toArray⟩, .string ⟨((List.getD (madeF L) i17 Fe.z).v).toArray⟩]) (by kernel_rfl) (fsl_ld42 s.sub h5_1 (by have e8 := hi17_0; have e7 := made_len (L := L); have hq1 := of_decide_eq_true hc19; omega)) ?_
      refine ops_rule (C := []) [((φ6 0), .cells #[.slice a5 (List.length (madeF L)) c5] 26), ((φ9 0), .cells #[.slice a5 (List.length (madeF L)) c5] 26)] F17 2 [.o 2, .o 2, .o 2] 1 (fun φ20 => [(16, .pointer (some ⟨(φ20 0), 0, none⟩))]) (fun φ20 => [((φ6 0), .cells #[.slice a5 (List.length (madeF L)) c5] 26), ((φ9 0), .cells #[.slice a5 (List.length (madeF L)) c5] 26), ((φ20 0), .cells #[.int .i64 ((List.getD (madeF L) i17 Fe.z).k), .string ⟨((List.getD (madeF L) i17 Fe.z).a).toArray⟩, .string ⟨((List.getD (madeF L) i17 Fe.z).v).toArray⟩] 42)]) (fun φ20 => [(φ20 0), (φ20 0), (φ20 0)]) s trivial (fun φ20 => by kernel_rfl) ?_
      intro φ20 w20 s
      refine ops_done (by kernel_rfl) ?_
      refine wp_seq ?_
      refine wp_seq ?_
      refine region_rule ?_
      refine ops_rule (C := []) [((φ6 0), .cells #[.slice a5 (List.length (madeF L)) c5] 26), ((φ9 0), .cells #[.slice a5 (List.length (madeF L)) c5] 26), ((φ20 0), .cells #[.int .i64 ((List.getD (madeF L) i17 Fe.z).k), .string ⟨((List.getD (madeF L) i17 Fe.z).a).toArray⟩, .string ⟨((List.getD (madeF L) i17 Fe.z).v).toArray⟩] 42)] F17 3 [.o 2] 0 (fun φ21 => [(43, .int .i64 z), (42, .int .i64 ((List.getD (madeF L) i17 Fe.z).k)), (41, .pointer (some ⟨(φ20 0), 0, none⟩))]) (fun φ21 => [((φ6 0), .cells #[.slice a5 (List.length (madeF L)) c5] 26), ((φ9 0), .cells #[.slice a5 (List.length (madeF L)) c5] 26), ((φ20 0), .cells #[.int .i64 ((List.getD (madeF L) i17 Fe.z).k), .string ⟨((List.getD (madeF L) i17 Fe.z).a).toArray⟩, .string ⟨((List.getD (madeF L) i17 Fe.z).v).toArray⟩] 42)]) (fun φ21 => [(φ20 0)]) s trivial (fun φ21 => by kernel_rfl) ?_
      intro φ21 w21 s
      refine sem_rule (binOp .eql 3 (.int .i64 ((List.getD (madeF L) i17 Fe.z).k)) (.int .i64 z)) (some 44) (.bool (decide ((List.getD (madeF L) i17 Fe.z).k = z))) (by kernel_rfl) ((run_eqZ (a := (List.getD (madeF L) i17 Fe.z).k) (b := z))) ?_
      refine ops_done (by kernel_rfl) ?_
      rcases Bool.eq_false_or_eq_true (decide ((List.getD (madeF L) i17 Fe.z).k = z)) with hc22 | hc22
      ·
        rw [hc22]
        refine cond_true_rule (b := true) (by kernel_rfl) rfl ?_
        refine region_rule ?_
        refine ops_rule (C := []) [((φ6 0), .cells #[.slice a5 (List.length (madeF L)) c5] 26), ((φ9 0), .cells #[.slice a5 (List.length (madeF L)) c5] 26), ((φ20 0), .cells #[.int .i64 ((List.getD (madeF L) i17 Fe.z).k), .string ⟨((List.getD (madeF L) i17 Fe.z).a).toArray⟩, .string ⟨((List.getD (madeF L) i17 Fe.z).v).toArray⟩] 42)] F17 3 [.o 2, .o 2, .o 2] 1 (fun φ23 => [(47, .slice (some ⟨(φ23 0), 0, none⟩) 1 1), (46, .agg #[.int .i64 ((List.getD (madeF L) i17 Fe.z).k), .string ⟨((List.getD (madeF L) i17 Fe.z).a).toArray⟩, .string ⟨((List.getD (madeF L) i17 Fe.z).v).toArray⟩]), (45, v17)]) (fun φ23 => [((φ6 0), .cells #[.slice a5 (List.length (madeF L)) c5] 26), ((φ9 0), .cells #[.slice a5 (List.length (madeF L)) c5] 26), ((φ20 0), .cells #[.int .i64 ((List.getD (madeF L) i17 Fe.z).k), .string ⟨((List.getD (madeF L) i17 Fe.z).a).toArray⟩, .string ⟨((List.getD (madeF L) i17 Fe.z).v).toArray⟩] 42), ((φ23 0), .cells #[.int .i64 ((List.getD (madeF L) i17 Fe.z).k), .string ⟨((List.getD (madeF L) i17 Fe.z).a).toArray⟩, .string ⟨((List.getD (madeF L) i17 Fe.z).v).toArray⟩] 42)]) (fun φ23 => [(φ20 0), (φ20 0), (φ20 0)]) s trivial (fun φ23 => by kernel_rfl) ?_
        intro φ23 w23 s
        have hb24 : (List.length (keepF (qK z) ((madeF L).take i17))) ≤ 100000 := (Nat.le_trans keep_takelen (Nat.le_trans made_len (by decide)))
        refine append_rule (H := [((φ6 0), .cells #[.slice a5 (List.length (madeF L)) c5] 26), ((φ9 0), .cells #[.slice a5 (List.length (madeF L)) c5] 26), ((φ20 0), .cells #[.int .i64 ((List.getD (madeF L) i17 Fe.z).k), .string ⟨((List.getD (madeF L) i17 Fe.z).a).toArray⟩, .string ⟨((List.getD (madeF L) i17 Fe.z).v).toArray⟩] 42), ((φ23 0), .cells #[.int .i64 ((List.getD (madeF L) i17 Fe.z).k), .string ⟨((List.getD (madeF L) i17 Fe.z).a).toArray⟩, .string ⟨((List.getD (madeF L) i17 Fe.z).v).toArray⟩] 42)]) (F := F17) 30 30 42 Tryd.t42 (.agg #[.int .i64 0, .string ⟨#[]⟩, .string ⟨#[]⟩]) 3 40 (some 48) s Tryd.underlying30 (by kernel_rfl) (by kernel_rfl) (by kernel_rfl) (by kernel_rfl) (by kernel_rfl) (by decide) hi17_1 (src_own s 3 (φ23 0) #[.int .i64 ((List.getD (madeF L) i17 Fe.z).k), .string ⟨((List.getD (madeF L) i17 Fe.z).a).toArray⟩, .string ⟨((List.getD (madeF L) i17 Fe.z).v).toArray⟩] 42 30 42 1 1 3 [.int .i64 ((List.getD (madeF L) i17 Fe.z).k), .string ⟨((List.getD (madeF L) i17 Fe.z).a).toArray⟩, .string ⟨((List.getD (madeF L) i17 Fe.z).v).toArray⟩] (by kernel_rfl) Tryd.underlying30 (by kernel_rfl) (by kernel_rfl) (by kernel_rfl)) (by simp only [maxLen]; omega) (by omega) (by kernel_rfl) ?_
        intro v24 w24 F24 s h24
        replace h24 : RowH 42 3 v24 (List.length ((keepF (qK z) ((madeF L).take i17)) ++ [(List.getD (madeF L) i17 Fe.z)])) (fcs ((keepF (qK z) ((madeF L).take i17)) ++ [(List.getD (madeF L) i17 Fe.z)])) F24 := row42_snoc (Fs := (keepF (qK z) ((madeF L).take i17))) (x := (List.getD (madeF L) i17 Fe.z)) h24 rfl
        refine ops_rule (C := []) [((φ6 0), .cells #[.slice a5 (List.length (madeF L)) c5] 26), ((φ9 0), .cells #[.slice a5 (List.length (madeF L)) c5] 26), ((φ20 0), .cells #[.int .i64 ((List.getD (madeF L) i17 Fe.z).k), .string ⟨((List.getD (madeF L) i17 Fe.z).a).toArray⟩, .string ⟨((List.getD (madeF L) i17 Fe.z).v).toArray⟩] 42), ((φ23 0), .cells #[.int .i64 ((List.getD (madeF L) i17 Fe.z).k), .string ⟨((List.getD (madeF L) i17 Fe.z).a).toArray⟩, .string ⟨((List.getD (madeF L) i17 Fe.z).v).toArray⟩] 42)] F24 1 [] 0 (fun φ25 => [(13, v24)]) (fun φ25 => [((φ6 0), .cells #[.slice a5 (List.length (madeF L)) c5] 26), ((φ9 0), .cells #[.slice a5 (List.length (madeF L)) c5] 26), ((φ20 0), .cells #[.int .i64 ((List.getD (madeF L) i17 Fe.z).k), .string ⟨((List.getD (madeF L) i17 Fe.z).a).toArray⟩, .string ⟨((List.getD (madeF L) i17 Fe.z).v).toArray⟩] 42), ((φ23 0), .cells #[.int .i64 ((List.getD (madeF L) i17 Fe.z).k), .string ⟨((List.getD (madeF L) i17 Fe.z).a).toArray⟩, .string ⟨((List.getD (madeF L) i17 Fe.z).v).toArray⟩] 42)]) (fun φ25 => []) s trivial (fun φ25 => by kernel_rfl) ?_
        intro φ25 w25 s
        refine ops_done (by kernel_rfl) ?_
        refine wp_seq ?_
        refine region_rule ?_
        refine ops_rule (C := []) [((φ6 0), .cells #[.slice a5 (List.length (madeF L)) c5] 26), ((φ9 0), .cells #[.slice a5 (List.length (madeF L)) c5] 26), ((φ20 0), .cells #[.int .i64 ((List.getD (madeF L) i17 Fe.z).k), .string ⟨((List.getD (madeF L) i17 Fe.z).a).toArray⟩, .string ⟨((List.getD (madeF L) i17 Fe.z).v).toArray⟩] 42), ((φ23 0), .cells #[.int .i64 ((List.getD (madeF L) i17 Fe.z).k), .string ⟨((List.getD (madeF L) i17 Fe.z).a).toArray⟩, .string ⟨((List.getD (madeF L) i17 Fe.z).v).toArray⟩] 42)] F24 1 [] 0 (fun φ26 => [(49, .string ⟨(T17).toArray⟩)]) (fun φ26 => [((φ6 0), .cells #[.slice a5 (List.length (madeF L)) c5] 26), ((φ9 0), .cells #[.slice a5 (List.length (madeF L)) c5] 26), ((φ20 0), .cells #[.int .i64 ((List.getD (madeF L) i17 Fe.z).k), .string ⟨((List.getD (madeF L) i17 Fe.z).a).toArray⟩, .string ⟨((List.getD (madeF L) i17 Fe.z).v).toArray⟩] 42), ((φ23 0), .cells #[.int .i64 ((List.getD (madeF L) i17 Fe.z).k), .string ⟨((List.getD (madeF L) i17 Fe.z).a).toArray⟩, .string ⟨((List.getD (madeF L) i17 Fe.z).v).toArray⟩] 42)]) (fun φ26 => []) s trivial (fun φ26 => by kernel_rfl) ?_
        intro φ26 w26 s
        refine sem_rule (binOp .eql 9 (.string ⟨(T17).toArray⟩) (.string ⟨(([] : List UInt8)).toArray⟩)) (some 50) (.bool (decide (T17 = ([] : List UInt8)))) (by kernel_rfl) (Tx.run_eqS (x := T17) (y := ([] : List UInt8))) ?_
        refine ops_done (by kernel_rfl) ?_
        rcases Bool.eq_false_or_eq_true (decide (T17 = ([] : List UInt8))) with hc27 | hc27
        ·
          rw [hc27]
          refine cond_true_rule (b := true) (by kernel_rfl) rfl ?_
          refine region_rule ?_
          refine ops_rule (C := []) [((φ6 0), .cells #[.slice a5 (List.length (madeF L)) c5] 26), ((φ9 0), .cells #[.slice a5 (List.length (madeF L)) c5] 26), ((φ20 0), .cells #[.int .i64 ((List.getD (madeF L) i17 Fe.z).k), .string ⟨((List.getD (madeF L) i17 Fe.z).a).toArray⟩, .string ⟨((List.getD (madeF L) i17 Fe.z).v).toArray⟩] 42), ((φ23 0), .cells #[.int .i64 ((List.getD (madeF L) i17 Fe.z).k), .string ⟨((List.getD (madeF L) i17 Fe.z).a).toArray⟩, .string ⟨((List.getD (madeF L) i17 Fe.z).v).toArray⟩] 42)] F24 3 [.o 2] 0 (fun φ28 => [(14, .string ⟨((List.getD (madeF L) i17 Fe.z).v).toArray⟩), (52, .string ⟨((List.getD (madeF L) i17 Fe.z).v).toArray⟩), (51, .pointer (some ⟨(φ20 0), 2, none⟩))]) (fun φ28 => [((φ6 0), .cells #[.slice a5 (List.length (madeF L)) c5] 26), ((φ9 0), .cells #[.slice a5 (List.length (madeF L)) c5] 26), ((φ20 0), .cells #[.int .i64 ((List.getD (madeF L) i17 Fe.z).k), .string ⟨((List.getD (madeF L) i17 Fe.z).a).toArray⟩, .string ⟨((List.getD (madeF L) i17 Fe.z).v).toArray⟩] 42), ((φ23 0), .cells #[.int .i64 ((List.getD (madeF L) i17 Fe.z).k), .string ⟨((List.getD (madeF L) i17 Fe.z).a).toArray⟩, .string ⟨((List.getD (madeF L) i17 Fe.z).v).toArray⟩] 42)]) (fun φ28 => [(φ20 0)]) s trivial (fun φ28 => by kernel_rfl) ?_
          intro φ28 w28 s
          refine ops_done (by kernel_rfl) ?_
          refine region_rule ?_
          refine ops_rule (C := []) [((φ6 0), .cells #[.slice a5 (List.length (madeF L)) c5] 26), ((φ9 0), .cells #[.slice a5 (List.length (madeF L)) c5] 26), ((φ20 0), .cells #[.int .i64 ((List.getD (madeF L) i17 Fe.z).k), .string ⟨((List.getD (madeF L) i17 Fe.z).a).toArray⟩, .string ⟨((List.getD (madeF L) i17 Fe.z).v).toArray⟩] 42), ((φ23 0), .cells #[.int .i64 ((List.getD (madeF L) i17 Fe.z).k), .string ⟨((List.getD (madeF L) i17 Fe.z).a).toArray⟩, .string ⟨((List.getD (madeF L) i17 Fe.z).v).toArray⟩] 42)] F24 2 [] 0 (fun φ29 => [(37, .int .i64 (IntKind.wrap .i64 (((i17 : Nat) : Int) + ((1 : Nat) : Int)))), (53, .int .i64 (IntKind.wrap .i64 (((i17 : Nat) : Int) + ((1 : Nat) : Int))))]) (fun φ29 => [((φ6 0), .cells #[.slice a5 (List.length (madeF L)) c5] 26), ((φ9 0), .cells #[.slice a5 (List.length (madeF L)) c5] 26), ((φ20 0), .cells #[.int .i64 ((List.getD (madeF L) i17 Fe.z).k), .string ⟨((List.getD (madeF L) i17 Fe.z).a).toArray⟩, .string ⟨((List.getD (madeF L) i17 Fe.z).v).toArray⟩] 42), ((φ23 0), .cells #[.int .i64 ((List.getD (madeF L) i17 Fe.z).k), .string ⟨((List.getD (madeF L) i17 Fe.z).a).toArray⟩, .string ⟨((List.getD (madeF L) i17 Fe.z).v).toArray⟩] 42)]) (fun φ29 => []) s trivial (fun φ29 => by kernel_rfl) ?_
          intro φ29 w29 s
          rw [nat_addI (a := i17) (b := 1) (by have e8 := hi17_0; have e7 := made_len (L := L); have hq1 := of_decide_eq_true hc19; have hq2 := of_decide_eq_true hc22; have hq3 := of_decide_eq_true hc27; omega)]
          refine ops_done (by kernel_rfl) ?_
          exact ⟨⟨m17 - 1, (i17 + 1, (List.getD (madeF L) i17 Fe.z).v, v24, F24), _, _, _, by have hq1 := of_decide_eq_true hc19; have hq2 := of_decide_eq_true hc22; have hq3 := of_decide_eq_true hc27; have := hi17_0; omega, rfl, s, (List.Sublist.append (List.Sublist.cons₂ _ (List.Sublist.cons₂ _ (List.Sublist.cons _ (List.Sublist.cons _ List.Sublist.slnil)))) (List.Sublist.refl _)), by kernel_rfl, hle16, by have hq1 := of_decide_eq_true hc19; have hq2 := of_decide_eq_true hc22; have hq3 := of_decide_eq_true hc27; have := hi17_0; show i17 + 1 + (m17 - 1) = (madeF L).length; omega, (row_eq42 (keep_yes (by have hq1 := of_decide_eq_true hc19; have hq2 := of_decide_eq_true hc22; have hq3 := of_decide_eq_true hc27; have := hi17_0; omega) (qK_f hc22)) h24), (tit_1 (fun x hx => (rt_parts (made_rt hx)).2) (by have hq1 := of_decide_eq_true hc19; have hq2 := of_decide_eq_true hc22; have hq3 := of_decide_eq_true hc27; have := hi17_0; omega) hi17_2 (of_decide_eq_true hc27))⟩⟩
        ·
          rw [hc27]
          refine cond_false_rule (b := false) (by kernel_rfl) rfl ?_
          refine wp_skip ?_
          refine region_rule ?_
          refine ops_rule (C := []) [((φ6 0), .cells #[.slice a5 (List.length (madeF L)) c5] 26), ((φ9 0), .cells #[.slice a5 (List.length (madeF L)) c5] 26), ((φ20 0), .cells #[.int .i64 ((List.getD (madeF L) i17 Fe.z).k), .string ⟨((List.getD (madeF L) i17 Fe.z).a).toArray⟩, .string ⟨((List.getD (madeF L) i17 Fe.z).v).toArray⟩] 42), ((φ23 0), .cells #[.int .i64 ((List.getD (madeF L) i17 Fe.z).k), .string ⟨((List.getD (madeF L) i17 Fe.z).a).toArray⟩, .string ⟨((List.getD (madeF L) i17 Fe.z).v).toArray⟩] 42)] F24 2 [] 0 (fun φ30 => [(37, .int .i64 (IntKind.wrap .i64 (((i17 : Nat) : Int) + ((1 : Nat) : Int)))), (53, .int .i64 (IntKind.wrap .i64 (((i17 : Nat) : Int) + ((1 : Nat) : Int))))]) (fun φ30 => [((φ6 0), .cells #[.slice a5 (List.length (madeF L)) c5] 26), ((φ9 0), .cells #[.slice a5 (List.length (madeF L)) c5] 26), ((φ20 0), .cells #[.int .i64 ((List.getD (madeF L) i17 Fe.z).k), .string ⟨((List.getD (madeF L) i17 Fe.z).a).toArray⟩, .string ⟨((List.getD (madeF L) i17 Fe.z).v).toArray⟩] 42), ((φ23 0), .cells #[.int .i64 ((List.getD (madeF L) i17 Fe.z).k), .string ⟨((List.getD (madeF L) i17 Fe.z).a).toArray⟩, .string ⟨((List.getD (madeF L) i17 Fe.z).v).toArray⟩] 42)]) (fun φ30 => []) s trivial (fun φ30 => by kernel_rfl) ?_
          intro φ30 w30 s
          rw [nat_addI (a := i17) (b := 1) (by have e8 := hi17_0; have e7 := made_len (L := L); have hq1 := of_decide_eq_true hc19; have hq2 := of_decide_eq_true hc22; have hq3 := of_decide_eq_false hc27; omega)]
          refine ops_done (by kernel_rfl) ?_
          exact ⟨⟨m17 - 1, (i17 + 1, T17, v24, F24), _, _, _, by have hq1 := of_decide_eq_true hc19; have hq2 := of_decide_eq_true hc22; have hq3 := of_decide_eq_false hc27; have := hi17_0; omega, rfl, s, (List.Sublist.append (List.Sublist.cons₂ _ (List.Sublist.cons₂ _ (List.Sublist.cons _ (List.Sublist.cons _ List.Sublist.slnil)))) (List.Sublist.refl _)), by kernel_rfl, hle16, by have hq1 := of_decide_eq_true hc19; have hq2 := of_decide_eq_true hc22; have hq3 := of_decide_eq_false hc27; have := hi17_0; show i17 + 1 + (m17 - 1) = (madeF L).length; omega, (row_eq42 (keep_yes (by have hq1 := of_decide_eq_true hc19; have hq2 := of_decide_eq_true hc22; have hq3 := of_decide_eq_false hc27; have := hi17_0; omega) (qK_f hc22)) h24), (tit_2 hi17_2 (of_decide_eq_false hc27))⟩⟩
      ·
        rw [hc22]
        refine cond_false_rule (b := false) (by kernel_rfl) rfl ?_
        refine wp_skip ?_
        refine wp_seq ?_
        refine region_rule ?_
        refine ops_rule (C := []) [((φ6 0), .cells #[.slice a5 (List.length (madeF L)) c5] 26), ((φ9 0), .cells #[.slice a5 (List.length (madeF L)) c5] 26), ((φ20 0), .cells #[.int .i64 ((List.getD (madeF L) i17 Fe.z).k), .string ⟨((List.getD (madeF L) i17 Fe.z).a).toArray⟩, .string ⟨((List.getD (madeF L) i17 Fe.z).v).toArray⟩] 42)] F17 1 [] 0 (fun φ31 => [(49, .string ⟨(T17).toArray⟩)]) (fun φ31 => [((φ6 0), .cells #[.slice a5 (List.length (madeF L)) c5] 26), ((φ9 0), .cells #[.slice a5 (List.length (madeF L)) c5] 26), ((φ20 0), .cells #[.int .i64 ((List.getD (madeF L) i17 Fe.z).k), .string ⟨((List.getD (madeF L) i17 Fe.z).a).toArray⟩, .string ⟨((List.getD (madeF L) i17 Fe.z).v).toArray⟩] 42)]) (fun φ31 => []) s trivial (fun φ31 => by kernel_rfl) ?_
        intro φ31 w31 s
        refine sem_rule (binOp .eql 9 (.string ⟨(T17).toArray⟩) (.string ⟨(([] : List UInt8)).toArray⟩)) (some 50) (.bool (decide (T17 = ([] : List UInt8)))) (by kernel_rfl) (Tx.run_eqS (x := T17) (y := ([] : List UInt8))) ?_
        refine ops_done (by kernel_rfl) ?_
        rcases Bool.eq_false_or_eq_true (decide (T17 = ([] : List UInt8))) with hc32 | hc32
        ·
          rw [hc32]
          refine cond_true_rule (b := true) (by kernel_rfl) rfl ?_
          refine region_rule ?_
          refine ops_rule (C := []) [((φ6 0), .cells #[.slice a5 (List.length (madeF L)) c5] 26), ((φ9 0), .cells #[.slice a5 (List.length (madeF L)) c5] 26), ((φ20 0), .cells #[.int .i64 ((List.getD (madeF L) i17 Fe.z).k), .string ⟨((List.getD (madeF L) i17 Fe.z).a).toArray⟩, .string ⟨((List.getD (madeF L) i17 Fe.z).v).toArray⟩] 42)] F17 3 [.o 2] 0 (fun φ33 => [(14, .string ⟨((List.getD (madeF L) i17 Fe.z).v).toArray⟩), (52, .string ⟨((List.getD (madeF L) i17 Fe.z).v).toArray⟩), (51, .pointer (some ⟨(φ20 0), 2, none⟩))]) (fun φ33 => [((φ6 0), .cells #[.slice a5 (List.length (madeF L)) c5] 26), ((φ9 0), .cells #[.slice a5 (List.length (madeF L)) c5] 26), ((φ20 0), .cells #[.int .i64 ((List.getD (madeF L) i17 Fe.z).k), .string ⟨((List.getD (madeF L) i17 Fe.z).a).toArray⟩, .string ⟨((List.getD (madeF L) i17 Fe.z).v).toArray⟩] 42)]) (fun φ33 => [(φ20 0)]) s trivial (fun φ33 => by kernel_rfl) ?_
          intro φ33 w33 s
          refine ops_done (by kernel_rfl) ?_
          refine region_rule ?_
          refine ops_rule (C := []) [((φ6 0), .cells #[.slice a5 (List.length (madeF L)) c5] 26), ((φ9 0), .cells #[.slice a5 (List.length (madeF L)) c5] 26), ((φ20 0), .cells #[.int .i64 ((List.getD (madeF L) i17 Fe.z).k), .string ⟨((List.getD (madeF L) i17 Fe.z).a).toArray⟩, .string ⟨((List.getD (madeF L) i17 Fe.z).v).toArray⟩] 42)] F17 2 [] 0 (fun φ34 => [(37, .int .i64 (IntKind.wrap .i64 (((i17 : Nat) : Int) + ((1 : Nat) : Int)))), (53, .int .i64 (IntKind.wrap .i64 (((i17 : Nat) : Int) + ((1 : Nat) : Int))))]) (fun φ34 => [((φ6 0), .cells #[.slice a5 (List.length (madeF L)) c5] 26), ((φ9 0), .cells #[.slice a5 (List.length (madeF L)) c5] 26), ((φ20 0), .cells #[.int .i64 ((List.getD (madeF L) i17 Fe.z).k), .string ⟨((List.getD (madeF L) i17 Fe.z).a).toArray⟩, .string ⟨((List.getD (madeF L) i17 Fe.z).v).toArray⟩] 42)]) (fun φ34 => []) s trivial (fun φ34 => by kernel_rfl) ?_
          intro φ34 w34 s
          rw [nat_addI (a := i17) (b := 1) (by have e8 := hi17_0; have e7 := made_len (L := L); have hq1 := of_decide_eq_true hc19; have hq2 := of_decide_eq_false hc22; have hq3 := of_decide_eq_true hc32; omega)]
          refine ops_done (by kernel_rfl) ?_
          exact ⟨⟨m17 - 1, (i17 + 1, (List.getD (madeF L) i17 Fe.z).v, v17, F17), _, _, _, by have hq1 := of_decide_eq_true hc19; have hq2 := of_decide_eq_false hc22; have hq3 := of_decide_eq_true hc32; have := hi17_0; omega, rfl, s, (List.Sublist.append (List.Sublist.cons₂ _ (List.Sublist.cons₂ _ (List.Sublist.cons _ List.Sublist.slnil))) (List.Sublist.refl _)), by kernel_rfl, hle16, by have hq1 := of_decide_eq_true hc19; have hq2 := of_decide_eq_false hc22; have hq3 := of_decide_eq_true hc32; have := hi17_0; show i17 + 1 + (m17 - 1) = (madeF L).length; omega, (row_eq42 (keep_no (by have hq1 := of_decide_eq_true hc19; have hq2 := of_decide_eq_false hc22; have hq3 := of_decide_eq_true hc32; have := hi17_0; omega) (qK_t hc22)) hi17_1), (tit_1 (fun x hx => (rt_parts (made_rt hx)).2) (by have hq1 := of_decide_eq_true hc19; have hq2 := of_decide_eq_false hc22; have hq3 := of_decide_eq_true hc32; have := hi17_0; omega) hi17_2 (of_decide_eq_true hc32))⟩⟩
        ·
          rw [hc32]
          refine cond_false_rule (b := false) (by kernel_rfl) rfl ?_
          refine wp_skip ?_
          refine region_rule ?_
          refine ops_rule (C := []) [((φ6 0), .cells #[.slice a5 (List.length (madeF L)) c5] 26), ((φ9 0), .cells #[.slice a5 (List.length (madeF L)) c5] 26), ((φ20 0), .cells #[.int .i64 ((List.getD (madeF L) i17 Fe.z).k), .string ⟨((List.getD (madeF L) i17 Fe.z).a).toArray⟩, .string ⟨((List.getD (madeF L) i17 Fe.z).v).toArray⟩] 42)] F17 2 [] 0 (fun φ35 => [(37, .int .i64 (IntKind.wrap .i64 (((i17 : Nat) : Int) + ((1 : Nat) : Int)))), (53, .int .i64 (IntKind.wrap .i64 (((i17 : Nat) : Int) + ((1 : Nat) : Int))))]) (fun φ35 => [((φ6 0), .cells #[.slice a5 (List.length (madeF L)) c5] 26), ((φ9 0), .cells #[.slice a5 (List.length (madeF L)) c5] 26), ((φ20 0), .cells #[.int .i64 ((List.getD (madeF L) i17 Fe.z).k), .string ⟨((List.getD (madeF L) i17 Fe.z).a).toArray⟩, .string ⟨((List.getD (madeF L) i17 Fe.z).v).toArray⟩] 42)]) (fun φ35 => []) s trivial (fun φ35 => by kernel_rfl) ?_
          intro φ35 w35 s
          rw [nat_addI (a := i17) (b := 1) (by have e8 := hi17_0; have e7 := made_len (L := L); have hq1 := of_decide_eq_true hc19; have hq2 := of_decide_eq_false hc22; have hq3 := of_decide_eq_false hc32; omega)]
          refine ops_done (by kernel_rfl) ?_
          exact ⟨⟨m17 - 1, (i17 + 1, T17, v17, F17), _, _, _, by have hq1 := of_decide_eq_true hc19; have hq2 := of_decide_eq_false hc22; have hq3 := of_decide_eq_false hc32; have := hi17_0; omega, rfl, s, (List.Sublist.append (List.Sublist.cons₂ _ (List.Sublist.cons₂ _ (List.Sublist.cons _ List.Sublist.slnil))) (List.Sublist.refl _)), by kernel_rfl, hle16, by have hq1 := of_decide_eq_true hc19; have hq2 := of_decide_eq_false hc22; have hq3 := of_decide_eq_false hc32; have := hi17_0; show i17 + 1 + (m17 - 1) = (madeF L).length; omega, (row_eq42 (keep_no (by have hq1 := of_decide_eq_true hc19; have hq2 := of_decide_eq_false hc22; have hq3 := of_decide_eq_false hc32; have := hi17_0; omega) (qK_t hc22)) hi17_1), (tit_2 hi17_2 (of_decide_eq_false hc32))⟩⟩
    ·
      rw [hc19]
      refine cond_false_rule (b := false) (by kernel_rfl) rfl ?_
      refine wp_exit ?_
      have hr36 := row_eq42 (by have ei : i17 = (madeF L).length := (by have hq1 := of_decide_eq_false hc19; have := hi17_0; omega); rw [ei, List.take_length]) hi17_1
      obtain ⟨J36, le36, hk36, s⟩ := freeze_row42 (H := [((φ6 0), .cells #[.slice a5 (List.length (madeF L)) c5] 26), ((φ9 0), .cells #[.slice a5 (List.length (madeF L)) c5] 26)]) (F := F17) s hr36
      obtain ⟨a36, c36, hv36, -, hk36⟩ := hk36.open
      subst hv36
      replace h0 := FSl.mono le36 h0
      replace hM := FSl.mono le36 hM
      replace hN := Tx.NmT.mono le36 hN
      replace hT := Tx.U8.mono le36 hT
      replace h5_0 := FSl.mono le36 h5_0
      replace h5_1 := FSl.mono le36 h5_1
      replace h8_0 := FSl.mono le36 h8_0
      replace h8_1 := FSl.mono le36 h8_1
      replace hle16 := leMono le36 hle16
      have hT37 : T17 = titF (madeF L) := hi17_2.trans (tit_all (by have hq1 := of_decide_eq_false hc19; have := hi17_0; omega))
      refine wp_seq ?_
      refine wp_seq ?_
      refine region_rule ?_
      refine ops_rule (C := []) [((φ6 0), .cells #[.slice a5 (List.length (madeF L)) c5] 26), ((φ9 0), .cells #[.slice a5 (List.length (madeF L)) c5] 26)] [] 2 [] 0 (fun φ38 => [(55, .int .i64 (((List.length (madeF L)) : Nat) : Int)), (54, .slice b5 (List.length (madeF L)) d5)]) (fun φ38 => [((φ6 0), .cells #[.slice a5 (List.length (madeF L)) c5] 26), ((φ9 0), .cells #[.slice a5 (List.length (madeF L)) c5] 26)]) (fun φ38 => []) s trivial (fun φ38 => by kernel_rfl) ?_
      intro φ38 w38 s
      refine sem_rule (binOp .sub 3 (.int .i64 (((List.length (madeF L)) : Nat) : Int)) (.int .i64 1)) (some 56) (.int .i64 (decI (List.length (madeF L)))) (by kernel_rfl) (run_subD (n := (List.length (madeF L))) (by have := made_len (L := L); omega)) ?_
      refine ops_rule (C := []) [((φ6 0), .cells #[.slice a5 (List.length (madeF L)) c5] 26), ((φ9 0), .cells #[.slice a5 (List.length (madeF L)) c5] 26)] [] 1 [] 0 (fun φ39 => [(17, .int .i64 (decI (List.length (madeF L))))]) (fun φ39 => [((φ6 0), .cells #[.slice a5 (List.length (madeF L)) c5] 26), ((φ9 0), .cells #[.slice a5 (List.length (madeF L)) c5] 26)]) (fun φ39 => []) s trivial (fun φ39 => by kernel_rfl) ?_
      intro φ39 w39 s
      refine ops_done (by kernel_rfl) ?_
      refine wp_block ?_
      have hle40 := IM.Le.refl J36
      refine loop_rule (fun (x : Nat × List UInt8) => [(2, .int .i64 z), (8, .bool false), (9, .pointer (some ⟨(φ6 0), 0, none⟩)), (10, .slice b5 (List.length (madeF L)) d5), (11, .pointer (some ⟨(φ9 0), 0, none⟩)), (12, .slice b5 (List.length (madeF L)) d5), (13, .slice a36 (List.length (keepF (qK z) (madeF L))) c36), (17, .int .i64 (decI x.1)), (14, .string ⟨(x.2).toArray⟩)]) (fun (x : Nat × List UInt8) => [((φ6 0), .cells #[.slice a5 (List.length (madeF L)) c5] 26), ((φ9 0), .cells #[.slice a5 (List.length (madeF L)) c5] 26)]) (fun m (x : Nat × List UInt8) J => IM.Le J36 J ∧ x.1 = m ∧ x.1 ≤ (madeF L).length ∧ nameInv (madeF L) x.1 x.2) ((madeF L).length) ((madeF L).length, T17) s (by kernel_rfl) (List.Sublist.cons₂ _ (List.Sublist.cons₂ _ List.Sublist.slnil)) ⟨IM.Le.refl _, rfl, Nat.le_refl _, (name_start hT37)⟩ ?_
      rintro m41 ⟨n41, T41⟩ I41 w41 ev41 s ⟨le41, hi41_0, hi41_1, hi41_2⟩
      try dsimp only at s hi41_0 hi41_1 hi41_2 ⊢
      replace h0 := FSl.mono le41 h0
      replace hM := FSl.mono le41 hM
      replace hN := Tx.NmT.mono le41 hN
      replace hT := Tx.U8.mono le41 hT
      replace h5_0 := FSl.mono le41 h5_0
      replace h5_1 := FSl.mono le41 h5_1
      replace h8_0 := FSl.mono le41 h8_0
      replace h8_1 := FSl.mono le41 h8_1
      replace hle16 := leMono le41 hle16
      replace hk36 := FSl.mono le41 hk36
      replace hle40 := leMono le41 hle40
      refine wp_seq ?_
      refine wp_seq ?_
      refine region_rule ?_
      refine ops_rule (C := []) [((φ6 0), .cells #[.slice a5 (List.length (madeF L)) c5] 26), ((φ9 0), .cells #[.slice a5 (List.length (madeF L)) c5] 26)] [] 1 [] 0 (fun φ42 => [(57, .int .i64 (decI n41))]) (fun φ42 => [((φ6 0), .cells #[.slice a5 (List.length (madeF L)) c5] 26), ((φ9 0), .cells #[.slice a5 (List.length (madeF L)) c5] 26)]) (fun φ42 => []) s trivial (fun φ42 => by kernel_rfl) ?_
      intro φ42 w42 s
      refine sem_rule (binOp .geq 3 (.int .i64 (decI n41)) (.int .i64 0)) (some 58) (.bool (decide (0 < n41))) (by kernel_rfl) (run_geD (n := n41)) ?_
      refine ops_done (by kernel_rfl) ?_
      rcases Bool.eq_false_or_eq_true (decide (0 < n41)) with hc43 | hc43
      ·
        rw [hc43]
        refine cond_true_rule (b := true) (by kernel_rfl) rfl ?_
        refine wp_skip ?_
        refine wp_seq ?_
        refine wp_block ?_
        refine wp_seq ?_
        refine region_rule ?_
        refine ops_rule (C := []) [((φ6 0), .cells #[.slice a5 (List.length (madeF L)) c5] 26), ((φ9 0), .cells #[.slice a5 (List.length (madeF L)) c5] 26)] [] 2 [] 0 (fun φ44 => [(62, .int .i64 (decI n41)), (61, .slice b5 (List.length (madeF L)) d5)]) (fun φ44 => [((φ6 0), .cells #[.slice a5 (List.length (madeF L)) c5] 26), ((φ9 0), .cells #[.slice a5 (List.length (madeF L)) c5] 26)]) (fun φ44 => []) s trivial (fun φ44 => by kernel_rfl) ?_
        intro φ44 w44 s
        refine sem_rule (Instr.indexAt 30 (.slice b5 (List.length (madeF L)) d5) (.int .i64 (decI n41))) (some 63) (.pointer (pAt b5 ((n41 - 1) * 3))) (by kernel_rfl) (fsl_idxD h5_1 (by have hq1 := of_decide_eq_false hc19; have hq2 := of_decide_eq_true hc43; omega) (by have hq1 := of_decide_eq_false hc19; have hq2 := of_decide_eq_true hc43; have e6 := hi41_1; have e7 := made_len (L := L); omega)) ?_
        refine sem_rule (Instr.fieldAt 42 (.pointer (pAt b5 ((n41 - 1) * 3))) 0) (some 64) (.pointer (pAt b5 ((n41 - 1) * 3))) (by kernel_rfl) (fsl_fld42k h5_1 (by have hq1 := of_decide_eq_false hc19; have hq2 := of_decide_eq_true hc43; have e6 := hi41_1; have e7 := made_len (L := L); omega)) ?_
        refine sem_rule (Instr.loadAt 3 (.pointer (pAt b5 ((n41 - 1) * 3)))) (some 65) (.int .i64 ((List.getD (madeF L) (n41 - 1) Fe.z).k)) (by kernel_rfl) (fsl_ldk s.sub h5_1 (by have hq1 := of_decide_eq_false hc19; have hq2 := of_decide_eq_true hc43; have e6 := hi41_1; have e7 := made_len (L := L); omega)) ?_
        refine sem_rule (binOp .eql 3 (.int .i64 ((List.getD (madeF L) (n41 - 1) Fe.z).k)) (.int .i64 1)) (some 66) (.bool (decide ((List.getD (madeF L) (n41 - 1) Fe.z).k = 1))) (by kernel_rfl) ((run_eqZ (a := (List.getD (madeF L) (n41 - 1) Fe.z).k) (b := 1))) ?_
        refine ops_done (by kernel_rfl) ?_
        rcases Bool.eq_false_or_eq_true (decide ((List.getD (madeF L) (n41 - 1) Fe.z).k = 1)) with hc45 | hc45
        ·
          rw [hc45]
          refine cond_true_rule (b := true) (by kernel_rfl) rfl ?_
          refine region_rule ?_
          refine ops_rule (C := []) [((φ6 0), .cells #[.slice a5 (List.length (madeF L)) c5] 26), ((φ9 0), .cells #[.slice a5 (List.length (madeF L)) c5] 26)] [] 2 [] 0 (fun φ46 => [(68, .int .i64 (decI n41)), (67, .slice b5 (List.length (madeF L)) d5)]) (fun φ46 => [((φ6 0), .cells #[.slice a5 (List.length (madeF L)) c5] 26), ((φ9 0), .cells #[.slice a5 (List.length (madeF L)) c5] 26)]) (fun φ46 => []) s trivial (fun φ46 => by kernel_rfl) ?_
          intro φ46 w46 s
          refine sem_rule (Instr.indexAt 30 (.slice b5 (List.length (madeF L)) d5) (.int .i64 (decI n41))) (some 69) (.pointer (pAt b5 ((n41 - 1) * 3))) (by kernel_rfl) (fsl_idxD h5_1 (by have hq1 := of_decide_eq_false hc19; have hq2 := of_decide_eq_true hc43; have hq3 := of_decide_eq_true hc45; omega) (by have hq1 := of_decide_eq_false hc19; have hq2 := of_decide_eq_true hc43; have hq3 := of_decide_eq_true hc45; have e6 := hi41_1; have e7 := made_len (L := L); omega)) ?_
          refine sem_rule (Instr.fieldAt 42 (.pointer (pAt b5 ((n41 - 1) * 3))) 2) (some 70) (.pointer (pAt b5 ((n41 - 1) * 3 + 2))) (by kernel_rfl) (fsl_fld42v h5_1 (by have hq1 := of_decide_eq_false hc19; have hq2 := of_decide_eq_true hc43; have hq3 := of_decide_eq_true hc45; have e6 := hi41_1; have e7 := made_len (L := L); omega)) ?_
          refine sem_rule (Instr.loadAt 9 (.pointer (pAt b5 ((n41 - 1) * 3 + 2)))) (some 71) (.string ⟨((List.getD (madeF L) (n41 - 1) Fe.z).v).toArray⟩) (by kernel_rfl) (fsl_ldv39 s.sub h5_1 (by have hq1 := of_decide_eq_false hc19; have hq2 := of_decide_eq_true hc43; have hq3 := of_decide_eq_true hc45; have e6 := hi41_1; have e7 := made_len (L := L); omega)) ?_
          refine ops_rule (C := []) [((φ6 0), .cells #[.slice a5 (List.length (madeF L)) c5] 26), ((φ9 0), .cells #[.slice a5 (List.length (madeF L)) c5] 26)] [] 1 [] 0 (fun φ47 => [(14, .string ⟨((List.getD (madeF L) (n41 - 1) Fe.z).v).toArray⟩)]) (fun φ47 => [((φ6 0), .cells #[.slice a5 (List.length (madeF L)) c5] 26), ((φ9 0), .cells #[.slice a5 (List.length (madeF L)) c5] 26)]) (fun φ47 => []) s trivial (fun φ47 => by kernel_rfl) ?_
          intro φ47 w47 s
          refine ops_done (by kernel_rfl) ?_
          refine region_rule ?_
          refine ops_rule (C := []) [((φ6 0), .cells #[.slice a5 (List.length (madeF L)) c5] 26), ((φ9 0), .cells #[.slice a5 (List.length (madeF L)) c5] 26)] [] 1 [] 0 (fun φ48 => [(59, .int .i64 (decI n41))]) (fun φ48 => [((φ6 0), .cells #[.slice a5 (List.length (madeF L)) c5] 26), ((φ9 0), .cells #[.slice a5 (List.length (madeF L)) c5] 26)]) (fun φ48 => []) s trivial (fun φ48 => by kernel_rfl) ?_
          intro φ48 w48 s
          refine sem_rule (binOp .sub 3 (.int .i64 (decI n41)) (.int .i64 1)) (some 60) (.int .i64 (decI (n41 - 1))) (by kernel_rfl) (run_subD2 (n := n41) (by have hq1 := of_decide_eq_false hc19; have hq2 := of_decide_eq_true hc43; have hq3 := of_decide_eq_true hc45; omega) (by have hq1 := of_decide_eq_false hc19; have hq2 := of_decide_eq_true hc43; have hq3 := of_decide_eq_true hc45; have e6 := hi41_1; have e7 := made_len (L := L); omega)) ?_
          refine ops_rule (C := []) [((φ6 0), .cells #[.slice a5 (List.length (madeF L)) c5] 26), ((φ9 0), .cells #[.slice a5 (List.length (madeF L)) c5] 26)] [] 1 [] 0 (fun φ49 => [(17, .int .i64 (decI (n41 - 1)))]) (fun φ49 => [((φ6 0), .cells #[.slice a5 (List.length (madeF L)) c5] 26), ((φ9 0), .cells #[.slice a5 (List.length (madeF L)) c5] 26)]) (fun φ49 => []) s trivial (fun φ49 => by kernel_rfl) ?_
          intro φ49 w49 s
          refine ops_done (by kernel_rfl) ?_
          exact ⟨⟨m41 - 1, ((n41 - 1), (List.getD (madeF L) (n41 - 1) Fe.z).v), _, _, _, by have hq1 := of_decide_eq_false hc19; have hq2 := of_decide_eq_true hc43; have hq3 := of_decide_eq_true hc45; have := hi41_0; omega, rfl, s, (List.Sublist.cons₂ _ (List.Sublist.cons₂ _ List.Sublist.slnil)), by kernel_rfl, hle40, by have hq1 := of_decide_eq_false hc19; have hq2 := of_decide_eq_true hc43; have hq3 := of_decide_eq_true hc45; have := hi41_0; show n41 - 1 = m41 - 1; omega, by have := hi41_1; show n41 - 1 ≤ (madeF L).length; omega, (name_yes (T := T41) (made_asc L) (fun x hx => made_rt hx) (by have hq1 := of_decide_eq_false hc19; have hq2 := of_decide_eq_true hc43; have hq3 := of_decide_eq_true hc45; omega) hi41_1 (of_decide_eq_true hc45))⟩⟩
        ·
          rw [hc45]
          refine cond_false_rule (b := false) (by kernel_rfl) rfl ?_
          refine wp_skip ?_
          refine region_rule ?_
          refine ops_rule (C := []) [((φ6 0), .cells #[.slice a5 (List.length (madeF L)) c5] 26), ((φ9 0), .cells #[.slice a5 (List.length (madeF L)) c5] 26)] [] 1 [] 0 (fun φ50 => [(59, .int .i64 (decI n41))]) (fun φ50 => [((φ6 0), .cells #[.slice a5 (List.length (madeF L)) c5] 26), ((φ9 0), .cells #[.slice a5 (List.length (madeF L)) c5] 26)]) (fun φ50 => []) s trivial (fun φ50 => by kernel_rfl) ?_
          intro φ50 w50 s
          refine sem_rule (binOp .sub 3 (.int .i64 (decI n41)) (.int .i64 1)) (some 60) (.int .i64 (decI (n41 - 1))) (by kernel_rfl) (run_subD2 (n := n41) (by have hq1 := of_decide_eq_false hc19; have hq2 := of_decide_eq_true hc43; have hq3 := of_decide_eq_false hc45; omega) (by have hq1 := of_decide_eq_false hc19; have hq2 := of_decide_eq_true hc43; have hq3 := of_decide_eq_false hc45; have e6 := hi41_1; have e7 := made_len (L := L); omega)) ?_
          refine ops_rule (C := []) [((φ6 0), .cells #[.slice a5 (List.length (madeF L)) c5] 26), ((φ9 0), .cells #[.slice a5 (List.length (madeF L)) c5] 26)] [] 1 [] 0 (fun φ51 => [(17, .int .i64 (decI (n41 - 1)))]) (fun φ51 => [((φ6 0), .cells #[.slice a5 (List.length (madeF L)) c5] 26), ((φ9 0), .cells #[.slice a5 (List.length (madeF L)) c5] 26)]) (fun φ51 => []) s trivial (fun φ51 => by kernel_rfl) ?_
          intro φ51 w51 s
          refine ops_done (by kernel_rfl) ?_
          exact ⟨⟨m41 - 1, ((n41 - 1), T41), _, _, _, by have hq1 := of_decide_eq_false hc19; have hq2 := of_decide_eq_true hc43; have hq3 := of_decide_eq_false hc45; have := hi41_0; omega, rfl, s, (List.Sublist.cons₂ _ (List.Sublist.cons₂ _ List.Sublist.slnil)), by kernel_rfl, hle40, by have hq1 := of_decide_eq_false hc19; have hq2 := of_decide_eq_true hc43; have hq3 := of_decide_eq_false hc45; have := hi41_0; show n41 - 1 = m41 - 1; omega, by have := hi41_1; show n41 - 1 ≤ (madeF L).length; omega, (name_no (by have hq1 := of_decide_eq_false hc19; have hq2 := of_decide_eq_true hc43; have hq3 := of_decide_eq_false hc45; omega) (of_decide_eq_false hc45) hi41_2)⟩⟩
      ·
        rw [hc43]
        refine cond_false_rule (b := false) (by kernel_rfl) rfl ?_
        refine wp_exit ?_
        have hT52 : T41 = titF (madeF L) := hi41_2.1 (by have hq1 := of_decide_eq_false hc19; have hq2 := of_decide_eq_false hc43; omega)
        subst hT52
        refine wp_seq ?_
        refine region_rule ?_
        refine ops_rule (C := []) [((φ6 0), .cells #[.slice a5 (List.length (madeF L)) c5] 26), ((φ9 0), .cells #[.slice a5 (List.length (madeF L)) c5] 26)] [] 2 [] 1 (fun φ53 => [(18, .slice (some ⟨(φ53 0), 0, none⟩) 7 7), (72, .slice (some ⟨(φ53 0), 0, none⟩) 7 7)]) (fun φ53 => [((φ6 0), .cells #[.slice a5 (List.length (madeF L)) c5] 26), ((φ9 0), .cells #[.slice a5 (List.length (madeF L)) c5] 26), ((φ53 0), .cells #[.string ⟨#[]⟩, .string ⟨#[110, 97, 109, 101]⟩, .string ⟨#[112, 104, 111, 110, 101]⟩, .string ⟨#[109, 97, 105, 108]⟩, .string ⟨#[97, 100, 100, 114, 101, 115, 115]⟩, .string ⟨#[110, 111, 116, 101]⟩, .string ⟨#[103, 114, 111, 117, 112]⟩] 9)]) (fun φ53 => []) s trivial (fun φ53 => by kernel_rfl) ?_
        intro φ53 w53 s
        refine ops_done (by kernel_rfl) ?_
        refine wp_seq ?_
        obtain ⟨I54, le54, hk54, s⟩ := s.freezeAt 2 (φ53 0) (.cells #[.string ⟨#[]⟩, .string ⟨#[110, 97, 109, 101]⟩, .string ⟨#[112, 104, 111, 110, 101]⟩, .string ⟨#[109, 97, 105, 108]⟩, .string ⟨#[97, 100, 100, 114, 101, 115, 115]⟩, .string ⟨#[110, 111, 116, 101]⟩, .string ⟨#[103, 114, 111, 117, 112]⟩] 9) [((φ6 0), .cells #[.slice a5 (List.length (madeF L)) c5] 26), ((φ9 0), .cells #[.slice a5 (List.length (madeF L)) c5] 26)] (by kernel_rfl) (by kernel_rfl)
        replace h0 := FSl.mono le54 h0
        replace hM := FSl.mono le54 hM
        replace hN := Tx.NmT.mono le54 hN
        replace hT := Tx.U8.mono le54 hT
        replace h5_0 := FSl.mono le54 h5_0
        replace h5_1 := FSl.mono le54 h5_1
        replace h8_0 := FSl.mono le54 h8_0
        replace h8_1 := FSl.mono le54 h8_1
        replace hle16 := leMono le54 hle16
        replace hk36 := FSl.mono le54 hk36
        replace hle40 := leMono le54 hle40
        refine region_rule ?_
        refine ops_rule (C := []) [((φ6 0), .cells #[.slice a5 (List.length (madeF L)) c5] 26), ((φ9 0), .cells #[.slice a5 (List.length (madeF L)) c5] 26)] [] 1 [] 0 (fun φ55 => [(19, .string ⟨#[]⟩)]) (fun φ55 => [((φ6 0), .cells #[.slice a5 (List.length (madeF L)) c5] 26), ((φ9 0), .cells #[.slice a5 (List.length (madeF L)) c5] 26)]) (fun φ55 => []) s trivial (fun φ55 => by kernel_rfl) ?_
        intro φ55 w55 s
        refine ops_done (by kernel_rfl) ?_
        refine wp_seq ?_
        refine wp_seq ?_
        refine region_rule ?_
        refine ops_rule (C := []) [((φ6 0), .cells #[.slice a5 (List.length (madeF L)) c5] 26), ((φ9 0), .cells #[.slice a5 (List.length (madeF L)) c5] 26)] [] 3 [] 0 (fun φ56 => [(75, .bool (decide (z > ((0 : Nat) : Int)))), (74, .bool (decide (z > ((0 : Nat) : Int)))), (73, .int .i64 z)]) (fun φ56 => [((φ6 0), .cells #[.slice a5 (List.length (madeF L)) c5] 26), ((φ9 0), .cells #[.slice a5 (List.length (madeF L)) c5] 26)]) (fun φ56 => []) s trivial (fun φ56 => by kernel_rfl) ?_
        intro φ56 w56 s
        rcases Bool.eq_false_or_eq_true (decide (z > ((0 : Nat) : Int))) with hc57 | hc57
        ·
          rw [hc57]
          refine ops_rule (C := []) [((φ6 0), .cells #[.slice a5 (List.length (madeF L)) c5] 26), ((φ9 0), .cells #[.slice a5 (List.length (madeF L)) c5] 26)] [] 3 [] 0 (fun φ58 => [(78, .bool (decide (z < ((7 : Nat) : Int)))), (77, .bool (decide (z < ((7 : Nat) : Int)))), (76, .int .i64 z)]) (fun φ58 => [((φ6 0), .cells #[.slice a5 (List.length (madeF L)) c5] 26), ((φ9 0), .cells #[.slice a5 (List.length (madeF L)) c5] 26)]) (fun φ58 => []) s trivial (fun φ58 => by kernel_rfl) ?_
          intro φ58 w58 s
          refine ops_done (by kernel_rfl) ?_
          rcases Bool.eq_false_or_eq_true (decide (z < ((7 : Nat) : Int))) with hc59 | hc59
          ·
            rw [hc59]
            refine cond_true_rule (b := true) (by kernel_rfl) rfl ?_
            refine region_rule ?_
            refine ops_rule (C := []) [((φ6 0), .cells #[.slice a5 (List.length (madeF L)) c5] 26), ((φ9 0), .cells #[.slice a5 (List.length (madeF L)) c5] 26)] [] 2 [] 0 (fun φ60 => [(80, .int .i64 z), (79, .slice (some ⟨(φ53 0), 0, none⟩) 7 7)]) (fun φ60 => [((φ6 0), .cells #[.slice a5 (List.length (madeF L)) c5] 26), ((φ9 0), .cells #[.slice a5 (List.length (madeF L)) c5] 26)]) (fun φ60 => []) s trivial (fun φ60 => by kernel_rfl) ?_
            intro φ60 w60 s
            refine sem_rule (Instr.indexAt 46 (.slice (some ⟨(φ53 0), 0, none⟩) 7 7) (.int .i64 z)) (some 81) (.pointer (some ⟨(φ53 0), (z).toNat, none⟩)) (by kernel_rfl) (idx46 (by have hq1 := of_decide_eq_false hc19; have hq2 := of_decide_eq_false hc43; have hq3 := of_decide_eq_true hc57; have hq4 := of_decide_eq_true hc59; omega) (by have hq1 := of_decide_eq_false hc19; have hq2 := of_decide_eq_false hc43; have hq3 := of_decide_eq_true hc57; have hq4 := of_decide_eq_true hc59; omega)) ?_
            refine sem_rule (Instr.loadAt 9 (.pointer (some ⟨(φ53 0), (z).toNat, none⟩))) (some 82) (.string ⟨((Tx.nmS z)).toArray⟩) (by kernel_rfl) (ld46 s.sub hk54 (by have hq1 := of_decide_eq_false hc19; have hq2 := of_decide_eq_false hc43; have hq3 := of_decide_eq_true hc57; have hq4 := of_decide_eq_true hc59; omega) (by have hq1 := of_decide_eq_false hc19; have hq2 := of_decide_eq_false hc43; have hq3 := of_decide_eq_true hc57; have hq4 := of_decide_eq_true hc59; omega)) ?_
            refine ops_rule (C := []) [((φ6 0), .cells #[.slice a5 (List.length (madeF L)) c5] 26), ((φ9 0), .cells #[.slice a5 (List.length (madeF L)) c5] 26)] [] 1 [] 0 (fun φ61 => [(19, .string ⟨((Tx.nmS z)).toArray⟩)]) (fun φ61 => [((φ6 0), .cells #[.slice a5 (List.length (madeF L)) c5] 26), ((φ9 0), .cells #[.slice a5 (List.length (madeF L)) c5] 26)]) (fun φ61 => []) s trivial (fun φ61 => by kernel_rfl) ?_
            intro φ61 w61 s
            refine ops_done (by kernel_rfl) ?_
            refine wp_seq ?_
            refine region_rule ?_
            refine ops_rule (C := []) [((φ6 0), .cells #[.slice a5 (List.length (madeF L)) c5] 26), ((φ9 0), .cells #[.slice a5 (List.length (madeF L)) c5] 26)] [] 2 [.o 0] 0 (fun φ62 => [(84, .int .i64 z), (83, .agg #[.slice a5 (List.length (madeF L)) c5])]) (fun φ62 => [((φ6 0), .cells #[.slice a5 (List.length (madeF L)) c5] 26), ((φ9 0), .cells #[.slice a5 (List.length (madeF L)) c5] 26)]) (fun φ62 => [(φ6 0)]) s trivial (fun φ62 => by kernel_rfl) ?_
            intro φ62 w62 s
            refine call_rule (some 85) s (ofKind_c h5_0 (Nat.le_trans made_len (by decide)) (z := z)) (by kernel_rfl) ?_
            intro v63 I63 w63 le63 h63 s
            replace h0 := FSl.mono le63 h0
            replace hM := FSl.mono le63 hM
            replace hN := Tx.NmT.mono le63 hN
            replace hT := Tx.U8.mono le63 hT
            replace h5_0 := FSl.mono le63 h5_0
            replace h5_1 := FSl.mono le63 h5_1
            replace h8_0 := FSl.mono le63 h8_0
            replace h8_1 := FSl.mono le63 h8_1
            replace hle16 := leMono le63 hle16
            replace hk36 := FSl.mono le63 hk36
            replace hle40 := leMono le63 hle40
            replace hk54 := le63 _ _ hk54
            obtain ⟨a63, c63, rfl, h63_0⟩ := h63
            refine call_rule (some 86) s (own9_c h63_0 (Nat.le_trans keep_len (Nat.le_trans made_len (by decide)))) (by kernel_rfl) ?_
            intro v64 I64 w64 le64 h64 s
            replace h0 := FSl.mono le64 h0
            replace hM := FSl.mono le64 hM
            replace hN := Tx.NmT.mono le64 hN
            replace hT := Tx.U8.mono le64 hT
            replace h5_0 := FSl.mono le64 h5_0
            replace h5_1 := FSl.mono le64 h5_1
            replace h8_0 := FSl.mono le64 h8_0
            replace h8_1 := FSl.mono le64 h8_1
            replace hle16 := leMono le64 hle16
            replace hk36 := FSl.mono le64 hk36
            replace hle40 := leMono le64 hle40
            replace h63_0 := FSl.mono le64 h63_0
            replace hk54 := le64 _ _ hk54
            obtain ⟨a64, c64, rfl, h64_0⟩ := h64
            refine ops_rule (C := []) [((φ6 0), .cells #[.slice a5 (List.length (madeF L)) c5] 26), ((φ9 0), .cells #[.slice a5 (List.length (madeF L)) c5] 26)] [] 1 [] 0 (fun φ65 => [(87, .slice a36 (List.length (keepF (qK z) (madeF L))) c36)]) (fun φ65 => [((φ6 0), .cells #[.slice a5 (List.length (madeF L)) c5] 26), ((φ9 0), .cells #[.slice a5 (List.length (madeF L)) c5] 26)]) (fun φ65 => []) s trivial (fun φ65 => by kernel_rfl) ?_
            intro φ65 w65 s
            refine call_rule (some 88) s (sameF_c h64_0 hk36 (Nat.le_trans keep_len (Nat.le_trans made_len (by decide)))) (by kernel_rfl) ?_
            intro v66 I66 w66 le66 h66 s
            replace h0 := FSl.mono le66 h0
            replace hM := FSl.mono le66 hM
            replace hN := Tx.NmT.mono le66 hN
            replace hT := Tx.U8.mono le66 hT
            replace h5_0 := FSl.mono le66 h5_0
            replace h5_1 := FSl.mono le66 h5_1
            replace h8_0 := FSl.mono le66 h8_0
            replace h8_1 := FSl.mono le66 h8_1
            replace hle16 := leMono le66 hle16
            replace hk36 := FSl.mono le66 hk36
            replace hle40 := leMono le66 hle40
            replace h63_0 := FSl.mono le66 h63_0
            replace h64_0 := FSl.mono le66 h64_0
            replace hk54 := le66 _ _ hk54
            obtain rfl := h66
            refine ops_rule (C := []) [((φ6 0), .cells #[.slice a5 (List.length (madeF L)) c5] 26), ((φ9 0), .cells #[.slice a5 (List.length (madeF L)) c5] 26)] [] 2 [.o 0] 0 (fun φ67 => [(90, .agg #[.slice a5 (List.length (madeF L)) c5]), (89, .bool true)]) (fun φ67 => [((φ6 0), .cells #[.slice a5 (List.length (madeF L)) c5] 26), ((φ9 0), .cells #[.slice a5 (List.length (madeF L)) c5] 26)]) (fun φ67 => [(φ6 0)]) s trivial (fun φ67 => by kernel_rfl) ?_
            intro φ67 w67 s
            refine call_rule (some 91) s (title_c h5_0) (by kernel_rfl) ?_
            intro v68 I68 w68 le68 h68 s
            replace h0 := FSl.mono le68 h0
            replace hM := FSl.mono le68 hM
            replace hN := Tx.NmT.mono le68 hN
            replace hT := Tx.U8.mono le68 hT
            replace h5_0 := FSl.mono le68 h5_0
            replace h5_1 := FSl.mono le68 h5_1
            replace h8_0 := FSl.mono le68 h8_0
            replace h8_1 := FSl.mono le68 h8_1
            replace hle16 := leMono le68 hle16
            replace hk36 := FSl.mono le68 hk36
            replace hle40 := leMono le68 hle40
            replace h63_0 := FSl.mono le68 h63_0
            replace h64_0 := FSl.mono le68 h64_0
            replace hk54 := le68 _ _ hk54
            obtain rfl := h68
            refine ops_rule (C := []) [((φ6 0), .cells #[.slice a5 (List.length (madeF L)) c5] 26), ((φ9 0), .cells #[.slice a5 (List.length (madeF L)) c5] 26)] [] 1 [] 0 (fun φ69 => [(92, .string ⟨(titF (madeF L)).toArray⟩)]) (fun φ69 => [((φ6 0), .cells #[.slice a5 (List.length (madeF L)) c5] 26), ((φ9 0), .cells #[.slice a5 (List.length (madeF L)) c5] 26)]) (fun φ69 => []) s trivial (fun φ69 => by kernel_rfl) ?_
            intro φ69 w69 s
            refine sem_rule (binOp .eql 9 (.string ⟨(titF (madeF L)).toArray⟩) (.string ⟨(titF (madeF L)).toArray⟩)) (some 93) (.bool true) (by kernel_rfl) ((Tx.run_eqT (x := titF (madeF L)))) ?_
            refine ops_rule (C := []) [((φ6 0), .cells #[.slice a5 (List.length (madeF L)) c5] 26), ((φ9 0), .cells #[.slice a5 (List.length (madeF L)) c5] 26)] [] 3 [] 0 (fun φ70 => [(96, .int .i64 z), (95, .bool true), (94, .bool true)]) (fun φ70 => [((φ6 0), .cells #[.slice a5 (List.length (madeF L)) c5] 26), ((φ9 0), .cells #[.slice a5 (List.length (madeF L)) c5] 26)]) (fun φ70 => []) s trivial (fun φ70 => by kernel_rfl) ?_
            intro φ70 w70 s
            refine call_rule (some 97) s (Tx.kindName_c hN (z := z)) (by kernel_rfl) ?_
            intro v71 I71 w71 le71 h71 s
            replace h0 := FSl.mono le71 h0
            replace hM := FSl.mono le71 hM
            replace hN := Tx.NmT.mono le71 hN
            replace hT := Tx.U8.mono le71 hT
            replace h5_0 := FSl.mono le71 h5_0
            replace h5_1 := FSl.mono le71 h5_1
            replace h8_0 := FSl.mono le71 h8_0
            replace h8_1 := FSl.mono le71 h8_1
            replace hle16 := leMono le71 hle16
            replace hk36 := FSl.mono le71 hk36
            replace hle40 := leMono le71 hle40
            replace h63_0 := FSl.mono le71 h63_0
            replace h64_0 := FSl.mono le71 h64_0
            replace hk54 := le71 _ _ hk54
            obtain rfl := h71
            refine ops_rule (C := []) [((φ6 0), .cells #[.slice a5 (List.length (madeF L)) c5] 26), ((φ9 0), .cells #[.slice a5 (List.length (madeF L)) c5] 26)] [] 1 [] 0 (fun φ72 => [(98, .string ⟨((Tx.nmS z)).toArray⟩)]) (fun φ72 => [((φ6 0), .cells #[.slice a5 (List.length (madeF L)) c5] 26), ((φ9 0), .cells #[.slice a5 (List.length (madeF L)) c5] 26)]) (fun φ72 => []) s trivial (fun φ72 => by kernel_rfl) ?_
            intro φ72 w72 s
            refine sem_rule (binOp .eql 9 (.string ⟨((Tx.nmS z)).toArray⟩) (.string ⟨((Tx.nmS z)).toArray⟩)) (some 99) (.bool true) (by kernel_rfl) ((Tx.run_eqT (x := (Tx.nmS z)))) ?_
            refine ops_rule (C := []) [((φ6 0), .cells #[.slice a5 (List.length (madeF L)) c5] 26), ((φ9 0), .cells #[.slice a5 (List.length (madeF L)) c5] 26)] [] 4 [.o 0, .o 1] 0 (fun φ73 => [(103, .agg #[.slice a5 (List.length (madeF L)) c5]), (102, .agg #[.slice a5 (List.length (madeF L)) c5]), (101, .bool true), (100, .bool true)]) (fun φ73 => [((φ6 0), .cells #[.slice a5 (List.length (madeF L)) c5] 26), ((φ9 0), .cells #[.slice a5 (List.length (madeF L)) c5] 26)]) (fun φ73 => [(φ6 0), (φ9 0)]) s trivial (fun φ73 => by kernel_rfl) ?_
            intro φ73 w73 s
            refine call_rule (some 104) s (sameS_c h5_0 h5_0 (Nat.le_trans made_len (by decide))) (by kernel_rfl) ?_
            intro v74 I74 w74 le74 h74 s
            replace h0 := FSl.mono le74 h0
            replace hM := FSl.mono le74 hM
            replace hN := Tx.NmT.mono le74 hN
            replace hT := Tx.U8.mono le74 hT
            replace h5_0 := FSl.mono le74 h5_0
            replace h5_1 := FSl.mono le74 h5_1
            replace h8_0 := FSl.mono le74 h8_0
            replace h8_1 := FSl.mono le74 h8_1
            replace hle16 := leMono le74 hle16
            replace hk36 := FSl.mono le74 hk36
            replace hle40 := leMono le74 hle40
            replace h63_0 := FSl.mono le74 h63_0
            replace h64_0 := FSl.mono le74 h64_0
            replace hk54 := le74 _ _ hk54
            obtain rfl := h74
            refine ops_rule (C := []) [((φ6 0), .cells #[.slice a5 (List.length (madeF L)) c5] 26), ((φ9 0), .cells #[.slice a5 (List.length (madeF L)) c5] 26)] [] 2 [] 0 (fun φ75 => [(106, .slice b5 (List.length (madeF L)) d5), (105, .slice b5 (List.length (madeF L)) d5)]) (fun φ75 => [((φ6 0), .cells #[.slice a5 (List.length (madeF L)) c5] 26), ((φ9 0), .cells #[.slice a5 (List.length (madeF L)) c5] 26)]) (fun φ75 => []) s trivial (fun φ75 => by kernel_rfl) ?_
            intro φ75 w75 s
            refine call_rule (some 107) s (sameF_c h5_1 h5_1 (Nat.le_trans made_len (by decide))) (by kernel_rfl) ?_
            intro v76 I76 w76 le76 h76 s
            replace h0 := FSl.mono le76 h0
            replace hM := FSl.mono le76 hM
            replace hN := Tx.NmT.mono le76 hN
            replace hT := Tx.U8.mono le76 hT
            replace h5_0 := FSl.mono le76 h5_0
            replace h5_1 := FSl.mono le76 h5_1
            replace h8_0 := FSl.mono le76 h8_0
            replace h8_1 := FSl.mono le76 h8_1
            replace hle16 := leMono le76 hle16
            replace hk36 := FSl.mono le76 hk36
            replace hle40 := leMono le76 hle40
            replace h63_0 := FSl.mono le76 h63_0
            replace h64_0 := FSl.mono le76 h64_0
            replace hk54 := le76 _ _ hk54
            obtain rfl := h76
            refine sem_rule (binOp .eql 4 (.bool true) (.bool true)) (some 108) (.bool true) (by kernel_rfl) (run_eqBB) ?_
            refine ops_rule (C := []) [((φ6 0), .cells #[.slice a5 (List.length (madeF L)) c5] 26), ((φ9 0), .cells #[.slice a5 (List.length (madeF L)) c5] 26)] [] 4 [.o 0, .o 0] 0 (fun φ77 => [(112, .agg #[.slice a5 (List.length (madeF L)) c5]), (111, .agg #[.slice a5 (List.length (madeF L)) c5]), (110, .bool true), (109, .bool true)]) (fun φ77 => [((φ6 0), .cells #[.slice a5 (List.length (madeF L)) c5] 26), ((φ9 0), .cells #[.slice a5 (List.length (madeF L)) c5] 26)]) (fun φ77 => [(φ6 0), (φ6 0)]) s trivial (fun φ77 => by kernel_rfl) ?_
            intro φ77 w77 s
            refine call_rule (some 113) s (sameS_c h5_0 h5_0 (Nat.le_trans made_len (by decide))) (by kernel_rfl) ?_
            intro v78 I78 w78 le78 h78 s
            replace h0 := FSl.mono le78 h0
            replace hM := FSl.mono le78 hM
            replace hN := Tx.NmT.mono le78 hN
            replace hT := Tx.U8.mono le78 hT
            replace h5_0 := FSl.mono le78 h5_0
            replace h5_1 := FSl.mono le78 h5_1
            replace h8_0 := FSl.mono le78 h8_0
            replace h8_1 := FSl.mono le78 h8_1
            replace hle16 := leMono le78 hle16
            replace hk36 := FSl.mono le78 hk36
            replace hle40 := leMono le78 hle40
            replace h63_0 := FSl.mono le78 h63_0
            replace h64_0 := FSl.mono le78 h64_0
            replace hk54 := le78 _ _ hk54
            obtain rfl := h78
            refine ops_rule (C := []) [((φ6 0), .cells #[.slice a5 (List.length (madeF L)) c5] 26), ((φ9 0), .cells #[.slice a5 (List.length (madeF L)) c5] 26)] [] 2 [] 0 (fun φ79 => [(8, .bool true), (114, .bool true)]) (fun φ79 => [((φ6 0), .cells #[.slice a5 (List.length (madeF L)) c5] 26), ((φ9 0), .cells #[.slice a5 (List.length (madeF L)) c5] 26)]) (fun φ79 => []) s trivial (fun φ79 => by kernel_rfl) ?_
            intro φ79 w79 s
            refine ops_done (by kernel_rfl) ?_
            refine wp_ret ?_
            refine ret_rule (C := []) [((φ6 0), .cells #[.slice a5 (List.length (madeF L)) c5] 26), ((φ9 0), .cells #[.slice a5 (List.length (madeF L)) c5] 26)] [] (.bool true) [] [] s trivial (by kernel_rfl) ?_
            exact ⟨_, _, _, rfl, s, rfl⟩
          ·
            rw [hc59]
            refine cond_false_rule (b := false) (by kernel_rfl) rfl ?_
            refine wp_skip ?_
            refine wp_seq ?_
            refine region_rule ?_
            refine ops_rule (C := []) [((φ6 0), .cells #[.slice a5 (List.length (madeF L)) c5] 26), ((φ9 0), .cells #[.slice a5 (List.length (madeF L)) c5] 26)] [] 2 [.o 0] 0 (fun φ80 => [(84, .int .i64 z), (83, .agg #[.slice a5 (List.length (madeF L)) c5])]) (fun φ80 => [((φ6 0), .cells #[.slice a5 (List.length (madeF L)) c5] 26), ((φ9 0), .cells #[.slice a5 (List.length (madeF L)) c5] 26)]) (fun φ80 => [(φ6 0)]) s trivial (fun φ80 => by kernel_rfl) ?_
            intro φ80 w80 s
            refine call_rule (some 85) s (ofKind_c h5_0 (Nat.le_trans made_len (by decide)) (z := z)) (by kernel_rfl) ?_
            intro v81 I81 w81 le81 h81 s
            replace h0 := FSl.mono le81 h0
            replace hM := FSl.mono le81 hM
            replace hN := Tx.NmT.mono le81 hN
            replace hT := Tx.U8.mono le81 hT
            replace h5_0 := FSl.mono le81 h5_0
            replace h5_1 := FSl.mono le81 h5_1
            replace h8_0 := FSl.mono le81 h8_0
            replace h8_1 := FSl.mono le81 h8_1
            replace hle16 := leMono le81 hle16
            replace hk36 := FSl.mono le81 hk36
            replace hle40 := leMono le81 hle40
            replace hk54 := le81 _ _ hk54
            obtain ⟨a81, c81, rfl, h81_0⟩ := h81
            refine call_rule (some 86) s (own9_c h81_0 (Nat.le_trans keep_len (Nat.le_trans made_len (by decide)))) (by kernel_rfl) ?_
            intro v82 I82 w82 le82 h82 s
            replace h0 := FSl.mono le82 h0
            replace hM := FSl.mono le82 hM
            replace hN := Tx.NmT.mono le82 hN
            replace hT := Tx.U8.mono le82 hT
            replace h5_0 := FSl.mono le82 h5_0
            replace h5_1 := FSl.mono le82 h5_1
            replace h8_0 := FSl.mono le82 h8_0
            replace h8_1 := FSl.mono le82 h8_1
            replace hle16 := leMono le82 hle16
            replace hk36 := FSl.mono le82 hk36
            replace hle40 := leMono le82 hle40
            replace h81_0 := FSl.mono le82 h81_0
            replace hk54 := le82 _ _ hk54
            obtain ⟨a82, c82, rfl, h82_0⟩ := h82
            refine ops_rule (C := []) [((φ6 0), .cells #[.slice a5 (List.length (madeF L)) c5] 26), ((φ9 0), .cells #[.slice a5 (List.length (madeF L)) c5] 26)] [] 1 [] 0 (fun φ83 => [(87, .slice a36 (List.length (keepF (qK z) (madeF L))) c36)]) (fun φ83 => [((φ6 0), .cells #[.slice a5 (List.length (madeF L)) c5] 26), ((φ9 0), .cells #[.slice a5 (List.length (madeF L)) c5] 26)]) (fun φ83 => []) s trivial (fun φ83 => by kernel_rfl) ?_
            intro φ83 w83 s
            refine call_rule (some 88) s (sameF_c h82_0 hk36 (Nat.le_trans keep_len (Nat.le_trans made_len (by decide)))) (by kernel_rfl) ?_
            intro v84 I84 w84 le84 h84 s
            replace h0 := FSl.mono le84 h0
            replace hM := FSl.mono le84 hM
            replace hN := Tx.NmT.mono le84 hN
            replace hT := Tx.U8.mono le84 hT
            replace h5_0 := FSl.mono le84 h5_0
            replace h5_1 := FSl.mono le84 h5_1
            replace h8_0 := FSl.mono le84 h8_0
            replace h8_1 := FSl.mono le84 h8_1
            replace hle16 := leMono le84 hle16
            replace hk36 := FSl.mono le84 hk36
            replace hle40 := leMono le84 hle40
            replace h81_0 := FSl.mono le84 h81_0
            replace h82_0 := FSl.mono le84 h82_0
            replace hk54 := le84 _ _ hk54
            obtain rfl := h84
            refine ops_rule (C := []) [((φ6 0), .cells #[.slice a5 (List.length (madeF L)) c5] 26), ((φ9 0), .cells #[.slice a5 (List.length (madeF L)) c5] 26)] [] 2 [.o 0] 0 (fun φ85 => [(90, .agg #[.slice a5 (List.length (madeF L)) c5]), (89, .bool true)]) (fun φ85 => [((φ6 0), .cells #[.slice a5 (List.length (madeF L)) c5] 26), ((φ9 0), .cells #[.slice a5 (List.length (madeF L)) c5] 26)]) (fun φ85 => [(φ6 0)]) s trivial (fun φ85 => by kernel_rfl) ?_
            intro φ85 w85 s
            refine call_rule (some 91) s (title_c h5_0) (by kernel_rfl) ?_
            intro v86 I86 w86 le86 h86 s
            replace h0 := FSl.mono le86 h0
            replace hM := FSl.mono le86 hM
            replace hN := Tx.NmT.mono le86 hN
            replace hT := Tx.U8.mono le86 hT
            replace h5_0 := FSl.mono le86 h5_0
            replace h5_1 := FSl.mono le86 h5_1
            replace h8_0 := FSl.mono le86 h8_0
            replace h8_1 := FSl.mono le86 h8_1
            replace hle16 := leMono le86 hle16
            replace hk36 := FSl.mono le86 hk36
            replace hle40 := leMono le86 hle40
            replace h81_0 := FSl.mono le86 h81_0
            replace h82_0 := FSl.mono le86 h82_0
            replace hk54 := le86 _ _ hk54
            obtain rfl := h86
            refine ops_rule (C := []) [((φ6 0), .cells #[.slice a5 (List.length (madeF L)) c5] 26), ((φ9 0), .cells #[.slice a5 (List.length (madeF L)) c5] 26)] [] 1 [] 0 (fun φ87 => [(92, .string ⟨(titF (madeF L)).toArray⟩)]) (fun φ87 => [((φ6 0), .cells #[.slice a5 (List.length (madeF L)) c5] 26), ((φ9 0), .cells #[.slice a5 (List.length (madeF L)) c5] 26)]) (fun φ87 => []) s trivial (fun φ87 => by kernel_rfl) ?_
            intro φ87 w87 s
            refine sem_rule (binOp .eql 9 (.string ⟨(titF (madeF L)).toArray⟩) (.string ⟨(titF (madeF L)).toArray⟩)) (some 93) (.bool true) (by kernel_rfl) ((Tx.run_eqT (x := titF (madeF L)))) ?_
            refine ops_rule (C := []) [((φ6 0), .cells #[.slice a5 (List.length (madeF L)) c5] 26), ((φ9 0), .cells #[.slice a5 (List.length (madeF L)) c5] 26)] [] 3 [] 0 (fun φ88 => [(96, .int .i64 z), (95, .bool true), (94, .bool true)]) (fun φ88 => [((φ6 0), .cells #[.slice a5 (List.length (madeF L)) c5] 26), ((φ9 0), .cells #[.slice a5 (List.length (madeF L)) c5] 26)]) (fun φ88 => []) s trivial (fun φ88 => by kernel_rfl) ?_
            intro φ88 w88 s
            refine call_rule (some 97) s (Tx.kindName_c hN (z := z)) (by kernel_rfl) ?_
            intro v89 I89 w89 le89 h89 s
            replace h0 := FSl.mono le89 h0
            replace hM := FSl.mono le89 hM
            replace hN := Tx.NmT.mono le89 hN
            replace hT := Tx.U8.mono le89 hT
            replace h5_0 := FSl.mono le89 h5_0
            replace h5_1 := FSl.mono le89 h5_1
            replace h8_0 := FSl.mono le89 h8_0
            replace h8_1 := FSl.mono le89 h8_1
            replace hle16 := leMono le89 hle16
            replace hk36 := FSl.mono le89 hk36
            replace hle40 := leMono le89 hle40
            replace h81_0 := FSl.mono le89 h81_0
            replace h82_0 := FSl.mono le89 h82_0
            replace hk54 := le89 _ _ hk54
            obtain rfl := h89
            refine ops_rule (C := []) [((φ6 0), .cells #[.slice a5 (List.length (madeF L)) c5] 26), ((φ9 0), .cells #[.slice a5 (List.length (madeF L)) c5] 26)] [] 1 [] 0 (fun φ90 => [(98, .string ⟨#[]⟩)]) (fun φ90 => [((φ6 0), .cells #[.slice a5 (List.length (madeF L)) c5] 26), ((φ9 0), .cells #[.slice a5 (List.length (madeF L)) c5] 26)]) (fun φ90 => []) s trivial (fun φ90 => by kernel_rfl) ?_
            intro φ90 w90 s
            refine sem_rule (binOp .eql 9 (.string ⟨((Tx.nmS z)).toArray⟩) (.string ⟨(([] : List UInt8)).toArray⟩)) (some 99) (.bool (decide ((Tx.nmS z) = ([] : List UInt8)))) (by kernel_rfl) (Tx.run_eqS (x := (Tx.nmS z)) (y := ([] : List UInt8))) ?_
            refine ops_rule (C := []) [((φ6 0), .cells #[.slice a5 (List.length (madeF L)) c5] 26), ((φ9 0), .cells #[.slice a5 (List.length (madeF L)) c5] 26)] [] 2 [] 0 (fun φ91 => [(101, .bool (decide ((Tx.nmS z) = ([] : List UInt8)))), (100, .bool (decide ((Tx.nmS z) = ([] : List UInt8))))]) (fun φ91 => [((φ6 0), .cells #[.slice a5 (List.length (madeF L)) c5] 26), ((φ9 0), .cells #[.slice a5 (List.length (madeF L)) c5] 26)]) (fun φ91 => []) s trivial (fun φ91 => by kernel_rfl) ?_
            intro φ91 w91 s
            rcases Bool.eq_false_or_eq_true (decide ((Tx.nmS z) = ([] : List UInt8))) with hc92 | hc92
            ·
              rw [hc92]
              refine ops_rule (C := []) [((φ6 0), .cells #[.slice a5 (List.length (madeF L)) c5] 26), ((φ9 0), .cells #[.slice a5 (List.length (madeF L)) c5] 26)] [] 2 [.o 0, .o 1] 0 (fun φ93 => [(103, .agg #[.slice a5 (List.length (madeF L)) c5]), (102, .agg #[.slice a5 (List.length (madeF L)) c5])]) (fun φ93 => [((φ6 0), .cells #[.slice a5 (List.length (madeF L)) c5] 26), ((φ9 0), .cells #[.slice a5 (List.length (madeF L)) c5] 26)]) (fun φ93 => [(φ6 0), (φ9 0)]) s trivial (fun φ93 => by kernel_rfl) ?_
              intro φ93 w93 s
              refine call_rule (some 104) s (sameS_c h5_0 h5_0 (Nat.le_trans made_len (by decide))) (by kernel_rfl) ?_
              intro v94 I94 w94 le94 h94 s
              replace h0 := FSl.mono le94 h0
              replace hM := FSl.mono le94 hM
              replace hN := Tx.NmT.mono le94 hN
              replace hT := Tx.U8.mono le94 hT
              replace h5_0 := FSl.mono le94 h5_0
              replace h5_1 := FSl.mono le94 h5_1
              replace h8_0 := FSl.mono le94 h8_0
              replace h8_1 := FSl.mono le94 h8_1
              replace hle16 := leMono le94 hle16
              replace hk36 := FSl.mono le94 hk36
              replace hle40 := leMono le94 hle40
              replace h81_0 := FSl.mono le94 h81_0
              replace h82_0 := FSl.mono le94 h82_0
              replace hk54 := le94 _ _ hk54
              obtain rfl := h94
              refine ops_rule (C := []) [((φ6 0), .cells #[.slice a5 (List.length (madeF L)) c5] 26), ((φ9 0), .cells #[.slice a5 (List.length (madeF L)) c5] 26)] [] 2 [] 0 (fun φ95 => [(106, .slice b5 (List.length (madeF L)) d5), (105, .slice b5 (List.length (madeF L)) d5)]) (fun φ95 => [((φ6 0), .cells #[.slice a5 (List.length (madeF L)) c5] 26), ((φ9 0), .cells #[.slice a5 (List.length (madeF L)) c5] 26)]) (fun φ95 => []) s trivial (fun φ95 => by kernel_rfl) ?_
              intro φ95 w95 s
              refine call_rule (some 107) s (sameF_c h5_1 h5_1 (Nat.le_trans made_len (by decide))) (by kernel_rfl) ?_
              intro v96 I96 w96 le96 h96 s
              replace h0 := FSl.mono le96 h0
              replace hM := FSl.mono le96 hM
              replace hN := Tx.NmT.mono le96 hN
              replace hT := Tx.U8.mono le96 hT
              replace h5_0 := FSl.mono le96 h5_0
              replace h5_1 := FSl.mono le96 h5_1
              replace h8_0 := FSl.mono le96 h8_0
              replace h8_1 := FSl.mono le96 h8_1
              replace hle16 := leMono le96 hle16
              replace hk36 := FSl.mono le96 hk36
              replace hle40 := leMono le96 hle40
              replace h81_0 := FSl.mono le96 h81_0
              replace h82_0 := FSl.mono le96 h82_0
              replace hk54 := le96 _ _ hk54
              obtain rfl := h96
              refine sem_rule (binOp .eql 4 (.bool true) (.bool true)) (some 108) (.bool true) (by kernel_rfl) (run_eqBB) ?_
              refine ops_rule (C := []) [((φ6 0), .cells #[.slice a5 (List.length (madeF L)) c5] 26), ((φ9 0), .cells #[.slice a5 (List.length (madeF L)) c5] 26)] [] 4 [.o 0, .o 0] 0 (fun φ97 => [(112, .agg #[.slice a5 (List.length (madeF L)) c5]), (111, .agg #[.slice a5 (List.length (madeF L)) c5]), (110, .bool true), (109, .bool true)]) (fun φ97 => [((φ6 0), .cells #[.slice a5 (List.length (madeF L)) c5] 26), ((φ9 0), .cells #[.slice a5 (List.length (madeF L)) c5] 26)]) (fun φ97 => [(φ6 0), (φ6 0)]) s trivial (fun φ97 => by kernel_rfl) ?_
              intro φ97 w97 s
              refine call_rule (some 113) s (sameS_c h5_0 h5_0 (Nat.le_trans made_len (by decide))) (by kernel_rfl) ?_
              intro v98 I98 w98 le98 h98 s
              replace h0 := FSl.mono le98 h0
              replace hM := FSl.mono le98 hM
              replace hN := Tx.NmT.mono le98 hN
              replace hT := Tx.U8.mono le98 hT
              replace h5_0 := FSl.mono le98 h5_0
              replace h5_1 := FSl.mono le98 h5_1
              replace h8_0 := FSl.mono le98 h8_0
              replace h8_1 := FSl.mono le98 h8_1
              replace hle16 := leMono le98 hle16
              replace hk36 := FSl.mono le98 hk36
              replace hle40 := leMono le98 hle40
              replace h81_0 := FSl.mono le98 h81_0
              replace h82_0 := FSl.mono le98 h82_0
              replace hk54 := le98 _ _ hk54
              obtain rfl := h98
              refine ops_rule (C := []) [((φ6 0), .cells #[.slice a5 (List.length (madeF L)) c5] 26), ((φ9 0), .cells #[.slice a5 (List.length (madeF L)) c5] 26)] [] 2 [] 0 (fun φ99 => [(8, .bool true), (114, .bool true)]) (fun φ99 => [((φ6 0), .cells #[.slice a5 (List.length (madeF L)) c5] 26), ((φ9 0), .cells #[.slice a5 (List.length (madeF L)) c5] 26)]) (fun φ99 => []) s trivial (fun φ99 => by kernel_rfl) ?_
              intro φ99 w99 s
              refine ops_done (by kernel_rfl) ?_
              refine wp_ret ?_
              refine ret_rule (C := []) [((φ6 0), .cells #[.slice a5 (List.length (madeF L)) c5] 26), ((φ9 0), .cells #[.slice a5 (List.length (madeF L)) c5] 26)] [] (.bool true) [] [] s trivial (by kernel_rfl) ?_
              exact ⟨_, _, _, rfl, s, rfl⟩
            ·
              exact absurd (Tx.nm_nil.2 (by have hq1 := of_decide_eq_false hc19; have hq2 := of_decide_eq_false hc43; have hq3 := of_decide_eq_true hc57; have hq4 := of_decide_eq_false hc59; omega)) (of_decide_eq_false hc92)
        ·
          rw [hc57]
          refine ops_rule (C := []) [((φ6 0), .cells #[.slice a5 (List.length (madeF L)) c5] 26), ((φ9 0), .cells #[.slice a5 (List.length (madeF L)) c5] 26)] [] 3 [] 0 (fun φ100 => [(78, .bool false), (77, undef), (76, undef)]) (fun φ100 => [((φ6 0), .cells #[.slice a5 (List.length (madeF L)) c5] 26), ((φ9 0), .cells #[.slice a5 (List.length (madeF L)) c5] 26)]) (fun φ100 => []) s trivial (fun φ100 => by kernel_rfl) ?_
          intro φ100 w100 s
          refine ops_done (by kernel_rfl) ?_
          refine cond_false_rule (b := false) (by kernel_rfl) rfl ?_
          refine wp_skip ?_
          refine wp_seq ?_
          refine region_rule ?_
          refine ops_rule (C := []) [((φ6 0), .cells #[.slice a5 (List.length (madeF L)) c5] 26), ((φ9 0), .cells #[.slice a5 (List.length (madeF L)) c5] 26)] [] 2 [.o 0] 0 (fun φ101 => [(84, .int .i64 z), (83, .agg #[.slice a5 (List.length (madeF L)) c5])]) (fun φ101 => [((φ6 0), .cells #[.slice a5 (List.length (madeF L)) c5] 26), ((φ9 0), .cells #[.slice a5 (List.length (madeF L)) c5] 26)]) (fun φ101 => [(φ6 0)]) s trivial (fun φ101 => by kernel_rfl) ?_
          intro φ101 w101 s
          refine call_rule (some 85) s (ofKind_c h5_0 (Nat.le_trans made_len (by decide)) (z := z)) (by kernel_rfl) ?_
          intro v102 I102 w102 le102 h102 s
          replace h0 := FSl.mono le102 h0
          replace hM := FSl.mono le102 hM
          replace hN := Tx.NmT.mono le102 hN
          replace hT := Tx.U8.mono le102 hT
          replace h5_0 := FSl.mono le102 h5_0
          replace h5_1 := FSl.mono le102 h5_1
          replace h8_0 := FSl.mono le102 h8_0
          replace h8_1 := FSl.mono le102 h8_1
          replace hle16 := leMono le102 hle16
          replace hk36 := FSl.mono le102 hk36
          replace hle40 := leMono le102 hle40
          replace hk54 := le102 _ _ hk54
          obtain ⟨a102, c102, rfl, h102_0⟩ := h102
          refine call_rule (some 86) s (own9_c h102_0 (Nat.le_trans keep_len (Nat.le_trans made_len (by decide)))) (by kernel_rfl) ?_
          intro v103 I103 w103 le103 h103 s
          replace h0 := FSl.mono le103 h0
          replace hM := FSl.mono le103 hM
          replace hN := Tx.NmT.mono le103 hN
          replace hT := Tx.U8.mono le103 hT
          replace h5_0 := FSl.mono le103 h5_0
          replace h5_1 := FSl.mono le103 h5_1
          replace h8_0 := FSl.mono le103 h8_0
          replace h8_1 := FSl.mono le103 h8_1
          replace hle16 := leMono le103 hle16
          replace hk36 := FSl.mono le103 hk36
          replace hle40 := leMono le103 hle40
          replace h102_0 := FSl.mono le103 h102_0
          replace hk54 := le103 _ _ hk54
          obtain ⟨a103, c103, rfl, h103_0⟩ := h103
          refine ops_rule (C := []) [((φ6 0), .cells #[.slice a5 (List.length (madeF L)) c5] 26), ((φ9 0), .cells #[.slice a5 (List.length (madeF L)) c5] 26)] [] 1 [] 0 (fun φ104 => [(87, .slice a36 (List.length (keepF (qK z) (madeF L))) c36)]) (fun φ104 => [((φ6 0), .cells #[.slice a5 (List.length (madeF L)) c5] 26), ((φ9 0), .cells #[.slice a5 (List.length (madeF L)) c5] 26)]) (fun φ104 => []) s trivial (fun φ104 => by kernel_rfl) ?_
          intro φ104 w104 s
          refine call_rule (some 88) s (sameF_c h103_0 hk36 (Nat.le_trans keep_len (Nat.le_trans made_len (by decide)))) (by kernel_rfl) ?_
          intro v105 I105 w105 le105 h105 s
          replace h0 := FSl.mono le105 h0
          replace hM := FSl.mono le105 hM
          replace hN := Tx.NmT.mono le105 hN
          replace hT := Tx.U8.mono le105 hT
          replace h5_0 := FSl.mono le105 h5_0
          replace h5_1 := FSl.mono le105 h5_1
          replace h8_0 := FSl.mono le105 h8_0
          replace h8_1 := FSl.mono le105 h8_1
          replace hle16 := leMono le105 hle16
          replace hk36 := FSl.mono le105 hk36
          replace hle40 := leMono le105 hle40
          replace h102_0 := FSl.mono le105 h102_0
          replace h103_0 := FSl.mono le105 h103_0
          replace hk54 := le105 _ _ hk54
          obtain rfl := h105
          refine ops_rule (C := []) [((φ6 0), .cells #[.slice a5 (List.length (madeF L)) c5] 26), ((φ9 0), .cells #[.slice a5 (List.length (madeF L)) c5] 26)] [] 2 [.o 0] 0 (fun φ106 => [(90, .agg #[.slice a5 (List.length (madeF L)) c5]), (89, .bool true)]) (fun φ106 => [((φ6 0), .cells #[.slice a5 (List.length (madeF L)) c5] 26), ((φ9 0), .cells #[.slice a5 (List.length (madeF L)) c5] 26)]) (fun φ106 => [(φ6 0)]) s trivial (fun φ106 => by kernel_rfl) ?_
          intro φ106 w106 s
          refine call_rule (some 91) s (title_c h5_0) (by kernel_rfl) ?_
          intro v107 I107 w107 le107 h107 s
          replace h0 := FSl.mono le107 h0
          replace hM := FSl.mono le107 hM
          replace hN := Tx.NmT.mono le107 hN
          replace hT := Tx.U8.mono le107 hT
          replace h5_0 := FSl.mono le107 h5_0
          replace h5_1 := FSl.mono le107 h5_1
          replace h8_0 := FSl.mono le107 h8_0
          replace h8_1 := FSl.mono le107 h8_1
          replace hle16 := leMono le107 hle16
          replace hk36 := FSl.mono le107 hk36
          replace hle40 := leMono le107 hle40
          replace h102_0 := FSl.mono le107 h102_0
          replace h103_0 := FSl.mono le107 h103_0
          replace hk54 := le107 _ _ hk54
          obtain rfl := h107
          refine ops_rule (C := []) [((φ6 0), .cells #[.slice a5 (List.length (madeF L)) c5] 26), ((φ9 0), .cells #[.slice a5 (List.length (madeF L)) c5] 26)] [] 1 [] 0 (fun φ108 => [(92, .string ⟨(titF (madeF L)).toArray⟩)]) (fun φ108 => [((φ6 0), .cells #[.slice a5 (List.length (madeF L)) c5] 26), ((φ9 0), .cells #[.slice a5 (List.length (madeF L)) c5] 26)]) (fun φ108 => []) s trivial (fun φ108 => by kernel_rfl) ?_
          intro φ108 w108 s
          refine sem_rule (binOp .eql 9 (.string ⟨(titF (madeF L)).toArray⟩) (.string ⟨(titF (madeF L)).toArray⟩)) (some 93) (.bool true) (by kernel_rfl) ((Tx.run_eqT (x := titF (madeF L)))) ?_
          refine ops_rule (C := []) [((φ6 0), .cells #[.slice a5 (List.length (madeF L)) c5] 26), ((φ9 0), .cells #[.slice a5 (List.length (madeF L)) c5] 26)] [] 3 [] 0 (fun φ109 => [(96, .int .i64 z), (95, .bool true), (94, .bool true)]) (fun φ109 => [((φ6 0), .cells #[.slice a5 (List.length (madeF L)) c5] 26), ((φ9 0), .cells #[.slice a5 (List.length (madeF L)) c5] 26)]) (fun φ109 => []) s trivial (fun φ109 => by kernel_rfl) ?_
          intro φ109 w109 s
          refine call_rule (some 97) s (Tx.kindName_c hN (z := z)) (by kernel_rfl) ?_
          intro v110 I110 w110 le110 h110 s
          replace h0 := FSl.mono le110 h0
          replace hM := FSl.mono le110 hM
          replace hN := Tx.NmT.mono le110 hN
          replace hT := Tx.U8.mono le110 hT
          replace h5_0 := FSl.mono le110 h5_0
          replace h5_1 := FSl.mono le110 h5_1
          replace h8_0 := FSl.mono le110 h8_0
          replace h8_1 := FSl.mono le110 h8_1
          replace hle16 := leMono le110 hle16
          replace hk36 := FSl.mono le110 hk36
          replace hle40 := leMono le110 hle40
          replace h102_0 := FSl.mono le110 h102_0
          replace h103_0 := FSl.mono le110 h103_0
          replace hk54 := le110 _ _ hk54
          obtain rfl := h110
          refine ops_rule (C := []) [((φ6 0), .cells #[.slice a5 (List.length (madeF L)) c5] 26), ((φ9 0), .cells #[.slice a5 (List.length (madeF L)) c5] 26)] [] 1 [] 0 (fun φ111 => [(98, .string ⟨#[]⟩)]) (fun φ111 => [((φ6 0), .cells #[.slice a5 (List.length (madeF L)) c5] 26), ((φ9 0), .cells #[.slice a5 (List.length (madeF L)) c5] 26)]) (fun φ111 => []) s trivial (fun φ111 => by kernel_rfl) ?_
          intro φ111 w111 s
          refine sem_rule (binOp .eql 9 (.string ⟨((Tx.nmS z)).toArray⟩) (.string ⟨(([] : List UInt8)).toArray⟩)) (some 99) (.bool (decide ((Tx.nmS z) = ([] : List UInt8)))) (by kernel_rfl) (Tx.run_eqS (x := (Tx.nmS z)) (y := ([] : List UInt8))) ?_
          refine ops_rule (C := []) [((φ6 0), .cells #[.slice a5 (List.length (madeF L)) c5] 26), ((φ9 0), .cells #[.slice a5 (List.length (madeF L)) c5] 26)] [] 2 [] 0 (fun φ112 => [(101, .bool (decide ((Tx.nmS z) = ([] : List UInt8)))), (100, .bool (decide ((Tx.nmS z) = ([] : List UInt8))))]) (fun φ112 => [((φ6 0), .cells #[.slice a5 (List.length (madeF L)) c5] 26), ((φ9 0), .cells #[.slice a5 (List.length (madeF L)) c5] 26)]) (fun φ112 => []) s trivial (fun φ112 => by kernel_rfl) ?_
          intro φ112 w112 s
          rcases Bool.eq_false_or_eq_true (decide ((Tx.nmS z) = ([] : List UInt8))) with hc113 | hc113
          ·
            rw [hc113]
            refine ops_rule (C := []) [((φ6 0), .cells #[.slice a5 (List.length (madeF L)) c5] 26), ((φ9 0), .cells #[.slice a5 (List.length (madeF L)) c5] 26)] [] 2 [.o 0, .o 1] 0 (fun φ114 => [(103, .agg #[.slice a5 (List.length (madeF L)) c5]), (102, .agg #[.slice a5 (List.length (madeF L)) c5])]) (fun φ114 => [((φ6 0), .cells #[.slice a5 (List.length (madeF L)) c5] 26), ((φ9 0), .cells #[.slice a5 (List.length (madeF L)) c5] 26)]) (fun φ114 => [(φ6 0), (φ9 0)]) s trivial (fun φ114 => by kernel_rfl) ?_
            intro φ114 w114 s
            refine call_rule (some 104) s (sameS_c h5_0 h5_0 (Nat.le_trans made_len (by decide))) (by kernel_rfl) ?_
            intro v115 I115 w115 le115 h115 s
            replace h0 := FSl.mono le115 h0
            replace hM := FSl.mono le115 hM
            replace hN := Tx.NmT.mono le115 hN
            replace hT := Tx.U8.mono le115 hT
            replace h5_0 := FSl.mono le115 h5_0
            replace h5_1 := FSl.mono le115 h5_1
            replace h8_0 := FSl.mono le115 h8_0
            replace h8_1 := FSl.mono le115 h8_1
            replace hle16 := leMono le115 hle16
            replace hk36 := FSl.mono le115 hk36
            replace hle40 := leMono le115 hle40
            replace h102_0 := FSl.mono le115 h102_0
            replace h103_0 := FSl.mono le115 h103_0
            replace hk54 := le115 _ _ hk54
            obtain rfl := h115
            refine ops_rule (C := []) [((φ6 0), .cells #[.slice a5 (List.length (madeF L)) c5] 26), ((φ9 0), .cells #[.slice a5 (List.length (madeF L)) c5] 26)] [] 2 [] 0 (fun φ116 => [(106, .slice b5 (List.length (madeF L)) d5), (105, .slice b5 (List.length (madeF L)) d5)]) (fun φ116 => [((φ6 0), .cells #[.slice a5 (List.length (madeF L)) c5] 26), ((φ9 0), .cells #[.slice a5 (List.length (madeF L)) c5] 26)]) (fun φ116 => []) s trivial (fun φ116 => by kernel_rfl) ?_
            intro φ116 w116 s
            refine call_rule (some 107) s (sameF_c h5_1 h5_1 (Nat.le_trans made_len (by decide))) (by kernel_rfl) ?_
            intro v117 I117 w117 le117 h117 s
            replace h0 := FSl.mono le117 h0
            replace hM := FSl.mono le117 hM
            replace hN := Tx.NmT.mono le117 hN
            replace hT := Tx.U8.mono le117 hT
            replace h5_0 := FSl.mono le117 h5_0
            replace h5_1 := FSl.mono le117 h5_1
            replace h8_0 := FSl.mono le117 h8_0
            replace h8_1 := FSl.mono le117 h8_1
            replace hle16 := leMono le117 hle16
            replace hk36 := FSl.mono le117 hk36
            replace hle40 := leMono le117 hle40
            replace h102_0 := FSl.mono le117 h102_0
            replace h103_0 := FSl.mono le117 h103_0
            replace hk54 := le117 _ _ hk54
            obtain rfl := h117
            refine sem_rule (binOp .eql 4 (.bool true) (.bool true)) (some 108) (.bool true) (by kernel_rfl) (run_eqBB) ?_
            refine ops_rule (C := []) [((φ6 0), .cells #[.slice a5 (List.length (madeF L)) c5] 26), ((φ9 0), .cells #[.slice a5 (List.length (madeF L)) c5] 26)] [] 4 [.o 0, .o 0] 0 (fun φ118 => [(112, .agg #[.slice a5 (List.length (madeF L)) c5]), (111, .agg #[.slice a5 (List.length (madeF L)) c5]), (110, .bool true), (109, .bool true)]) (fun φ118 => [((φ6 0), .cells #[.slice a5 (List.length (madeF L)) c5] 26), ((φ9 0), .cells #[.slice a5 (List.length (madeF L)) c5] 26)]) (fun φ118 => [(φ6 0), (φ6 0)]) s trivial (fun φ118 => by kernel_rfl) ?_
            intro φ118 w118 s
            refine call_rule (some 113) s (sameS_c h5_0 h5_0 (Nat.le_trans made_len (by decide))) (by kernel_rfl) ?_
            intro v119 I119 w119 le119 h119 s
            replace h0 := FSl.mono le119 h0
            replace hM := FSl.mono le119 hM
            replace hN := Tx.NmT.mono le119 hN
            replace hT := Tx.U8.mono le119 hT
            replace h5_0 := FSl.mono le119 h5_0
            replace h5_1 := FSl.mono le119 h5_1
            replace h8_0 := FSl.mono le119 h8_0
            replace h8_1 := FSl.mono le119 h8_1
            replace hle16 := leMono le119 hle16
            replace hk36 := FSl.mono le119 hk36
            replace hle40 := leMono le119 hle40
            replace h102_0 := FSl.mono le119 h102_0
            replace h103_0 := FSl.mono le119 h103_0
            replace hk54 := le119 _ _ hk54
            obtain rfl := h119
            refine ops_rule (C := []) [((φ6 0), .cells #[.slice a5 (List.length (madeF L)) c5] 26), ((φ9 0), .cells #[.slice a5 (List.length (madeF L)) c5] 26)] [] 2 [] 0 (fun φ120 => [(8, .bool true), (114, .bool true)]) (fun φ120 => [((φ6 0), .cells #[.slice a5 (List.length (madeF L)) c5] 26), ((φ9 0), .cells #[.slice a5 (List.length (madeF L)) c5] 26)]) (fun φ120 => []) s trivial (fun φ120 => by kernel_rfl) ?_
            intro φ120 w120 s
            refine ops_done (by kernel_rfl) ?_
            refine wp_ret ?_
            refine ret_rule (C := []) [((φ6 0), .cells #[.slice a5 (List.length (madeF L)) c5] 26), ((φ9 0), .cells #[.slice a5 (List.length (madeF L)) c5] 26)] [] (.bool true) [] [] s trivial (by kernel_rfl) ?_
            exact ⟨_, _, _, rfl, s, rfl⟩
          ·
            exact absurd (Tx.nm_nil.2 (by have hq1 := of_decide_eq_false hc19; have hq2 := of_decide_eq_false hc43; have hq3 := of_decide_eq_false hc57; omega)) (of_decide_eq_false hc113)
  ·
    rw [hc11]
    refine cond_false_rule (b := false) (by kernel_rfl) rfl ?_
    refine wp_skip ?_
    refine wp_seq ?_
    refine region_rule ?_
    refine ops_rule (C := []) [((φ6 0), .cells #[.slice a5 (List.length (madeF L)) c5] 26), ((φ9 0), .cells #[.slice a8 (List.length (madeF M)) c8] 26)] [] 1 [] 0 (fun φ121 => [(13, .slice none 0 0)]) (fun φ121 => [((φ6 0), .cells #[.slice a5 (List.length (madeF L)) c5] 26), ((φ9 0), .cells #[.slice a8 (List.length (madeF M)) c8] 26)]) (fun φ121 => []) s trivial (fun φ121 => by kernel_rfl) ?_
    intro φ121 w121 s
    refine ops_done (by kernel_rfl) ?_
    refine wp_seq ?_
    refine region_rule ?_
    refine ops_rule (C := []) [((φ6 0), .cells #[.slice a5 (List.length (madeF L)) c5] 26), ((φ9 0), .cells #[.slice a8 (List.length (madeF M)) c8] 26)] [] 1 [] 0 (fun φ122 => [(14, .string ⟨#[]⟩)]) (fun φ122 => [((φ6 0), .cells #[.slice a5 (List.length (madeF L)) c5] 26), ((φ9 0), .cells #[.slice a8 (List.length (madeF M)) c8] 26)]) (fun φ122 => []) s trivial (fun φ122 => by kernel_rfl) ?_
    intro φ122 w122 s
    refine ops_done (by kernel_rfl) ?_
    refine wp_seq ?_
    refine wp_seq ?_
    refine region_rule ?_
    refine ops_rule (C := []) [((φ6 0), .cells #[.slice a5 (List.length (madeF L)) c5] 26), ((φ9 0), .cells #[.slice a8 (List.length (madeF M)) c8] 26)] [] 3 [] 0 (fun φ123 => [(37, .int .i64 0), (36, .int .i64 (((List.length (madeF L)) : Nat) : Int)), (35, .slice b5 (List.length (madeF L)) d5)]) (fun φ123 => [((φ6 0), .cells #[.slice a5 (List.length (madeF L)) c5] 26), ((φ9 0), .cells #[.slice a8 (List.length (madeF M)) c8] 26)]) (fun φ123 => []) s trivial (fun φ123 => by kernel_rfl) ?_
    intro φ123 w123 s
    refine ops_done (by kernel_rfl) ?_
    refine wp_block ?_
    have hle124 := IM.Le.refl I8
    refine loop_rule (fun (x : Nat × List UInt8 × Value × List OB) => [(2, .int .i64 z), (8, .bool false), (9, .pointer (some ⟨(φ6 0), 0, none⟩)), (10, .slice b5 (List.length (madeF L)) d5), (11, .pointer (some ⟨(φ9 0), 0, none⟩)), (12, .slice b8 (List.length (madeF M)) d8), (35, .slice b5 (List.length (madeF L)) d5), (36, .int .i64 (((List.length (madeF L)) : Nat) : Int)), (37, .int .i64 ((x.1 : Nat) : Int)), (14, .string ⟨(x.2.1).toArray⟩), (13, x.2.2.1)]) (fun (x : Nat × List UInt8 × Value × List OB) => [((φ6 0), .cells #[.slice a5 (List.length (madeF L)) c5] 26), ((φ9 0), .cells #[.slice a8 (List.length (madeF M)) c8] 26)] ++ x.2.2.2) (fun m (x : Nat × List UInt8 × Value × List OB) J => IM.Le I8 J ∧ x.1 + m = (madeF L).length ∧ RowH 42 3 x.2.2.1 (List.length (keepF (qK z) ((madeF L).take x.1))) (fcs (keepF (qK z) ((madeF L).take x.1))) x.2.2.2 ∧ x.2.1 = titAt (madeF L) x.1) ((madeF L).length) (0, [], (.slice none 0 0), []) s (by kernel_rfl) (List.Sublist.refl _) ⟨IM.Le.refl _, Nat.zero_add _, (RowH.nil 42 3), rfl⟩ ?_
    rintro m125 ⟨i125, T125, v125, F125⟩ I125 w125 ev125 s ⟨le125, hi125_0, hi125_1, hi125_2⟩
    try dsimp only at s hi125_0 hi125_1 hi125_2 ⊢
    replace h0 := FSl.mono le125 h0
    replace hM := FSl.mono le125 hM
    replace hN := Tx.NmT.mono le125 hN
    replace hT := Tx.U8.mono le125 hT
    replace h5_0 := FSl.mono le125 h5_0
    replace h5_1 := FSl.mono le125 h5_1
    replace h8_0 := FSl.mono le125 h8_0
    replace h8_1 := FSl.mono le125 h8_1
    replace hle124 := leMono le125 hle124
    refine wp_seq ?_
    refine region_rule ?_
    refine ops_rule (C := []) [((φ6 0), .cells #[.slice a5 (List.length (madeF L)) c5] 26), ((φ9 0), .cells #[.slice a8 (List.length (madeF M)) c8] 26)] F125 1 [] 0 (fun φ126 => [(38, .bool (decide (((i125 : Nat) : Int) < (((List.length (madeF L)) : Nat) : Int))))]) (fun φ126 => [((φ6 0), .cells #[.slice a5 (List.length (madeF L)) c5] 26), ((φ9 0), .cells #[.slice a8 (List.length (madeF M)) c8] 26)]) (fun φ126 => []) s trivial (fun φ126 => by kernel_rfl) ?_
    intro φ126 w126 s
    rw [nat_lss (a := i125) (b := (List.length (madeF L)))]
    refine ops_done (by kernel_rfl) ?_
    refine wp_seq ?_
    rcases Bool.eq_false_or_eq_true (decide (i125 < (List.length (madeF L)))) with hc127 | hc127
    ·
      rw [hc127]
      refine cond_true_rule (b := true) (by kernel_rfl) rfl ?_
      refine wp_skip ?_
      refine wp_seq ?_
      refine wp_block ?_
      refine wp_seq ?_
      refine region_rule ?_
      refine sem_rule (Instr.indexAt 30 (.slice b5 (List.length (madeF L)) d5) (.int .i64 ((i125 : Nat) : Int))) (some 39) (.pointer (pAt b5 (i125 * 3))) (by kernel_rfl) (fsl_idx30 h5_1 (by have e8 := hi125_0; have e7 := made_len (L := L); have hq1 := of_decide_eq_true hc127; omega)) ?_
      refine sem_rule (Instr.loadAt 42 (.pointer (pAt b5 (i125 * 3)))) (some 40) (.agg #[.int .i64 ((List.getD (madeF L) i125 Fe.z).k), .string ⟨((List.getD (madeF L) i125 Fe.z).a).toArray⟩, .string ⟨((List.getD (madeF L) i125 Fe.z).v).toArray⟩]) (by kernel_rfl) (fsl_ld42 s.sub h5_1 (by have e8 := hi125_0; have e7 := made_len (L := L); have hq1 := of_decide_eq_true hc127; omega)) ?_
      refine ops_rule (C := []) [((φ6 0), .cells #[.slice a5 (List.length (madeF L)) c5] 26), ((φ9 0), .cells #[.slice a8 (List.length (madeF M)) c8] 26)] F125 2 [.o 2, .o 2, .o 2] 1 (fun φ128 => [(16, .pointer (some ⟨(φ128 0), 0, none⟩))]) (fun φ128 => [((φ6 0), .cells #[.slice a5 (List.length (madeF L)) c5] 26), ((φ9 0), .cells #[.slice a8 (List.length (madeF M)) c8] 26), ((φ128 0), .cells #[.int .i64 ((List.getD (madeF L) i125 Fe.z).k), .string ⟨((List.getD (madeF L) i125 Fe.z).a).toArray⟩, .string ⟨((List.getD (madeF L) i125 Fe.z).v).toArray⟩] 42)]) (fun φ128 => [(φ128 0), (φ128 0), (φ128 0)]) s trivial (fun φ128 => by kernel_rfl) ?_
      intro φ128 w128 s
      refine ops_done (by kernel_rfl) ?_
      refine wp_seq ?_
      refine wp_seq ?_
      refine region_rule ?_
      refine ops_rule (C := []) [((φ6 0), .cells #[.slice a5 (List.length (madeF L)) c5] 26), ((φ9 0), .cells #[.slice a8 (List.length (madeF M)) c8] 26), ((φ128 0), .cells #[.int .i64 ((List.getD (madeF L) i125 Fe.z).k), .string ⟨((List.getD (madeF L) i125 Fe.z).a).toArray⟩, .string ⟨((List.getD (madeF L) i125 Fe.z).v).toArray⟩] 42)] F125 3 [.o 2] 0 (fun φ129 => [(43, .int .i64 z), (42, .int .i64 ((List.getD (madeF L) i125 Fe.z).k)), (41, .pointer (some ⟨(φ128 0), 0, none⟩))]) (fun φ129 => [((φ6 0), .cells #[.slice a5 (List.length (madeF L)) c5] 26), ((φ9 0), .cells #[.slice a8 (List.length (madeF M)) c8] 26), ((φ128 0), .cells #[.int .i64 ((List.getD (madeF L) i125 Fe.z).k), .string ⟨((List.getD (madeF L) i125 Fe.z).a).toArray⟩, .string ⟨((List.getD (madeF L) i125 Fe.z).v).toArray⟩] 42)]) (fun φ129 => [(φ128 0)]) s trivial (fun φ129 => by kernel_rfl) ?_
      intro φ129 w129 s
      refine sem_rule (binOp .eql 3 (.int .i64 ((List.getD (madeF L) i125 Fe.z).k)) (.int .i64 z)) (some 44) (.bool (decide ((List.getD (madeF L) i125 Fe.z).k = z))) (by kernel_rfl) ((run_eqZ (a := (List.getD (madeF L) i125 Fe.z).k) (b := z))) ?_
      refine ops_done (by kernel_rfl) ?_
      rcases Bool.eq_false_or_eq_true (decide ((List.getD (madeF L) i125 Fe.z).k = z)) with hc130 | hc130
      ·
        rw [hc130]
        refine cond_true_rule (b := true) (by kernel_rfl) rfl ?_
        refine region_rule ?_
        refine ops_rule (C := []) [((φ6 0), .cells #[.slice a5 (List.length (madeF L)) c5] 26), ((φ9 0), .cells #[.slice a8 (List.length (madeF M)) c8] 26), ((φ128 0), .cells #[.int .i64 ((List.getD (madeF L) i125 Fe.z).k), .string ⟨((List.getD (madeF L) i125 Fe.z).a).toArray⟩, .string ⟨((List.getD (madeF L) i125 Fe.z).v).toArray⟩] 42)] F125 3 [.o 2, .o 2, .o 2] 1 (fun φ131 => [(47, .slice (some ⟨(φ131 0), 0, none⟩) 1 1), (46, .agg #[.int .i64 ((List.getD (madeF L) i125 Fe.z).k), .string ⟨((List.getD (madeF L) i125 Fe.z).a).toArray⟩, .string ⟨((List.getD (madeF L) i125 Fe.z).v).toArray⟩]), (45, v125)]) (fun φ131 => [((φ6 0), .cells #[.slice a5 (List.length (madeF L)) c5] 26), ((φ9 0), .cells #[.slice a8 (List.length (madeF M)) c8] 26), ((φ128 0), .cells #[.int .i64 ((List.getD (madeF L) i125 Fe.z).k), .string ⟨((List.getD (madeF L) i125 Fe.z).a).toArray⟩, .string ⟨((List.getD (madeF L) i125 Fe.z).v).toArray⟩] 42), ((φ131 0), .cells #[.int .i64 ((List.getD (madeF L) i125 Fe.z).k), .string ⟨((List.getD (madeF L) i125 Fe.z).a).toArray⟩, .string ⟨((List.getD (madeF L) i125 Fe.z).v).toArray⟩] 42)]) (fun φ131 => [(φ128 0), (φ128 0), (φ128 0)]) s trivial (fun φ131 => by kernel_rfl) ?_
        intro φ131 w131 s
        have hb132 : (List.length (keepF (qK z) ((madeF L).take i125))) ≤ 100000 := (Nat.le_trans keep_takelen (Nat.le_trans made_len (by decide)))
        refine append_rule (H := [((φ6 0), .cells #[.slice a5 (List.length (madeF L)) c5] 26), ((φ9 0), .cells #[.slice a8 (List.length (madeF M)) c8] 26), ((φ128 0), .cells #[.int .i64 ((List.getD (madeF L) i125 Fe.z).k), .string ⟨((List.getD (madeF L) i125 Fe.z).a).toArray⟩, .string ⟨((List.getD (madeF L) i125 Fe.z).v).toArray⟩] 42), ((φ131 0), .cells #[.int .i64 ((List.getD (madeF L) i125 Fe.z).k), .string ⟨((List.getD (madeF L) i125 Fe.z).a).toArray⟩, .string ⟨((List.getD (madeF L) i125 Fe.z).v).toArray⟩] 42)]) (F := F125) 30 30 42 Tryd.t42 (.agg #[.int .i64 0, .string ⟨#[]⟩, .string ⟨#[]⟩]) 3 40 (some 48) s Tryd.underlying30 (by kernel_rfl) (by kernel_rfl) (by kernel_rfl) (by kernel_rfl) (by kernel_rfl) (by decide) hi125_1 (src_own s 3 (φ131 0) #[.int .i64 ((List.getD (madeF L) i125 Fe.z).k), .string ⟨((List.getD (madeF L) i125 Fe.z).a).toArray⟩, .string ⟨((List.getD (madeF L) i125 Fe.z).v).toArray⟩] 42 30 42 1 1 3 [.int .i64 ((List.getD (madeF L) i125 Fe.z).k), .string ⟨((List.getD (madeF L) i125 Fe.z).a).toArray⟩, .string ⟨((List.getD (madeF L) i125 Fe.z).v).toArray⟩] (by kernel_rfl) Tryd.underlying30 (by kernel_rfl) (by kernel_rfl) (by kernel_rfl)) (by simp only [maxLen]; omega) (by omega) (by kernel_rfl) ?_
        intro v132 w132 F132 s h132
        replace h132 : RowH 42 3 v132 (List.length ((keepF (qK z) ((madeF L).take i125)) ++ [(List.getD (madeF L) i125 Fe.z)])) (fcs ((keepF (qK z) ((madeF L).take i125)) ++ [(List.getD (madeF L) i125 Fe.z)])) F132 := row42_snoc (Fs := (keepF (qK z) ((madeF L).take i125))) (x := (List.getD (madeF L) i125 Fe.z)) h132 rfl
        refine ops_rule (C := []) [((φ6 0), .cells #[.slice a5 (List.length (madeF L)) c5] 26), ((φ9 0), .cells #[.slice a8 (List.length (madeF M)) c8] 26), ((φ128 0), .cells #[.int .i64 ((List.getD (madeF L) i125 Fe.z).k), .string ⟨((List.getD (madeF L) i125 Fe.z).a).toArray⟩, .string ⟨((List.getD (madeF L) i125 Fe.z).v).toArray⟩] 42), ((φ131 0), .cells #[.int .i64 ((List.getD (madeF L) i125 Fe.z).k), .string ⟨((List.getD (madeF L) i125 Fe.z).a).toArray⟩, .string ⟨((List.getD (madeF L) i125 Fe.z).v).toArray⟩] 42)] F132 1 [] 0 (fun φ133 => [(13, v132)]) (fun φ133 => [((φ6 0), .cells #[.slice a5 (List.length (madeF L)) c5] 26), ((φ9 0), .cells #[.slice a8 (List.length (madeF M)) c8] 26), ((φ128 0), .cells #[.int .i64 ((List.getD (madeF L) i125 Fe.z).k), .string ⟨((List.getD (madeF L) i125 Fe.z).a).toArray⟩, .string ⟨((List.getD (madeF L) i125 Fe.z).v).toArray⟩] 42), ((φ131 0), .cells #[.int .i64 ((List.getD (madeF L) i125 Fe.z).k), .string ⟨((List.getD (madeF L) i125 Fe.z).a).toArray⟩, .string ⟨((List.getD (madeF L) i125 Fe.z).v).toArray⟩] 42)]) (fun φ133 => []) s trivial (fun φ133 => by kernel_rfl) ?_
        intro φ133 w133 s
        refine ops_done (by kernel_rfl) ?_
        refine wp_seq ?_
        refine region_rule ?_
        refine ops_rule (C := []) [((φ6 0), .cells #[.slice a5 (List.length (madeF L)) c5] 26), ((φ9 0), .cells #[.slice a8 (List.length (madeF M)) c8] 26), ((φ128 0), .cells #[.int .i64 ((List.getD (madeF L) i125 Fe.z).k), .string ⟨((List.getD (madeF L) i125 Fe.z).a).toArray⟩, .string ⟨((List.getD (madeF L) i125 Fe.z).v).toArray⟩] 42), ((φ131 0), .cells #[.int .i64 ((List.getD (madeF L) i125 Fe.z).k), .string ⟨((List.getD (madeF L) i125 Fe.z).a).toArray⟩, .string ⟨((List.getD (madeF L) i125 Fe.z).v).toArray⟩] 42)] F132 1 [] 0 (fun φ134 => [(49, .string ⟨(T125).toArray⟩)]) (fun φ134 => [((φ6 0), .cells #[.slice a5 (List.length (madeF L)) c5] 26), ((φ9 0), .cells #[.slice a8 (List.length (madeF M)) c8] 26), ((φ128 0), .cells #[.int .i64 ((List.getD (madeF L) i125 Fe.z).k), .string ⟨((List.getD (madeF L) i125 Fe.z).a).toArray⟩, .string ⟨((List.getD (madeF L) i125 Fe.z).v).toArray⟩] 42), ((φ131 0), .cells #[.int .i64 ((List.getD (madeF L) i125 Fe.z).k), .string ⟨((List.getD (madeF L) i125 Fe.z).a).toArray⟩, .string ⟨((List.getD (madeF L) i125 Fe.z).v).toArray⟩] 42)]) (fun φ134 => []) s trivial (fun φ134 => by kernel_rfl) ?_
        intro φ134 w134 s
        refine sem_rule (binOp .eql 9 (.string ⟨(T125).toArray⟩) (.string ⟨(([] : List UInt8)).toArray⟩)) (some 50) (.bool (decide (T125 = ([] : List UInt8)))) (by kernel_rfl) (Tx.run_eqS (x := T125) (y := ([] : List UInt8))) ?_
        refine ops_done (by kernel_rfl) ?_
        rcases Bool.eq_false_or_eq_true (decide (T125 = ([] : List UInt8))) with hc135 | hc135
        ·
          rw [hc135]
          refine cond_true_rule (b := true) (by kernel_rfl) rfl ?_
          refine region_rule ?_
          refine ops_rule (C := []) [((φ6 0), .cells #[.slice a5 (List.length (madeF L)) c5] 26), ((φ9 0), .cells #[.slice a8 (List.length (madeF M)) c8] 26), ((φ128 0), .cells #[.int .i64 ((List.getD (madeF L) i125 Fe.z).k), .string ⟨((List.getD (madeF L) i125 Fe.z).a).toArray⟩, .string ⟨((List.getD (madeF L) i125 Fe.z).v).toArray⟩] 42), ((φ131 0), .cells #[.int .i64 ((List.getD (madeF L) i125 Fe.z).k), .string ⟨((List.getD (madeF L) i125 Fe.z).a).toArray⟩, .string ⟨((List.getD (madeF L) i125 Fe.z).v).toArray⟩] 42)] F132 3 [.o 2] 0 (fun φ136 => [(14, .string ⟨((List.getD (madeF L) i125 Fe.z).v).toArray⟩), (52, .string ⟨((List.getD (madeF L) i125 Fe.z).v).toArray⟩), (51, .pointer (some ⟨(φ128 0), 2, none⟩))]) (fun φ136 => [((φ6 0), .cells #[.slice a5 (List.length (madeF L)) c5] 26), ((φ9 0), .cells #[.slice a8 (List.length (madeF M)) c8] 26), ((φ128 0), .cells #[.int .i64 ((List.getD (madeF L) i125 Fe.z).k), .string ⟨((List.getD (madeF L) i125 Fe.z).a).toArray⟩, .string ⟨((List.getD (madeF L) i125 Fe.z).v).toArray⟩] 42), ((φ131 0), .cells #[.int .i64 ((List.getD (madeF L) i125 Fe.z).k), .string ⟨((List.getD (madeF L) i125 Fe.z).a).toArray⟩, .string ⟨((List.getD (madeF L) i125 Fe.z).v).toArray⟩] 42)]) (fun φ136 => [(φ128 0)]) s trivial (fun φ136 => by kernel_rfl) ?_
          intro φ136 w136 s
          refine ops_done (by kernel_rfl) ?_
          refine region_rule ?_
          refine ops_rule (C := []) [((φ6 0), .cells #[.slice a5 (List.length (madeF L)) c5] 26), ((φ9 0), .cells #[.slice a8 (List.length (madeF M)) c8] 26), ((φ128 0), .cells #[.int .i64 ((List.getD (madeF L) i125 Fe.z).k), .string ⟨((List.getD (madeF L) i125 Fe.z).a).toArray⟩, .string ⟨((List.getD (madeF L) i125 Fe.z).v).toArray⟩] 42), ((φ131 0), .cells #[.int .i64 ((List.getD (madeF L) i125 Fe.z).k), .string ⟨((List.getD (madeF L) i125 Fe.z).a).toArray⟩, .string ⟨((List.getD (madeF L) i125 Fe.z).v).toArray⟩] 42)] F132 2 [] 0 (fun φ137 => [(37, .int .i64 (IntKind.wrap .i64 (((i125 : Nat) : Int) + ((1 : Nat) : Int)))), (53, .int .i64 (IntKind.wrap .i64 (((i125 : Nat) : Int) + ((1 : Nat) : Int))))]) (fun φ137 => [((φ6 0), .cells #[.slice a5 (List.length (madeF L)) c5] 26), ((φ9 0), .cells #[.slice a8 (List.length (madeF M)) c8] 26), ((φ128 0), .cells #[.int .i64 ((List.getD (madeF L) i125 Fe.z).k), .string ⟨((List.getD (madeF L) i125 Fe.z).a).toArray⟩, .string ⟨((List.getD (madeF L) i125 Fe.z).v).toArray⟩] 42), ((φ131 0), .cells #[.int .i64 ((List.getD (madeF L) i125 Fe.z).k), .string ⟨((List.getD (madeF L) i125 Fe.z).a).toArray⟩, .string ⟨((List.getD (madeF L) i125 Fe.z).v).toArray⟩] 42)]) (fun φ137 => []) s trivial (fun φ137 => by kernel_rfl) ?_
          intro φ137 w137 s
          rw [nat_addI (a := i125) (b := 1) (by have e8 := hi125_0; have e7 := made_len (L := L); have hq1 := of_decide_eq_true hc127; have hq2 := of_decide_eq_true hc130; have hq3 := of_decide_eq_true hc135; omega)]
          refine ops_done (by kernel_rfl) ?_
          exact ⟨⟨m125 - 1, (i125 + 1, (List.getD (madeF L) i125 Fe.z).v, v132, F132), _, _, _, by have hq1 := of_decide_eq_true hc127; have hq2 := of_decide_eq_true hc130; have hq3 := of_decide_eq_true hc135; have := hi125_0; omega, rfl, s, (List.Sublist.append (List.Sublist.cons₂ _ (List.Sublist.cons₂ _ (List.Sublist.cons _ (List.Sublist.cons _ List.Sublist.slnil)))) (List.Sublist.refl _)), by kernel_rfl, hle124, by have hq1 := of_decide_eq_true hc127; have hq2 := of_decide_eq_true hc130; have hq3 := of_decide_eq_true hc135; have := hi125_0; show i125 + 1 + (m125 - 1) = (madeF L).length; omega, (row_eq42 (keep_yes (by have hq1 := of_decide_eq_true hc127; have hq2 := of_decide_eq_true hc130; have hq3 := of_decide_eq_true hc135; have := hi125_0; omega) (qK_f hc130)) h132), (tit_1 (fun x hx => (rt_parts (made_rt hx)).2) (by have hq1 := of_decide_eq_true hc127; have hq2 := of_decide_eq_true hc130; have hq3 := of_decide_eq_true hc135; have := hi125_0; omega) hi125_2 (of_decide_eq_true hc135))⟩⟩
        ·
          rw [hc135]
          refine cond_false_rule (b := false) (by kernel_rfl) rfl ?_
          refine wp_skip ?_
          refine region_rule ?_
          refine ops_rule (C := []) [((φ6 0), .cells #[.slice a5 (List.length (madeF L)) c5] 26), ((φ9 0), .cells #[.slice a8 (List.length (madeF M)) c8] 26), ((φ128 0), .cells #[.int .i64 ((List.getD (madeF L) i125 Fe.z).k), .string ⟨((List.getD (madeF L) i125 Fe.z).a).toArray⟩, .string ⟨((List.getD (madeF L) i125 Fe.z).v).toArray⟩] 42), ((φ131 0), .cells #[.int .i64 ((List.getD (madeF L) i125 Fe.z).k), .string ⟨((List.getD (madeF L) i125 Fe.z).a).toArray⟩, .string ⟨((List.getD (madeF L) i125 Fe.z).v).toArray⟩] 42)] F132 2 [] 0 (fun φ138 => [(37, .int .i64 (IntKind.wrap .i64 (((i125 : Nat) : Int) + ((1 : Nat) : Int)))), (53, .int .i64 (IntKind.wrap .i64 (((i125 : Nat) : Int) + ((1 : Nat) : Int))))]) (fun φ138 => [((φ6 0), .cells #[.slice a5 (List.length (madeF L)) c5] 26), ((φ9 0), .cells #[.slice a8 (List.length (madeF M)) c8] 26), ((φ128 0), .cells #[.int .i64 ((List.getD (madeF L) i125 Fe.z).k), .string ⟨((List.getD (madeF L) i125 Fe.z).a).toArray⟩, .string ⟨((List.getD (madeF L) i125 Fe.z).v).toArray⟩] 42), ((φ131 0), .cells #[.int .i64 ((List.getD (madeF L) i125 Fe.z).k), .string ⟨((List.getD (madeF L) i125 Fe.z).a).toArray⟩, .string ⟨((List.getD (madeF L) i125 Fe.z).v).toArray⟩] 42)]) (fun φ138 => []) s trivial (fun φ138 => by kernel_rfl) ?_
          intro φ138 w138 s
          rw [nat_addI (a := i125) (b := 1) (by have e8 := hi125_0; have e7 := made_len (L := L); have hq1 := of_decide_eq_true hc127; have hq2 := of_decide_eq_true hc130; have hq3 := of_decide_eq_false hc135; omega)]
          refine ops_done (by kernel_rfl) ?_
          exact ⟨⟨m125 - 1, (i125 + 1, T125, v132, F132), _, _, _, by have hq1 := of_decide_eq_true hc127; have hq2 := of_decide_eq_true hc130; have hq3 := of_decide_eq_false hc135; have := hi125_0; omega, rfl, s, (List.Sublist.append (List.Sublist.cons₂ _ (List.Sublist.cons₂ _ (List.Sublist.cons _ (List.Sublist.cons _ List.Sublist.slnil)))) (List.Sublist.refl _)), by kernel_rfl, hle124, by have hq1 := of_decide_eq_true hc127; have hq2 := of_decide_eq_true hc130; have hq3 := of_decide_eq_false hc135; have := hi125_0; show i125 + 1 + (m125 - 1) = (madeF L).length; omega, (row_eq42 (keep_yes (by have hq1 := of_decide_eq_true hc127; have hq2 := of_decide_eq_true hc130; have hq3 := of_decide_eq_false hc135; have := hi125_0; omega) (qK_f hc130)) h132), (tit_2 hi125_2 (of_decide_eq_false hc135))⟩⟩
      ·
        rw [hc130]
        refine cond_false_rule (b := false) (by kernel_rfl) rfl ?_
        refine wp_skip ?_
        refine wp_seq ?_
        refine region_rule ?_
        refine ops_rule (C := []) [((φ6 0), .cells #[.slice a5 (List.length (madeF L)) c5] 26), ((φ9 0), .cells #[.slice a8 (List.length (madeF M)) c8] 26), ((φ128 0), .cells #[.int .i64 ((List.getD (madeF L) i125 Fe.z).k), .string ⟨((List.getD (madeF L) i125 Fe.z).a).toArray⟩, .string ⟨((List.getD (madeF L) i125 Fe.z).v).toArray⟩] 42)] F125 1 [] 0 (fun φ139 => [(49, .string ⟨(T125).toArray⟩)]) (fun φ139 => [((φ6 0), .cells #[.slice a5 (List.length (madeF L)) c5] 26), ((φ9 0), .cells #[.slice a8 (List.length (madeF M)) c8] 26), ((φ128 0), .cells #[.int .i64 ((List.getD (madeF L) i125 Fe.z).k), .string ⟨((List.getD (madeF L) i125 Fe.z).a).toArray⟩, .string ⟨((List.getD (madeF L) i125 Fe.z).v).toArray⟩] 42)]) (fun φ139 => []) s trivial (fun φ139 => by kernel_rfl) ?_
        intro φ139 w139 s
        refine sem_rule (binOp .eql 9 (.string ⟨(T125).toArray⟩) (.string ⟨(([] : List UInt8)).toArray⟩)) (some 50) (.bool (decide (T125 = ([] : List UInt8)))) (by kernel_rfl) (Tx.run_eqS (x := T125) (y := ([] : List UInt8))) ?_
        refine ops_done (by kernel_rfl) ?_
        rcases Bool.eq_false_or_eq_true (decide (T125 = ([] : List UInt8))) with hc140 | hc140
        ·
          rw [hc140]
          refine cond_true_rule (b := true) (by kernel_rfl) rfl ?_
          refine region_rule ?_
          refine ops_rule (C := []) [((φ6 0), .cells #[.slice a5 (List.length (madeF L)) c5] 26), ((φ9 0), .cells #[.slice a8 (List.length (madeF M)) c8] 26), ((φ128 0), .cells #[.int .i64 ((List.getD (madeF L) i125 Fe.z).k), .string ⟨((List.getD (madeF L) i125 Fe.z).a).toArray⟩, .string ⟨((List.getD (madeF L) i125 Fe.z).v).toArray⟩] 42)] F125 3 [.o 2] 0 (fun φ141 => [(14, .string ⟨((List.getD (madeF L) i125 Fe.z).v).toArray⟩), (52, .string ⟨((List.getD (madeF L) i125 Fe.z).v).toArray⟩), (51, .pointer (some ⟨(φ128 0), 2, none⟩))]) (fun φ141 => [((φ6 0), .cells #[.slice a5 (List.length (madeF L)) c5] 26), ((φ9 0), .cells #[.slice a8 (List.length (madeF M)) c8] 26), ((φ128 0), .cells #[.int .i64 ((List.getD (madeF L) i125 Fe.z).k), .string ⟨((List.getD (madeF L) i125 Fe.z).a).toArray⟩, .string ⟨((List.getD (madeF L) i125 Fe.z).v).toArray⟩] 42)]) (fun φ141 => [(φ128 0)]) s trivial (fun φ141 => by kernel_rfl) ?_
          intro φ141 w141 s
          refine ops_done (by kernel_rfl) ?_
          refine region_rule ?_
          refine ops_rule (C := []) [((φ6 0), .cells #[.slice a5 (List.length (madeF L)) c5] 26), ((φ9 0), .cells #[.slice a8 (List.length (madeF M)) c8] 26), ((φ128 0), .cells #[.int .i64 ((List.getD (madeF L) i125 Fe.z).k), .string ⟨((List.getD (madeF L) i125 Fe.z).a).toArray⟩, .string ⟨((List.getD (madeF L) i125 Fe.z).v).toArray⟩] 42)] F125 2 [] 0 (fun φ142 => [(37, .int .i64 (IntKind.wrap .i64 (((i125 : Nat) : Int) + ((1 : Nat) : Int)))), (53, .int .i64 (IntKind.wrap .i64 (((i125 : Nat) : Int) + ((1 : Nat) : Int))))]) (fun φ142 => [((φ6 0), .cells #[.slice a5 (List.length (madeF L)) c5] 26), ((φ9 0), .cells #[.slice a8 (List.length (madeF M)) c8] 26), ((φ128 0), .cells #[.int .i64 ((List.getD (madeF L) i125 Fe.z).k), .string ⟨((List.getD (madeF L) i125 Fe.z).a).toArray⟩, .string ⟨((List.getD (madeF L) i125 Fe.z).v).toArray⟩] 42)]) (fun φ142 => []) s trivial (fun φ142 => by kernel_rfl) ?_
          intro φ142 w142 s
          rw [nat_addI (a := i125) (b := 1) (by have e8 := hi125_0; have e7 := made_len (L := L); have hq1 := of_decide_eq_true hc127; have hq2 := of_decide_eq_false hc130; have hq3 := of_decide_eq_true hc140; omega)]
          refine ops_done (by kernel_rfl) ?_
          exact ⟨⟨m125 - 1, (i125 + 1, (List.getD (madeF L) i125 Fe.z).v, v125, F125), _, _, _, by have hq1 := of_decide_eq_true hc127; have hq2 := of_decide_eq_false hc130; have hq3 := of_decide_eq_true hc140; have := hi125_0; omega, rfl, s, (List.Sublist.append (List.Sublist.cons₂ _ (List.Sublist.cons₂ _ (List.Sublist.cons _ List.Sublist.slnil))) (List.Sublist.refl _)), by kernel_rfl, hle124, by have hq1 := of_decide_eq_true hc127; have hq2 := of_decide_eq_false hc130; have hq3 := of_decide_eq_true hc140; have := hi125_0; show i125 + 1 + (m125 - 1) = (madeF L).length; omega, (row_eq42 (keep_no (by have hq1 := of_decide_eq_true hc127; have hq2 := of_decide_eq_false hc130; have hq3 := of_decide_eq_true hc140; have := hi125_0; omega) (qK_t hc130)) hi125_1), (tit_1 (fun x hx => (rt_parts (made_rt hx)).2) (by have hq1 := of_decide_eq_true hc127; have hq2 := of_decide_eq_false hc130; have hq3 := of_decide_eq_true hc140; have := hi125_0; omega) hi125_2 (of_decide_eq_true hc140))⟩⟩
        ·
          rw [hc140]
          refine cond_false_rule (b := false) (by kernel_rfl) rfl ?_
          refine wp_skip ?_
          refine region_rule ?_
          refine ops_rule (C := []) [((φ6 0), .cells #[.slice a5 (List.length (madeF L)) c5] 26), ((φ9 0), .cells #[.slice a8 (List.length (madeF M)) c8] 26), ((φ128 0), .cells #[.int .i64 ((List.getD (madeF L) i125 Fe.z).k), .string ⟨((List.getD (madeF L) i125 Fe.z).a).toArray⟩, .string ⟨((List.getD (madeF L) i125 Fe.z).v).toArray⟩] 42)] F125 2 [] 0 (fun φ143 => [(37, .int .i64 (IntKind.wrap .i64 (((i125 : Nat) : Int) + ((1 : Nat) : Int)))), (53, .int .i64 (IntKind.wrap .i64 (((i125 : Nat) : Int) + ((1 : Nat) : Int))))]) (fun φ143 => [((φ6 0), .cells #[.slice a5 (List.length (madeF L)) c5] 26), ((φ9 0), .cells #[.slice a8 (List.length (madeF M)) c8] 26), ((φ128 0), .cells #[.int .i64 ((List.getD (madeF L) i125 Fe.z).k), .string ⟨((List.getD (madeF L) i125 Fe.z).a).toArray⟩, .string ⟨((List.getD (madeF L) i125 Fe.z).v).toArray⟩] 42)]) (fun φ143 => []) s trivial (fun φ143 => by kernel_rfl) ?_
          intro φ143 w143 s
          rw [nat_addI (a := i125) (b := 1) (by have e8 := hi125_0; have e7 := made_len (L := L); have hq1 := of_decide_eq_true hc127; have hq2 := of_decide_eq_false hc130; have hq3 := of_decide_eq_false hc140; omega)]
          refine ops_done (by kernel_rfl) ?_
          exact ⟨⟨m125 - 1, (i125 + 1, T125, v125, F125), _, _, _, by have hq1 := of_decide_eq_true hc127; have hq2 := of_decide_eq_false hc130; have hq3 := of_decide_eq_false hc140; have := hi125_0; omega, rfl, s, (List.Sublist.append (List.Sublist.cons₂ _ (List.Sublist.cons₂ _ (List.Sublist.cons _ List.Sublist.slnil))) (List.Sublist.refl _)), by kernel_rfl, hle124, by have hq1 := of_decide_eq_true hc127; have hq2 := of_decide_eq_false hc130; have hq3 := of_decide_eq_false hc140; have := hi125_0; show i125 + 1 + (m125 - 1) = (madeF L).length; omega, (row_eq42 (keep_no (by have hq1 := of_decide_eq_true hc127; have hq2 := of_decide_eq_false hc130; have hq3 := of_decide_eq_false hc140; have := hi125_0; omega) (qK_t hc130)) hi125_1), (tit_2 hi125_2 (of_decide_eq_false hc140))⟩⟩
    ·
      rw [hc127]
      refine cond_false_rule (b := false) (by kernel_rfl) rfl ?_
      refine wp_exit ?_
      have hr144 := row_eq42 (by have ei : i125 = (madeF L).length := (by have hq1 := of_decide_eq_false hc127; have := hi125_0; omega); rw [ei, List.take_length]) hi125_1
      obtain ⟨J144, le144, hk144, s⟩ := freeze_row42 (H := [((φ6 0), .cells #[.slice a5 (List.length (madeF L)) c5] 26), ((φ9 0), .cells #[.slice a8 (List.length (madeF M)) c8] 26)]) (F := F125) s hr144
      obtain ⟨a144, c144, hv144, -, hk144⟩ := hk144.open
      subst hv144
      replace h0 := FSl.mono le144 h0
      replace hM := FSl.mono le144 hM
      replace hN := Tx.NmT.mono le144 hN
      replace hT := Tx.U8.mono le144 hT
      replace h5_0 := FSl.mono le144 h5_0
      replace h5_1 := FSl.mono le144 h5_1
      replace h8_0 := FSl.mono le144 h8_0
      replace h8_1 := FSl.mono le144 h8_1
      replace hle124 := leMono le144 hle124
      have hT145 : T125 = titF (madeF L) := hi125_2.trans (tit_all (by have hq1 := of_decide_eq_false hc127; have := hi125_0; omega))
      refine wp_seq ?_
      refine wp_seq ?_
      refine region_rule ?_
      refine ops_rule (C := []) [((φ6 0), .cells #[.slice a5 (List.length (madeF L)) c5] 26), ((φ9 0), .cells #[.slice a8 (List.length (madeF M)) c8] 26)] [] 2 [] 0 (fun φ146 => [(55, .int .i64 (((List.length (madeF L)) : Nat) : Int)), (54, .slice b5 (List.length (madeF L)) d5)]) (fun φ146 => [((φ6 0), .cells #[.slice a5 (List.length (madeF L)) c5] 26), ((φ9 0), .cells #[.slice a8 (List.length (madeF M)) c8] 26)]) (fun φ146 => []) s trivial (fun φ146 => by kernel_rfl) ?_
      intro φ146 w146 s
      refine sem_rule (binOp .sub 3 (.int .i64 (((List.length (madeF L)) : Nat) : Int)) (.int .i64 1)) (some 56) (.int .i64 (decI (List.length (madeF L)))) (by kernel_rfl) (run_subD (n := (List.length (madeF L))) (by have := made_len (L := L); omega)) ?_
      refine ops_rule (C := []) [((φ6 0), .cells #[.slice a5 (List.length (madeF L)) c5] 26), ((φ9 0), .cells #[.slice a8 (List.length (madeF M)) c8] 26)] [] 1 [] 0 (fun φ147 => [(17, .int .i64 (decI (List.length (madeF L))))]) (fun φ147 => [((φ6 0), .cells #[.slice a5 (List.length (madeF L)) c5] 26), ((φ9 0), .cells #[.slice a8 (List.length (madeF M)) c8] 26)]) (fun φ147 => []) s trivial (fun φ147 => by kernel_rfl) ?_
      intro φ147 w147 s
      refine ops_done (by kernel_rfl) ?_
      refine wp_block ?_
      have hle148 := IM.Le.refl J144
      refine loop_rule (fun (x : Nat × List UInt8) => [(2, .int .i64 z), (8, .bool false), (9, .pointer (some ⟨(φ6 0), 0, none⟩)), (10, .slice b5 (List.length (madeF L)) d5), (11, .pointer (some ⟨(φ9 0), 0, none⟩)), (12, .slice b8 (List.length (madeF M)) d8), (13, .slice a144 (List.length (keepF (qK z) (madeF L))) c144), (17, .int .i64 (decI x.1)), (14, .string ⟨(x.2).toArray⟩)]) (fun (x : Nat × List UInt8) => [((φ6 0), .cells #[.slice a5 (List.length (madeF L)) c5] 26), ((φ9 0), .cells #[.slice a8 (List.length (madeF M)) c8] 26)]) (fun m (x : Nat × List UInt8) J => IM.Le J144 J ∧ x.1 = m ∧ x.1 ≤ (madeF L).length ∧ nameInv (madeF L) x.1 x.2) ((madeF L).length) ((madeF L).length, T125) s (by kernel_rfl) (List.Sublist.cons₂ _ (List.Sublist.cons₂ _ List.Sublist.slnil)) ⟨IM.Le.refl _, rfl, Nat.le_refl _, (name_start hT145)⟩ ?_
      rintro m149 ⟨n149, T149⟩ I149 w149 ev149 s ⟨le149, hi149_0, hi149_1, hi149_2⟩
      try dsimp only at s hi149_0 hi149_1 hi149_2 ⊢
      replace h0 := FSl.mono le149 h0
      replace hM := FSl.mono le149 hM
      replace hN := Tx.NmT.mono le149 hN
      replace hT := Tx.U8.mono le149 hT
      replace h5_0 := FSl.mono le149 h5_0
      replace h5_1 := FSl.mono le149 h5_1
      replace h8_0 := FSl.mono le149 h8_0
      replace h8_1 := FSl.mono le149 h8_1
      replace hle124 := leMono le149 hle124
      replace hk144 := FSl.mono le149 hk144
      replace hle148 := leMono le149 hle148
      refine wp_seq ?_
      refine wp_seq ?_
      refine region_rule ?_
      refine ops_rule (C := []) [((φ6 0), .cells #[.slice a5 (List.length (madeF L)) c5] 26), ((φ9 0), .cells #[.slice a8 (List.length (madeF M)) c8] 26)] [] 1 [] 0 (fun φ150 => [(57, .int .i64 (decI n149))]) (fun φ150 => [((φ6 0), .cells #[.slice a5 (List.length (madeF L)) c5] 26), ((φ9 0), .cells #[.slice a8 (List.length (madeF M)) c8] 26)]) (fun φ150 => []) s trivial (fun φ150 => by kernel_rfl) ?_
      intro φ150 w150 s
      refine sem_rule (binOp .geq 3 (.int .i64 (decI n149)) (.int .i64 0)) (some 58) (.bool (decide (0 < n149))) (by kernel_rfl) (run_geD (n := n149)) ?_
      refine ops_done (by kernel_rfl) ?_
      rcases Bool.eq_false_or_eq_true (decide (0 < n149)) with hc151 | hc151
      ·
        rw [hc151]
        refine cond_true_rule (b := true) (by kernel_rfl) rfl ?_
        refine wp_skip ?_
        refine wp_seq ?_
        refine wp_block ?_
        refine wp_seq ?_
        refine region_rule ?_
        refine ops_rule (C := []) [((φ6 0), .cells #[.slice a5 (List.length (madeF L)) c5] 26), ((φ9 0), .cells #[.slice a8 (List.length (madeF M)) c8] 26)] [] 2 [] 0 (fun φ152 => [(62, .int .i64 (decI n149)), (61, .slice b5 (List.length (madeF L)) d5)]) (fun φ152 => [((φ6 0), .cells #[.slice a5 (List.length (madeF L)) c5] 26), ((φ9 0), .cells #[.slice a8 (List.length (madeF M)) c8] 26)]) (fun φ152 => []) s trivial (fun φ152 => by kernel_rfl) ?_
        intro φ152 w152 s
        refine sem_rule (Instr.indexAt 30 (.slice b5 (List.length (madeF L)) d5) (.int .i64 (decI n149))) (some 63) (.pointer (pAt b5 ((n149 - 1) * 3))) (by kernel_rfl) (fsl_idxD h5_1 (by have hq1 := of_decide_eq_false hc127; have hq2 := of_decide_eq_true hc151; omega) (by have hq1 := of_decide_eq_false hc127; have hq2 := of_decide_eq_true hc151; have e6 := hi149_1; have e7 := made_len (L := L); omega)) ?_
        refine sem_rule (Instr.fieldAt 42 (.pointer (pAt b5 ((n149 - 1) * 3))) 0) (some 64) (.pointer (pAt b5 ((n149 - 1) * 3))) (by kernel_rfl) (fsl_fld42k h5_1 (by have hq1 := of_decide_eq_false hc127; have hq2 := of_decide_eq_true hc151; have e6 := hi149_1; have e7 := made_len (L := L); omega)) ?_
        refine sem_rule (Instr.loadAt 3 (.pointer (pAt b5 ((n149 - 1) * 3)))) (some 65) (.int .i64 ((List.getD (madeF L) (n149 - 1) Fe.z).k)) (by kernel_rfl) (fsl_ldk s.sub h5_1 (by have hq1 := of_decide_eq_false hc127; have hq2 := of_decide_eq_true hc151; have e6 := hi149_1; have e7 := made_len (L := L); omega)) ?_
        refine sem_rule (binOp .eql 3 (.int .i64 ((List.getD (madeF L) (n149 - 1) Fe.z).k)) (.int .i64 1)) (some 66) (.bool (decide ((List.getD (madeF L) (n149 - 1) Fe.z).k = 1))) (by kernel_rfl) ((run_eqZ (a := (List.getD (madeF L) (n149 - 1) Fe.z).k) (b := 1))) ?_
        refine ops_done (by kernel_rfl) ?_
        rcases Bool.eq_false_or_eq_true (decide ((List.getD (madeF L) (n149 - 1) Fe.z).k = 1)) with hc153 | hc153
        ·
          rw [hc153]
          refine cond_true_rule (b := true) (by kernel_rfl) rfl ?_
          refine region_rule ?_
          refine ops_rule (C := []) [((φ6 0), .cells #[.slice a5 (List.length (madeF L)) c5] 26), ((φ9 0), .cells #[.slice a8 (List.length (madeF M)) c8] 26)] [] 2 [] 0 (fun φ154 => [(68, .int .i64 (decI n149)), (67, .slice b5 (List.length (madeF L)) d5)]) (fun φ154 => [((φ6 0), .cells #[.slice a5 (List.length (madeF L)) c5] 26), ((φ9 0), .cells #[.slice a8 (List.length (madeF M)) c8] 26)]) (fun φ154 => []) s trivial (fun φ154 => by kernel_rfl) ?_
          intro φ154 w154 s
          refine sem_rule (Instr.indexAt 30 (.slice b5 (List.length (madeF L)) d5) (.int .i64 (decI n149))) (some 69) (.pointer (pAt b5 ((n149 - 1) * 3))) (by kernel_rfl) (fsl_idxD h5_1 (by have hq1 := of_decide_eq_false hc127; have hq2 := of_decide_eq_true hc151; have hq3 := of_decide_eq_true hc153; omega) (by have hq1 := of_decide_eq_false hc127; have hq2 := of_decide_eq_true hc151; have hq3 := of_decide_eq_true hc153; have e6 := hi149_1; have e7 := made_len (L := L); omega)) ?_
          refine sem_rule (Instr.fieldAt 42 (.pointer (pAt b5 ((n149 - 1) * 3))) 2) (some 70) (.pointer (pAt b5 ((n149 - 1) * 3 + 2))) (by kernel_rfl) (fsl_fld42v h5_1 (by have hq1 := of_decide_eq_false hc127; have hq2 := of_decide_eq_true hc151; have hq3 := of_decide_eq_true hc153; have e6 := hi149_1; have e7 := made_len (L := L); omega)) ?_
          refine sem_rule (Instr.loadAt 9 (.pointer (pAt b5 ((n149 - 1) * 3 + 2)))) (some 71) (.string ⟨((List.getD (madeF L) (n149 - 1) Fe.z).v).toArray⟩) (by kernel_rfl) (fsl_ldv39 s.sub h5_1 (by have hq1 := of_decide_eq_false hc127; have hq2 := of_decide_eq_true hc151; have hq3 := of_decide_eq_true hc153; have e6 := hi149_1; have e7 := made_len (L := L); omega)) ?_
          refine ops_rule (C := []) [((φ6 0), .cells #[.slice a5 (List.length (madeF L)) c5] 26), ((φ9 0), .cells #[.slice a8 (List.length (madeF M)) c8] 26)] [] 1 [] 0 (fun φ155 => [(14, .string ⟨((List.getD (madeF L) (n149 - 1) Fe.z).v).toArray⟩)]) (fun φ155 => [((φ6 0), .cells #[.slice a5 (List.length (madeF L)) c5] 26), ((φ9 0), .cells #[.slice a8 (List.length (madeF M)) c8] 26)]) (fun φ155 => []) s trivial (fun φ155 => by kernel_rfl) ?_
          intro φ155 w155 s
          refine ops_done (by kernel_rfl) ?_
          refine region_rule ?_
          refine ops_rule (C := []) [((φ6 0), .cells #[.slice a5 (List.length (madeF L)) c5] 26), ((φ9 0), .cells #[.slice a8 (List.length (madeF M)) c8] 26)] [] 1 [] 0 (fun φ156 => [(59, .int .i64 (decI n149))]) (fun φ156 => [((φ6 0), .cells #[.slice a5 (List.length (madeF L)) c5] 26), ((φ9 0), .cells #[.slice a8 (List.length (madeF M)) c8] 26)]) (fun φ156 => []) s trivial (fun φ156 => by kernel_rfl) ?_
          intro φ156 w156 s
          refine sem_rule (binOp .sub 3 (.int .i64 (decI n149)) (.int .i64 1)) (some 60) (.int .i64 (decI (n149 - 1))) (by kernel_rfl) (run_subD2 (n := n149) (by have hq1 := of_decide_eq_false hc127; have hq2 := of_decide_eq_true hc151; have hq3 := of_decide_eq_true hc153; omega) (by have hq1 := of_decide_eq_false hc127; have hq2 := of_decide_eq_true hc151; have hq3 := of_decide_eq_true hc153; have e6 := hi149_1; have e7 := made_len (L := L); omega)) ?_
          refine ops_rule (C := []) [((φ6 0), .cells #[.slice a5 (List.length (madeF L)) c5] 26), ((φ9 0), .cells #[.slice a8 (List.length (madeF M)) c8] 26)] [] 1 [] 0 (fun φ157 => [(17, .int .i64 (decI (n149 - 1)))]) (fun φ157 => [((φ6 0), .cells #[.slice a5 (List.length (madeF L)) c5] 26), ((φ9 0), .cells #[.slice a8 (List.length (madeF M)) c8] 26)]) (fun φ157 => []) s trivial (fun φ157 => by kernel_rfl) ?_
          intro φ157 w157 s
          refine ops_done (by kernel_rfl) ?_
          exact ⟨⟨m149 - 1, ((n149 - 1), (List.getD (madeF L) (n149 - 1) Fe.z).v), _, _, _, by have hq1 := of_decide_eq_false hc127; have hq2 := of_decide_eq_true hc151; have hq3 := of_decide_eq_true hc153; have := hi149_0; omega, rfl, s, (List.Sublist.cons₂ _ (List.Sublist.cons₂ _ List.Sublist.slnil)), by kernel_rfl, hle148, by have hq1 := of_decide_eq_false hc127; have hq2 := of_decide_eq_true hc151; have hq3 := of_decide_eq_true hc153; have := hi149_0; show n149 - 1 = m149 - 1; omega, by have := hi149_1; show n149 - 1 ≤ (madeF L).length; omega, (name_yes (T := T149) (made_asc L) (fun x hx => made_rt hx) (by have hq1 := of_decide_eq_false hc127; have hq2 := of_decide_eq_true hc151; have hq3 := of_decide_eq_true hc153; omega) hi149_1 (of_decide_eq_true hc153))⟩⟩
        ·
          rw [hc153]
          refine cond_false_rule (b := false) (by kernel_rfl) rfl ?_
          refine wp_skip ?_
          refine region_rule ?_
          refine ops_rule (C := []) [((φ6 0), .cells #[.slice a5 (List.length (madeF L)) c5] 26), ((φ9 0), .cells #[.slice a8 (List.length (madeF M)) c8] 26)] [] 1 [] 0 (fun φ158 => [(59, .int .i64 (decI n149))]) (fun φ158 => [((φ6 0), .cells #[.slice a5 (List.length (madeF L)) c5] 26), ((φ9 0), .cells #[.slice a8 (List.length (madeF M)) c8] 26)]) (fun φ158 => []) s trivial (fun φ158 => by kernel_rfl) ?_
          intro φ158 w158 s
          refine sem_rule (binOp .sub 3 (.int .i64 (decI n149)) (.int .i64 1)) (some 60) (.int .i64 (decI (n149 - 1))) (by kernel_rfl) (run_subD2 (n := n149) (by have hq1 := of_decide_eq_false hc127; have hq2 := of_decide_eq_true hc151; have hq3 := of_decide_eq_false hc153; omega) (by have hq1 := of_decide_eq_false hc127; have hq2 := of_decide_eq_true hc151; have hq3 := of_decide_eq_false hc153; have e6 := hi149_1; have e7 := made_len (L := L); omega)) ?_
          refine ops_rule (C := []) [((φ6 0), .cells #[.slice a5 (List.length (madeF L)) c5] 26), ((φ9 0), .cells #[.slice a8 (List.length (madeF M)) c8] 26)] [] 1 [] 0 (fun φ159 => [(17, .int .i64 (decI (n149 - 1)))]) (fun φ159 => [((φ6 0), .cells #[.slice a5 (List.length (madeF L)) c5] 26), ((φ9 0), .cells #[.slice a8 (List.length (madeF M)) c8] 26)]) (fun φ159 => []) s trivial (fun φ159 => by kernel_rfl) ?_
          intro φ159 w159 s
          refine ops_done (by kernel_rfl) ?_
          exact ⟨⟨m149 - 1, ((n149 - 1), T149), _, _, _, by have hq1 := of_decide_eq_false hc127; have hq2 := of_decide_eq_true hc151; have hq3 := of_decide_eq_false hc153; have := hi149_0; omega, rfl, s, (List.Sublist.cons₂ _ (List.Sublist.cons₂ _ List.Sublist.slnil)), by kernel_rfl, hle148, by have hq1 := of_decide_eq_false hc127; have hq2 := of_decide_eq_true hc151; have hq3 := of_decide_eq_false hc153; have := hi149_0; show n149 - 1 = m149 - 1; omega, by have := hi149_1; show n149 - 1 ≤ (madeF L).length; omega, (name_no (by have hq1 := of_decide_eq_false hc127; have hq2 := of_decide_eq_true hc151; have hq3 := of_decide_eq_false hc153; omega) (of_decide_eq_false hc153) hi149_2)⟩⟩
      ·
        rw [hc151]
        refine cond_false_rule (b := false) (by kernel_rfl) rfl ?_
        refine wp_exit ?_
        have hT160 : T149 = titF (madeF L) := hi149_2.1 (by have hq1 := of_decide_eq_false hc127; have hq2 := of_decide_eq_false hc151; omega)
        subst hT160
        refine wp_seq ?_
        refine region_rule ?_
        refine ops_rule (C := []) [((φ6 0), .cells #[.slice a5 (List.length (madeF L)) c5] 26), ((φ9 0), .cells #[.slice a8 (List.length (madeF M)) c8] 26)] [] 2 [] 1 (fun φ161 => [(18, .slice (some ⟨(φ161 0), 0, none⟩) 7 7), (72, .slice (some ⟨(φ161 0), 0, none⟩) 7 7)]) (fun φ161 => [((φ6 0), .cells #[.slice a5 (List.length (madeF L)) c5] 26), ((φ9 0), .cells #[.slice a8 (List.length (madeF M)) c8] 26), ((φ161 0), .cells #[.string ⟨#[]⟩, .string ⟨#[110, 97, 109, 101]⟩, .string ⟨#[112, 104, 111, 110, 101]⟩, .string ⟨#[109, 97, 105, 108]⟩, .string ⟨#[97, 100, 100, 114, 101, 115, 115]⟩, .string ⟨#[110, 111, 116, 101]⟩, .string ⟨#[103, 114, 111, 117, 112]⟩] 9)]) (fun φ161 => []) s trivial (fun φ161 => by kernel_rfl) ?_
        intro φ161 w161 s
        refine ops_done (by kernel_rfl) ?_
        refine wp_seq ?_
        obtain ⟨I162, le162, hk162, s⟩ := s.freezeAt 2 (φ161 0) (.cells #[.string ⟨#[]⟩, .string ⟨#[110, 97, 109, 101]⟩, .string ⟨#[112, 104, 111, 110, 101]⟩, .string ⟨#[109, 97, 105, 108]⟩, .string ⟨#[97, 100, 100, 114, 101, 115, 115]⟩, .string ⟨#[110, 111, 116, 101]⟩, .string ⟨#[103, 114, 111, 117, 112]⟩] 9) [((φ6 0), .cells #[.slice a5 (List.length (madeF L)) c5] 26), ((φ9 0), .cells #[.slice a8 (List.length (madeF M)) c8] 26)] (by kernel_rfl) (by kernel_rfl)
        replace h0 := FSl.mono le162 h0
        replace hM := FSl.mono le162 hM
        replace hN := Tx.NmT.mono le162 hN
        replace hT := Tx.U8.mono le162 hT
        replace h5_0 := FSl.mono le162 h5_0
        replace h5_1 := FSl.mono le162 h5_1
        replace h8_0 := FSl.mono le162 h8_0
        replace h8_1 := FSl.mono le162 h8_1
        replace hle124 := leMono le162 hle124
        replace hk144 := FSl.mono le162 hk144
        replace hle148 := leMono le162 hle148
        refine region_rule ?_
        refine ops_rule (C := []) [((φ6 0), .cells #[.slice a5 (List.length (madeF L)) c5] 26), ((φ9 0), .cells #[.slice a8 (List.length (madeF M)) c8] 26)] [] 1 [] 0 (fun φ163 => [(19, .string ⟨#[]⟩)]) (fun φ163 => [((φ6 0), .cells #[.slice a5 (List.length (madeF L)) c5] 26), ((φ9 0), .cells #[.slice a8 (List.length (madeF M)) c8] 26)]) (fun φ163 => []) s trivial (fun φ163 => by kernel_rfl) ?_
        intro φ163 w163 s
        refine ops_done (by kernel_rfl) ?_
        refine wp_seq ?_
        refine wp_seq ?_
        refine region_rule ?_
        refine ops_rule (C := []) [((φ6 0), .cells #[.slice a5 (List.length (madeF L)) c5] 26), ((φ9 0), .cells #[.slice a8 (List.length (madeF M)) c8] 26)] [] 3 [] 0 (fun φ164 => [(75, .bool (decide (z > ((0 : Nat) : Int)))), (74, .bool (decide (z > ((0 : Nat) : Int)))), (73, .int .i64 z)]) (fun φ164 => [((φ6 0), .cells #[.slice a5 (List.length (madeF L)) c5] 26), ((φ9 0), .cells #[.slice a8 (List.length (madeF M)) c8] 26)]) (fun φ164 => []) s trivial (fun φ164 => by kernel_rfl) ?_
        intro φ164 w164 s
        rcases Bool.eq_false_or_eq_true (decide (z > ((0 : Nat) : Int))) with hc165 | hc165
        ·
          rw [hc165]
          refine ops_rule (C := []) [((φ6 0), .cells #[.slice a5 (List.length (madeF L)) c5] 26), ((φ9 0), .cells #[.slice a8 (List.length (madeF M)) c8] 26)] [] 3 [] 0 (fun φ166 => [(78, .bool (decide (z < ((7 : Nat) : Int)))), (77, .bool (decide (z < ((7 : Nat) : Int)))), (76, .int .i64 z)]) (fun φ166 => [((φ6 0), .cells #[.slice a5 (List.length (madeF L)) c5] 26), ((φ9 0), .cells #[.slice a8 (List.length (madeF M)) c8] 26)]) (fun φ166 => []) s trivial (fun φ166 => by kernel_rfl) ?_
          intro φ166 w166 s
          refine ops_done (by kernel_rfl) ?_
          rcases Bool.eq_false_or_eq_true (decide (z < ((7 : Nat) : Int))) with hc167 | hc167
          ·
            rw [hc167]
            refine cond_true_rule (b := true) (by kernel_rfl) rfl ?_
            refine region_rule ?_
            refine ops_rule (C := []) [((φ6 0), .cells #[.slice a5 (List.length (madeF L)) c5] 26), ((φ9 0), .cells #[.slice a8 (List.length (madeF M)) c8] 26)] [] 2 [] 0 (fun φ168 => [(80, .int .i64 z), (79, .slice (some ⟨(φ161 0), 0, none⟩) 7 7)]) (fun φ168 => [((φ6 0), .cells #[.slice a5 (List.length (madeF L)) c5] 26), ((φ9 0), .cells #[.slice a8 (List.length (madeF M)) c8] 26)]) (fun φ168 => []) s trivial (fun φ168 => by kernel_rfl) ?_
            intro φ168 w168 s
            refine sem_rule (Instr.indexAt 46 (.slice (some ⟨(φ161 0), 0, none⟩) 7 7) (.int .i64 z)) (some 81) (.pointer (some ⟨(φ161 0), (z).toNat, none⟩)) (by kernel_rfl) (idx46 (by have hq1 := of_decide_eq_false hc127; have hq2 := of_decide_eq_false hc151; have hq3 := of_decide_eq_true hc165; have hq4 := of_decide_eq_true hc167; omega) (by have hq1 := of_decide_eq_false hc127; have hq2 := of_decide_eq_false hc151; have hq3 := of_decide_eq_true hc165; have hq4 := of_decide_eq_true hc167; omega)) ?_
            refine sem_rule (Instr.loadAt 9 (.pointer (some ⟨(φ161 0), (z).toNat, none⟩))) (some 82) (.string ⟨((Tx.nmS z)).toArray⟩) (by kernel_rfl) (ld46 s.sub hk162 (by have hq1 := of_decide_eq_false hc127; have hq2 := of_decide_eq_false hc151; have hq3 := of_decide_eq_true hc165; have hq4 := of_decide_eq_true hc167; omega) (by have hq1 := of_decide_eq_false hc127; have hq2 := of_decide_eq_false hc151; have hq3 := of_decide_eq_true hc165; have hq4 := of_decide_eq_true hc167; omega)) ?_
            refine ops_rule (C := []) [((φ6 0), .cells #[.slice a5 (List.length (madeF L)) c5] 26), ((φ9 0), .cells #[.slice a8 (List.length (madeF M)) c8] 26)] [] 1 [] 0 (fun φ169 => [(19, .string ⟨((Tx.nmS z)).toArray⟩)]) (fun φ169 => [((φ6 0), .cells #[.slice a5 (List.length (madeF L)) c5] 26), ((φ9 0), .cells #[.slice a8 (List.length (madeF M)) c8] 26)]) (fun φ169 => []) s trivial (fun φ169 => by kernel_rfl) ?_
            intro φ169 w169 s
            refine ops_done (by kernel_rfl) ?_
            refine wp_seq ?_
            refine region_rule ?_
            refine ops_rule (C := []) [((φ6 0), .cells #[.slice a5 (List.length (madeF L)) c5] 26), ((φ9 0), .cells #[.slice a8 (List.length (madeF M)) c8] 26)] [] 2 [.o 0] 0 (fun φ170 => [(84, .int .i64 z), (83, .agg #[.slice a5 (List.length (madeF L)) c5])]) (fun φ170 => [((φ6 0), .cells #[.slice a5 (List.length (madeF L)) c5] 26), ((φ9 0), .cells #[.slice a8 (List.length (madeF M)) c8] 26)]) (fun φ170 => [(φ6 0)]) s trivial (fun φ170 => by kernel_rfl) ?_
            intro φ170 w170 s
            refine call_rule (some 85) s (ofKind_c h5_0 (Nat.le_trans made_len (by decide)) (z := z)) (by kernel_rfl) ?_
            intro v171 I171 w171 le171 h171 s
            replace h0 := FSl.mono le171 h0
            replace hM := FSl.mono le171 hM
            replace hN := Tx.NmT.mono le171 hN
            replace hT := Tx.U8.mono le171 hT
            replace h5_0 := FSl.mono le171 h5_0
            replace h5_1 := FSl.mono le171 h5_1
            replace h8_0 := FSl.mono le171 h8_0
            replace h8_1 := FSl.mono le171 h8_1
            replace hle124 := leMono le171 hle124
            replace hk144 := FSl.mono le171 hk144
            replace hle148 := leMono le171 hle148
            replace hk162 := le171 _ _ hk162
            obtain ⟨a171, c171, rfl, h171_0⟩ := h171
            refine call_rule (some 86) s (own9_c h171_0 (Nat.le_trans keep_len (Nat.le_trans made_len (by decide)))) (by kernel_rfl) ?_
            intro v172 I172 w172 le172 h172 s
            replace h0 := FSl.mono le172 h0
            replace hM := FSl.mono le172 hM
            replace hN := Tx.NmT.mono le172 hN
            replace hT := Tx.U8.mono le172 hT
            replace h5_0 := FSl.mono le172 h5_0
            replace h5_1 := FSl.mono le172 h5_1
            replace h8_0 := FSl.mono le172 h8_0
            replace h8_1 := FSl.mono le172 h8_1
            replace hle124 := leMono le172 hle124
            replace hk144 := FSl.mono le172 hk144
            replace hle148 := leMono le172 hle148
            replace h171_0 := FSl.mono le172 h171_0
            replace hk162 := le172 _ _ hk162
            obtain ⟨a172, c172, rfl, h172_0⟩ := h172
            refine ops_rule (C := []) [((φ6 0), .cells #[.slice a5 (List.length (madeF L)) c5] 26), ((φ9 0), .cells #[.slice a8 (List.length (madeF M)) c8] 26)] [] 1 [] 0 (fun φ173 => [(87, .slice a144 (List.length (keepF (qK z) (madeF L))) c144)]) (fun φ173 => [((φ6 0), .cells #[.slice a5 (List.length (madeF L)) c5] 26), ((φ9 0), .cells #[.slice a8 (List.length (madeF M)) c8] 26)]) (fun φ173 => []) s trivial (fun φ173 => by kernel_rfl) ?_
            intro φ173 w173 s
            refine call_rule (some 88) s (sameF_c h172_0 hk144 (Nat.le_trans keep_len (Nat.le_trans made_len (by decide)))) (by kernel_rfl) ?_
            intro v174 I174 w174 le174 h174 s
            replace h0 := FSl.mono le174 h0
            replace hM := FSl.mono le174 hM
            replace hN := Tx.NmT.mono le174 hN
            replace hT := Tx.U8.mono le174 hT
            replace h5_0 := FSl.mono le174 h5_0
            replace h5_1 := FSl.mono le174 h5_1
            replace h8_0 := FSl.mono le174 h8_0
            replace h8_1 := FSl.mono le174 h8_1
            replace hle124 := leMono le174 hle124
            replace hk144 := FSl.mono le174 hk144
            replace hle148 := leMono le174 hle148
            replace h171_0 := FSl.mono le174 h171_0
            replace h172_0 := FSl.mono le174 h172_0
            replace hk162 := le174 _ _ hk162
            obtain rfl := h174
            refine ops_rule (C := []) [((φ6 0), .cells #[.slice a5 (List.length (madeF L)) c5] 26), ((φ9 0), .cells #[.slice a8 (List.length (madeF M)) c8] 26)] [] 2 [.o 0] 0 (fun φ175 => [(90, .agg #[.slice a5 (List.length (madeF L)) c5]), (89, .bool true)]) (fun φ175 => [((φ6 0), .cells #[.slice a5 (List.length (madeF L)) c5] 26), ((φ9 0), .cells #[.slice a8 (List.length (madeF M)) c8] 26)]) (fun φ175 => [(φ6 0)]) s trivial (fun φ175 => by kernel_rfl) ?_
            intro φ175 w175 s
            refine call_rule (some 91) s (title_c h5_0) (by kernel_rfl) ?_
            intro v176 I176 w176 le176 h176 s
            replace h0 := FSl.mono le176 h0
            replace hM := FSl.mono le176 hM
            replace hN := Tx.NmT.mono le176 hN
            replace hT := Tx.U8.mono le176 hT
            replace h5_0 := FSl.mono le176 h5_0
            replace h5_1 := FSl.mono le176 h5_1
            replace h8_0 := FSl.mono le176 h8_0
            replace h8_1 := FSl.mono le176 h8_1
            replace hle124 := leMono le176 hle124
            replace hk144 := FSl.mono le176 hk144
            replace hle148 := leMono le176 hle148
            replace h171_0 := FSl.mono le176 h171_0
            replace h172_0 := FSl.mono le176 h172_0
            replace hk162 := le176 _ _ hk162
            obtain rfl := h176
            refine ops_rule (C := []) [((φ6 0), .cells #[.slice a5 (List.length (madeF L)) c5] 26), ((φ9 0), .cells #[.slice a8 (List.length (madeF M)) c8] 26)] [] 1 [] 0 (fun φ177 => [(92, .string ⟨(titF (madeF L)).toArray⟩)]) (fun φ177 => [((φ6 0), .cells #[.slice a5 (List.length (madeF L)) c5] 26), ((φ9 0), .cells #[.slice a8 (List.length (madeF M)) c8] 26)]) (fun φ177 => []) s trivial (fun φ177 => by kernel_rfl) ?_
            intro φ177 w177 s
            refine sem_rule (binOp .eql 9 (.string ⟨(titF (madeF L)).toArray⟩) (.string ⟨(titF (madeF L)).toArray⟩)) (some 93) (.bool true) (by kernel_rfl) ((Tx.run_eqT (x := titF (madeF L)))) ?_
            refine ops_rule (C := []) [((φ6 0), .cells #[.slice a5 (List.length (madeF L)) c5] 26), ((φ9 0), .cells #[.slice a8 (List.length (madeF M)) c8] 26)] [] 3 [] 0 (fun φ178 => [(96, .int .i64 z), (95, .bool true), (94, .bool true)]) (fun φ178 => [((φ6 0), .cells #[.slice a5 (List.length (madeF L)) c5] 26), ((φ9 0), .cells #[.slice a8 (List.length (madeF M)) c8] 26)]) (fun φ178 => []) s trivial (fun φ178 => by kernel_rfl) ?_
            intro φ178 w178 s
            refine call_rule (some 97) s (Tx.kindName_c hN (z := z)) (by kernel_rfl) ?_
            intro v179 I179 w179 le179 h179 s
            replace h0 := FSl.mono le179 h0
            replace hM := FSl.mono le179 hM
            replace hN := Tx.NmT.mono le179 hN
            replace hT := Tx.U8.mono le179 hT
            replace h5_0 := FSl.mono le179 h5_0
            replace h5_1 := FSl.mono le179 h5_1
            replace h8_0 := FSl.mono le179 h8_0
            replace h8_1 := FSl.mono le179 h8_1
            replace hle124 := leMono le179 hle124
            replace hk144 := FSl.mono le179 hk144
            replace hle148 := leMono le179 hle148
            replace h171_0 := FSl.mono le179 h171_0
            replace h172_0 := FSl.mono le179 h172_0
            replace hk162 := le179 _ _ hk162
            obtain rfl := h179
            refine ops_rule (C := []) [((φ6 0), .cells #[.slice a5 (List.length (madeF L)) c5] 26), ((φ9 0), .cells #[.slice a8 (List.length (madeF M)) c8] 26)] [] 1 [] 0 (fun φ180 => [(98, .string ⟨((Tx.nmS z)).toArray⟩)]) (fun φ180 => [((φ6 0), .cells #[.slice a5 (List.length (madeF L)) c5] 26), ((φ9 0), .cells #[.slice a8 (List.length (madeF M)) c8] 26)]) (fun φ180 => []) s trivial (fun φ180 => by kernel_rfl) ?_
            intro φ180 w180 s
            refine sem_rule (binOp .eql 9 (.string ⟨((Tx.nmS z)).toArray⟩) (.string ⟨((Tx.nmS z)).toArray⟩)) (some 99) (.bool true) (by kernel_rfl) ((Tx.run_eqT (x := (Tx.nmS z)))) ?_
            refine ops_rule (C := []) [((φ6 0), .cells #[.slice a5 (List.length (madeF L)) c5] 26), ((φ9 0), .cells #[.slice a8 (List.length (madeF M)) c8] 26)] [] 4 [.o 0, .o 1] 0 (fun φ181 => [(103, .agg #[.slice a8 (List.length (madeF M)) c8]), (102, .agg #[.slice a5 (List.length (madeF L)) c5]), (101, .bool true), (100, .bool true)]) (fun φ181 => [((φ6 0), .cells #[.slice a5 (List.length (madeF L)) c5] 26), ((φ9 0), .cells #[.slice a8 (List.length (madeF M)) c8] 26)]) (fun φ181 => [(φ6 0), (φ9 0)]) s trivial (fun φ181 => by kernel_rfl) ?_
            intro φ181 w181 s
            refine call_rule (some 104) s (sameCd_c h5_0 h8_0 (Nat.le_trans made_len (by decide))) (by kernel_rfl) ?_
            intro v182 I182 w182 le182 h182 s
            replace h0 := FSl.mono le182 h0
            replace hM := FSl.mono le182 hM
            replace hN := Tx.NmT.mono le182 hN
            replace hT := Tx.U8.mono le182 hT
            replace h5_0 := FSl.mono le182 h5_0
            replace h5_1 := FSl.mono le182 h5_1
            replace h8_0 := FSl.mono le182 h8_0
            replace h8_1 := FSl.mono le182 h8_1
            replace hle124 := leMono le182 hle124
            replace hk144 := FSl.mono le182 hk144
            replace hle148 := leMono le182 hle148
            replace h171_0 := FSl.mono le182 h171_0
            replace h172_0 := FSl.mono le182 h172_0
            replace hk162 := le182 _ _ hk162
            obtain rfl := h182
            refine ops_rule (C := []) [((φ6 0), .cells #[.slice a5 (List.length (madeF L)) c5] 26), ((φ9 0), .cells #[.slice a8 (List.length (madeF M)) c8] 26)] [] 2 [] 0 (fun φ183 => [(106, .slice b8 (List.length (madeF M)) d8), (105, .slice b5 (List.length (madeF L)) d5)]) (fun φ183 => [((φ6 0), .cells #[.slice a5 (List.length (madeF L)) c5] 26), ((φ9 0), .cells #[.slice a8 (List.length (madeF M)) c8] 26)]) (fun φ183 => []) s trivial (fun φ183 => by kernel_rfl) ?_
            intro φ183 w183 s
            refine call_rule (some 107) s (sameG_c h5_1 h8_1 (Nat.le_trans made_len (by decide))) (by kernel_rfl) ?_
            intro v184 I184 w184 le184 h184 s
            replace h0 := FSl.mono le184 h0
            replace hM := FSl.mono le184 hM
            replace hN := Tx.NmT.mono le184 hN
            replace hT := Tx.U8.mono le184 hT
            replace h5_0 := FSl.mono le184 h5_0
            replace h5_1 := FSl.mono le184 h5_1
            replace h8_0 := FSl.mono le184 h8_0
            replace h8_1 := FSl.mono le184 h8_1
            replace hle124 := leMono le184 hle124
            replace hk144 := FSl.mono le184 hk144
            replace hle148 := leMono le184 hle148
            replace h171_0 := FSl.mono le184 h171_0
            replace h172_0 := FSl.mono le184 h172_0
            replace hk162 := le184 _ _ hk162
            obtain rfl := h184
            refine sem_rule (binOp .eql 4 (.bool (decide ((madeF L) = (madeF M)))) (.bool (decide ((madeF L) = (madeF M))))) (some 108) (.bool true) (by kernel_rfl) (run_eqBB) ?_
            refine ops_rule (C := []) [((φ6 0), .cells #[.slice a5 (List.length (madeF L)) c5] 26), ((φ9 0), .cells #[.slice a8 (List.length (madeF M)) c8] 26)] [] 4 [.o 0, .o 0] 0 (fun φ185 => [(112, .agg #[.slice a5 (List.length (madeF L)) c5]), (111, .agg #[.slice a5 (List.length (madeF L)) c5]), (110, .bool true), (109, .bool true)]) (fun φ185 => [((φ6 0), .cells #[.slice a5 (List.length (madeF L)) c5] 26), ((φ9 0), .cells #[.slice a8 (List.length (madeF M)) c8] 26)]) (fun φ185 => [(φ6 0), (φ6 0)]) s trivial (fun φ185 => by kernel_rfl) ?_
            intro φ185 w185 s
            refine call_rule (some 113) s (sameS_c h5_0 h5_0 (Nat.le_trans made_len (by decide))) (by kernel_rfl) ?_
            intro v186 I186 w186 le186 h186 s
            replace h0 := FSl.mono le186 h0
            replace hM := FSl.mono le186 hM
            replace hN := Tx.NmT.mono le186 hN
            replace hT := Tx.U8.mono le186 hT
            replace h5_0 := FSl.mono le186 h5_0
            replace h5_1 := FSl.mono le186 h5_1
            replace h8_0 := FSl.mono le186 h8_0
            replace h8_1 := FSl.mono le186 h8_1
            replace hle124 := leMono le186 hle124
            replace hk144 := FSl.mono le186 hk144
            replace hle148 := leMono le186 hle148
            replace h171_0 := FSl.mono le186 h171_0
            replace h172_0 := FSl.mono le186 h172_0
            replace hk162 := le186 _ _ hk162
            obtain rfl := h186
            refine ops_rule (C := []) [((φ6 0), .cells #[.slice a5 (List.length (madeF L)) c5] 26), ((φ9 0), .cells #[.slice a8 (List.length (madeF M)) c8] 26)] [] 2 [] 0 (fun φ187 => [(8, .bool true), (114, .bool true)]) (fun φ187 => [((φ6 0), .cells #[.slice a5 (List.length (madeF L)) c5] 26), ((φ9 0), .cells #[.slice a8 (List.length (madeF M)) c8] 26)]) (fun φ187 => []) s trivial (fun φ187 => by kernel_rfl) ?_
            intro φ187 w187 s
            refine ops_done (by kernel_rfl) ?_
            refine wp_ret ?_
            refine ret_rule (C := []) [((φ6 0), .cells #[.slice a5 (List.length (madeF L)) c5] 26), ((φ9 0), .cells #[.slice a8 (List.length (madeF M)) c8] 26)] [] (.bool true) [] [] s trivial (by kernel_rfl) ?_
            exact ⟨_, _, _, rfl, s, rfl⟩
          ·
            rw [hc167]
            refine cond_false_rule (b := false) (by kernel_rfl) rfl ?_
            refine wp_skip ?_
            refine wp_seq ?_
            refine region_rule ?_
            refine ops_rule (C := []) [((φ6 0), .cells #[.slice a5 (List.length (madeF L)) c5] 26), ((φ9 0), .cells #[.slice a8 (List.length (madeF M)) c8] 26)] [] 2 [.o 0] 0 (fun φ188 => [(84, .int .i64 z), (83, .agg #[.slice a5 (List.length (madeF L)) c5])]) (fun φ188 => [((φ6 0), .cells #[.slice a5 (List.length (madeF L)) c5] 26), ((φ9 0), .cells #[.slice a8 (List.length (madeF M)) c8] 26)]) (fun φ188 => [(φ6 0)]) s trivial (fun φ188 => by kernel_rfl) ?_
            intro φ188 w188 s
            refine call_rule (some 85) s (ofKind_c h5_0 (Nat.le_trans made_len (by decide)) (z := z)) (by kernel_rfl) ?_
            intro v189 I189 w189 le189 h189 s
            replace h0 := FSl.mono le189 h0
            replace hM := FSl.mono le189 hM
            replace hN := Tx.NmT.mono le189 hN
            replace hT := Tx.U8.mono le189 hT
            replace h5_0 := FSl.mono le189 h5_0
            replace h5_1 := FSl.mono le189 h5_1
            replace h8_0 := FSl.mono le189 h8_0
            replace h8_1 := FSl.mono le189 h8_1
            replace hle124 := leMono le189 hle124
            replace hk144 := FSl.mono le189 hk144
            replace hle148 := leMono le189 hle148
            replace hk162 := le189 _ _ hk162
            obtain ⟨a189, c189, rfl, h189_0⟩ := h189
            refine call_rule (some 86) s (own9_c h189_0 (Nat.le_trans keep_len (Nat.le_trans made_len (by decide)))) (by kernel_rfl) ?_
            intro v190 I190 w190 le190 h190 s
            replace h0 := FSl.mono le190 h0
            replace hM := FSl.mono le190 hM
            replace hN := Tx.NmT.mono le190 hN
            replace hT := Tx.U8.mono le190 hT
            replace h5_0 := FSl.mono le190 h5_0
            replace h5_1 := FSl.mono le190 h5_1
            replace h8_0 := FSl.mono le190 h8_0
            replace h8_1 := FSl.mono le190 h8_1
            replace hle124 := leMono le190 hle124
            replace hk144 := FSl.mono le190 hk144
            replace hle148 := leMono le190 hle148
            replace h189_0 := FSl.mono le190 h189_0
            replace hk162 := le190 _ _ hk162
            obtain ⟨a190, c190, rfl, h190_0⟩ := h190
            refine ops_rule (C := []) [((φ6 0), .cells #[.slice a5 (List.length (madeF L)) c5] 26), ((φ9 0), .cells #[.slice a8 (List.length (madeF M)) c8] 26)] [] 1 [] 0 (fun φ191 => [(87, .slice a144 (List.length (keepF (qK z) (madeF L))) c144)]) (fun φ191 => [((φ6 0), .cells #[.slice a5 (List.length (madeF L)) c5] 26), ((φ9 0), .cells #[.slice a8 (List.length (madeF M)) c8] 26)]) (fun φ191 => []) s trivial (fun φ191 => by kernel_rfl) ?_
            intro φ191 w191 s
            refine call_rule (some 88) s (sameF_c h190_0 hk144 (Nat.le_trans keep_len (Nat.le_trans made_len (by decide)))) (by kernel_rfl) ?_
            intro v192 I192 w192 le192 h192 s
            replace h0 := FSl.mono le192 h0
            replace hM := FSl.mono le192 hM
            replace hN := Tx.NmT.mono le192 hN
            replace hT := Tx.U8.mono le192 hT
            replace h5_0 := FSl.mono le192 h5_0
            replace h5_1 := FSl.mono le192 h5_1
            replace h8_0 := FSl.mono le192 h8_0
            replace h8_1 := FSl.mono le192 h8_1
            replace hle124 := leMono le192 hle124
            replace hk144 := FSl.mono le192 hk144
            replace hle148 := leMono le192 hle148
            replace h189_0 := FSl.mono le192 h189_0
            replace h190_0 := FSl.mono le192 h190_0
            replace hk162 := le192 _ _ hk162
            obtain rfl := h192
            refine ops_rule (C := []) [((φ6 0), .cells #[.slice a5 (List.length (madeF L)) c5] 26), ((φ9 0), .cells #[.slice a8 (List.length (madeF M)) c8] 26)] [] 2 [.o 0] 0 (fun φ193 => [(90, .agg #[.slice a5 (List.length (madeF L)) c5]), (89, .bool true)]) (fun φ193 => [((φ6 0), .cells #[.slice a5 (List.length (madeF L)) c5] 26), ((φ9 0), .cells #[.slice a8 (List.length (madeF M)) c8] 26)]) (fun φ193 => [(φ6 0)]) s trivial (fun φ193 => by kernel_rfl) ?_
            intro φ193 w193 s
            refine call_rule (some 91) s (title_c h5_0) (by kernel_rfl) ?_
            intro v194 I194 w194 le194 h194 s
            replace h0 := FSl.mono le194 h0
            replace hM := FSl.mono le194 hM
            replace hN := Tx.NmT.mono le194 hN
            replace hT := Tx.U8.mono le194 hT
            replace h5_0 := FSl.mono le194 h5_0
            replace h5_1 := FSl.mono le194 h5_1
            replace h8_0 := FSl.mono le194 h8_0
            replace h8_1 := FSl.mono le194 h8_1
            replace hle124 := leMono le194 hle124
            replace hk144 := FSl.mono le194 hk144
            replace hle148 := leMono le194 hle148
            replace h189_0 := FSl.mono le194 h189_0
            replace h190_0 := FSl.mono le194 h190_0
            replace hk162 := le194 _ _ hk162
            obtain rfl := h194
            refine ops_rule (C := []) [((φ6 0), .cells #[.slice a5 (List.length (madeF L)) c5] 26), ((φ9 0), .cells #[.slice a8 (List.length (madeF M)) c8] 26)] [] 1 [] 0 (fun φ195 => [(92, .string ⟨(titF (madeF L)).toArray⟩)]) (fun φ195 => [((φ6 0), .cells #[.slice a5 (List.length (madeF L)) c5] 26), ((φ9 0), .cells #[.slice a8 (List.length (madeF M)) c8] 26)]) (fun φ195 => []) s trivial (fun φ195 => by kernel_rfl) ?_
            intro φ195 w195 s
            refine sem_rule (binOp .eql 9 (.string ⟨(titF (madeF L)).toArray⟩) (.string ⟨(titF (madeF L)).toArray⟩)) (some 93) (.bool true) (by kernel_rfl) ((Tx.run_eqT (x := titF (madeF L)))) ?_
            refine ops_rule (C := []) [((φ6 0), .cells #[.slice a5 (List.length (madeF L)) c5] 26), ((φ9 0), .cells #[.slice a8 (List.length (madeF M)) c8] 26)] [] 3 [] 0 (fun φ196 => [(96, .int .i64 z), (95, .bool true), (94, .bool true)]) (fun φ196 => [((φ6 0), .cells #[.slice a5 (List.length (madeF L)) c5] 26), ((φ9 0), .cells #[.slice a8 (List.length (madeF M)) c8] 26)]) (fun φ196 => []) s trivial (fun φ196 => by kernel_rfl) ?_
            intro φ196 w196 s
            refine call_rule (some 97) s (Tx.kindName_c hN (z := z)) (by kernel_rfl) ?_
            intro v197 I197 w197 le197 h197 s
            replace h0 := FSl.mono le197 h0
            replace hM := FSl.mono le197 hM
            replace hN := Tx.NmT.mono le197 hN
            replace hT := Tx.U8.mono le197 hT
            replace h5_0 := FSl.mono le197 h5_0
            replace h5_1 := FSl.mono le197 h5_1
            replace h8_0 := FSl.mono le197 h8_0
            replace h8_1 := FSl.mono le197 h8_1
            replace hle124 := leMono le197 hle124
            replace hk144 := FSl.mono le197 hk144
            replace hle148 := leMono le197 hle148
            replace h189_0 := FSl.mono le197 h189_0
            replace h190_0 := FSl.mono le197 h190_0
            replace hk162 := le197 _ _ hk162
            obtain rfl := h197
            refine ops_rule (C := []) [((φ6 0), .cells #[.slice a5 (List.length (madeF L)) c5] 26), ((φ9 0), .cells #[.slice a8 (List.length (madeF M)) c8] 26)] [] 1 [] 0 (fun φ198 => [(98, .string ⟨#[]⟩)]) (fun φ198 => [((φ6 0), .cells #[.slice a5 (List.length (madeF L)) c5] 26), ((φ9 0), .cells #[.slice a8 (List.length (madeF M)) c8] 26)]) (fun φ198 => []) s trivial (fun φ198 => by kernel_rfl) ?_
            intro φ198 w198 s
            refine sem_rule (binOp .eql 9 (.string ⟨((Tx.nmS z)).toArray⟩) (.string ⟨(([] : List UInt8)).toArray⟩)) (some 99) (.bool (decide ((Tx.nmS z) = ([] : List UInt8)))) (by kernel_rfl) (Tx.run_eqS (x := (Tx.nmS z)) (y := ([] : List UInt8))) ?_
            refine ops_rule (C := []) [((φ6 0), .cells #[.slice a5 (List.length (madeF L)) c5] 26), ((φ9 0), .cells #[.slice a8 (List.length (madeF M)) c8] 26)] [] 2 [] 0 (fun φ199 => [(101, .bool (decide ((Tx.nmS z) = ([] : List UInt8)))), (100, .bool (decide ((Tx.nmS z) = ([] : List UInt8))))]) (fun φ199 => [((φ6 0), .cells #[.slice a5 (List.length (madeF L)) c5] 26), ((φ9 0), .cells #[.slice a8 (List.length (madeF M)) c8] 26)]) (fun φ199 => []) s trivial (fun φ199 => by kernel_rfl) ?_
            intro φ199 w199 s
            rcases Bool.eq_false_or_eq_true (decide ((Tx.nmS z) = ([] : List UInt8))) with hc200 | hc200
            ·
              rw [hc200]
              refine ops_rule (C := []) [((φ6 0), .cells #[.slice a5 (List.length (madeF L)) c5] 26), ((φ9 0), .cells #[.slice a8 (List.length (madeF M)) c8] 26)] [] 2 [.o 0, .o 1] 0 (fun φ201 => [(103, .agg #[.slice a8 (List.length (madeF M)) c8]), (102, .agg #[.slice a5 (List.length (madeF L)) c5])]) (fun φ201 => [((φ6 0), .cells #[.slice a5 (List.length (madeF L)) c5] 26), ((φ9 0), .cells #[.slice a8 (List.length (madeF M)) c8] 26)]) (fun φ201 => [(φ6 0), (φ9 0)]) s trivial (fun φ201 => by kernel_rfl) ?_
              intro φ201 w201 s
              refine call_rule (some 104) s (sameCd_c h5_0 h8_0 (Nat.le_trans made_len (by decide))) (by kernel_rfl) ?_
              intro v202 I202 w202 le202 h202 s
              replace h0 := FSl.mono le202 h0
              replace hM := FSl.mono le202 hM
              replace hN := Tx.NmT.mono le202 hN
              replace hT := Tx.U8.mono le202 hT
              replace h5_0 := FSl.mono le202 h5_0
              replace h5_1 := FSl.mono le202 h5_1
              replace h8_0 := FSl.mono le202 h8_0
              replace h8_1 := FSl.mono le202 h8_1
              replace hle124 := leMono le202 hle124
              replace hk144 := FSl.mono le202 hk144
              replace hle148 := leMono le202 hle148
              replace h189_0 := FSl.mono le202 h189_0
              replace h190_0 := FSl.mono le202 h190_0
              replace hk162 := le202 _ _ hk162
              obtain rfl := h202
              refine ops_rule (C := []) [((φ6 0), .cells #[.slice a5 (List.length (madeF L)) c5] 26), ((φ9 0), .cells #[.slice a8 (List.length (madeF M)) c8] 26)] [] 2 [] 0 (fun φ203 => [(106, .slice b8 (List.length (madeF M)) d8), (105, .slice b5 (List.length (madeF L)) d5)]) (fun φ203 => [((φ6 0), .cells #[.slice a5 (List.length (madeF L)) c5] 26), ((φ9 0), .cells #[.slice a8 (List.length (madeF M)) c8] 26)]) (fun φ203 => []) s trivial (fun φ203 => by kernel_rfl) ?_
              intro φ203 w203 s
              refine call_rule (some 107) s (sameG_c h5_1 h8_1 (Nat.le_trans made_len (by decide))) (by kernel_rfl) ?_
              intro v204 I204 w204 le204 h204 s
              replace h0 := FSl.mono le204 h0
              replace hM := FSl.mono le204 hM
              replace hN := Tx.NmT.mono le204 hN
              replace hT := Tx.U8.mono le204 hT
              replace h5_0 := FSl.mono le204 h5_0
              replace h5_1 := FSl.mono le204 h5_1
              replace h8_0 := FSl.mono le204 h8_0
              replace h8_1 := FSl.mono le204 h8_1
              replace hle124 := leMono le204 hle124
              replace hk144 := FSl.mono le204 hk144
              replace hle148 := leMono le204 hle148
              replace h189_0 := FSl.mono le204 h189_0
              replace h190_0 := FSl.mono le204 h190_0
              replace hk162 := le204 _ _ hk162
              obtain rfl := h204
              refine sem_rule (binOp .eql 4 (.bool (decide ((madeF L) = (madeF M)))) (.bool (decide ((madeF L) = (madeF M))))) (some 108) (.bool true) (by kernel_rfl) (run_eqBB) ?_
              refine ops_rule (C := []) [((φ6 0), .cells #[.slice a5 (List.length (madeF L)) c5] 26), ((φ9 0), .cells #[.slice a8 (List.length (madeF M)) c8] 26)] [] 4 [.o 0, .o 0] 0 (fun φ205 => [(112, .agg #[.slice a5 (List.length (madeF L)) c5]), (111, .agg #[.slice a5 (List.length (madeF L)) c5]), (110, .bool true), (109, .bool true)]) (fun φ205 => [((φ6 0), .cells #[.slice a5 (List.length (madeF L)) c5] 26), ((φ9 0), .cells #[.slice a8 (List.length (madeF M)) c8] 26)]) (fun φ205 => [(φ6 0), (φ6 0)]) s trivial (fun φ205 => by kernel_rfl) ?_
              intro φ205 w205 s
              refine call_rule (some 113) s (sameS_c h5_0 h5_0 (Nat.le_trans made_len (by decide))) (by kernel_rfl) ?_
              intro v206 I206 w206 le206 h206 s
              replace h0 := FSl.mono le206 h0
              replace hM := FSl.mono le206 hM
              replace hN := Tx.NmT.mono le206 hN
              replace hT := Tx.U8.mono le206 hT
              replace h5_0 := FSl.mono le206 h5_0
              replace h5_1 := FSl.mono le206 h5_1
              replace h8_0 := FSl.mono le206 h8_0
              replace h8_1 := FSl.mono le206 h8_1
              replace hle124 := leMono le206 hle124
              replace hk144 := FSl.mono le206 hk144
              replace hle148 := leMono le206 hle148
              replace h189_0 := FSl.mono le206 h189_0
              replace h190_0 := FSl.mono le206 h190_0
              replace hk162 := le206 _ _ hk162
              obtain rfl := h206
              refine ops_rule (C := []) [((φ6 0), .cells #[.slice a5 (List.length (madeF L)) c5] 26), ((φ9 0), .cells #[.slice a8 (List.length (madeF M)) c8] 26)] [] 2 [] 0 (fun φ207 => [(8, .bool true), (114, .bool true)]) (fun φ207 => [((φ6 0), .cells #[.slice a5 (List.length (madeF L)) c5] 26), ((φ9 0), .cells #[.slice a8 (List.length (madeF M)) c8] 26)]) (fun φ207 => []) s trivial (fun φ207 => by kernel_rfl) ?_
              intro φ207 w207 s
              refine ops_done (by kernel_rfl) ?_
              refine wp_ret ?_
              refine ret_rule (C := []) [((φ6 0), .cells #[.slice a5 (List.length (madeF L)) c5] 26), ((φ9 0), .cells #[.slice a8 (List.length (madeF M)) c8] 26)] [] (.bool true) [] [] s trivial (by kernel_rfl) ?_
              exact ⟨_, _, _, rfl, s, rfl⟩
            ·
              exact absurd (Tx.nm_nil.2 (by have hq1 := of_decide_eq_false hc127; have hq2 := of_decide_eq_false hc151; have hq3 := of_decide_eq_true hc165; have hq4 := of_decide_eq_false hc167; omega)) (of_decide_eq_false hc200)
        ·
          rw [hc165]
          refine ops_rule (C := []) [((φ6 0), .cells #[.slice a5 (List.length (madeF L)) c5] 26), ((φ9 0), .cells #[.slice a8 (List.length (madeF M)) c8] 26)] [] 3 [] 0 (fun φ208 => [(78, .bool false), (77, undef), (76, undef)]) (fun φ208 => [((φ6 0), .cells #[.slice a5 (List.length (madeF L)) c5] 26), ((φ9 0), .cells #[.slice a8 (List.length (madeF M)) c8] 26)]) (fun φ208 => []) s trivial (fun φ208 => by kernel_rfl) ?_
          intro φ208 w208 s
          refine ops_done (by kernel_rfl) ?_
          refine cond_false_rule (b := false) (by kernel_rfl) rfl ?_
          refine wp_skip ?_
          refine wp_seq ?_
          refine region_rule ?_
          refine ops_rule (C := []) [((φ6 0), .cells #[.slice a5 (List.length (madeF L)) c5] 26), ((φ9 0), .cells #[.slice a8 (List.length (madeF M)) c8] 26)] [] 2 [.o 0] 0 (fun φ209 => [(84, .int .i64 z), (83, .agg #[.slice a5 (List.length (madeF L)) c5])]) (fun φ209 => [((φ6 0), .cells #[.slice a5 (List.length (madeF L)) c5] 26), ((φ9 0), .cells #[.slice a8 (List.length (madeF M)) c8] 26)]) (fun φ209 => [(φ6 0)]) s trivial (fun φ209 => by kernel_rfl) ?_
          intro φ209 w209 s
          refine call_rule (some 85) s (ofKind_c h5_0 (Nat.le_trans made_len (by decide)) (z := z)) (by kernel_rfl) ?_
          intro v210 I210 w210 le210 h210 s
          replace h0 := FSl.mono le210 h0
          replace hM := FSl.mono le210 hM
          replace hN := Tx.NmT.mono le210 hN
          replace hT := Tx.U8.mono le210 hT
          replace h5_0 := FSl.mono le210 h5_0
          replace h5_1 := FSl.mono le210 h5_1
          replace h8_0 := FSl.mono le210 h8_0
          replace h8_1 := FSl.mono le210 h8_1
          replace hle124 := leMono le210 hle124
          replace hk144 := FSl.mono le210 hk144
          replace hle148 := leMono le210 hle148
          replace hk162 := le210 _ _ hk162
          obtain ⟨a210, c210, rfl, h210_0⟩ := h210
          refine call_rule (some 86) s (own9_c h210_0 (Nat.le_trans keep_len (Nat.le_trans made_len (by decide)))) (by kernel_rfl) ?_
          intro v211 I211 w211 le211 h211 s
          replace h0 := FSl.mono le211 h0
          replace hM := FSl.mono le211 hM
          replace hN := Tx.NmT.mono le211 hN
          replace hT := Tx.U8.mono le211 hT
          replace h5_0 := FSl.mono le211 h5_0
          replace h5_1 := FSl.mono le211 h5_1
          replace h8_0 := FSl.mono le211 h8_0
          replace h8_1 := FSl.mono le211 h8_1
          replace hle124 := leMono le211 hle124
          replace hk144 := FSl.mono le211 hk144
          replace hle148 := leMono le211 hle148
          replace h210_0 := FSl.mono le211 h210_0
          replace hk162 := le211 _ _ hk162
          obtain ⟨a211, c211, rfl, h211_0⟩ := h211
          refine ops_rule (C := []) [((φ6 0), .cells #[.slice a5 (List.length (madeF L)) c5] 26), ((φ9 0), .cells #[.slice a8 (List.length (madeF M)) c8] 26)] [] 1 [] 0 (fun φ212 => [(87, .slice a144 (List.length (keepF (qK z) (madeF L))) c144)]) (fun φ212 => [((φ6 0), .cells #[.slice a5 (List.length (madeF L)) c5] 26), ((φ9 0), .cells #[.slice a8 (List.length (madeF M)) c8] 26)]) (fun φ212 => []) s trivial (fun φ212 => by kernel_rfl) ?_
          intro φ212 w212 s
          refine call_rule (some 88) s (sameF_c h211_0 hk144 (Nat.le_trans keep_len (Nat.le_trans made_len (by decide)))) (by kernel_rfl) ?_
          intro v213 I213 w213 le213 h213 s
          replace h0 := FSl.mono le213 h0
          replace hM := FSl.mono le213 hM
          replace hN := Tx.NmT.mono le213 hN
          replace hT := Tx.U8.mono le213 hT
          replace h5_0 := FSl.mono le213 h5_0
          replace h5_1 := FSl.mono le213 h5_1
          replace h8_0 := FSl.mono le213 h8_0
          replace h8_1 := FSl.mono le213 h8_1
          replace hle124 := leMono le213 hle124
          replace hk144 := FSl.mono le213 hk144
          replace hle148 := leMono le213 hle148
          replace h210_0 := FSl.mono le213 h210_0
          replace h211_0 := FSl.mono le213 h211_0
          replace hk162 := le213 _ _ hk162
          obtain rfl := h213
          refine ops_rule (C := []) [((φ6 0), .cells #[.slice a5 (List.length (madeF L)) c5] 26), ((φ9 0), .cells #[.slice a8 (List.length (madeF M)) c8] 26)] [] 2 [.o 0] 0 (fun φ214 => [(90, .agg #[.slice a5 (List.length (madeF L)) c5]), (89, .bool true)]) (fun φ214 => [((φ6 0), .cells #[.slice a5 (List.length (madeF L)) c5] 26), ((φ9 0), .cells #[.slice a8 (List.length (madeF M)) c8] 26)]) (fun φ214 => [(φ6 0)]) s trivial (fun φ214 => by kernel_rfl) ?_
          intro φ214 w214 s
          refine call_rule (some 91) s (title_c h5_0) (by kernel_rfl) ?_
          intro v215 I215 w215 le215 h215 s
          replace h0 := FSl.mono le215 h0
          replace hM := FSl.mono le215 hM
          replace hN := Tx.NmT.mono le215 hN
          replace hT := Tx.U8.mono le215 hT
          replace h5_0 := FSl.mono le215 h5_0
          replace h5_1 := FSl.mono le215 h5_1
          replace h8_0 := FSl.mono le215 h8_0
          replace h8_1 := FSl.mono le215 h8_1
          replace hle124 := leMono le215 hle124
          replace hk144 := FSl.mono le215 hk144
          replace hle148 := leMono le215 hle148
          replace h210_0 := FSl.mono le215 h210_0
          replace h211_0 := FSl.mono le215 h211_0
          replace hk162 := le215 _ _ hk162
          obtain rfl := h215
          refine ops_rule (C := []) [((φ6 0), .cells #[.slice a5 (List.length (madeF L)) c5] 26), ((φ9 0), .cells #[.slice a8 (List.length (madeF M)) c8] 26)] [] 1 [] 0 (fun φ216 => [(92, .string ⟨(titF (madeF L)).toArray⟩)]) (fun φ216 => [((φ6 0), .cells #[.slice a5 (List.length (madeF L)) c5] 26), ((φ9 0), .cells #[.slice a8 (List.length (madeF M)) c8] 26)]) (fun φ216 => []) s trivial (fun φ216 => by kernel_rfl) ?_
          intro φ216 w216 s
          refine sem_rule (binOp .eql 9 (.string ⟨(titF (madeF L)).toArray⟩) (.string ⟨(titF (madeF L)).toArray⟩)) (some 93) (.bool true) (by kernel_rfl) ((Tx.run_eqT (x := titF (madeF L)))) ?_
          refine ops_rule (C := []) [((φ6 0), .cells #[.slice a5 (List.length (madeF L)) c5] 26), ((φ9 0), .cells #[.slice a8 (List.length (madeF M)) c8] 26)] [] 3 [] 0 (fun φ217 => [(96, .int .i64 z), (95, .bool true), (94, .bool true)]) (fun φ217 => [((φ6 0), .cells #[.slice a5 (List.length (madeF L)) c5] 26), ((φ9 0), .cells #[.slice a8 (List.length (madeF M)) c8] 26)]) (fun φ217 => []) s trivial (fun φ217 => by kernel_rfl) ?_
          intro φ217 w217 s
          refine call_rule (some 97) s (Tx.kindName_c hN (z := z)) (by kernel_rfl) ?_
          intro v218 I218 w218 le218 h218 s
          replace h0 := FSl.mono le218 h0
          replace hM := FSl.mono le218 hM
          replace hN := Tx.NmT.mono le218 hN
          replace hT := Tx.U8.mono le218 hT
          replace h5_0 := FSl.mono le218 h5_0
          replace h5_1 := FSl.mono le218 h5_1
          replace h8_0 := FSl.mono le218 h8_0
          replace h8_1 := FSl.mono le218 h8_1
          replace hle124 := leMono le218 hle124
          replace hk144 := FSl.mono le218 hk144
          replace hle148 := leMono le218 hle148
          replace h210_0 := FSl.mono le218 h210_0
          replace h211_0 := FSl.mono le218 h211_0
          replace hk162 := le218 _ _ hk162
          obtain rfl := h218
          refine ops_rule (C := []) [((φ6 0), .cells #[.slice a5 (List.length (madeF L)) c5] 26), ((φ9 0), .cells #[.slice a8 (List.length (madeF M)) c8] 26)] [] 1 [] 0 (fun φ219 => [(98, .string ⟨#[]⟩)]) (fun φ219 => [((φ6 0), .cells #[.slice a5 (List.length (madeF L)) c5] 26), ((φ9 0), .cells #[.slice a8 (List.length (madeF M)) c8] 26)]) (fun φ219 => []) s trivial (fun φ219 => by kernel_rfl) ?_
          intro φ219 w219 s
          refine sem_rule (binOp .eql 9 (.string ⟨((Tx.nmS z)).toArray⟩) (.string ⟨(([] : List UInt8)).toArray⟩)) (some 99) (.bool (decide ((Tx.nmS z) = ([] : List UInt8)))) (by kernel_rfl) (Tx.run_eqS (x := (Tx.nmS z)) (y := ([] : List UInt8))) ?_
          refine ops_rule (C := []) [((φ6 0), .cells #[.slice a5 (List.length (madeF L)) c5] 26), ((φ9 0), .cells #[.slice a8 (List.length (madeF M)) c8] 26)] [] 2 [] 0 (fun φ220 => [(101, .bool (decide ((Tx.nmS z) = ([] : List UInt8)))), (100, .bool (decide ((Tx.nmS z) = ([] : List UInt8))))]) (fun φ220 => [((φ6 0), .cells #[.slice a5 (List.length (madeF L)) c5] 26), ((φ9 0), .cells #[.slice a8 (List.length (madeF M)) c8] 26)]) (fun φ220 => []) s trivial (fun φ220 => by kernel_rfl) ?_
          intro φ220 w220 s
          rcases Bool.eq_false_or_eq_true (decide ((Tx.nmS z) = ([] : List UInt8))) with hc221 | hc221
          ·
            rw [hc221]
            refine ops_rule (C := []) [((φ6 0), .cells #[.slice a5 (List.length (madeF L)) c5] 26), ((φ9 0), .cells #[.slice a8 (List.length (madeF M)) c8] 26)] [] 2 [.o 0, .o 1] 0 (fun φ222 => [(103, .agg #[.slice a8 (List.length (madeF M)) c8]), (102, .agg #[.slice a5 (List.length (madeF L)) c5])]) (fun φ222 => [((φ6 0), .cells #[.slice a5 (List.length (madeF L)) c5] 26), ((φ9 0), .cells #[.slice a8 (List.length (madeF M)) c8] 26)]) (fun φ222 => [(φ6 0), (φ9 0)]) s trivial (fun φ222 => by kernel_rfl) ?_
            intro φ222 w222 s
            refine call_rule (some 104) s (sameCd_c h5_0 h8_0 (Nat.le_trans made_len (by decide))) (by kernel_rfl) ?_
            intro v223 I223 w223 le223 h223 s
            replace h0 := FSl.mono le223 h0
            replace hM := FSl.mono le223 hM
            replace hN := Tx.NmT.mono le223 hN
            replace hT := Tx.U8.mono le223 hT
            replace h5_0 := FSl.mono le223 h5_0
            replace h5_1 := FSl.mono le223 h5_1
            replace h8_0 := FSl.mono le223 h8_0
            replace h8_1 := FSl.mono le223 h8_1
            replace hle124 := leMono le223 hle124
            replace hk144 := FSl.mono le223 hk144
            replace hle148 := leMono le223 hle148
            replace h210_0 := FSl.mono le223 h210_0
            replace h211_0 := FSl.mono le223 h211_0
            replace hk162 := le223 _ _ hk162
            obtain rfl := h223
            refine ops_rule (C := []) [((φ6 0), .cells #[.slice a5 (List.length (madeF L)) c5] 26), ((φ9 0), .cells #[.slice a8 (List.length (madeF M)) c8] 26)] [] 2 [] 0 (fun φ224 => [(106, .slice b8 (List.length (madeF M)) d8), (105, .slice b5 (List.length (madeF L)) d5)]) (fun φ224 => [((φ6 0), .cells #[.slice a5 (List.length (madeF L)) c5] 26), ((φ9 0), .cells #[.slice a8 (List.length (madeF M)) c8] 26)]) (fun φ224 => []) s trivial (fun φ224 => by kernel_rfl) ?_
            intro φ224 w224 s
            refine call_rule (some 107) s (sameG_c h5_1 h8_1 (Nat.le_trans made_len (by decide))) (by kernel_rfl) ?_
            intro v225 I225 w225 le225 h225 s
            replace h0 := FSl.mono le225 h0
            replace hM := FSl.mono le225 hM
            replace hN := Tx.NmT.mono le225 hN
            replace hT := Tx.U8.mono le225 hT
            replace h5_0 := FSl.mono le225 h5_0
            replace h5_1 := FSl.mono le225 h5_1
            replace h8_0 := FSl.mono le225 h8_0
            replace h8_1 := FSl.mono le225 h8_1
            replace hle124 := leMono le225 hle124
            replace hk144 := FSl.mono le225 hk144
            replace hle148 := leMono le225 hle148
            replace h210_0 := FSl.mono le225 h210_0
            replace h211_0 := FSl.mono le225 h211_0
            replace hk162 := le225 _ _ hk162
            obtain rfl := h225
            refine sem_rule (binOp .eql 4 (.bool (decide ((madeF L) = (madeF M)))) (.bool (decide ((madeF L) = (madeF M))))) (some 108) (.bool true) (by kernel_rfl) (run_eqBB) ?_
            refine ops_rule (C := []) [((φ6 0), .cells #[.slice a5 (List.length (madeF L)) c5] 26), ((φ9 0), .cells #[.slice a8 (List.length (madeF M)) c8] 26)] [] 4 [.o 0, .o 0] 0 (fun φ226 => [(112, .agg #[.slice a5 (List.length (madeF L)) c5]), (111, .agg #[.slice a5 (List.length (madeF L)) c5]), (110, .bool true), (109, .bool true)]) (fun φ226 => [((φ6 0), .cells #[.slice a5 (List.length (madeF L)) c5] 26), ((φ9 0), .cells #[.slice a8 (List.length (madeF M)) c8] 26)]) (fun φ226 => [(φ6 0), (φ6 0)]) s trivial (fun φ226 => by kernel_rfl) ?_
            intro φ226 w226 s
            refine call_rule (some 113) s (sameS_c h5_0 h5_0 (Nat.le_trans made_len (by decide))) (by kernel_rfl) ?_
            intro v227 I227 w227 le227 h227 s
            replace h0 := FSl.mono le227 h0
            replace hM := FSl.mono le227 hM
            replace hN := Tx.NmT.mono le227 hN
            replace hT := Tx.U8.mono le227 hT
            replace h5_0 := FSl.mono le227 h5_0
            replace h5_1 := FSl.mono le227 h5_1
            replace h8_0 := FSl.mono le227 h8_0
            replace h8_1 := FSl.mono le227 h8_1
            replace hle124 := leMono le227 hle124
            replace hk144 := FSl.mono le227 hk144
            replace hle148 := leMono le227 hle148
            replace h210_0 := FSl.mono le227 h210_0
            replace h211_0 := FSl.mono le227 h211_0
            replace hk162 := le227 _ _ hk162
            obtain rfl := h227
            refine ops_rule (C := []) [((φ6 0), .cells #[.slice a5 (List.length (madeF L)) c5] 26), ((φ9 0), .cells #[.slice a8 (List.length (madeF M)) c8] 26)] [] 2 [] 0 (fun φ228 => [(8, .bool true), (114, .bool true)]) (fun φ228 => [((φ6 0), .cells #[.slice a5 (List.length (madeF L)) c5] 26), ((φ9 0), .cells #[.slice a8 (List.length (madeF M)) c8] 26)]) (fun φ228 => []) s trivial (fun φ228 => by kernel_rfl) ?_
            intro φ228 w228 s
            refine ops_done (by kernel_rfl) ?_
            refine wp_ret ?_
            refine ret_rule (C := []) [((φ6 0), .cells #[.slice a5 (List.length (madeF L)) c5] 26), ((φ9 0), .cells #[.slice a8 (List.length (madeF M)) c8] 26)] [] (.bool true) [] [] s trivial (by kernel_rfl) ?_
            exact ⟨_, _, _, rfl, s, rfl⟩
          ·
            exact absurd (Tx.nm_nil.2 (by have hq1 := of_decide_eq_false hc127; have hq2 := of_decide_eq_false hc151; have hq3 := of_decide_eq_false hc165; omega)) (of_decide_eq_false hc221)

end Go.Proofs.YtcpmjogeafhpnaaDoor
