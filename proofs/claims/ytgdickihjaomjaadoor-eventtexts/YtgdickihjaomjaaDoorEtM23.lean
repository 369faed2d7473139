/- Any text is read: the document's Parse. -/
import Derived.Test.YtgdickihjaomjaaDoorEtP46
import Derived.Test.YtgdickihjaomjaaDoorRows
import Derived.Test.YtgdickihjaomjaaDoorEtM15
import Derived.ProofKit
import Derived.LaidMore
import Derived.OpenShut
import Derived.Stop.Joined
import Derived.Stop.LaidErr
import Derived.Lib.LaidTab
set_option linter.all false
set_option maxRecDepth 100000
namespace Go.Proofs.YtgdickihjaomjaaDoor
open Go.RowKit Go.Sep
attribute [local irreducible] Go.wpList Go.Code.wp
def ckG (e : E) : Nat := if 16 < e.depth then 3 else if 1048576 < e.top then 4 else 0
theorem abv_top : ∀ {t : E}, abv t = true → 1048576 < t.top
  | .leaf n, h => of_decide_eq_true h
  | .node n l r, h => by
    have h : (abv l || abv r || decide (1048576 < n)) = true := h
    rw [topN]
    simp only [Bool.or_eq_true, decide_eq_true_eq] at h
    rcases h with (h | h) | h
    · have := abv_top h; omega
    · have := abv_top h; omega
    · omega
theorem cE_id : ∀ {t : E}, abv t = false → cE t = t
  | .leaf n, h => by
    have h := of_decide_eq_false h
    show E.leaf (min n 1048576) = _
    rw [Nat.min_eq_left (by omega)]
  | .node n l r, h => by
    have h : (abv l || abv r || decide (1048576 < n)) = false := h
    simp only [Bool.or_eq_false_iff, decide_eq_false_iff_not] at h
    show E.node (min n 1048576) (cE l) (cE r) = _
    rw [cE_id h.1.1, cE_id h.1.2, Nat.min_eq_left (by omega)]
theorem top_ge : ∀ t : E, (cE t).top ≤ t.top
  | .leaf n => Nat.min_le_left _ _
  | .node n l r => by
    have h1 := top_ge l
    have h2 := top_ge r
    show min n 1048576 + max (cE l).top (cE r).top ≤ n + max l.top r.top
    omega
section
variable {ss : List UInt8} {t : E}
theorem q_deep (h : rdG (ss.length + 1) ss = some (t, [])) (hc : ckG (cE t) ≠ 0) : pErr ss = ckG (cE t) ∧ pE ss = .leaf 0 := by
  unfold ckG at hc ⊢
  rw [dep_c] at hc ⊢
  by_cases q : 16 < t.depth
  · rw [if_pos q]; exact p_deep h q
  · rw [if_neg q] at hc ⊢
    by_cases q2 : 1048576 < (cE t).top
    · rw [if_pos q2]
      have h3 := top_ge t
      have h4 := p_ok h q
      rw [errB_no (by omega), okE_no (by omega)] at h4; exact h4
    · rw [if_neg q2] at hc; exact absurd rfl hc
theorem ck_ok (hc : ¬ ckG (cE t) ≠ 0) : ¬ 16 < t.depth ∧ (cE t).top ≤ 1048576 := by
  unfold ckG at hc
  rw [dep_c] at hc
  by_cases q : 16 < t.depth
  · rw [if_pos q] at hc; exact absurd (by decide) hc
  · rw [if_neg q] at hc
    by_cases q2 : 1048576 < (cE t).top
    · rw [if_pos q2] at hc; exact absurd (by decide) hc
    · exact ⟨q, by omega⟩
theorem q_abv (h : rdG (ss.length + 1) ss = some (t, [])) (hc : ¬ ckG (cE t) ≠ 0) (ha : abv t = true) : pErr ss = 4 ∧ pE ss = .leaf 0 := by
  have h3 := abv_top ha
  have h4 := p_ok h (ck_ok hc).1
  rw [errB_no (by omega), okE_no (by omega)] at h4; exact h4
theorem q_ok (h : rdG (ss.length + 1) ss = some (t, [])) (hc : ¬ ckG (cE t) ≠ 0) (ha : abv t = false) : pErr ss = 0 ∧ pE ss = cE t := by
  have h4 := p_ok h (ck_ok hc).1
  have h5 := (ck_ok hc).2
  rw [cE_id ha] at h5 ⊢
  rw [errB_yes h5, okE_yes h5] at h4; exact h4
theorem q_none (h : rdG (ss.length + 1) ss = none) : pErr ss = 6 ∧ pE ss = .leaf 0 := p_none fun t e => by rw [h] at e; cases e
theorem q_rest {rest : List UInt8} (h : rdG (ss.length + 1) ss = some (t, rest)) (hr : 0 < rest.length) : pErr ss = 6 ∧ pE ss = .leaf 0 := p_none fun t e => by
  rw [h] at e
  simp only [Option.some.injEq, Prod.mk.injEq] at e
  rw [e.2] at hr; exact absurd hr (Nat.lt_irrefl _)
end

set_option maxHeartbeats 1000000 in
theorem rcheckG_c {I : IM} {e : E} {k : Nat} (h : RE I e k) (hd : e.depth ≤ 1000) (ht : e.top < 18446744073709551616) : Fun Tryd.prog 79 #[.pointer (some ⟨k, 0, none⟩)] I (fun v J => v = .int .i64 ((ckG e : Nat) : Int)) := by
  refine enter_rule 9 [(0, .pointer (some ⟨k, 0, none⟩))] Tryd.func79 rfl (by kernel_rfl) ?_
  intro w s
  refine wp_seq ?_
  refine region_rule ?_
  refine ops_rule (C := []) [] [] 1 [] 0 (fun φ1 => [(2, .int .i64 0)]) (fun φ1 => []) (fun φ1 => []) s trivial (fun φ1 => by kernel_rfl) ?_
  intro φ1 w1 s
  refine ops_done (by kernel_rfl) ?_
  refine wp_seq ?_
  refine wp_seq ?_
  refine region_rule ?_
  refine ops_rule (C := []) [] [] 1 [] 0 (fun φ2 => [(3, .pointer (some ⟨k, 0, none⟩))]) (fun φ2 => []) (fun φ2 => []) s trivial (fun φ2 => by kernel_rfl) ?_
  intro φ2 w2 s
  refine call_rule (some 4) s (rdepth_c e h hd) (by kernel_rfl) ?_
  intro v3 I3 w3 le3 h3 s
  replace h := RE.mono le3 h
  obtain rfl := h3
  refine ops_rule (C := []) [] [] 1 [] 0 (fun φ4 => [(5, .bool (decide (((E.depth e : Nat) : Int) > ((16 : Nat) : Int))))]) (fun φ4 => []) (fun φ4 => []) s trivial (fun φ4 => by kernel_rfl) ?_
  intro φ4 w4 s
  rw [nat_gtr (a := (E.depth e)) (b := 16)]
  refine ops_done (by kernel_rfl) ?_
  rcases Bool.eq_false_or_eq_true (decide (16 < (E.depth e))) with hc5 | hc5
  ·
    rw [hc5]
    refine cond_true_rule (b := true) (by kernel_rfl) rfl ?_
    refine wp_seq ?_
    refine region_rule ?_
    refine ops_rule (C := []) [] [] 1 [] 0 (fun φ6 => [(2, .int .i64 3)]) (fun φ6 => []) (fun φ6 => []) s trivial (fun φ6 => by kernel_rfl) ?_
    intro φ6 w6 s
    refine ops_done (by kernel_rfl) ?_
    refine wp_ret ?_
    refine ret_rule (C := []) [] [] (.int .i64 3) [] [] s trivial (by kernel_rfl) ?_
    exact ⟨_, _, _, rfl, s, (by rw [show ckG e = 3 from if_pos (of_decide_eq_true hc5)]; rfl)⟩
  ·
    rw [hc5]
    refine cond_false_rule (b := false) (by kernel_rfl) rfl ?_
    refine wp_skip ?_
    refine wp_seq ?_
    refine wp_seq ?_
    refine region_rule ?_
    refine ops_rule (C := []) [] [] 1 [] 0 (fun φ7 => [(6, .pointer (some ⟨k, 0, none⟩))]) (fun φ7 => []) (fun φ7 => []) s trivial (fun φ7 => by kernel_rfl) ?_
    intro φ7 w7 s
    refine call_rule (some 7) s (rmax_c e h ht) (by kernel_rfl) ?_
    intro v8 I8 w8 le8 h8 s
    replace h := RE.mono le8 h
    obtain rfl := h8
    refine ops_rule (C := []) [] [] 1 [] 0 (fun φ9 => [(8, .bool (decide (((E.top e : Nat) : Int) > ((1048576 : Nat) : Int))))]) (fun φ9 => []) (fun φ9 => []) s trivial (fun φ9 => by kernel_rfl) ?_
    intro φ9 w9 s
    rw [nat_gtr (a := (E.top e)) (b := 1048576)]
    refine ops_done (by kernel_rfl) ?_
    rcases Bool.eq_false_or_eq_true (decide (1048576 < (E.top e))) with hc10 | hc10
    ·
      rw [hc10]
      refine cond_true_rule (b := true) (by kernel_rfl) rfl ?_
      refine wp_seq ?_
      refine region_rule ?_
      refine ops_rule (C := []) [] [] 1 [] 0 (fun φ11 => [(2, .int .i64 4)]) (fun φ11 => []) (fun φ11 => []) s trivial (fun φ11 => by kernel_rfl) ?_
      intro φ11 w11 s
      refine ops_done (by kernel_rfl) ?_
      refine wp_ret ?_
      refine ret_rule (C := []) [] [] (.int .i64 4) [] [] s trivial (by kernel_rfl) ?_
      exact ⟨_, _, _, rfl, s, (by rw [show ckG e = 4 from (if_neg (of_decide_eq_false hc5)).trans (if_pos (of_decide_eq_true hc10))]; rfl)⟩
    ·
      rw [hc10]
      refine cond_false_rule (b := false) (by kernel_rfl) rfl ?_
      refine wp_skip ?_
      refine wp_seq ?_
      refine region_rule ?_
      refine ops_rule (C := []) [] [] 1 [] 0 (fun φ12 => [(2, .int .i64 0)]) (fun φ12 => []) (fun φ12 => []) s trivial (fun φ12 => by kernel_rfl) ?_
      intro φ12 w12 s
      refine ops_done (by kernel_rfl) ?_
      refine wp_ret ?_
      refine ret_rule (C := []) [] [] (.int .i64 0) [] [] s trivial (by kernel_rfl) ?_
      exact ⟨_, _, _, rfl, s, (by rw [show ckG e = 0 from (if_neg (of_decide_eq_false hc5)).trans (if_neg (of_decide_eq_false hc10))]; rfl)⟩

set_option maxHeartbeats 2000000 in
theorem rparse_c {I : IM} {ss : List UInt8} (hs : ss.length ≤ 1000) : Fun Tryd.prog 32 #[.string ⟨(ss).toArray⟩] I (fun v J => ∃ k, v = .tuple #[.pointer (some ⟨k, 0, none⟩), .int .i64 ((pErr ss : Nat) : Int)] ∧ RE J (pE ss) k) := by
  refine enter_rule 33 [(0, .string ⟨(ss).toArray⟩)] Tryd.func32 rfl (by kernel_rfl) ?_
  intro w s
  refine wp_seq ?_
  refine region_rule ?_
  refine ops_rule (C := []) [] [] 2 [] 0 (fun φ1 => [(3, .int .i64 0), (2, .pointer none)]) (fun φ1 => []) (fun φ1 => []) s trivial (fun φ1 => by kernel_rfl) ?_
  intro φ1 w1 s
  refine ops_done (by kernel_rfl) ?_
  refine wp_seq ?_
  refine region_rule ?_
  refine ops_rule (C := []) [] [] 1 [] 0 (fun φ2 => [(10, .string ⟨(ss).toArray⟩)]) (fun φ2 => []) (fun φ2 => []) s trivial (fun φ2 => by kernel_rfl) ?_
  intro φ2 w2 s
  refine call_rule (some 11) s (rparse_f (ss.length + 1) (s := ss) hs (Nat.lt_succ_self _)) (by kernel_rfl) ?_
  intro v3 I3 w3 le3 h3 s
  obtain ⟨k3, q3, a3, rfl, h3_0⟩ := h3
  refine ops_rule (C := []) [] [] 9 [] 0 (fun φ4 => [(7, .bool a3), (6, .bool ((rdG (ss.length + 1) ss).isSome)), (5, .string ⟨(q3).toArray⟩), (4, .pointer (some ⟨k3, 0, none⟩)), (15, .bool a3), (14, .bool ((rdG (ss.length + 1) ss).isSome)), (13, .string ⟨(q3).toArray⟩), (12, .pointer (some ⟨k3, 0, none⟩)), (9, .tuple #[.pointer (some ⟨k3, 0, none⟩), .string ⟨(q3).toArray⟩, .bool ((rdG (ss.length + 1) ss).isSome), .bool a3])]) (fun φ4 => []) (fun φ4 => []) s trivial (fun φ4 => by kernel_rfl) ?_
  intro φ4 w4 s
  refine ops_done (by kernel_rfl) ?_
  refine wp_seq ?_
  refine wp_seq ?_
  refine region_rule ?_
  refine ops_rule (C := []) [] [] 3 [] 0 (fun φ5 => [(18, .bool (!((rdG (ss.length + 1) ss).isSome))), (17, .bool (!((rdG (ss.length + 1) ss).isSome))), (16, .bool ((rdG (ss.length + 1) ss).isSome))]) (fun φ5 => []) (fun φ5 => []) s trivial (fun φ5 => by kernel_rfl) ?_
  intro φ5 w5 s
  rcases Bool.eq_false_or_eq_true ((rdG (ss.length + 1) ss).isSome) with hc6 | hc6
  ·
    obtain ⟨⟨t, rest⟩, ht⟩ := isS hc6
    obtain ⟨he, ha, hre⟩ := h3_0 _ _ ht
    rw [hc6]
    refine ops_rule (C := []) [] [] 4 [] 0 (fun φ7 => [(22, .bool (decide ((((q3).length : Nat) : Int) > ((0 : Nat) : Int)))), (21, .bool (decide ((((q3).length : Nat) : Int) > ((0 : Nat) : Int)))), (20, .int .i64 (((q3).length : Nat) : Int)), (19, .string ⟨(q3).toArray⟩)]) (fun φ7 => []) (fun φ7 => []) s trivial (fun φ7 => by kernel_rfl) ?_
    intro φ7 w7 s
    rw [nat_gtr (a := ((q3).length)) (b := 0)]
    refine ops_done (by kernel_rfl) ?_
    rcases Bool.eq_false_or_eq_true (decide (0 < ((q3).length))) with hc8 | hc8
    ·
      have hz9 := q_rest ht (by rw [← he]; exact of_decide_eq_true hc8)
      rw [hc8]
      refine cond_true_rule (b := true) (by kernel_rfl) rfl ?_
      refine wp_seq ?_
      refine region_rule ?_
      refine call_rule (some 23) s (rleaf_c (n := 0)) (by kernel_rfl) ?_
      intro v9 I9 w9 le9 h9 s
      replace h3_0 := RD.mono le9 h3_0
      replace hre := RE.mono le9 hre
      obtain ⟨k9, rfl, h9_0⟩ := h9
      refine ops_rule (C := []) [] [] 2 [] 0 (fun φ10 => [(3, .int .i64 6), (2, .pointer (some ⟨k9, 0, none⟩))]) (fun φ10 => []) (fun φ10 => []) s trivial (fun φ10 => by kernel_rfl) ?_
      intro φ10 w10 s
      refine ops_done (by kernel_rfl) ?_
      refine wp_ret ?_
      refine ret_rule (C := []) [] [] (.tuple #[.pointer (some ⟨k9, 0, none⟩), .int .i64 6]) [] [] s trivial (by kernel_rfl) ?_
      exact ⟨_, _, _, rfl, s, ⟨k9, by rw [hz9.1]; rfl, by rw [hz9.2]; exact h9_0⟩⟩
    ·
      have hr9 : rest = [] := List.length_eq_zero_iff.1 (by rw [← he]; have := of_decide_eq_false hc8; omega)
      subst hr9
      rw [hc8]
      refine cond_false_rule (b := false) (by kernel_rfl) rfl ?_
      refine wp_skip ?_
      refine wp_seq ?_
      refine wp_seq ?_
      refine region_rule ?_
      refine ops_rule (C := []) [] [] 1 [] 0 (fun φ11 => [(24, .pointer (some ⟨k3, 0, none⟩))]) (fun φ11 => []) (fun φ11 => []) s trivial (fun φ11 => by kernel_rfl) ?_
      intro φ11 w11 s
      refine call_rule (some 25) s (rcheckG_c (e := cE t) hre (by rw [dep_c]; have := rd_dep ht; omega) (rd_small ht hs)) (by kernel_rfl) ?_
      intro v12 I12 w12 le12 h12 s
      replace h3_0 := RD.mono le12 h3_0
      replace hre := RE.mono le12 hre
      obtain rfl := h12
      refine ops_rule (C := []) [] [] 1 [] 0 (fun φ13 => [(8, .int .i64 ((ckG (cE t) : Nat) : Int))]) (fun φ13 => []) (fun φ13 => []) s trivial (fun φ13 => by kernel_rfl) ?_
      intro φ13 w13 s
      refine ops_done (by kernel_rfl) ?_
      refine wp_seq ?_
      refine region_rule ?_
      refine ops_rule (C := []) [] [] 2 [] 0 (fun φ14 => [(27, .bool (((ckG (cE t) : Nat) : Int) != ((0 : Nat) : Int))), (26, .int .i64 ((ckG (cE t) : Nat) : Int))]) (fun φ14 => []) (fun φ14 => []) s trivial (fun φ14 => by kernel_rfl) ?_
      intro φ14 w14 s
      rw [nat_neq (a := (ckG (cE t))) (b := 0)]
      refine ops_done (by kernel_rfl) ?_
      rcases Bool.eq_false_or_eq_true (decide ((ckG (cE t)) ≠ 0)) with hc15 | hc15
      ·
        have hz9 := q_deep ht (of_decide_eq_true hc15)
        rw [hc15]
        refine cond_true_rule (b := true) (by kernel_rfl) rfl ?_
        refine wp_seq ?_
        refine region_rule ?_
        refine call_rule (some 28) s (rleaf_c (n := 0)) (by kernel_rfl) ?_
        intro v16 I16 w16 le16 h16 s
        replace h3_0 := RD.mono le16 h3_0
        replace hre := RE.mono le16 hre
        obtain ⟨k16, rfl, h16_0⟩ := h16
        refine ops_rule (C := []) [] [] 3 [] 0 (fun φ17 => [(3, .int .i64 ((ckG (cE t) : Nat) : Int)), (2, .pointer (some ⟨k16, 0, none⟩)), (29, .int .i64 ((ckG (cE t) : Nat) : Int))]) (fun φ17 => []) (fun φ17 => []) s trivial (fun φ17 => by kernel_rfl) ?_
        intro φ17 w17 s
        refine ops_done (by kernel_rfl) ?_
        refine wp_ret ?_
        refine ret_rule (C := []) [] [] (.tuple #[.pointer (some ⟨k16, 0, none⟩), .int .i64 ((ckG (cE t) : Nat) : Int)]) [] [] s trivial (by kernel_rfl) ?_
        exact ⟨_, _, _, rfl, s, ⟨k16, by rw [hz9.1], by rw [hz9.2]; exact h16_0⟩⟩
      ·
        have hk9 := of_decide_eq_false hc15
        rw [hc15]
        refine cond_false_rule (b := false) (by kernel_rfl) rfl ?_
        refine wp_skip ?_
        refine wp_seq ?_
        refine wp_seq ?_
        refine region_rule ?_
        refine ops_rule (C := []) [] [] 1 [] 0 (fun φ18 => [(30, .bool a3)]) (fun φ18 => []) (fun φ18 => []) s trivial (fun φ18 => by kernel_rfl) ?_
        intro φ18 w18 s
        refine ops_done (by kernel_rfl) ?_
        rcases Bool.eq_false_or_eq_true (a3) with hc19 | hc19
        ·
          have hz9 := q_abv ht hk9 (by rw [← ha]; exact hc19)
          rw [hc19]
          refine cond_true_rule (b := true) (by kernel_rfl) rfl ?_
          refine wp_seq ?_
          refine region_rule ?_
          refine call_rule (some 31) s (rleaf_c (n := 0)) (by kernel_rfl) ?_
          intro v20 I20 w20 le20 h20 s
          replace h3_0 := RD.mono le20 h3_0
          replace hre := RE.mono le20 hre
          obtain ⟨k20, rfl, h20_0⟩ := h20
          refine ops_rule (C := []) [] [] 2 [] 0 (fun φ21 => [(3, .int .i64 4), (2, .pointer (some ⟨k20, 0, none⟩))]) (fun φ21 => []) (fun φ21 => []) s trivial (fun φ21 => by kernel_rfl) ?_
          intro φ21 w21 s
          refine ops_done (by kernel_rfl) ?_
          refine wp_ret ?_
          refine ret_rule (C := []) [] [] (.tuple #[.pointer (some ⟨k20, 0, none⟩), .int .i64 4]) [] [] s trivial (by kernel_rfl) ?_
          exact ⟨_, _, _, rfl, s, ⟨k20, by rw [hz9.1]; rfl, by rw [hz9.2]; exact h20_0⟩⟩
        ·
          have hz9 := q_ok ht hk9 (by rw [← ha]; exact hc19)
          rw [hc19]
          refine cond_false_rule (b := false) (by kernel_rfl) rfl ?_
          refine wp_skip ?_
          refine wp_seq ?_
          refine region_rule ?_
          refine ops_rule (C := []) [] [] 3 [] 0 (fun φ22 => [(3, .int .i64 0), (2, .pointer (some ⟨k3, 0, none⟩)), (32, .pointer (some ⟨k3, 0, none⟩))]) (fun φ22 => []) (fun φ22 => []) s trivial (fun φ22 => by kernel_rfl) ?_
          intro φ22 w22 s
          refine ops_done (by kernel_rfl) ?_
          refine wp_ret ?_
          refine ret_rule (C := []) [] [] (.tuple #[.pointer (some ⟨k3, 0, none⟩), .int .i64 0]) [] [] s trivial (by kernel_rfl) ?_
          exact ⟨_, _, _, rfl, s, ⟨k3, by rw [hz9.1]; rfl, by rw [hz9.2]; exact hre⟩⟩
  ·
    have hz9 := q_none (isN hc6)
    rw [hc6]
    refine ops_rule (C := []) [] [] 4 [] 0 (fun φ23 => [(22, .bool true), (21, undef), (20, undef), (19, undef)]) (fun φ23 => []) (fun φ23 => []) s trivial (fun φ23 => by kernel_rfl) ?_
    intro φ23 w23 s
    refine ops_done (by kernel_rfl) ?_
    refine cond_true_rule (b := true) (by kernel_rfl) rfl ?_
    refine wp_seq ?_
    refine region_rule ?_
    refine call_rule (some 23) s (rleaf_c (n := 0)) (by kernel_rfl) ?_
    intro v24 I24 w24 le24 h24 s
    replace h3_0 := RD.mono le24 h3_0
    obtain ⟨k24, rfl, h24_0⟩ := h24
    refine ops_rule (C := []) [] [] 2 [] 0 (fun φ25 => [(3, .int .i64 6), (2, .pointer (some ⟨k24, 0, none⟩))]) (fun φ25 => []) (fun φ25 => []) s trivial (fun φ25 => by kernel_rfl) ?_
    intro φ25 w25 s
    refine ops_done (by kernel_rfl) ?_
    refine wp_ret ?_
    refine ret_rule (C := []) [] [] (.tuple #[.pointer (some ⟨k24, 0, none⟩), .int .i64 6]) [] [] s trivial (by kernel_rfl) ?_
    exact ⟨_, _, _, rfl, s, ⟨k24, by rw [hz9.1]; rfl, by rw [hz9.2]; exact h24_0⟩⟩

end Go.Proofs.YtgdickihjaomjaaDoor
/- Any text is read: the law. -/
set_option linter.all false
set_option maxRecDepth 100000
namespace Go.Proofs.YtgdickihjaomjaaDoor
open Go.RowKit Go.Sep
attribute [local irreducible] Go.wpList Go.Code.wp
theorem textE_sm16 {e : E} (h : e.depth ≤ 16) (ht : e.top < 18446744073709551616) : (textE e).length ≤ 1000000000 := by
  have h1 := textE_len e ht
  have : 2 ^ e.depth ≤ 2 ^ 16 := Nat.pow_le_pow_right (by omega) h
  omega
set_option maxHeartbeats 4000000 in
theorem likeX_step {I : IM} {e : E} {b k : Nat} {p : Option Addr} (hT : Tab I) (h : ERep I e b p) (h2 : RE I e k) (hn : e.nf) (hd : e.depth ≤ 16) (ht : e.top < 18446744073709551616) (ih : ∀ n l r, e = .node n l r → (∀ {J : IM} {b k : Nat} {p : Option Addr}, Tab J → ERep J l b p → RE J l k → Fun Tryd.prog 23 #[evv b p, .pointer (some ⟨k, 0, none⟩)] J (fun v _ => v = .bool true)) ∧ (∀ {J : IM} {b k : Nat} {p : Option Addr}, Tab J → ERep J r b p → RE J r k → Fun Tryd.prog 23 #[evv b p, .pointer (some ⟨k, 0, none⟩)] J (fun v _ => v = .bool true))) : Fun Tryd.prog 23 #[evv b p, .pointer (some ⟨k, 0, none⟩)] I (fun v J => v = .bool true) := by
  cases e with
  | leaf n =>
    clear ih
    obtain ⟨rfl, rfl⟩ := h
    have hre := h2
    refine enter_rule 81 [(0, .agg #[.int .u64 ((b : Nat) : Int), .pointer none]), (1, .pointer (some ⟨k, 0, none⟩))] Tryd.func23 rfl (by kernel_rfl) ?_
    intro w s
    refine wp_seq ?_
    refine region_rule ?_
    refine ops_rule (C := []) [] [] 2 [] 1 (fun φ1 => [(4, .bool false), (2, .pointer (some ⟨(φ1 0), 0, none⟩))]) (fun φ1 => [((φ1 0), .cells #[.int .u64 ((b : Nat) : Int), .pointer none] 27)]) (fun φ1 => []) s trivial (fun φ1 => by kernel_rfl) ?_
    intro φ1 w1 s
    refine ops_done (by kernel_rfl) ?_
    refine wp_seq ?_
    refine wp_seq ?_
    refine draw_rule (C := [(k, .cells #[.int .u64 ((b : Nat) : Int), .pointer none, .pointer none] 112)]) ⟨(fun φ2 xs2 => [.look 0 [.o 0, .o 0] [(φ1 0), (φ1 0)], .call 38 #[.agg #[.int .u64 ((b : Nat) : Int), .pointer none]], .look 0 [] [], .look 0 [] [], .look 0 [] [], .look 0 [.c 0] [k], .look 0 [] [], .look 0 [] [], .look 0 [] [], .look 0 [.o 0, .o 0] [(φ1 0), (φ1 0)], .call 37 #[.agg #[.int .u64 ((b : Nat) : Int), .pointer none]], .look 0 [] [], .look 0 [] [], .look 0 [] [], .look 0 [.c 0] [k], .sub 0 [] [] (.bool (((b : Nat) : Int) != ((b : Nat) : Int))), .look 0 [] [], .look 0 [] [], .look 0 [.o 0, .o 0] [(φ1 0), (φ1 0)], .call 72 #[.agg #[.int .u64 ((b : Nat) : Int), .pointer none]], .look 0 [] [], .call 71 #[.pointer (some ⟨k, 0, none⟩)], .sub 0 [] [] (.bool (((b : Nat) : Int) != ((b : Nat) : Int))), .look 0 [] [], .look 0 [] [], .look 0 [.o 0, .o 0] [(φ1 0), (φ1 0)], .call 34 #[.agg #[.int .u64 ((b : Nat) : Int), .pointer none]], .look 0 [] [], .call 67 #[.pointer (some ⟨k, 0, none⟩)], .sub 0 [] [] (.bool (((E.top (E.leaf b) : Nat) : Int) != ((E.top (E.leaf b) : Nat) : Int))), .look 0 [] [], .look 0 [] [], .look 0 [.o 0, .o 0] [(φ1 0), (φ1 0)], .call 35 #[.agg #[.int .u64 ((b : Nat) : Int), .pointer none]], .look 0 [] [], .call 20 #[.pointer (some ⟨k, 0, none⟩)], .sub 0 [] [] (.bool (((E.depth (E.leaf b) : Nat) : Int) != ((E.depth (E.leaf b) : Nat) : Int))), .look 0 [] [], .look 0 [] [], .look 0 [.o 0, .o 0] [(φ1 0), (φ1 0)], .call 25 #[.agg #[.int .u64 ((b : Nat) : Int), .pointer none]], .look 0 [] [], .call 24 #[.pointer (some ⟨k, 0, none⟩)], .sub 0 [] [] (.bool (!((⟨(textE (E.leaf b)).toArray⟩ : ByteArray).toList == (⟨(textE (E.leaf b)).toArray⟩ : ByteArray).toList))), .look 0 [] []]), (fun φ2 xs2 => [.agg #[.int .u64 ((b : Nat) : Int), .pointer none], .bool true, .pointer (some ⟨k, 0, none⟩), .pointer (some ⟨k, 0, none⟩), .pointer (some ⟨k, 1, none⟩), .pointer none, .bool true, .bool false, .bool false, .agg #[.int .u64 ((b : Nat) : Int), .pointer none], .int .u64 ((b : Nat) : Int), .pointer (some ⟨k, 0, none⟩), .pointer (some ⟨k, 0, none⟩), .pointer (some ⟨k, 0, none⟩), .int .u64 ((b : Nat) : Int), .bool false, .bool false, .bool false, .agg #[.int .u64 ((b : Nat) : Int), .pointer none], .int .u64 ((b : Nat) : Int), .pointer (some ⟨k, 0, none⟩), .int .u64 ((b : Nat) : Int), .bool false, .bool false, .bool false, .agg #[.int .u64 ((b : Nat) : Int), .pointer none], .int .u64 ((E.top (E.leaf b) : Nat) : Int), .pointer (some ⟨k, 0, none⟩), .int .u64 ((E.top (E.leaf b) : Nat) : Int), .bool false, .bool false, .bool false, .agg #[.int .u64 ((b : Nat) : Int), .pointer none], .int .i64 ((E.depth (E.leaf b) : Nat) : Int), .pointer (some ⟨k, 0, none⟩), .int .i64 ((E.depth (E.leaf b) : Nat) : Int), .bool false, .bool false, .bool false, .agg #[.int .u64 ((b : Nat) : Int), .pointer none], .string ⟨(textE (E.leaf b)).toArray⟩, .pointer (some ⟨k, 0, none⟩), .string ⟨(textE (E.leaf b)).toArray⟩, .bool false, .bool false]), (fun φ2 xs2 => [[((φ1 0), .cells #[.int .u64 ((b : Nat) : Int), .pointer none] 27)]]), (fun φ2 xs2 => [[default, default, default, default, default, default, default, default, default, default, default, default, default, default, default, default, default, default, default, default, default, default, default, default, default, default, default, default, default, default, default, default, default, default, default, default, default, default, default, default, default, default, default, default, default]]), [], [1, 3, 1, 1, 1, 1, 1, 1, 1, 1, 3, 1, 1, 1, 1, 5, 1, 1, 1, 3, 1, 3, 5, 1, 1, 1, 3, 1, 3, 5, 1, 1, 1, 3, 1, 3, 5, 1, 1, 1, 3, 1, 3, 5, 1]⟩ (fun j => ([MP.any, MP.any, MP.any, MP.any, MP.any, MP.any, MP.any, MP.any, MP.any, MP.any, MP.any, MP.any, MP.any, MP.any, MP.any, MP.any, MP.any, MP.any, MP.any, MP.any, MP.any, MP.any, MP.any, MP.any, MP.any, MP.any, MP.any, MP.any, MP.any, MP.any, MP.any, MP.any, MP.any, MP.any, MP.any, MP.any, MP.any, MP.any, MP.any, MP.any, MP.any, MP.any, MP.any, MP.any, MP.any] : List MP).getD j MP.any) [1, 10, 19, 21, 26, 28, 33, 35, 40, 42] [15, 22, 29, 36, 43] [] (fun φ2 xs2 => []) (fun φ2 xs2 => [(5, .agg #[.int .u64 ((b : Nat) : Int), .pointer none]), (6, .bool true), (7, .pointer (some ⟨k, 0, none⟩)), (8, .pointer (some ⟨k, 0, none⟩)), (9, .pointer (some ⟨k, 1, none⟩)), (10, .pointer none), (11, .bool true), (12, .bool false), (13, .bool false), (14, .agg #[.int .u64 ((b : Nat) : Int), .pointer none]), (15, .int .u64 ((b : Nat) : Int)), (16, .pointer (some ⟨k, 0, none⟩)), (17, .pointer (some ⟨k, 0, none⟩)), (18, .pointer (some ⟨k, 0, none⟩)), (19, .int .u64 ((b : Nat) : Int)), (20, .bool false), (21, .bool false), (22, .bool false), (23, .agg #[.int .u64 ((b : Nat) : Int), .pointer none]), (24, .int .u64 ((b : Nat) : Int)), (25, .pointer (some ⟨k, 0, none⟩)), (26, .int .u64 ((b : Nat) : Int)), (27, .bool false), (28, .bool false), (29, .bool false), (30, .agg #[.int .u64 ((b : Nat) : Int), .pointer none]), (31, .int .u64 ((E.top (E.leaf b) : Nat) : Int)), (32, .pointer (some ⟨k, 0, none⟩)), (33, .int .u64 ((E.top (E.leaf b) : Nat) : Int)), (34, .bool false), (35, .bool false), (36, .bool false), (37, .agg #[.int .u64 ((b : Nat) : Int), .pointer none]), (38, .int .i64 ((E.depth (E.leaf b) : Nat) : Int)), (39, .pointer (some ⟨k, 0, none⟩)), (40, .int .i64 ((E.depth (E.leaf b) : Nat) : Int)), (41, .bool false), (42, .bool false), (43, .bool false), (44, .agg #[.int .u64 ((b : Nat) : Int), .pointer none]), (45, .string ⟨(textE (E.leaf b)).toArray⟩), (46, .pointer (some ⟨k, 0, none⟩)), (47, .string ⟨(textE (E.leaf b)).toArray⟩), (48, .bool false), (49, .bool false)]) (fun φ2 xs2 => [((φ1 0), .cells #[.int .u64 ((b : Nat) : Int), .pointer none] 27)]) s ⟨h2, trivial⟩ (by kernel_rfl) (by kernel_rfl) (fun _ _ => by kernel_rfl) (fun _ _ => by kernel_rfl) ⟨fun _ _ => by kernel_rfl, fun _ _ => by kernel_rfl, fun _ _ => by kernel_rfl, fun _ _ => by kernel_rfl⟩ (fun _ _ _ => by kernel_rfl) (fun _ _ => by kernel_rfl) (fun _ _ => by kernel_rfl) (fun _ _ => by kernel_rfl) (fun _ _ => by kernel_rfl) (fun _ _ => by kernel_rfl) ⟨kcast (A := ∀ (φ2 : Nat → Nat) (xs2 : Xs), (.bool (((b : Nat) : Int) != ((b : Nat) : Int)) : Value) = .bool false) (by kernel_rfl) (fun φ2 xs2 => congrArg Value.bool (((nat_neq (a := b) (b := b)).trans (decide_eq_false (fun q => q rfl))))), ⟨kcast (A := ∀ (φ2 : Nat → Nat) (xs2 : Xs), (.bool (((b : Nat) : Int) != ((b : Nat) : Int)) : Value) = .bool false) (by kernel_rfl) (fun φ2 xs2 => congrArg Value.bool (((nat_neq (a := b) (b := b)).trans (decide_eq_false (fun q => q rfl))))), ⟨kcast (A := ∀ (φ2 : Nat → Nat) (xs2 : Xs), (.bool (((E.top (E.leaf b) : Nat) : Int) != ((E.top (E.leaf b) : Nat) : Int)) : Value) = .bool false) (by kernel_rfl) (fun φ2 xs2 => congrArg Value.bool (((nat_neq (a := (E.top (E.leaf b))) (b := (E.top (E.leaf b)))).trans (decide_eq_false (fun q => q rfl))))), ⟨kcast (A := ∀ (φ2 : Nat → Nat) (xs2 : Xs), (.bool (((E.depth (E.leaf b) : Nat) : Int) != ((E.depth (E.leaf b) : Nat) : Int)) : Value) = .bool false) (by kernel_rfl) (fun φ2 xs2 => congrArg Value.bool (((nat_neq (a := (E.depth (E.leaf b))) (b := (E.depth (E.leaf b)))).trans (decide_eq_false (fun q => q rfl))))), ⟨kcast (A := ∀ (φ2 : Nat → Nat) (xs2 : Xs), (.bool (!((⟨(textE (E.leaf b)).toArray⟩ : ByteArray).toList == (⟨(textE (E.leaf b)).toArray⟩ : ByteArray).toList)) : Value) = .bool false) (by kernel_rfl) (fun φ2 xs2 => congrArg Value.bool ((congrArg not (beq_self_eq_true _)))), trivial⟩⟩⟩⟩⟩ trivial (by kernel_rfl) ⟨?c2_1, ?c2_10, ?c2_19, ?c2_21, ?c2_26, ?c2_28, ?c2_33, ?c2_35, ?c2_40, ?c2_42, trivial⟩ ?k2
    case c2_1 =>
      refine kcast (A := ∀ (φ2 : Nat → Nat) (xs2 : Xs) (J1_2 : IM), I.Le J1_2 → Fun Tryd.prog 38 #[.agg #[.int .u64 ((b : Nat) : Int), .pointer none]] J1_2 (fun v J' => ∃ x : UX, v = .bool true ∧ (True))) (by kernel_rfl) ?_
      intro φ2 xs2 J1_2 leJ
      exact Fun.mono (isLeaf_c (ERep.lf _ b)) (fun v J' _ h => ⟨UX.d, h, trivial⟩)
    case c2_10 =>
      refine kcast (A := ∀ (φ2 : Nat → Nat) (xs2 : Xs) (J10_2 : IM), I.Le J10_2 → (True) → Fun Tryd.prog 37 #[.agg #[.int .u64 ((b : Nat) : Int), .pointer none]] J10_2 (fun v J' => ∃ x : UX, v = .int .u64 ((b : Nat) : Int) ∧ (True))) (by kernel_rfl) ?_
      intro φ2 xs2 J10_2 leJ
      rintro _
      exact Fun.mono (base_c (ERep.lf _ b)) (fun v J' _ h => ⟨UX.d, h, trivial⟩)
    case c2_19 =>
      refine kcast (A := ∀ (φ2 : Nat → Nat) (xs2 : Xs) (J19_2 : IM), I.Le J19_2 → (True) → (True) → Fun Tryd.prog 72 #[.agg #[.int .u64 ((b : Nat) : Int), .pointer none]] J19_2 (fun v J' => ∃ x : UX, v = .int .u64 ((b : Nat) : Int) ∧ (True))) (by kernel_rfl) ?_
      intro φ2 xs2 J19_2 leJ
      rintro _ _
      exact Fun.mono (min_c (ERep.lf _ b)) (fun v J' _ h => ⟨UX.d, h, trivial⟩)
    case c2_21 =>
      refine kcast (A := ∀ (φ2 : Nat → Nat) (xs2 : Xs) (J21_2 : IM), I.Le J21_2 → (True) → (True) → (True) → Fun Tryd.prog 71 #[.pointer (some ⟨k, 0, none⟩)] J21_2 (fun v J' => ∃ x : UX, v = .int .u64 ((b : Nat) : Int) ∧ (True))) (by kernel_rfl) ?_
      intro φ2 xs2 J21_2 leJ
      rintro _ _ _
      have hre := RE.mono leJ hre
      exact Fun.mono (rminL_c (e := (E.leaf b)) hn ht hre) (fun v J' _ h => ⟨UX.d, h, trivial⟩)
    case c2_26 =>
      refine kcast (A := ∀ (φ2 : Nat → Nat) (xs2 : Xs) (J26_2 : IM), I.Le J26_2 → (True) → (True) → (True) → (True) → Fun Tryd.prog 34 #[.agg #[.int .u64 ((b : Nat) : Int), .pointer none]] J26_2 (fun v J' => ∃ x : UX, v = .int .u64 ((E.top (E.leaf b) : Nat) : Int) ∧ (True))) (by kernel_rfl) ?_
      intro φ2 xs2 J26_2 leJ
      rintro _ _ _ _
      exact Fun.mono (max_c (ERep.lf _ b) ht) (fun v J' _ h => ⟨UX.d, h, trivial⟩)
    case c2_28 =>
      refine kcast (A := ∀ (φ2 : Nat → Nat) (xs2 : Xs) (J28_2 : IM), I.Le J28_2 → (True) → (True) → (True) → (True) → (True) → Fun Tryd.prog 67 #[.pointer (some ⟨k, 0, none⟩)] J28_2 (fun v J' => ∃ x : UX, v = .int .u64 ((E.top (E.leaf b) : Nat) : Int) ∧ (True))) (by kernel_rfl) ?_
      intro φ2 xs2 J28_2 leJ
      rintro _ _ _ _ _
      have hre := RE.mono leJ hre
      exact Fun.mono (rmax_c (E.leaf b) hre ht) (fun v J' _ h => ⟨UX.d, h, trivial⟩)
    case c2_33 =>
      refine kcast (A := ∀ (φ2 : Nat → Nat) (xs2 : Xs) (J33_2 : IM), I.Le J33_2 → (True) → (True) → (True) → (True) → (True) → (True) → Fun Tryd.prog 35 #[.agg #[.int .u64 ((b : Nat) : Int), .pointer none]] J33_2 (fun v J' => ∃ x : UX, v = .int .i64 ((E.depth (E.leaf b) : Nat) : Int) ∧ (True))) (by kernel_rfl) ?_
      intro φ2 xs2 J33_2 leJ
      rintro _ _ _ _ _ _
      exact Fun.mono (depth_c (ERep.lf _ b)) (fun v J' _ h => ⟨UX.d, h, trivial⟩)
    case c2_35 =>
      refine kcast (A := ∀ (φ2 : Nat → Nat) (xs2 : Xs) (J35_2 : IM), I.Le J35_2 → (True) → (True) → (True) → (True) → (True) → (True) → (True) → Fun Tryd.prog 20 #[.pointer (some ⟨k, 0, none⟩)] J35_2 (fun v J' => ∃ x : UX, v = .int .i64 ((E.depth (E.leaf b) : Nat) : Int) ∧ (True))) (by kernel_rfl) ?_
      intro φ2 xs2 J35_2 leJ
      rintro _ _ _ _ _ _ _
      have hre := RE.mono leJ hre
      exact Fun.mono (rdepth_c (E.leaf b) hre (Nat.le_trans hd (by decide))) (fun v J' _ h => ⟨UX.d, h, trivial⟩)
    case c2_40 =>
      refine kcast (A := ∀ (φ2 : Nat → Nat) (xs2 : Xs) (J40_2 : IM), I.Le J40_2 → (True) → (True) → (True) → (True) → (True) → (True) → (True) → (True) → Fun Tryd.prog 25 #[.agg #[.int .u64 ((b : Nat) : Int), .pointer none]] J40_2 (fun v J' => ∃ x : UX, v = .string ⟨(textE (E.leaf b)).toArray⟩ ∧ (True))) (by kernel_rfl) ?_
      intro φ2 xs2 J40_2 leJ
      rintro _ _ _ _ _ _ _ _
      have hT := Tab.mono leJ hT
      exact Fun.mono (text_c hT (ERep.lf _ b) ht (textE_sm16 hd ht)) (fun v J' _ h => ⟨UX.d, h, trivial⟩)
    case c2_42 =>
      refine kcast (A := ∀ (φ2 : Nat → Nat) (xs2 : Xs) (J42_2 : IM), I.Le J42_2 → (True) → (True) → (True) → (True) → (True) → (True) → (True) → (True) → (True) → Fun Tryd.prog 24 #[.pointer (some ⟨k, 0, none⟩)] J42_2 (fun v J' => ∃ x : UX, v = .string ⟨(textE (E.leaf b)).toArray⟩ ∧ (True))) (by kernel_rfl) ?_
      intro φ2 xs2 J42_2 leJ
      rintro _ _ _ _ _ _ _ _ _
      have hre := RE.mono leJ hre
      exact Fun.mono (etext_c (E.leaf b) hre ht (textE_sm16 hd ht)) (fun v J' _ h => ⟨UX.d, h, trivial⟩)
    case k2 =>
      rintro φ2 xs2 I2 w2 le2 s _ _ _ _ _ _ _ _ _ _
      replace hT := Tab.mono le2 hT
      replace hre := RE.mono le2 hre
      replace h2 := le2 _ _ h2
      refine cond_false_rule (b := false) (by kernel_rfl) rfl ?_
      refine wp_skip ?_
      refine wp_seq ?_
      refine wp_seq ?_
      refine region_rule ?_
      refine ops_rule (C := [(k, .cells #[.int .u64 ((b : Nat) : Int), .pointer none, .pointer none] 112)]) [((φ1 0), .cells #[.int .u64 ((b : Nat) : Int), .pointer none] 27)] [] 5 [.c 0] 0 (fun φ3 => [(54, .bool true), (53, .pointer none), (52, .pointer (some ⟨k, 1, none⟩)), (51, .pointer (some ⟨k, 0, none⟩)), (50, .pointer (some ⟨k, 0, none⟩))]) (fun φ3 => [((φ1 0), .cells #[.int .u64 ((b : Nat) : Int), .pointer none] 27)]) (fun φ3 => [k]) s ⟨h2, trivial⟩ (fun φ3 => by kernel_rfl) ?_
      intro φ3 w3 s
      refine ops_done (by kernel_rfl) ?_
      refine cond_true_rule (b := true) (by kernel_rfl) rfl ?_
      refine wp_seq ?_
      refine region_rule ?_
      refine ops_rule (C := []) [((φ1 0), .cells #[.int .u64 ((b : Nat) : Int), .pointer none] 27)] [] 1 [.o 0, .o 0] 0 (fun φ4 => [(55, .agg #[.int .u64 ((b : Nat) : Int), .pointer none])]) (fun φ4 => [((φ1 0), .cells #[.int .u64 ((b : Nat) : Int), .pointer none] 27)]) (fun φ4 => [(φ1 0), (φ1 0)]) s trivial (fun φ4 => by kernel_rfl) ?_
      intro φ4 w4 s
      refine call_rule (some 56) s (left_c (ERep.lf _ b)) (by kernel_rfl) ?_
      intro v5 I5 w5 le5 h5 s
      replace hT := Tab.mono le5 hT
      replace hre := RE.mono le5 hre
      replace h2 := le5 _ _ h2
      obtain ⟨b5, p5, rfl, h5_0⟩ := h5
      refine call_rule (some 57) s (textK_c (t := (E.leaf 0)) (l := [48]) (by kernel_rfl) hT h5_0 (by decide) (by decide)) (by kernel_rfl) ?_
      intro v6 I6 w6 le6 h6 s
      replace hT := Tab.mono le6 hT
      replace hre := RE.mono le6 hre
      replace h5_0 := ERep.mono le6 h5_0
      replace h2 := le6 _ _ h2
      obtain rfl := h6
      refine ops_rule (C := []) [((φ1 0), .cells #[.int .u64 ((b : Nat) : Int), .pointer none] 27)] [] 3 [.o 0, .o 0] 0 (fun φ7 => [(60, .agg #[.int .u64 ((b : Nat) : Int), .pointer none]), (59, .bool true), (58, .bool true)]) (fun φ7 => [((φ1 0), .cells #[.int .u64 ((b : Nat) : Int), .pointer none] 27)]) (fun φ7 => [(φ1 0), (φ1 0)]) s trivial (fun φ7 => by kernel_rfl) ?_
      intro φ7 w7 s
      refine call_rule (some 61) s (right_c (ERep.lf _ b)) (by kernel_rfl) ?_
      intro v8 I8 w8 le8 h8 s
      replace hT := Tab.mono le8 hT
      replace hre := RE.mono le8 hre
      replace h5_0 := ERep.mono le8 h5_0
      replace h2 := le8 _ _ h2
      obtain ⟨b8, p8, rfl, h8_0⟩ := h8
      refine call_rule (some 62) s (textK_c (t := (E.leaf 0)) (l := [48]) (by kernel_rfl) hT h8_0 (by decide) (by decide)) (by kernel_rfl) ?_
      intro v9 I9 w9 le9 h9 s
      replace hT := Tab.mono le9 hT
      replace hre := RE.mono le9 hre
      replace h5_0 := ERep.mono le9 h5_0
      replace h8_0 := ERep.mono le9 h8_0
      replace h2 := le9 _ _ h2
      obtain rfl := h9
      refine ops_rule (C := []) [((φ1 0), .cells #[.int .u64 ((b : Nat) : Int), .pointer none] 27)] [] 3 [] 0 (fun φ10 => [(4, .bool true), (64, .bool true), (63, .bool true)]) (fun φ10 => [((φ1 0), .cells #[.int .u64 ((b : Nat) : Int), .pointer none] 27)]) (fun φ10 => []) s trivial (fun φ10 => by kernel_rfl) ?_
      intro φ10 w10 s
      refine ops_done (by kernel_rfl) ?_
      refine wp_ret ?_
      refine ret_rule (C := []) [((φ1 0), .cells #[.int .u64 ((b : Nat) : Int), .pointer none] 27)] [] (.bool true) [] [] s trivial (by kernel_rfl) ?_
      exact ⟨_, _, _, rfl, s, rfl⟩
  | node n l r =>
    obtain ⟨ihl, ihr⟩ := ih n l r rfl
    clear ih
    have hn0 := h
    obtain ⟨rfl, kk, bl, pl, br, pr, rfl, hk, hl, hr⟩ := h
    have hre := h2
    obtain ⟨kl, kr, hk2, hl2, hr2⟩ := h2
    refine enter_rule 81 [(0, .agg #[.int .u64 ((b : Nat) : Int), .pointer (some ⟨kk, 0, none⟩)]), (1, .pointer (some ⟨k, 0, none⟩))] Tryd.func23 rfl (by kernel_rfl) ?_
    intro w s
    refine wp_seq ?_
    refine region_rule ?_
    refine ops_rule (C := []) [] [] 2 [] 1 (fun φ1 => [(4, .bool false), (2, .pointer (some ⟨(φ1 0), 0, none⟩))]) (fun φ1 => [((φ1 0), .cells #[.int .u64 ((b : Nat) : Int), .pointer (some ⟨kk, 0, none⟩)] 27)]) (fun φ1 => []) s trivial (fun φ1 => by kernel_rfl) ?_
    intro φ1 w1 s
    refine ops_done (by kernel_rfl) ?_
    refine wp_seq ?_
    refine wp_seq ?_
    refine draw_rule (C := [(k, .cells #[.int .u64 ((b : Nat) : Int), .pointer (some ⟨kl, 0, none⟩), .pointer (some ⟨kr, 0, none⟩)] 112)]) ⟨(fun φ2 xs2 => [.look 0 [.o 0, .o 0] [(φ1 0), (φ1 0)], .call 38 #[.agg #[.int .u64 ((b : Nat) : Int), .pointer (some ⟨kk, 0, none⟩)]], .look 0 [] [], .look 0 [] [], .look 0 [] [], .look 0 [.c 0] [k], .look 0 [] [], .look 0 [] [], .look 0 [] [], .look 0 [.o 0, .o 0] [(φ1 0), (φ1 0)], .call 37 #[.agg #[.int .u64 ((b : Nat) : Int), .pointer (some ⟨kk, 0, none⟩)]], .look 0 [] [], .look 0 [] [], .look 0 [] [], .look 0 [.c 0] [k], .sub 0 [] [] (.bool (((b : Nat) : Int) != ((b : Nat) : Int))), .look 0 [] [], .look 0 [] [], .look 0 [.o 0, .o 0] [(φ1 0), (φ1 0)], .call 72 #[.agg #[.int .u64 ((b : Nat) : Int), .pointer (some ⟨kk, 0, none⟩)]], .look 0 [] [], .call 71 #[.pointer (some ⟨k, 0, none⟩)], .sub 0 [] [] (.bool (((b : Nat) : Int) != ((b : Nat) : Int))), .look 0 [] [], .look 0 [] [], .look 0 [.o 0, .o 0] [(φ1 0), (φ1 0)], .call 34 #[.agg #[.int .u64 ((b : Nat) : Int), .pointer (some ⟨kk, 0, none⟩)]], .look 0 [] [], .call 67 #[.pointer (some ⟨k, 0, none⟩)], .sub 0 [] [] (.bool (((E.top (E.node b l r) : Nat) : Int) != ((E.top (E.node b l r) : Nat) : Int))), .look 0 [] [], .look 0 [] [], .look 0 [.o 0, .o 0] [(φ1 0), (φ1 0)], .call 35 #[.agg #[.int .u64 ((b : Nat) : Int), .pointer (some ⟨kk, 0, none⟩)]], .look 0 [] [], .call 20 #[.pointer (some ⟨k, 0, none⟩)], .sub 0 [] [] (.bool (((E.depth (E.node b l r) : Nat) : Int) != ((E.depth (E.node b l r) : Nat) : Int))), .look 0 [] [], .look 0 [] [], .look 0 [.o 0, .o 0] [(φ1 0), (φ1 0)], .call 25 #[.agg #[.int .u64 ((b : Nat) : Int), .pointer (some ⟨kk, 0, none⟩)]], .look 0 [] [], .call 24 #[.pointer (some ⟨k, 0, none⟩)], .sub 0 [] [] (.bool (!((⟨(textE (E.node b l r)).toArray⟩ : ByteArray).toList == (⟨(textE (E.node b l r)).toArray⟩ : ByteArray).toList))), .look 0 [] []]), (fun φ2 xs2 => [.agg #[.int .u64 ((b : Nat) : Int), .pointer (some ⟨kk, 0, none⟩)], .bool false, .pointer (some ⟨k, 0, none⟩), .pointer (some ⟨k, 0, none⟩), .pointer (some ⟨k, 1, none⟩), .pointer (some ⟨kl, 0, none⟩), .bool false, .bool false, .bool false, .agg #[.int .u64 ((b : Nat) : Int), .pointer (some ⟨kk, 0, none⟩)], .int .u64 ((b : Nat) : Int), .pointer (some ⟨k, 0, none⟩), .pointer (some ⟨k, 0, none⟩), .pointer (some ⟨k, 0, none⟩), .int .u64 ((b : Nat) : Int), .bool false, .bool false, .bool false, .agg #[.int .u64 ((b : Nat) : Int), .pointer (some ⟨kk, 0, none⟩)], .int .u64 ((b : Nat) : Int), .pointer (some ⟨k, 0, none⟩), .int .u64 ((b : Nat) : Int), .bool false, .bool false, .bool false, .agg #[.int .u64 ((b : Nat) : Int), .pointer (some ⟨kk, 0, none⟩)], .int .u64 ((E.top (E.node b l r) : Nat) : Int), .pointer (some ⟨k, 0, none⟩), .int .u64 ((E.top (E.node b l r) : Nat) : Int), .bool false, .bool false, .bool false, .agg #[.int .u64 ((b : Nat) : Int), .pointer (some ⟨kk, 0, none⟩)], .int .i64 ((E.depth (E.node b l r) : Nat) : Int), .pointer (some ⟨k, 0, none⟩), .int .i64 ((E.depth (E.node b l r) : Nat) : Int), .bool false, .bool false, .bool false, .agg #[.int .u64 ((b : Nat) : Int), .pointer (some ⟨kk, 0, none⟩)], .string ⟨(textE (E.node b l r)).toArray⟩, .pointer (some ⟨k, 0, none⟩), .string ⟨(textE (E.node b l r)).toArray⟩, .bool false, .bool false]), (fun φ2 xs2 => [[((φ1 0), .cells #[.int .u64 ((b : Nat) : Int), .pointer (some ⟨kk, 0, none⟩)] 27)]]), (fun φ2 xs2 => [[default, default, default, default, default, default, default, default, default, default, default, default, default, default, default, default, default, default, default, default, default, default, default, default, default, default, default, default, default, default, default, default, default, default, default, default, default, default, default, default, default, default, default, default, default]]), [], [1, 3, 1, 1, 1, 1, 1, 1, 1, 1, 3, 1, 1, 1, 1, 5, 1, 1, 1, 3, 1, 3, 5, 1, 1, 1, 3, 1, 3, 5, 1, 1, 1, 3, 1, 3, 5, 1, 1, 1, 3, 1, 3, 5, 1]⟩ (fun j => ([MP.any, MP.any, MP.any, MP.any, MP.any, MP.any, MP.any, MP.any, MP.any, MP.any, MP.any, MP.any, MP.any, MP.any, MP.any, MP.any, MP.any, MP.any, MP.any, MP.any, MP.any, MP.any, MP.any, MP.any, MP.any, MP.any, MP.any, MP.any, MP.any, MP.any, MP.any, MP.any, MP.any, MP.any, MP.any, MP.any, MP.any, MP.any, MP.any, MP.any, MP.any, MP.any, MP.any, MP.any, MP.any] : List MP).getD j MP.any) [1, 10, 19, 21, 26, 28, 33, 35, 40, 42] [15, 22, 29, 36, 43] [] (fun φ2 xs2 => []) (fun φ2 xs2 => [(5, .agg #[.int .u64 ((b : Nat) : Int), .pointer (some ⟨kk, 0, none⟩)]), (6, .bool false), (7, .pointer (some ⟨k, 0, none⟩)), (8, .pointer (some ⟨k, 0, none⟩)), (9, .pointer (some ⟨k, 1, none⟩)), (10, .pointer (some ⟨kl, 0, none⟩)), (11, .bool false), (12, .bool false), (13, .bool false), (14, .agg #[.int .u64 ((b : Nat) : Int), .pointer (some ⟨kk, 0, none⟩)]), (15, .int .u64 ((b : Nat) : Int)), (16, .pointer (some ⟨k, 0, none⟩)), (17, .pointer (some ⟨k, 0, none⟩)), (18, .pointer (some ⟨k, 0, none⟩)), (19, .int .u64 ((b : Nat) : Int)), (20, .bool false), (21, .bool false), (22, .bool false), (23, .agg #[.int .u64 ((b : Nat) : Int), .pointer (some ⟨kk, 0, none⟩)]), (24, .int .u64 ((b : Nat) : Int)), (25, .pointer (some ⟨k, 0, none⟩)), (26, .int .u64 ((b : Nat) : Int)), (27, .bool false), (28, .bool false), (29, .bool false), (30, .agg #[.int .u64 ((b : Nat) : Int), .pointer (some ⟨kk, 0, none⟩)]), (31, .int .u64 ((E.top (E.node b l r) : Nat) : Int)), (32, .pointer (some ⟨k, 0, none⟩)), (33, .int .u64 ((E.top (E.node b l r) : Nat) : Int)), (34, .bool false), (35, .bool false), (36, .bool false), (37, .agg #[.int .u64 ((b : Nat) : Int), .pointer (some ⟨kk, 0, none⟩)]), (38, .int .i64 ((E.depth (E.node b l r) : Nat) : Int)), (39, .pointer (some ⟨k, 0, none⟩)), (40, .int .i64 ((E.depth (E.node b l r) : Nat) : Int)), (41, .bool false), (42, .bool false), (43, .bool false), (44, .agg #[.int .u64 ((b : Nat) : Int), .pointer (some ⟨kk, 0, none⟩)]), (45, .string ⟨(textE (E.node b l r)).toArray⟩), (46, .pointer (some ⟨k, 0, none⟩)), (47, .string ⟨(textE (E.node b l r)).toArray⟩), (48, .bool false), (49, .bool false)]) (fun φ2 xs2 => [((φ1 0), .cells #[.int .u64 ((b : Nat) : Int), .pointer (some ⟨kk, 0, none⟩)] 27)]) s ⟨hk2, trivial⟩ (by kernel_rfl) (by kernel_rfl) (fun _ _ => by kernel_rfl) (fun _ _ => by kernel_rfl) ⟨fun _ _ => by kernel_rfl, fun _ _ => by kernel_rfl, fun _ _ => by kernel_rfl, fun _ _ => by kernel_rfl⟩ (fun _ _ _ => by kernel_rfl) (fun _ _ => by kernel_rfl) (fun _ _ => by kernel_rfl) (fun _ _ => by kernel_rfl) (fun _ _ => by kernel_rfl) (fun _ _ => by kernel_rfl) ⟨kcast (A := ∀ (φ2 : Nat → Nat) (xs2 : Xs), (.bool (((b : Nat) : Int) != ((b : Nat) : Int)) : Value) = .bool false) (by kernel_rfl) (fun φ2 xs2 => congrArg Value.bool (((nat_neq (a := b) (b := b)).trans (decide_eq_false (fun q => q rfl))))), ⟨kcast (A := ∀ (φ2 : Nat → Nat) (xs2 : Xs), (.bool (((b : Nat) : Int) != ((b : Nat) : Int)) : Value) = .bool false) (by kernel_rfl) (fun φ2 xs2 => congrArg Value.bool (((nat_neq (a := b) (b := b)).trans (decide_eq_false (fun q => q rfl))))), ⟨kcast (A := ∀ (φ2 : Nat → Nat) (xs2 : Xs), (.bool (((E.top (E.node b l r) : Nat) : Int) != ((E.top (E.node b l r) : Nat) : Int)) : Value) = .bool false) (by kernel_rfl) (fun φ2 xs2 => congrArg Value.bool (((nat_neq (a := (E.top (E.node b l r))) (b := (E.top (E.node b l r)))).trans (decide_eq_false (fun q => q rfl))))), ⟨kcast (A := ∀ (φ2 : Nat → Nat) (xs2 : Xs), (.bool (((E.depth (E.node b l r) : Nat) : Int) != ((E.depth (E.node b l r) : Nat) : Int)) : Value) = .bool false) (by kernel_rfl) (fun φ2 xs2 => congrArg Value.bool (((nat_neq (a := (E.depth (E.node b l r))) (b := (E.depth (E.node b l r)))).trans (decide_eq_false (fun q => q rfl))))), ⟨kcast (A := ∀ (φ2 : Nat → Nat) (xs2 : Xs), (.bool (!((⟨(textE (E.node b l r)).toArray⟩ : ByteArray).toList == (⟨(textE (E.node b l r)).toArray⟩ : ByteArray).toList)) : Value) = .bool false) (by kernel_rfl) (fun φ2 xs2 => congrArg Value.bool ((congrArg not (beq_self_eq_true _)))), trivial⟩⟩⟩⟩⟩ trivial (by kernel_rfl) ⟨?c2_1, ?c2_10, ?c2_19, ?c2_21, ?c2_26, ?c2_28, ?c2_33, ?c2_35, ?c2_40, ?c2_42, trivial⟩ ?k2
    case c2_1 =>
      refine kcast (A := ∀ (φ2 : Nat → Nat) (xs2 : Xs) (J1_2 : IM), I.Le J1_2 → Fun Tryd.prog 38 #[.agg #[.int .u64 ((b : Nat) : Int), .pointer (some ⟨kk, 0, none⟩)]] J1_2 (fun v J' => ∃ x : UX, v = .bool false ∧ (True))) (by kernel_rfl) ?_
      intro φ2 xs2 J1_2 leJ
      have hn0 := ERep.mono leJ hn0
      exact Fun.mono (isLeaf_c hn0) (fun v J' _ h => ⟨UX.d, h, trivial⟩)
    case c2_10 =>
      refine kcast (A := ∀ (φ2 : Nat → Nat) (xs2 : Xs) (J10_2 : IM), I.Le J10_2 → (True) → Fun Tryd.prog 37 #[.agg #[.int .u64 ((b : Nat) : Int), .pointer (some ⟨kk, 0, none⟩)]] J10_2 (fun v J' => ∃ x : UX, v = .int .u64 ((b : Nat) : Int) ∧ (True))) (by kernel_rfl) ?_
      intro φ2 xs2 J10_2 leJ
      rintro _
      have hn0 := ERep.mono leJ hn0
      exact Fun.mono (base_c hn0) (fun v J' _ h => ⟨UX.d, h, trivial⟩)
    case c2_19 =>
      refine kcast (A := ∀ (φ2 : Nat → Nat) (xs2 : Xs) (J19_2 : IM), I.Le J19_2 → (True) → (True) → Fun Tryd.prog 72 #[.agg #[.int .u64 ((b : Nat) : Int), .pointer (some ⟨kk, 0, none⟩)]] J19_2 (fun v J' => ∃ x : UX, v = .int .u64 ((b : Nat) : Int) ∧ (True))) (by kernel_rfl) ?_
      intro φ2 xs2 J19_2 leJ
      rintro _ _
      have hn0 := ERep.mono leJ hn0
      exact Fun.mono (min_c hn0) (fun v J' _ h => ⟨UX.d, h, trivial⟩)
    case c2_21 =>
      refine kcast (A := ∀ (φ2 : Nat → Nat) (xs2 : Xs) (J21_2 : IM), I.Le J21_2 → (True) → (True) → (True) → Fun Tryd.prog 71 #[.pointer (some ⟨k, 0, none⟩)] J21_2 (fun v J' => ∃ x : UX, v = .int .u64 ((b : Nat) : Int) ∧ (True))) (by kernel_rfl) ?_
      intro φ2 xs2 J21_2 leJ
      rintro _ _ _
      have hre := RE.mono leJ hre
      exact Fun.mono (rminL_c (e := (E.node b l r)) hn ht hre) (fun v J' _ h => ⟨UX.d, h, trivial⟩)
    case c2_26 =>
      refine kcast (A := ∀ (φ2 : Nat → Nat) (xs2 : Xs) (J26_2 : IM), I.Le J26_2 → (True) → (True) → (True) → (True) → Fun Tryd.prog 34 #[.agg #[.int .u64 ((b : Nat) : Int), .pointer (some ⟨kk, 0, none⟩)]] J26_2 (fun v J' => ∃ x : UX, v = .int .u64 ((E.top (E.node b l r) : Nat) : Int) ∧ (True))) (by kernel_rfl) ?_
      intro φ2 xs2 J26_2 leJ
      rintro _ _ _ _
      have hn0 := ERep.mono leJ hn0
      exact Fun.mono (max_c hn0 ht) (fun v J' _ h => ⟨UX.d, h, trivial⟩)
    case c2_28 =>
      refine kcast (A := ∀ (φ2 : Nat → Nat) (xs2 : Xs) (J28_2 : IM), I.Le J28_2 → (True) → (True) → (True) → (True) → (True) → Fun Tryd.prog 67 #[.pointer (some ⟨k, 0, none⟩)] J28_2 (fun v J' => ∃ x : UX, v = .int .u64 ((E.top (E.node b l r) : Nat) : Int) ∧ (True))) (by kernel_rfl) ?_
      intro φ2 xs2 J28_2 leJ
      rintro _ _ _ _ _
      have hre := RE.mono leJ hre
      exact Fun.mono (rmax_c (E.node b l r) hre ht) (fun v J' _ h => ⟨UX.d, h, trivial⟩)
    case c2_33 =>
      refine kcast (A := ∀ (φ2 : Nat → Nat) (xs2 : Xs) (J33_2 : IM), I.Le J33_2 → (True) → (True) → (True) → (True) → (True) → (True) → Fun Tryd.prog 35 #[.agg #[.int .u64 ((b : Nat) : Int), .pointer (some ⟨kk, 0, none⟩)]] J33_2 (fun v J' => ∃ x : UX, v = .int .i64 ((E.depth (E.node b l r) : Nat) : Int) ∧ (True))) (by kernel_rfl) ?_
      intro φ2 xs2 J33_2 leJ
      rintro _ _ _ _ _ _
      have hn0 := ERep.mono leJ hn0
      exact Fun.mono (depth_c hn0) (fun v J' _ h => ⟨UX.d, h, trivial⟩)
    case c2_35 =>
      refine kcast (A := ∀ (φ2 : Nat → Nat) (xs2 : Xs) (J35_2 : IM), I.Le J35_2 → (True) → (True) → (True) → (True) → (True) → (True) → (True) → Fun Tryd.prog 20 #[.pointer (some ⟨k, 0, none⟩)] J35_2 (fun v J' => ∃ x : UX, v = .int .i64 ((E.depth (E.node b l r) : Nat) : Int) ∧ (True))) (by kernel_rfl) ?_
      intro φ2 xs2 J35_2 leJ
      rintro _ _ _ _ _ _ _
      have hre := RE.mono leJ hre
      exact Fun.mono (rdepth_c (E.node b l r) hre (Nat.le_trans hd (by decide))) (fun v J' _ h => ⟨UX.d, h, trivial⟩)
    case c2_40 =>
      refine kcast (A := ∀ (φ2 : Nat → Nat) (xs2 : Xs) (J40_2 : IM), I.Le J40_2 → (True) → (True) → (True) → (True) → (True) → (True) → (True) → (True) → Fun Tryd.prog 25 #[.agg #[.int .u64 ((b : Nat) : Int), .pointer (some ⟨kk, 0, none⟩)]] J40_2 (fun v J' => ∃ x : UX, v = .string ⟨(textE (E.node b l r)).toArray⟩ ∧ (True))) (by kernel_rfl) ?_
      intro φ2 xs2 J40_2 leJ
      rintro _ _ _ _ _ _ _ _
      have hT := Tab.mono leJ hT
      have hn0 := ERep.mono leJ hn0
      exact Fun.mono (text_c hT hn0 ht (textE_sm16 hd ht)) (fun v J' _ h => ⟨UX.d, h, trivial⟩)
    case c2_42 =>
      refine kcast (A := ∀ (φ2 : Nat → Nat) (xs2 : Xs) (J42_2 : IM), I.Le J42_2 → (True) → (True) → (True) → (True) → (True) → (True) → (True) → (True) → (True) → Fun Tryd.prog 24 #[.pointer (some ⟨k, 0, none⟩)] J42_2 (fun v J' => ∃ x : UX, v = .string ⟨(textE (E.node b l r)).toArray⟩ ∧ (True))) (by kernel_rfl) ?_
      intro φ2 xs2 J42_2 leJ
      rintro _ _ _ _ _ _ _ _ _
      have hre := RE.mono leJ hre
      exact Fun.mono (etext_c (E.node b l r) hre ht (textE_sm16 hd ht)) (fun v J' _ h => ⟨UX.d, h, trivial⟩)
    case k2 =>
      rintro φ2 xs2 I2 w2 le2 s _ _ _ _ _ _ _ _ _ _
      replace hT := Tab.mono le2 hT
      replace hl := ERep.mono le2 hl
      replace hr := ERep.mono le2 hr
      replace hn0 := ERep.mono le2 hn0
      replace hre := RE.mono le2 hre
      replace hl2 := RE.mono le2 hl2
      replace hr2 := RE.mono le2 hr2
      replace hk := le2 _ _ hk
      replace hk2 := le2 _ _ hk2
      refine cond_false_rule (b := false) (by kernel_rfl) rfl ?_
      refine wp_skip ?_
      refine wp_seq ?_
      refine wp_seq ?_
      refine region_rule ?_
      refine ops_rule (C := [(k, .cells #[.int .u64 ((b : Nat) : Int), .pointer (some ⟨kl, 0, none⟩), .pointer (some ⟨kr, 0, none⟩)] 112)]) [((φ1 0), .cells #[.int .u64 ((b : Nat) : Int), .pointer (some ⟨kk, 0, none⟩)] 27)] [] 5 [.c 0] 0 (fun φ3 => [(54, .bool false), (53, .pointer (some ⟨kl, 0, none⟩)), (52, .pointer (some ⟨k, 1, none⟩)), (51, .pointer (some ⟨k, 0, none⟩)), (50, .pointer (some ⟨k, 0, none⟩))]) (fun φ3 => [((φ1 0), .cells #[.int .u64 ((b : Nat) : Int), .pointer (some ⟨kk, 0, none⟩)] 27)]) (fun φ3 => [k]) s ⟨hk2, trivial⟩ (fun φ3 => by kernel_rfl) ?_
      intro φ3 w3 s
      refine ops_done (by kernel_rfl) ?_
      refine cond_false_rule (b := false) (by kernel_rfl) rfl ?_
      refine wp_skip ?_
      refine wp_seq ?_
      refine draw_rule (C := [(k, .cells #[.int .u64 ((b : Nat) : Int), .pointer (some ⟨kl, 0, none⟩), .pointer (some ⟨kr, 0, none⟩)] 112)]) ⟨(fun φ4 xs4 => [.look 0 [.o 0, .o 0] [(φ1 0), (φ1 0)], .call 39 #[.agg #[.int .u64 ((b : Nat) : Int), .pointer (some ⟨kk, 0, none⟩)]], .look 0 [] [], .look 0 [] [], .look 0 [] [], .look 0 [.c 0] [k], .call 23 #[.agg #[.int .u64 (((xs4 1).n 0 : Nat) : Int), .pointer ((xs4 1).p 0)], .pointer (some ⟨kl, 0, none⟩)], .look 0 [] [], .look 0 [.o 0, .o 0] [(φ1 0), (φ1 0)], .call 40 #[.agg #[.int .u64 ((b : Nat) : Int), .pointer (some ⟨kk, 0, none⟩)]], .look 0 [] [], .look 0 [] [], .look 0 [] [], .look 0 [.c 0] [k], .call 23 #[.agg #[.int .u64 (((xs4 9).n 0 : Nat) : Int), .pointer ((xs4 9).p 0)], .pointer (some ⟨kr, 0, none⟩)], .look 0 [] [], .look 0 [] []]), (fun φ4 xs4 => [.agg #[.int .u64 ((b : Nat) : Int), .pointer (some ⟨kk, 0, none⟩)], .agg #[.int .u64 (((xs4 1).n 0 : Nat) : Int), .pointer ((xs4 1).p 0)], .pointer (some ⟨k, 0, none⟩), .pointer (some ⟨k, 0, none⟩), .pointer (some ⟨k, 1, none⟩), .pointer (some ⟨kl, 0, none⟩), .bool true, .bool true, .agg #[.int .u64 ((b : Nat) : Int), .pointer (some ⟨kk, 0, none⟩)], .agg #[.int .u64 (((xs4 9).n 0 : Nat) : Int), .pointer ((xs4 9).p 0)], .pointer (some ⟨k, 0, none⟩), .pointer (some ⟨k, 0, none⟩), .pointer (some ⟨k, 2, none⟩), .pointer (some ⟨kr, 0, none⟩), .bool true, .bool true, .bool true]), (fun φ4 xs4 => [[((φ1 0), .cells #[.int .u64 ((b : Nat) : Int), .pointer (some ⟨kk, 0, none⟩)] 27)]]), (fun φ4 xs4 => [[default, default, default, default, default, default, default, default, default, default, default, default, default, default, default, default, default]]), [], [1, 3, 1, 1, 1, 1, 3, 1, 1, 3, 1, 1, 1, 1, 3, 1, 1]⟩ (fun j => ([MP.any, ⟨fun x J => ERep J l (x.n 0) (x.p 0), fun le h => ERep.mono le h⟩, MP.any, MP.any, MP.any, MP.any, MP.any, MP.any, MP.any, ⟨fun x J => ERep J r (x.n 0) (x.p 0), fun le h => ERep.mono le h⟩, MP.any, MP.any, MP.any, MP.any, MP.any, MP.any, MP.any] : List MP).getD j MP.any) [1, 6, 9, 14] [] [] (fun φ4 xs4 => []) (fun φ4 xs4 => [(65, .agg #[.int .u64 ((b : Nat) : Int), .pointer (some ⟨kk, 0, none⟩)]), (66, .agg #[.int .u64 (((xs4 1).n 0 : Nat) : Int), .pointer ((xs4 1).p 0)]), (67, .pointer (some ⟨k, 0, none⟩)), (68, .pointer (some ⟨k, 0, none⟩)), (69, .pointer (some ⟨k, 1, none⟩)), (70, .pointer (some ⟨kl, 0, none⟩)), (71, .bool true), (72, .bool true), (73, .agg #[.int .u64 ((b : Nat) : Int), .pointer (some ⟨kk, 0, none⟩)]), (74, .agg #[.int .u64 (((xs4 9).n 0 : Nat) : Int), .pointer ((xs4 9).p 0)]), (75, .pointer (some ⟨k, 0, none⟩)), (76, .pointer (some ⟨k, 0, none⟩)), (77, .pointer (some ⟨k, 2, none⟩)), (78, .pointer (some ⟨kr, 0, none⟩)), (79, .bool true), (80, .bool true), (4, .bool true)]) (fun φ4 xs4 => [((φ1 0), .cells #[.int .u64 ((b : Nat) : Int), .pointer (some ⟨kk, 0, none⟩)] 27)]) s ⟨hk2, trivial⟩ (by kernel_rfl) (by kernel_rfl) (fun _ _ => by kernel_rfl) (fun _ _ => by kernel_rfl) ⟨fun _ _ => by kernel_rfl, fun _ _ => by kernel_rfl, fun _ _ => by kernel_rfl, fun _ _ => by kernel_rfl⟩ (fun _ _ _ => by kernel_rfl) (fun _ _ => by kernel_rfl) (fun _ _ => by kernel_rfl) (fun _ _ => by kernel_rfl) (fun _ _ => by kernel_rfl) (fun _ _ => by kernel_rfl) trivial trivial (by kernel_rfl) ⟨?c4_1, ?c4_6, ?c4_9, ?c4_14, trivial⟩ ?k4
      case c4_1 =>
        refine kcast (A := ∀ (φ4 : Nat → Nat) (xs4 : Xs) (J1_4 : IM), I2.Le J1_4 → Fun Tryd.prog 39 #[.agg #[.int .u64 ((b : Nat) : Int), .pointer (some ⟨kk, 0, none⟩)]] J1_4 (fun v J' => ∃ x : UX, v = .agg #[.int .u64 ((x.n 0 : Nat) : Int), .pointer (x.p 0)] ∧ (ERep J' l (x.n 0) (x.p 0)))) (by kernel_rfl) ?_
        intro φ4 xs4 J1_4 leJ
        have hn0 := ERep.mono leJ hn0
        exact Fun.mono (left_c hn0) (fun v J' _ ⟨y0, y1, hv, g0⟩ => ⟨{ UX.d with n := fun j => y0, p := fun j => y1 }, hv, g0⟩)
      case c4_6 =>
        refine kcast (A := ∀ (φ4 : Nat → Nat) (xs4 : Xs) (J6_4 : IM), I2.Le J6_4 → (ERep J6_4 l ((xs4 1).n 0) ((xs4 1).p 0)) → Fun Tryd.prog 23 #[.agg #[.int .u64 (((xs4 1).n 0 : Nat) : Int), .pointer ((xs4 1).p 0)], .pointer (some ⟨kl, 0, none⟩)] J6_4 (fun v J' => ∃ x : UX, v = .bool true ∧ (True))) (by kernel_rfl) ?_
        intro φ4 xs4 J6_4 leJ
        rintro h4_1_0
        have hT := Tab.mono leJ hT
        have hl2 := RE.mono leJ hl2
        exact Fun.mono (ihl hT h4_1_0 hl2) (fun v J' _ h => ⟨UX.d, h, trivial⟩)
      case c4_9 =>
        refine kcast (A := ∀ (φ4 : Nat → Nat) (xs4 : Xs) (J9_4 : IM), I2.Le J9_4 → (ERep J9_4 l ((xs4 1).n 0) ((xs4 1).p 0)) → (True) → Fun Tryd.prog 40 #[.agg #[.int .u64 ((b : Nat) : Int), .pointer (some ⟨kk, 0, none⟩)]] J9_4 (fun v J' => ∃ x : UX, v = .agg #[.int .u64 ((x.n 0 : Nat) : Int), .pointer (x.p 0)] ∧ (ERep J' r (x.n 0) (x.p 0)))) (by kernel_rfl) ?_
        intro φ4 xs4 J9_4 leJ
        rintro h4_1_0 _
        have hn0 := ERep.mono leJ hn0
        exact Fun.mono (right_c hn0) (fun v J' _ ⟨y0, y1, hv, g0⟩ => ⟨{ UX.d with n := fun j => y0, p := fun j => y1 }, hv, g0⟩)
      case c4_14 =>
        refine kcast (A := ∀ (φ4 : Nat → Nat) (xs4 : Xs) (J14_4 : IM), I2.Le J14_4 → (ERep J14_4 l ((xs4 1).n 0) ((xs4 1).p 0)) → (True) → (ERep J14_4 r ((xs4 9).n 0) ((xs4 9).p 0)) → Fun Tryd.prog 23 #[.agg #[.int .u64 (((xs4 9).n 0 : Nat) : Int), .pointer ((xs4 9).p 0)], .pointer (some ⟨kr, 0, none⟩)] J14_4 (fun v J' => ∃ x : UX, v = .bool true ∧ (True))) (by kernel_rfl) ?_
        intro φ4 xs4 J14_4 leJ
        rintro h4_1_0 _ h4_9_0
        have hT := Tab.mono leJ hT
        have hr2 := RE.mono leJ hr2
        exact Fun.mono (ihr hT h4_9_0 hr2) (fun v J' _ h => ⟨UX.d, h, trivial⟩)
      case k4 =>
        rintro φ4 xs4 I4 w4 le4 s h4_1_0 _ h4_9_0 _
        replace hT := Tab.mono le4 hT
        replace hl := ERep.mono le4 hl
        replace hr := ERep.mono le4 hr
        replace hn0 := ERep.mono le4 hn0
        replace hre := RE.mono le4 hre
        replace hl2 := RE.mono le4 hl2
        replace hr2 := RE.mono le4 hr2
        replace hk := le4 _ _ hk
        replace hk2 := le4 _ _ hk2
        refine wp_ret ?_
        refine ret_rule (C := []) [((φ1 0), .cells #[.int .u64 ((b : Nat) : Int), .pointer (some ⟨kk, 0, none⟩)] 27)] [] (.bool true) [] [] s trivial (by kernel_rfl) ?_
        exact ⟨_, _, _, rfl, s, rfl⟩

theorem likeX_c : ∀ (e : E) {I : IM} {b k : Nat} {p : Option Addr}, Tab I → ERep I e b p → RE I e k → e.nf → e.depth ≤ 16 → e.top < 18446744073709551616 → Fun Tryd.prog 23 #[evv b p, .pointer (some ⟨k, 0, none⟩)] I (fun v J => v = .bool true)
  | .leaf n, _, _, _, _, hT, h, h2, hn, hd, ht => likeX_step hT h h2 hn hd ht (fun n l r h => by cases h)
  | .node n l r, _, _, _, _, hT, h, h2, hn, hd, ht => likeX_step hT h h2 hn hd ht (fun n' l' r' e => by
      cases e
      have ht1 : n + max l.top r.top < 18446744073709551616 := ht
      have hd1 : 1 + max l.depth r.depth ≤ 16 := hd
      exact ⟨fun {J} {b} {k} {p} a1 a2 a3 => likeX_c l a1 a2 a3 hn.1 (by omega) (by omega), fun {J} {b} {k} {p} a1 a2 a3 => likeX_c r a1 a2 a3 hn.2.1 (by omega) (by omega)⟩)

theorem run_takeStr {P : Program} {w : World} {t : TypeId} {s : List UInt8} {hi : Nat} (ht : P.underlying t = some .string) (h : hi ≤ s.length) :
    (Instr.sliceAt t (.string ⟨s.toArray⟩) none (some (.int .i64 ((hi : Nat) : Int))) none).run P w = .ok (.string ⟨(s.take hi).toArray⟩) w := by
  have hb : (Instr.sliceBound (.int .i64 ((hi : Nat) : Int)) (⟨s.toArray⟩ : ByteArray).size .sliceAlen).run P w = .ok hi w := run_bound (k := hi) h
  have e : (⟨s.toArray⟩ : ByteArray).extract 0 hi = ⟨(s.take hi).toArray⟩ := by
    apply ByteArray.ext
    rw [ByteArray.data_extract]
    apply Array.ext'
    simp only [Array.toList_extract, List.extract_eq_take_drop, List.drop_zero, Nat.sub_zero]
  simp [Instr.sliceAt, run_underlying ht, Instr.slice, Instr.sliceBounds, hb, e]
theorem pE_ok (ss : List UInt8) : (pE ss).nf ∧ (pE ss).depth ≤ 16 ∧ (pE ss).top ≤ 1048576 := by
  have z : (E.leaf 0).nf ∧ (E.leaf 0).depth ≤ 16 ∧ (E.leaf 0).top ≤ 1048576 := ⟨trivial, Nat.zero_le _, Nat.zero_le _⟩
  unfold pE
  split
  · rename_i t e
    split
    · exact z
    · rename_i h
      unfold okE
      split
      · rename_i h2
        exact ⟨(rd_text _ _ e).2, by omega, h2⟩
      · exact z
  · exact z
theorem pE_text {ss : List UInt8} (h : ¬ pErr ss ≠ 0) : textE (pE ss) = ss := by
  have h : pErr ss = 0 := Decidable.not_not.1 h
  unfold pErr at h
  unfold pE
  split at h
  · rename_i t e
    split at h
    · cases h
    · rename_i hd
      unfold errB at h
      split at h
      · rename_i h2
        rw [if_neg hd, okE_yes h2]
        have := (rd_text _ _ e).1
        rw [List.append_nil] at this; exact this.symm
      · cases h
  · cases h

set_option maxHeartbeats 2000000 in
theorem eventTexts_c {I : IM} {ss zz : List UInt8} (hT : Tab I) (hzz : zz = List.take (min (List.length ss) 250) ss) (hz : zz.length ≤ 250) : Fun Tryd.prog 6 #[.string ⟨(ss).toArray⟩] I (fun v J => v = .bool true) := by
  refine enter_rule 42 [(0, .string ⟨(ss).toArray⟩)] Tryd.func6 rfl (by kernel_rfl) ?_
  intro w s
  refine wp_seq ?_
  refine region_rule ?_
  refine ops_rule (C := []) [] [] 1 [] 0 (fun φ1 => [(2, .bool false)]) (fun φ1 => []) (fun φ1 => []) s trivial (fun φ1 => by kernel_rfl) ?_
  intro φ1 w1 s
  refine ops_done (by kernel_rfl) ?_
  refine wp_seq ?_
  refine wp_seq ?_
  refine region_rule ?_
  refine call_rule (some 7) s (awakeE_c hT) (by kernel_rfl) ?_
  intro v2 I2 w2 le2 h2 s
  replace hT := Tab.mono le2 hT
  obtain rfl := h2
  refine ops_rule (C := []) [] [] 1 [] 0 (fun φ3 => [(8, .bool false)]) (fun φ3 => []) (fun φ3 => []) s trivial (fun φ3 => by kernel_rfl) ?_
  intro φ3 w3 s
  refine ops_done (by kernel_rfl) ?_
  refine cond_false_rule (b := false) (by kernel_rfl) rfl ?_
  refine wp_skip ?_
  refine wp_seq ?_
  refine region_rule ?_
  refine ops_rule (C := []) [] [] 4 [] 0 (fun φ4 => [(12, .int .i64 (if ((250 : Nat) : Int) < (((ss).length : Nat) : Int) then ((250 : Nat) : Int) else (((ss).length : Nat) : Int))), (11, .int .i64 (((ss).length : Nat) : Int)), (10, .string ⟨(ss).toArray⟩), (9, .string ⟨(ss).toArray⟩)]) (fun φ4 => []) (fun φ4 => []) s trivial (fun φ4 => by kernel_rfl) ?_
  intro φ4 w4 s
  rw [nat_min (a := ((ss).length)) (b := 250)]
  refine sem_rule (Instr.sliceAt 9 (.string ⟨(ss).toArray⟩) none (some (.int .i64 ((min ((ss).length) 250 : Nat) : Int))) none) (some 13) (.string ⟨(zz).toArray⟩) (by kernel_rfl) ((by subst hzz; exact run_takeStr (s := ss) (hi := min ((ss).length) 250) under9 (Nat.min_le_left _ _))) ?_
  refine ops_rule (C := []) [] [] 1 [] 0 (fun φ5 => [(0, .string ⟨(zz).toArray⟩)]) (fun φ5 => []) (fun φ5 => []) s trivial (fun φ5 => by kernel_rfl) ?_
  intro φ5 w5 s
  refine ops_done (by kernel_rfl) ?_
  refine wp_seq ?_
  refine region_rule ?_
  refine ops_rule (C := []) [] [] 1 [] 0 (fun φ6 => [(15, .string ⟨(zz).toArray⟩)]) (fun φ6 => []) (fun φ6 => []) s trivial (fun φ6 => by kernel_rfl) ?_
  intro φ6 w6 s
  refine call_rule (some 16) s (parseA_c (ss := zz) (by omega)) (by kernel_rfl) ?_
  intro v7 I7 w7 le7 h7 s
  replace hT := Tab.mono le7 hT
  obtain ⟨b7, p7, rfl, h7_0⟩ := h7
  refine ops_rule (C := []) [] [] 6 [.o 0, .o 0] 1 (fun φ8 => [(4, .int .i64 ((pErr zz : Nat) : Int)), (3, .pointer (some ⟨(φ8 0), 0, none⟩)), (18, .int .i64 ((pErr zz : Nat) : Int)), (17, .agg #[.int .u64 ((b7 : Nat) : Int), .pointer p7]), (14, .tuple #[.agg #[.int .u64 ((b7 : Nat) : Int), .pointer p7], .int .i64 ((pErr zz : Nat) : Int)])]) (fun φ8 => [((φ8 0), .cells #[.int .u64 ((b7 : Nat) : Int), .pointer p7] 27)]) (fun φ8 => [(φ8 0), (φ8 0)]) s trivial (fun φ8 => by kernel_rfl) ?_
  intro φ8 w8 s
  refine ops_done (by kernel_rfl) ?_
  refine wp_seq ?_
  refine region_rule ?_
  refine ops_rule (C := []) [((φ8 0), .cells #[.int .u64 ((b7 : Nat) : Int), .pointer p7] 27)] [] 1 [] 0 (fun φ9 => [(20, .string ⟨(zz).toArray⟩)]) (fun φ9 => [((φ8 0), .cells #[.int .u64 ((b7 : Nat) : Int), .pointer p7] 27)]) (fun φ9 => []) s trivial (fun φ9 => by kernel_rfl) ?_
  intro φ9 w9 s
  refine call_rule (some 21) s (rparse_c (ss := zz) (by omega)) (by kernel_rfl) ?_
  intro v10 I10 w10 le10 h10 s
  replace hT := Tab.mono le10 hT
  replace h7_0 := ERep.mono le10 h7_0
  obtain ⟨k10, rfl, h10_0⟩ := h10
  refine ops_rule (C := []) [((φ8 0), .cells #[.int .u64 ((b7 : Nat) : Int), .pointer p7] 27)] [] 5 [] 0 (fun φ11 => [(6, .int .i64 ((pErr zz : Nat) : Int)), (5, .pointer (some ⟨k10, 0, none⟩)), (23, .int .i64 ((pErr zz : Nat) : Int)), (22, .pointer (some ⟨k10, 0, none⟩)), (19, .tuple #[.pointer (some ⟨k10, 0, none⟩), .int .i64 ((pErr zz : Nat) : Int)])]) (fun φ11 => [((φ8 0), .cells #[.int .u64 ((b7 : Nat) : Int), .pointer p7] 27)]) (fun φ11 => []) s trivial (fun φ11 => by kernel_rfl) ?_
  intro φ11 w11 s
  refine ops_done (by kernel_rfl) ?_
  refine wp_seq ?_
  refine region_rule ?_
  refine ops_rule (C := []) [((φ8 0), .cells #[.int .u64 ((b7 : Nat) : Int), .pointer p7] 27)] [] 4 [] 0 (fun φ12 => [(27, .bool (((pErr zz : Nat) : Int) == ((pErr zz : Nat) : Int))), (26, .bool (((pErr zz : Nat) : Int) == ((pErr zz : Nat) : Int))), (25, .int .i64 ((pErr zz : Nat) : Int)), (24, .int .i64 ((pErr zz : Nat) : Int))]) (fun φ12 => [((φ8 0), .cells #[.int .u64 ((b7 : Nat) : Int), .pointer p7] 27)]) (fun φ12 => []) s trivial (fun φ12 => by kernel_rfl) ?_
  intro φ12 w12 s
  rw [(nat_eql (a := (pErr zz)) (b := (pErr zz))).trans (decide_eq_true rfl)]
  refine ops_rule (C := []) [((φ8 0), .cells #[.int .u64 ((b7 : Nat) : Int), .pointer p7] 27)] [] 2 [.o 0, .o 0] 0 (fun φ13 => [(29, .pointer (some ⟨k10, 0, none⟩)), (28, .agg #[.int .u64 ((b7 : Nat) : Int), .pointer p7])]) (fun φ13 => [((φ8 0), .cells #[.int .u64 ((b7 : Nat) : Int), .pointer p7] 27)]) (fun φ13 => [(φ8 0), (φ8 0)]) s trivial (fun φ13 => by kernel_rfl) ?_
  intro φ13 w13 s
  refine call_rule (some 30) s (likeX_c (pE zz) hT h7_0 h10_0 (pE_ok zz).1 (pE_ok zz).2.1 (Nat.lt_of_le_of_lt (pE_ok zz).2.2 (by decide))) (by kernel_rfl) ?_
  intro v14 I14 w14 le14 h14 s
  replace hT := Tab.mono le14 hT
  replace h7_0 := ERep.mono le14 h7_0
  replace h10_0 := RE.mono le14 h10_0
  obtain rfl := h14
  refine ops_rule (C := []) [((φ8 0), .cells #[.int .u64 ((b7 : Nat) : Int), .pointer p7] 27)] [] 5 [] 0 (fun φ15 => [(35, .bool (((pErr zz : Nat) : Int) != ((0 : Nat) : Int))), (34, .bool (((pErr zz : Nat) : Int) != ((0 : Nat) : Int))), (33, .int .i64 ((pErr zz : Nat) : Int)), (32, .bool true), (31, .bool true)]) (fun φ15 => [((φ8 0), .cells #[.int .u64 ((b7 : Nat) : Int), .pointer p7] 27)]) (fun φ15 => []) s trivial (fun φ15 => by kernel_rfl) ?_
  intro φ15 w15 s
  rw [nat_neq (a := (pErr zz)) (b := 0)]
  rcases Bool.eq_false_or_eq_true (decide ((pErr zz) ≠ 0)) with hc16 | hc16
  ·
    rw [hc16]
    refine ops_rule (C := []) [((φ8 0), .cells #[.int .u64 ((b7 : Nat) : Int), .pointer p7] 27)] [] 7 [] 0 (fun φ17 => [(2, .bool true), (41, .bool true), (40, .bool true), (39, undef), (38, undef), (37, undef), (36, undef)]) (fun φ17 => [((φ8 0), .cells #[.int .u64 ((b7 : Nat) : Int), .pointer p7] 27)]) (fun φ17 => []) s trivial (fun φ17 => by kernel_rfl) ?_
    intro φ17 w17 s
    refine ops_done (by kernel_rfl) ?_
    refine wp_ret ?_
    refine ret_rule (C := []) [((φ8 0), .cells #[.int .u64 ((b7 : Nat) : Int), .pointer p7] 27)] [] (.bool true) [] [] s trivial (by kernel_rfl) ?_
    exact ⟨_, _, _, rfl, s, rfl⟩
  ·
    rw [hc16]
    refine ops_rule (C := []) [((φ8 0), .cells #[.int .u64 ((b7 : Nat) : Int), .pointer p7] 27)] [] 1 [.o 0, .o 0] 0 (fun φ18 => [(36, .agg #[.int .u64 ((b7 : Nat) : Int), .pointer p7])]) (fun φ18 => [((φ8 0), .cells #[.int .u64 ((b7 : Nat) : Int), .pointer p7] 27)]) (fun φ18 => [(φ8 0), (φ8 0)]) s trivial (fun φ18 => by kernel_rfl) ?_
    intro φ18 w18 s
    refine call_rule (some 37) s (textK_c (pE_text (of_decide_eq_false hc16)) hT h7_0 (Nat.lt_of_le_of_lt (pE_ok zz).2.2 (by decide)) (by omega)) (by kernel_rfl) ?_
    intro v19 I19 w19 le19 h19 s
    replace hT := Tab.mono le19 hT
    replace h7_0 := ERep.mono le19 h7_0
    replace h10_0 := RE.mono le19 h10_0
    obtain rfl := h19
    refine ops_rule (C := []) [((φ8 0), .cells #[.int .u64 ((b7 : Nat) : Int), .pointer p7] 27)] [] 5 [] 0 (fun φ20 => [(2, .bool ((⟨(zz).toArray⟩ : ByteArray).toList == (⟨(zz).toArray⟩ : ByteArray).toList)), (41, .bool ((⟨(zz).toArray⟩ : ByteArray).toList == (⟨(zz).toArray⟩ : ByteArray).toList)), (40, .bool ((⟨(zz).toArray⟩ : ByteArray).toList == (⟨(zz).toArray⟩ : ByteArray).toList)), (39, .bool ((⟨(zz).toArray⟩ : ByteArray).toList == (⟨(zz).toArray⟩ : ByteArray).toList)), (38, .string ⟨(zz).toArray⟩)]) (fun φ20 => [((φ8 0), .cells #[.int .u64 ((b7 : Nat) : Int), .pointer p7] 27)]) (fun φ20 => []) s trivial (fun φ20 => by kernel_rfl) ?_
    intro φ20 w20 s
    rw [beq_self_eq_true _]
    refine ops_done (by kernel_rfl) ?_
    refine wp_ret ?_
    refine ret_rule (C := []) [((φ8 0), .cells #[.int .u64 ((b7 : Nat) : Int), .pointer p7] 27)] [] (.bool true) [] [] s trivial (by kernel_rfl) ?_
    exact ⟨_, _, _, rfl, s, rfl⟩

theorem eventTextsA_c {I : IM} {ss : List UInt8} (hT : Tab I) : Fun Tryd.prog 6 #[.string ⟨(ss).toArray⟩] I (fun v J => v = .bool true) :=
  eventTexts_c hT rfl (by rw [List.length_take]; omega)

end Go.Proofs.YtgdickihjaomjaaDoor
/- What the laid tables give; the door's own heap. -/
set_option linter.all false
set_option maxRecDepth 100000
namespace Go.Proofs.YtgdickihjaomjaaDoor
open Go.RowKit Go.Sep

theorem ownKnob_none : ownKnob Tryd.prog.godebug = none := by kernel_rfl
abbrev laid3 : List (String × DataW Unit) := Rows.stampLimitsRow.laid
theorem door_met (os : Os) (args : Array Value) : laidMetH Tryd.prog laid3 ((World.doorLaid Tryd.prog 400 os).forCall (fun _ _ => 0) ⟨#[], args, []⟩).memory :=
  laidMetH_of_parts3 (fuel := 8) (laidMet_of_run' 8 (by kernel_rfl) (by kernel_rfl)) (by kernel_rfl) (by kernel_rfl)
theorem tabIs_of_laid {W : World} (h : laidMetH Tryd.prog laid3 W) : Lib.TabIs Tryd.prog W "internal/strconv.uint64pow10" .u64 Lib.pow10Tab := by
  rw [MakeChecks.laidMetH_plain _ _ _ (by kernel_rfl)] at h
  have h2 := laidMet.tail (laidMet.tail h)
  exact Lib.tabIs_of_head (g := 0) (t := 178) (n := 20) (e := 24) (by kernel_rfl) (by kernel_rfl) (by kernel_rfl) (by kernel_rfl) (by kernel_rfl) (by kernel_rfl) h2
theorem tab_of_laid {W : World} (h : laidMetH Tryd.prog laid3 W) : Tab (fun k => W.heap[k]?) := fun w hw => by
  have := tabIs_of_laid h
  unfold Lib.TabIs World.var? at this ⊢
  cases hg : Tryd.prog.globalNamed "internal/strconv.uint64pow10" with
  | none => rw [hg] at this; exact this
  | some g =>
    rw [hg] at this
    simp only [Option.bind_some] at this ⊢
    cases ho : W.heap[g]? with
    | none => rw [ho] at this; cases this
    | some o => rw [hw g o ho]; rw [ho] at this; exact this
end Go.Proofs.YtgdickihjaomjaaDoor
