/- What is made of a few; fields compared, found. -/
import Derived.Test.YtcpmjogeafhpnaaDoorCmM24
set_option linter.all false
set_option maxRecDepth 100000
namespace Go.Proofs.YtcpmjogeafhpnaaDoor
open Go.RowKit Go.Sep
attribute [local irreducible] Go.wpList Go.Code.wp

def stepS (acc : List Fe) (x : Fe) : List Fe := if rtFe x = 0 ∧ acc.length < 8 then acc ++ [x] else acc
/-- up to as many as may be, of those that may be -/
def someF (M : List Fe) : List Fe := M.foldl stepS []
def madeF (L : List Fe) : List Fe := puts (someF (fewF L))
theorem some_take {M : List Fe} {i : Nat} (hi : i < M.length) : someF (M.take (i + 1)) = stepS (someF (M.take i)) (M.getD i Fe.z) := by
  unfold someF
  rw [fe_take hi, List.foldl_append]; rfl
theorem some_yes {M : List Fe} {i : Nat} (hi : i < M.length) (h1 : rtFe (M.getD i Fe.z) = 0) (h2 : (someF (M.take i)).length < 8) : someF (M.take i) ++ [M.getD i Fe.z] = someF (M.take (i + 1)) := by
  rw [some_take hi]; unfold stepS; rw [if_pos ⟨h1, h2⟩]
theorem some_no {M : List Fe} {i : Nat} (hi : i < M.length) (h : ¬ (rtFe (M.getD i Fe.z) = 0 ∧ (someF (M.take i)).length < 8)) : someF (M.take i) = someF (M.take (i + 1)) := by
  rw [some_take hi]; unfold stepS; rw [if_neg h]
theorem some_props : ∀ (M acc : List Fe), acc.length ≤ 8 → (∀ x ∈ acc, rtFe x = 0) → (M.foldl stepS acc).length ≤ 8 ∧ ∀ x ∈ M.foldl stepS acc, rtFe x = 0 ∧ (x ∈ M ∨ x ∈ acc)
  | [], acc, h1, h2 => ⟨h1, fun x hx => ⟨h2 x hx, .inr hx⟩⟩
  | y :: M, acc, h1, h2 => by
    have key : (stepS acc y).length ≤ 8 ∧ ∀ x ∈ stepS acc y, rtFe x = 0 ∧ (x = y ∨ x ∈ acc) := by
      unfold stepS; split
      · rename_i h
        refine ⟨by rw [List.length_append]; simp; omega, fun x hx => ?_⟩
        rcases List.mem_append.1 hx with q | q
        · exact ⟨h2 x q, .inr q⟩
        · simp at q; subst q; exact ⟨h.1, .inl rfl⟩
      · exact ⟨h1, fun x hx => ⟨h2 x hx, .inr hx⟩⟩
    obtain ⟨q1, q2⟩ := some_props M (stepS acc y) key.1 (fun x hx => (key.2 x hx).1)
    refine ⟨q1, fun x hx => ?_⟩
    obtain ⟨r1, r2⟩ := q2 x hx
    refine ⟨r1, ?_⟩
    rcases r2 with r2 | r2
    · exact .inl (List.mem_cons_of_mem _ r2)
    · rcases (key.2 x r2).2 with rfl | r3
      · exact .inl (by simp)
      · exact .inr r3
theorem some_len {M : List Fe} : (someF M).length ≤ 8 := (some_props M [] (Nat.zero_le _) (fun x h => by simp at h)).1
theorem some_rt {M : List Fe} {x : Fe} (h : x ∈ someF M) : rtFe x = 0 := ((some_props M [] (Nat.zero_le _) (fun x h => by simp at h)).2 x h).1
theorem some_mem {M : List Fe} {x : Fe} (h : x ∈ someF M) : x ∈ M := by
  have := ((some_props M [] (Nat.zero_le _) (fun x h => by simp at h)).2 x h).2
  simpa using this
theorem some_short {L : List Fe} : shortL (someF (fewF L)) := short_of fun x hx => by have := few_short x (some_mem hx); omega
theorem mkF_right {L : List Fe} (h1 : ∀ x ∈ L, rtFe x = 0) (h2 : (puts L).length ≤ 8) : mkF L = puts L ∧ mkE L = 0 := by
  have e := eRt_of h1
  exact ⟨(if_pos e).trans (if_pos h2), (if_pos e).trans (if_pos h2)⟩
theorem mk_some {L : List Fe} : mkF (someF (fewF L)) = madeF L ∧ mkE (someF (fewF L)) = 0 :=
  mkF_right (fun x hx => some_rt hx) (Nat.le_trans (puts_len _) some_len)
theorem made_len {L : List Fe} : (madeF L).length ≤ 8 := Nat.le_trans (puts_len _) some_len
theorem made_rt {L : List Fe} {x : Fe} (h : x ∈ madeF L) : rtFe x = 0 := some_rt (mem_puts.1 h)
theorem made_mem {L : List Fe} {x : Fe} (h : x ∈ madeF L) : x.a.length ≤ 60 ∧ x.v.length ≤ 60 := few_short x (some_mem (mem_puts.1 h))
theorem made_short {L : List Fe} : shortL (madeF L) := short_of fun x hx => by have := made_mem hx; omega
theorem made_asc (L : List Fe) : asc (madeF L) := asc_puts _
theorem eq_lists : ∀ {L M : List Fe}, L.length = M.length → (∀ j, j < L.length → L.getD j Fe.z = M.getD j Fe.z) → L = M
  | [], [], _, _ => rfl
  | [], _ :: _, h, _ => by simp at h
  | _ :: _, [], h, _ => by simp at h
  | x :: L, y :: M, h, hj => by
    have h0 := hj 0 (by simp)
    simp only [List.getD_cons_zero] at h0
    have := eq_lists (L := L) (M := M) (by simpa using h) (fun j q => by have := hj (j + 1) (by simpa using q); simpa using this)
    rw [h0, this]
theorem eq_next {L M : List Fe} {i : Nat} (h : ∀ j, j < i → L.getD j Fe.z = M.getD j Fe.z) (hi : L.getD i Fe.z = M.getD i Fe.z) : ∀ j, j < i + 1 → L.getD j Fe.z = M.getD j Fe.z := fun j hj => by
  by_cases e : j = i
  · subst e; exact hi
  · exact h j (by omega)
theorem row_val {v : Value} {n : Nat} {xs : List Value} {F : List OB} {e sz : Nat} (h : RowH e sz v n xs F) : ∃ a c, v = .slice a n c := by
  rcases h.2 with ⟨h1, h2, _⟩ | ⟨g, cap, cur, h1, _⟩
  · exact ⟨none, 0, by rw [h1, h2]⟩
  · exact ⟨_, _, h1⟩
theorem makeS_c {I : IM} {L : List Fe} {a0 : Option Addr} {c0 : Nat} (h0 : FSl I (someF (fewF L)) (.slice a0 (someF (fewF L)).length c0)) (hN : Tx.NmT I) (hT : Tx.U8 I) : Fun Tryd.prog 15 #[.slice a0 (someF (fewF L)).length c0] I (fun v J => ∃ a c, v = .tuple #[.agg #[.slice a (madeF L).length c], .int .i64 0] ∧ FSl J (madeF L) (.slice a (madeF L).length c)) := by
  have q := make_c h0 (Nat.le_trans some_len (by decide)) hN hT some_short
  rw [mk_some.1, mk_some.2] at q; exact q
theorem refMakeS_c {I : IM} {L : List Fe} {a0 : Option Addr} {c0 : Nat} (h0 : FSl I (someF (fewF L)) (.slice a0 (someF (fewF L)).length c0)) : Fun Tryd.prog 16 #[.slice a0 (someF (fewF L)).length c0] I (fun v J => ∃ a c, v = .tuple #[.slice a (madeF L).length c, .int .i64 0] ∧ FSl J (madeF L) (.slice a (madeF L).length c)) := by
  have q := refMake_c h0 (Nat.le_trans some_len (by decide)) some_short
  rw [mk_some.1, mk_some.2] at q; exact q
theorem idx_no {L : List Fe} {x : Fe} (h : ∀ j, j < L.length → L.getD j Fe.z ≠ x) : (0 : Int) ≤ -1 ↔ x ∈ L := ⟨fun q => by omega, fun q => absurd q (mem_not h)⟩
theorem idx_yes {L : List Fe} {x : Fe} {i : Nat} (hi : i < L.length) (h : L.getD i Fe.z = x) : (0 : Int) ≤ ((i : Nat) : Int) ↔ x ∈ L := ⟨fun _ => mem_at hi h, fun _ => by omega⟩

set_option maxHeartbeats 4000000 in
theorem made_c {I : IM} {L : List Fe} {a0 : Option Addr} {c0 : Nat} (h0 : FSl I L (.slice a0 L.length c0)) (hl : L.length ≤ 9223372036854775807) (hN : Tx.NmT I) (hT : Tx.U8 I) : Fun Tryd.prog 24 #[.slice a0 L.length c0] I (fun v J => ∃ a c a' c', v = .tuple #[.agg #[.slice a (madeF L).length c], .slice a' (madeF L).length c'] ∧ FSl J (madeF L) (.slice a (madeF L).length c) ∧ FSl J (madeF L) (.slice a' (madeF L).length c')) := by
  refine enter_rule 44 [(0, .slice a0 L.length c0)] Tryd.func24 rfl (by kernel_rfl) ?_
  intro w s
  refine wp_seq ?_
  refine region_rule ?_
  refine ops_rule (C := []) [] [] 2 [] 1 (fun φ1 => [(3, .slice none 0 0), (2, .pointer (some ⟨(φ1 0), 0, none⟩))]) (fun φ1 => [((φ1 0), .cells #[.slice none 0 0] 26)]) (fun φ1 => []) s trivial (fun φ1 => by kernel_rfl) ?_
  intro φ1 w1 s
  refine ops_done (by kernel_rfl) ?_
  refine wp_seq ?_
  refine region_rule ?_
  refine ops_rule (C := []) [((φ1 0), .cells #[.slice none 0 0] 26)] [] 1 [] 0 (fun φ2 => [(4, .slice none 0 0)]) (fun φ2 => [((φ1 0), .cells #[.slice none 0 0] 26)]) (fun φ2 => []) s trivial (fun φ2 => by kernel_rfl) ?_
  intro φ2 w2 s
  refine ops_done (by kernel_rfl) ?_
  refine wp_seq ?_
  refine wp_seq ?_
  refine region_rule ?_
  refine ops_rule (C := []) [((φ1 0), .cells #[.slice none 0 0] 26)] [] 1 [] 0 (fun φ3 => [(11, .slice a0 L.length c0)]) (fun φ3 => [((φ1 0), .cells #[.slice none 0 0] 26)]) (fun φ3 => []) s trivial (fun φ3 => by kernel_rfl) ?_
  intro φ3 w3 s
  refine call_rule (some 12) s (few_c h0 hl) (by kernel_rfl) ?_
  intro v4 I4 w4 le4 h4 s
  replace h0 := FSl.mono le4 h0
  replace hN := Tx.NmT.mono le4 hN
  replace hT := Tx.U8.mono le4 hT
  obtain ⟨a4, c4, rfl, h4_0⟩ := h4
  refine ops_rule (C := []) [((φ1 0), .cells #[.slice none 0 0] 26)] [] 2 [] 0 (fun φ5 => [(14, .int .i64 0), (13, .int .i64 (((List.length (fewF L)) : Nat) : Int))]) (fun φ5 => [((φ1 0), .cells #[.slice none 0 0] 26)]) (fun φ5 => []) s trivial (fun φ5 => by kernel_rfl) ?_
  intro φ5 w5 s
  refine ops_done (by kernel_rfl) ?_
  refine wp_block ?_
  have hle6 := IM.Le.refl I4
  refine loop_rule (fun (x : Nat × Value × List OB) => [(0, .slice a0 L.length c0), (2, .pointer (some ⟨(φ1 0), 0, none⟩)), (3, .slice none 0 0), (12, .slice a4 (List.length (fewF L)) c4), (13, .int .i64 (((List.length (fewF L)) : Nat) : Int)), (14, .int .i64 ((x.1 : Nat) : Int)), (4, x.2.1)]) (fun (x : Nat × Value × List OB) => [((φ1 0), .cells #[.slice none 0 0] 26)] ++ x.2.2) (fun m (x : Nat × Value × List OB) J => IM.Le I4 J ∧ x.1 + m = (fewF L).length ∧ RowH 39 3 x.2.1 (List.length (someF ((fewF L).take x.1))) (fcs (someF ((fewF L).take x.1))) x.2.2) ((fewF L).length) (0, (.slice none 0 0), []) s (by kernel_rfl) (List.Sublist.refl _) ⟨IM.Le.refl _, Nat.zero_add _, (RowH.nil 39 3)⟩ ?_
  rintro m7 ⟨i7, v7, F7⟩ I7 w7 ev7 s ⟨le7, hi7_0, hi7_1⟩
  try dsimp only at s hi7_0 hi7_1 ⊢
  replace h0 := FSl.mono le7 h0
  replace hN := Tx.NmT.mono le7 hN
  replace hT := Tx.U8.mono le7 hT
  replace h4_0 := FSl.mono le7 h4_0
  replace hle6 := leMono le7 hle6
  obtain ⟨a8, c8, hv8⟩ := row_val hi7_1
  subst hv8
  refine wp_seq ?_
  refine region_rule ?_
  refine ops_rule (C := []) [((φ1 0), .cells #[.slice none 0 0] 26)] F7 1 [] 0 (fun φ9 => [(15, .bool (decide (((i7 : Nat) : Int) < (((List.length (fewF L)) : Nat) : Int))))]) (fun φ9 => [((φ1 0), .cells #[.slice none 0 0] 26)]) (fun φ9 => []) s trivial (fun φ9 => by kernel_rfl) ?_
  intro φ9 w9 s
  rw [nat_lss (a := i7) (b := (List.length (fewF L)))]
  refine ops_done (by kernel_rfl) ?_
  refine wp_seq ?_
  rcases Bool.eq_false_or_eq_true (decide (i7 < (List.length (fewF L)))) with hc10 | hc10
  ·
    rw [hc10]
    refine cond_true_rule (b := true) (by kernel_rfl) rfl ?_
    refine wp_skip ?_
    refine wp_seq ?_
    refine wp_block ?_
    refine wp_seq ?_
    refine region_rule ?_
    refine sem_rule (Instr.indexAt 22 (.slice a4 (List.length (fewF L)) c4) (.int .i64 ((i7 : Nat) : Int))) (some 16) (.pointer (pAt a4 (i7 * 3))) (by kernel_rfl) (fsl_idx22 h4_0 (by have e8 := hi7_0; have e7 := few_len (L := L); have hq0 := of_decide_eq_true hc10; omega)) ?_
    refine sem_rule (Instr.loadAt 39 (.pointer (pAt a4 (i7 * 3)))) (some 17) (.agg #[.int .i64 ((List.getD (fewF L) i7 Fe.z).k), .string ⟨((List.getD (fewF L) i7 Fe.z).a).toArray⟩, .string ⟨((List.getD (fewF L) i7 Fe.z).v).toArray⟩]) (by kernel_rfl) (fsl_ld39 s.sub h4_0 (by have e8 := hi7_0; have e7 := few_len (L := L); have hq0 := of_decide_eq_true hc10; omega)) ?_
    refine ops_rule (C := []) [((φ1 0), .cells #[.slice none 0 0] 26)] F7 2 [.o 1, .o 1, .o 1] 1 (fun φ11 => [(6, .pointer (some ⟨(φ11 0), 0, none⟩))]) (fun φ11 => [((φ1 0), .cells #[.slice none 0 0] 26), ((φ11 0), .cells #[.int .i64 ((List.getD (fewF L) i7 Fe.z).k), .string ⟨((List.getD (fewF L) i7 Fe.z).a).toArray⟩, .string ⟨((List.getD (fewF L) i7 Fe.z).v).toArray⟩] 39)]) (fun φ11 => [(φ11 0), (φ11 0), (φ11 0)]) s trivial (fun φ11 => by kernel_rfl) ?_
    intro φ11 w11 s
    refine ops_done (by kernel_rfl) ?_
    refine wp_seq ?_
    refine region_rule ?_
    refine ops_rule (C := []) [((φ1 0), .cells #[.slice none 0 0] 26), ((φ11 0), .cells #[.int .i64 ((List.getD (fewF L) i7 Fe.z).k), .string ⟨((List.getD (fewF L) i7 Fe.z).a).toArray⟩, .string ⟨((List.getD (fewF L) i7 Fe.z).v).toArray⟩] 39)] F7 1 [.o 1, .o 1, .o 1] 0 (fun φ12 => [(18, .agg #[.int .i64 ((List.getD (fewF L) i7 Fe.z).k), .string ⟨((List.getD (fewF L) i7 Fe.z).a).toArray⟩, .string ⟨((List.getD (fewF L) i7 Fe.z).v).toArray⟩])]) (fun φ12 => [((φ1 0), .cells #[.slice none 0 0] 26), ((φ11 0), .cells #[.int .i64 ((List.getD (fewF L) i7 Fe.z).k), .string ⟨((List.getD (fewF L) i7 Fe.z).a).toArray⟩, .string ⟨((List.getD (fewF L) i7 Fe.z).v).toArray⟩] 39)]) (fun φ12 => [(φ11 0), (φ11 0), (φ11 0)]) s trivial (fun φ12 => by kernel_rfl) ?_
    intro φ12 w12 s
    refine call_rule (some 19) s (rightX_c (x := (List.getD (fewF L) i7 Fe.z)) hN hT (few_shortL _ (by have hq0 := of_decide_eq_true hc10; have e8 := hi7_0; have e7 := few_len (L := L); omega))) (by kernel_rfl) ?_
    intro v13 I13 w13 le13 h13 s
    replace h0 := FSl.mono le13 h0
    replace hN := Tx.NmT.mono le13 hN
    replace hT := Tx.U8.mono le13 hT
    replace h4_0 := FSl.mono le13 h4_0
    replace hle6 := leMono le13 hle6
    obtain rfl := h13
    refine ops_rule (C := []) [((φ1 0), .cells #[.slice none 0 0] 26), ((φ11 0), .cells #[.int .i64 ((List.getD (fewF L) i7 Fe.z).k), .string ⟨((List.getD (fewF L) i7 Fe.z).a).toArray⟩, .string ⟨((List.getD (fewF L) i7 Fe.z).v).toArray⟩] 39)] F7 2 [] 0 (fun φ14 => [(21, .bool (((rtFe (List.getD (fewF L) i7 Fe.z) : Nat) : Int) == ((0 : Nat) : Int))), (20, .bool (((rtFe (List.getD (fewF L) i7 Fe.z) : Nat) : Int) == ((0 : Nat) : Int)))]) (fun φ14 => [((φ1 0), .cells #[.slice none 0 0] 26), ((φ11 0), .cells #[.int .i64 ((List.getD (fewF L) i7 Fe.z).k), .string ⟨((List.getD (fewF L) i7 Fe.z).a).toArray⟩, .string ⟨((List.getD (fewF L) i7 Fe.z).v).toArray⟩] 39)]) (fun φ14 => []) s trivial (fun φ14 => by kernel_rfl) ?_
    intro φ14 w14 s
    rw [nat_eql (a := (rtFe (List.getD (fewF L) i7 Fe.z))) (b := 0)]
    rcases Bool.eq_false_or_eq_true (decide ((rtFe (List.getD (fewF L) i7 Fe.z)) = 0)) with hc15 | hc15
    ·
      rw [hc15]
      refine ops_rule (C := []) [((φ1 0), .cells #[.slice none 0 0] 26), ((φ11 0), .cells #[.int .i64 ((List.getD (fewF L) i7 Fe.z).k), .string ⟨((List.getD (fewF L) i7 Fe.z).a).toArray⟩, .string ⟨((List.getD (fewF L) i7 Fe.z).v).toArray⟩] 39)] F7 4 [] 0 (fun φ16 => [(25, .bool (decide ((((List.length (someF ((fewF L).take i7))) : Nat) : Int) < ((8 : Nat) : Int)))), (24, .bool (decide ((((List.length (someF ((fewF L).take i7))) : Nat) : Int) < ((8 : Nat) : Int)))), (23, .int .i64 (((List.length (someF ((fewF L).take i7))) : Nat) : Int)), (22, .slice a8 (List.length (someF ((fewF L).take i7))) c8)]) (fun φ16 => [((φ1 0), .cells #[.slice none 0 0] 26), ((φ11 0), .cells #[.int .i64 ((List.getD (fewF L) i7 Fe.z).k), .string ⟨((List.getD (fewF L) i7 Fe.z).a).toArray⟩, .string ⟨((List.getD (fewF L) i7 Fe.z).v).toArray⟩] 39)]) (fun φ16 => []) s trivial (fun φ16 => by kernel_rfl) ?_
      intro φ16 w16 s
      rw [nat_lss (a := (List.length (someF ((fewF L).take i7)))) (b := 8)]
      refine ops_done (by kernel_rfl) ?_
      rcases Bool.eq_false_or_eq_true (decide ((List.length (someF ((fewF L).take i7))) < 8)) with hc17 | hc17
      ·
        rw [hc17]
        refine cond_true_rule (b := true) (by kernel_rfl) rfl ?_
        refine region_rule ?_
        refine ops_rule (C := []) [((φ1 0), .cells #[.slice none 0 0] 26), ((φ11 0), .cells #[.int .i64 ((List.getD (fewF L) i7 Fe.z).k), .string ⟨((List.getD (fewF L) i7 Fe.z).a).toArray⟩, .string ⟨((List.getD (fewF L) i7 Fe.z).v).toArray⟩] 39)] F7 3 [.o 1, .o 1, .o 1] 1 (fun φ18 => [(28, .slice (some ⟨(φ18 0), 0, none⟩) 1 1), (27, .agg #[.int .i64 ((List.getD (fewF L) i7 Fe.z).k), .string ⟨((List.getD (fewF L) i7 Fe.z).a).toArray⟩, .string ⟨((List.getD (fewF L) i7 Fe.z).v).toArray⟩]), (26, .slice a8 (List.length (someF ((fewF L).take i7))) c8)]) (fun φ18 => [((φ1 0), .cells #[.slice none 0 0] 26), ((φ11 0), .cells #[.int .i64 ((List.getD (fewF L) i7 Fe.z).k), .string ⟨((List.getD (fewF L) i7 Fe.z).a).toArray⟩, .string ⟨((List.getD (fewF L) i7 Fe.z).v).toArray⟩] 39), ((φ18 0), .cells #[.int .i64 ((List.getD (fewF L) i7 Fe.z).k), .string ⟨((List.getD (fewF L) i7 Fe.z).a).toArray⟩, .string ⟨((List.getD (fewF L) i7 Fe.z).v).toArray⟩] 39)]) (fun φ18 => [(φ11 0), (φ11 0), (φ11 0)]) s trivial (fun φ18 => by kernel_rfl) ?_
        intro φ18 w18 s
        have hb19 : (List.length (someF ((fewF L).take i7))) ≤ 100000 := (Nat.le_trans some_len (by decide))
        refine append_rule (H := [((φ1 0), .cells #[.slice none 0 0] 26), ((φ11 0), .cells #[.int .i64 ((List.getD (fewF L) i7 Fe.z).k), .string ⟨((List.getD (fewF L) i7 Fe.z).a).toArray⟩, .string ⟨((List.getD (fewF L) i7 Fe.z).v).toArray⟩] 39), ((φ18 0), .cells #[.int .i64 ((List.getD (fewF L) i7 Fe.z).k), .string ⟨((List.getD (fewF L) i7 Fe.z).a).toArray⟩, .string ⟨((List.getD (fewF L) i7 Fe.z).v).toArray⟩] 39)]) (F := F7) 22 22 39 Tryd.t39 (.agg #[.int .i64 0, .string ⟨#[]⟩, .string ⟨#[]⟩]) 3 40 (some 29) s Tryd.underlying22 (by kernel_rfl) (by kernel_rfl) (by kernel_rfl) (by kernel_rfl) (by kernel_rfl) (by decide) hi7_1 (src_own s 2 (φ18 0) #[.int .i64 ((List.getD (fewF L) i7 Fe.z).k), .string ⟨((List.getD (fewF L) i7 Fe.z).a).toArray⟩, .string ⟨((List.getD (fewF L) i7 Fe.z).v).toArray⟩] 39 22 39 1 1 3 [.int .i64 ((List.getD (fewF L) i7 Fe.z).k), .string ⟨((List.getD (fewF L) i7 Fe.z).a).toArray⟩, .string ⟨((List.getD (fewF L) i7 Fe.z).v).toArray⟩] (by kernel_rfl) Tryd.underlying22 (by kernel_rfl) (by kernel_rfl) (by kernel_rfl)) (by simp only [maxLen]; omega) (by omega) (by kernel_rfl) ?_
        intro v19 w19 F19 s h19
        replace h19 : RowH 39 3 v19 (List.length ((someF ((fewF L).take i7)) ++ [(List.getD (fewF L) i7 Fe.z)])) (fcs ((someF ((fewF L).take i7)) ++ [(List.getD (fewF L) i7 Fe.z)])) F19 := row39_snoc (Fs := (someF ((fewF L).take i7))) (x := (List.getD (fewF L) i7 Fe.z)) h19 rfl
        refine ops_rule (C := []) [((φ1 0), .cells #[.slice none 0 0] 26), ((φ11 0), .cells #[.int .i64 ((List.getD (fewF L) i7 Fe.z).k), .string ⟨((List.getD (fewF L) i7 Fe.z).a).toArray⟩, .string ⟨((List.getD (fewF L) i7 Fe.z).v).toArray⟩] 39), ((φ18 0), .cells #[.int .i64 ((List.getD (fewF L) i7 Fe.z).k), .string ⟨((List.getD (fewF L) i7 Fe.z).a).toArray⟩, .string ⟨((List.getD (fewF L) i7 Fe.z).v).toArray⟩] 39)] F19 1 [] 0 (fun φ20 => [(4, v19)]) (fun φ20 => [((φ1 0), .cells #[.slice none 0 0] 26), ((φ11 0), .cells #[.int .i64 ((List.getD (fewF L) i7 Fe.z).k), .string ⟨((List.getD (fewF L) i7 Fe.z).a).toArray⟩, .string ⟨((List.getD (fewF L) i7 Fe.z).v).toArray⟩] 39), ((φ18 0), .cells #[.int .i64 ((List.getD (fewF L) i7 Fe.z).k), .string ⟨((List.getD (fewF L) i7 Fe.z).a).toArray⟩, .string ⟨((List.getD (fewF L) i7 Fe.z).v).toArray⟩] 39)]) (fun φ20 => []) s trivial (fun φ20 => by kernel_rfl) ?_
        intro φ20 w20 s
        refine ops_done (by kernel_rfl) ?_
        refine region_rule ?_
        refine ops_rule (C := []) [((φ1 0), .cells #[.slice none 0 0] 26), ((φ11 0), .cells #[.int .i64 ((List.getD (fewF L) i7 Fe.z).k), .string ⟨((List.getD (fewF L) i7 Fe.z).a).toArray⟩, .string ⟨((List.getD (fewF L) i7 Fe.z).v).toArray⟩] 39), ((φ18 0), .cells #[.int .i64 ((List.getD (fewF L) i7 Fe.z).k), .string ⟨((List.getD (fewF L) i7 Fe.z).a).toArray⟩, .string ⟨((List.getD (fewF L) i7 Fe.z).v).toArray⟩] 39)] F19 2 [] 0 (fun φ21 => [(14, .int .i64 (IntKind.wrap .i64 (((i7 : Nat) : Int) + ((1 : Nat) : Int)))), (30, .int .i64 (IntKind.wrap .i64 (((i7 : Nat) : Int) + ((1 : Nat) : Int))))]) (fun φ21 => [((φ1 0), .cells #[.slice none 0 0] 26), ((φ11 0), .cells #[.int .i64 ((List.getD (fewF L) i7 Fe.z).k), .string ⟨((List.getD (fewF L) i7 Fe.z).a).toArray⟩, .string ⟨((List.getD (fewF L) i7 Fe.z).v).toArray⟩] 39), ((φ18 0), .cells #[.int .i64 ((List.getD (fewF L) i7 Fe.z).k), .string ⟨((List.getD (fewF L) i7 Fe.z).a).toArray⟩, .string ⟨((List.getD (fewF L) i7 Fe.z).v).toArray⟩] 39)]) (fun φ21 => []) s trivial (fun φ21 => by kernel_rfl) ?_
        intro φ21 w21 s
        rw [nat_addI (a := i7) (b := 1) (by have e8 := hi7_0; have e7 := few_len (L := L); have hq0 := of_decide_eq_true hc10; have hq1 := of_decide_eq_true hc15; have hq2 := of_decide_eq_true hc17; omega)]
        refine ops_done (by kernel_rfl) ?_
        exact ⟨⟨m7 - 1, (i7 + 1, v19, F19), _, _, _, by have hq0 := of_decide_eq_true hc10; have hq1 := of_decide_eq_true hc15; have hq2 := of_decide_eq_true hc17; have := hi7_0; omega, rfl, s, (List.Sublist.append (List.Sublist.cons₂ _ (List.Sublist.cons _ (List.Sublist.cons _ List.Sublist.slnil))) (List.Sublist.refl _)), by kernel_rfl, hle6, by have hq0 := of_decide_eq_true hc10; have hq1 := of_decide_eq_true hc15; have hq2 := of_decide_eq_true hc17; have := hi7_0; show i7 + 1 + (m7 - 1) = (fewF L).length; omega, (row_eq39 (some_yes (by have hq0 := of_decide_eq_true hc10; have hq1 := of_decide_eq_true hc15; have hq2 := of_decide_eq_true hc17; have := hi7_0; omega) (of_decide_eq_true hc15) (of_decide_eq_true hc17)) h19)⟩⟩
      ·
        rw [hc17]
        refine cond_false_rule (b := false) (by kernel_rfl) rfl ?_
        refine wp_skip ?_
        refine region_rule ?_
        refine ops_rule (C := []) [((φ1 0), .cells #[.slice none 0 0] 26), ((φ11 0), .cells #[.int .i64 ((List.getD (fewF L) i7 Fe.z).k), .string ⟨((List.getD (fewF L) i7 Fe.z).a).toArray⟩, .string ⟨((List.getD (fewF L) i7 Fe.z).v).toArray⟩] 39)] F7 2 [] 0 (fun φ22 => [(14, .int .i64 (IntKind.wrap .i64 (((i7 : Nat) : Int) + ((1 : Nat) : Int)))), (30, .int .i64 (IntKind.wrap .i64 (((i7 : Nat) : Int) + ((1 : Nat) : Int))))]) (fun φ22 => [((φ1 0), .cells #[.slice none 0 0] 26), ((φ11 0), .cells #[.int .i64 ((List.getD (fewF L) i7 Fe.z).k), .string ⟨((List.getD (fewF L) i7 Fe.z).a).toArray⟩, .string ⟨((List.getD (fewF L) i7 Fe.z).v).toArray⟩] 39)]) (fun φ22 => []) s trivial (fun φ22 => by kernel_rfl) ?_
        intro φ22 w22 s
        rw [nat_addI (a := i7) (b := 1) (by have e8 := hi7_0; have e7 := few_len (L := L); have hq0 := of_decide_eq_true hc10; have hq1 := of_decide_eq_true hc15; have hq2 := of_decide_eq_false hc17; omega)]
        refine ops_done (by kernel_rfl) ?_
        exact ⟨⟨m7 - 1, (i7 + 1, .slice a8 (List.length (someF ((fewF L).take i7))) c8, F7), _, _, _, by have hq0 := of_decide_eq_true hc10; have hq1 := of_decide_eq_true hc15; have hq2 := of_decide_eq_false hc17; have := hi7_0; omega, rfl, s, (List.Sublist.append (List.Sublist.cons₂ _ (List.Sublist.cons _ List.Sublist.slnil)) (List.Sublist.refl _)), by kernel_rfl, hle6, by have hq0 := of_decide_eq_true hc10; have hq1 := of_decide_eq_true hc15; have hq2 := of_decide_eq_false hc17; have := hi7_0; show i7 + 1 + (m7 - 1) = (fewF L).length; omega, (row_eq39 (some_no (by have hq0 := of_decide_eq_true hc10; have hq1 := of_decide_eq_true hc15; have hq2 := of_decide_eq_false hc17; have := hi7_0; omega) (fun q => (of_decide_eq_false hc17) q.2)) hi7_1)⟩⟩
    ·
      rw [hc15]
      refine ops_rule (C := []) [((φ1 0), .cells #[.slice none 0 0] 26), ((φ11 0), .cells #[.int .i64 ((List.getD (fewF L) i7 Fe.z).k), .string ⟨((List.getD (fewF L) i7 Fe.z).a).toArray⟩, .string ⟨((List.getD (fewF L) i7 Fe.z).v).toArray⟩] 39)] F7 4 [] 0 (fun φ23 => [(25, .bool false), (24, undef), (23, undef), (22, undef)]) (fun φ23 => [((φ1 0), .cells #[.slice none 0 0] 26), ((φ11 0), .cells #[.int .i64 ((List.getD (fewF L) i7 Fe.z).k), .string ⟨((List.getD (fewF L) i7 Fe.z).a).toArray⟩, .string ⟨((List.getD (fewF L) i7 Fe.z).v).toArray⟩] 39)]) (fun φ23 => []) s trivial (fun φ23 => by kernel_rfl) ?_
      intro φ23 w23 s
      refine ops_done (by kernel_rfl) ?_
      refine cond_false_rule (b := false) (by kernel_rfl) rfl ?_
      refine wp_skip ?_
      refine region_rule ?_
      refine ops_rule (C := []) [((φ1 0), .cells #[.slice none 0 0] 26), ((φ11 0), .cells #[.int .i64 ((List.getD (fewF L) i7 Fe.z).k), .string ⟨((List.getD (fewF L) i7 Fe.z).a).toArray⟩, .string ⟨((List.getD (fewF L) i7 Fe.z).v).toArray⟩] 39)] F7 2 [] 0 (fun φ24 => [(14, .int .i64 (IntKind.wrap .i64 (((i7 : Nat) : Int) + ((1 : Nat) : Int)))), (30, .int .i64 (IntKind.wrap .i64 (((i7 : Nat) : Int) + ((1 : Nat) : Int))))]) (fun φ24 => [((φ1 0), .cells #[.slice none 0 0] 26), ((φ11 0), .cells #[.int .i64 ((List.getD (fewF L) i7 Fe.z).k), .string ⟨((List.getD (fewF L) i7 Fe.z).a).toArray⟩, .string ⟨((List.getD (fewF L) i7 Fe.z).v).toArray⟩] 39)]) (fun φ24 => []) s trivial (fun φ24 => by kernel_rfl) ?_
      intro φ24 w24 s
      rw [nat_addI (a := i7) (b := 1) (by have e8 := hi7_0; have e7 := few_len (L := L); have hq0 := of_decide_eq_true hc10; have hq1 := of_decide_eq_false hc15; omega)]
      refine ops_done (by kernel_rfl) ?_
      exact ⟨⟨m7 - 1, (i7 + 1, .slice a8 (List.length (someF ((fewF L).take i7))) c8, F7), _, _, _, by have hq0 := of_decide_eq_true hc10; have hq1 := of_decide_eq_false hc15; have := hi7_0; omega, rfl, s, (List.Sublist.append (List.Sublist.cons₂ _ (List.Sublist.cons _ List.Sublist.slnil)) (List.Sublist.refl _)), by kernel_rfl, hle6, by have hq0 := of_decide_eq_true hc10; have hq1 := of_decide_eq_false hc15; have := hi7_0; show i7 + 1 + (m7 - 1) = (fewF L).length; omega, (row_eq39 (some_no (by have hq0 := of_decide_eq_true hc10; have hq1 := of_decide_eq_false hc15; have := hi7_0; omega) (fun q => (of_decide_eq_false hc15) q.1)) hi7_1)⟩⟩
  ·
    rw [hc10]
    refine cond_false_rule (b := false) (by kernel_rfl) rfl ?_
    refine wp_exit ?_
    refine wp_seq ?_
    have eA25 : (someF ((fewF L).take i7)) = (someF (fewF L)) := (by have ei : i7 = (fewF L).length := (by have hq0 := of_decide_eq_false hc10; have := hi7_0; omega); rw [ei, List.take_length])
    have hr25 := hi7_1
    rw [eA25] at hr25
    rw [eA25]
    obtain ⟨J25, le25, hk25, s⟩ := freeze_row39 (H := [((φ1 0), .cells #[.slice none 0 0] 26)]) (F := F7) s hr25
    replace h0 := FSl.mono le25 h0
    replace hN := Tx.NmT.mono le25 hN
    replace hT := Tx.U8.mono le25 hT
    replace h4_0 := FSl.mono le25 h4_0
    replace hle6 := leMono le25 hle6
    refine region_rule ?_
    refine ops_rule (C := []) [((φ1 0), .cells #[.slice none 0 0] 26)] [] 1 [] 0 (fun φ26 => [(32, .slice a8 (List.length (someF (fewF L))) c8)]) (fun φ26 => [((φ1 0), .cells #[.slice none 0 0] 26)]) (fun φ26 => []) s trivial (fun φ26 => by kernel_rfl) ?_
    intro φ26 w26 s
    refine call_rule (some 33) s (makeS_c hk25 hN hT) (by kernel_rfl) ?_
    intro v27 I27 w27 le27 h27 s
    replace h0 := FSl.mono le27 h0
    replace hN := Tx.NmT.mono le27 hN
    replace hT := Tx.U8.mono le27 hT
    replace h4_0 := FSl.mono le27 h4_0
    replace hle6 := leMono le27 hle6
    replace hk25 := FSl.mono le27 hk25
    obtain ⟨a27, c27, rfl, h27_0⟩ := h27
    refine ops_rule (C := []) [((φ1 0), .cells #[.slice none 0 0] 26)] [] 6 [.o 1] 1 (fun φ28 => [(8, .int .i64 0), (7, .pointer (some ⟨(φ28 0), 0, none⟩)), (35, .int .i64 0), (34, .agg #[.slice a27 (List.length (madeF L)) c27]), (31, .tuple #[.agg #[.slice a27 (List.length (madeF L)) c27], .int .i64 0])]) (fun φ28 => [((φ1 0), .cells #[.slice none 0 0] 26), ((φ28 0), .cells #[.slice a27 (List.length (madeF L)) c27] 26)]) (fun φ28 => [(φ28 0)]) s trivial (fun φ28 => by kernel_rfl) ?_
    intro φ28 w28 s
    refine ops_done (by kernel_rfl) ?_
    refine wp_seq ?_
    refine region_rule ?_
    refine ops_rule (C := []) [((φ1 0), .cells #[.slice none 0 0] 26), ((φ28 0), .cells #[.slice a27 (List.length (madeF L)) c27] 26)] [] 1 [] 0 (fun φ29 => [(37, .slice a8 (List.length (someF (fewF L))) c8)]) (fun φ29 => [((φ1 0), .cells #[.slice none 0 0] 26), ((φ28 0), .cells #[.slice a27 (List.length (madeF L)) c27] 26)]) (fun φ29 => []) s trivial (fun φ29 => by kernel_rfl) ?_
    intro φ29 w29 s
    refine call_rule (some 38) s (own9_c hk25 (Nat.le_trans some_len (by decide))) (by kernel_rfl) ?_
    intro v30 I30 w30 le30 h30 s
    replace h0 := FSl.mono le30 h0
    replace hN := Tx.NmT.mono le30 hN
    replace hT := Tx.U8.mono le30 hT
    replace h4_0 := FSl.mono le30 h4_0
    replace hle6 := leMono le30 hle6
    replace hk25 := FSl.mono le30 hk25
    replace h27_0 := FSl.mono le30 h27_0
    obtain ⟨a30, c30, rfl, h30_0⟩ := h30
    refine call_rule (some 39) s (refMakeS_c h30_0) (by kernel_rfl) ?_
    intro v31 I31 w31 le31 h31 s
    replace h0 := FSl.mono le31 h0
    replace hN := Tx.NmT.mono le31 hN
    replace hT := Tx.U8.mono le31 hT
    replace h4_0 := FSl.mono le31 h4_0
    replace hle6 := leMono le31 hle6
    replace hk25 := FSl.mono le31 hk25
    replace h27_0 := FSl.mono le31 h27_0
    replace h30_0 := FSl.mono le31 h30_0
    obtain ⟨a31, c31, rfl, h31_0⟩ := h31
    refine ops_rule (C := []) [((φ1 0), .cells #[.slice none 0 0] 26), ((φ28 0), .cells #[.slice a27 (List.length (madeF L)) c27] 26)] [] 5 [] 0 (fun φ32 => [(10, .int .i64 0), (9, .slice a31 (List.length (madeF L)) c31), (41, .int .i64 0), (40, .slice a31 (List.length (madeF L)) c31), (36, .tuple #[.slice a31 (List.length (madeF L)) c31, .int .i64 0])]) (fun φ32 => [((φ1 0), .cells #[.slice none 0 0] 26), ((φ28 0), .cells #[.slice a27 (List.length (madeF L)) c27] 26)]) (fun φ32 => []) s trivial (fun φ32 => by kernel_rfl) ?_
    intro φ32 w32 s
    refine ops_done (by kernel_rfl) ?_
    refine wp_seq ?_
    refine region_rule ?_
    refine ops_rule (C := []) [((φ1 0), .cells #[.slice none 0 0] 26), ((φ28 0), .cells #[.slice a27 (List.length (madeF L)) c27] 26)] [] 4 [.o 1, .o 0] 0 (fun φ33 => [(3, .slice a31 (List.length (madeF L)) c31), (43, .slice a31 (List.length (madeF L)) c31), (42, .agg #[.slice a27 (List.length (madeF L)) c27])]) (fun φ33 => [((φ1 0), .cells #[.slice a27 (List.length (madeF L)) c27] 26), ((φ28 0), .cells #[.slice a27 (List.length (madeF L)) c27] 26)]) (fun φ33 => [(φ28 0), (φ1 0)]) s trivial (fun φ33 => by kernel_rfl) ?_
    intro φ33 w33 s
    refine ops_done (by kernel_rfl) ?_
    refine wp_ret ?_
    refine ret_rule (C := []) [((φ1 0), .cells #[.slice a27 (List.length (madeF L)) c27] 26), ((φ28 0), .cells #[.slice a27 (List.length (madeF L)) c27] 26)] [] (.tuple #[.agg #[.slice a27 (List.length (madeF L)) c27], .slice a31 (List.length (madeF L)) c31]) [.o 0] [(φ1 0)] s trivial (by kernel_rfl) ?_
    exact ⟨_, _, _, rfl, s, ⟨_, _, _, _, rfl, h27_0, h31_0⟩⟩

set_option maxHeartbeats 2000000 in
theorem equalG_c {I : IM} {L M : List Fe} {a0 a1 : Option Addr} {c0 c1 : Nat} (h0 : FSl I L (.slice a0 L.length c0)) (h1 : FSl I M (.slice a1 M.length c1)) (hl : L.length ≤ 1000) : Fun Tryd.prog 21 #[.slice a0 L.length c0, .slice a1 M.length c1] I (fun v J => v = .bool (decide (L = M))) := by
  refine enter_rule 26 [(0, .slice a0 L.length c0), (1, .slice a1 M.length c1)] Tryd.func21 rfl (by kernel_rfl) ?_
  intro w s
  refine wp_seq ?_
  refine region_rule ?_
  refine ops_rule (C := []) [] [] 1 [] 0 (fun φ1 => [(4, .bool false)]) (fun φ1 => []) (fun φ1 => []) s trivial (fun φ1 => by kernel_rfl) ?_
  intro φ1 w1 s
  refine ops_done (by kernel_rfl) ?_
  refine wp_seq ?_
  refine wp_seq ?_
  refine region_rule ?_
  refine ops_rule (C := []) [] [] 5 [] 0 (fun φ2 => [(10, .bool (((L.length : Nat) : Int) != ((M.length : Nat) : Int))), (9, .int .i64 ((M.length : Nat) : Int)), (8, .slice a1 M.length c1), (7, .int .i64 ((L.length : Nat) : Int)), (6, .slice a0 L.length c0)]) (fun φ2 => []) (fun φ2 => []) s trivial (fun φ2 => by kernel_rfl) ?_
  intro φ2 w2 s
  rw [nat_neq (a := L.length) (b := M.length)]
  refine ops_done (by kernel_rfl) ?_
  rcases Bool.eq_false_or_eq_true (decide (L.length ≠ M.length)) with hc3 | hc3
  ·
    rw [hc3]
    refine cond_true_rule (b := true) (by kernel_rfl) rfl ?_
    refine wp_seq ?_
    refine region_rule ?_
    refine ops_rule (C := []) [] [] 1 [] 0 (fun φ4 => [(4, .bool false)]) (fun φ4 => []) (fun φ4 => []) s trivial (fun φ4 => by kernel_rfl) ?_
    intro φ4 w4 s
    refine ops_done (by kernel_rfl) ?_
    refine wp_ret ?_
    refine ret_rule (C := []) [] [] (.bool false) [] [] s trivial (by kernel_rfl) ?_
    exact ⟨_, _, _, rfl, s, (congrArg Value.bool (decide_eq_false (fun q => (of_decide_eq_true hc3) (by rw [q]))).symm)⟩
  ·
    rw [hc3]
    refine cond_false_rule (b := false) (by kernel_rfl) rfl ?_
    refine wp_skip ?_
    refine wp_seq ?_
    refine wp_seq ?_
    refine region_rule ?_
    refine ops_rule (C := []) [] [] 3 [] 0 (fun φ5 => [(13, .int .i64 0), (12, .int .i64 ((L.length : Nat) : Int)), (11, .slice a0 L.length c0)]) (fun φ5 => []) (fun φ5 => []) s trivial (fun φ5 => by kernel_rfl) ?_
    intro φ5 w5 s
    refine ops_done (by kernel_rfl) ?_
    refine wp_block ?_
    have hlm : L.length = M.length := Decidable.not_not.1 (of_decide_eq_false hc3)
    have hle6 := IM.Le.refl I
    refine loop_rule (fun (x : Nat) => [(0, .slice a0 L.length c0), (1, .slice a1 M.length c1), (4, .bool false), (11, .slice a0 L.length c0), (12, .int .i64 ((L.length : Nat) : Int)), (13, .int .i64 ((x : Nat) : Int))]) (fun (x : Nat) => []) (fun m (x : Nat) J => IM.Le I J ∧ x + m = L.length ∧ (∀ j, j < x → L.getD j Fe.z = M.getD j Fe.z)) (L.length) 0 s (by kernel_rfl) List.Sublist.slnil ⟨IM.Le.refl _, Nat.zero_add _, fun j h => by omega⟩ ?_
    rintro m7 i7 I7 w7 ev7 s ⟨le7, hi7_0, hi7_1⟩
    try dsimp only at s hi7_0 hi7_1 ⊢
    replace h0 := FSl.mono le7 h0
    replace h1 := FSl.mono le7 h1
    replace hle6 := leMono le7 hle6
    refine wp_seq ?_
    refine region_rule ?_
    refine ops_rule (C := []) [] [] 1 [] 0 (fun φ8 => [(14, .bool (decide (((i7 : Nat) : Int) < ((L.length : Nat) : Int))))]) (fun φ8 => []) (fun φ8 => []) s trivial (fun φ8 => by kernel_rfl) ?_
    intro φ8 w8 s
    rw [nat_lss (a := i7) (b := L.length)]
    refine ops_done (by kernel_rfl) ?_
    refine wp_seq ?_
    rcases Bool.eq_false_or_eq_true (decide (i7 < L.length)) with hc9 | hc9
    ·
      rw [hc9]
      refine cond_true_rule (b := true) (by kernel_rfl) rfl ?_
      refine wp_skip ?_
      refine wp_seq ?_
      refine wp_block ?_
      refine wp_seq ?_
      refine region_rule ?_
      refine ops_rule (C := []) [] [] 2 [] 0 (fun φ10 => [(5, .int .i64 ((i7 : Nat) : Int)), (15, .int .i64 ((i7 : Nat) : Int))]) (fun φ10 => []) (fun φ10 => []) s trivial (fun φ10 => by kernel_rfl) ?_
      intro φ10 w10 s
      refine ops_done (by kernel_rfl) ?_
      refine wp_seq ?_
      refine draw_rule (C := []) ⟨(fun φ11 xs11 => [.look 0 [] [], .look 0 [] [], .ran (Instr.indexAt 22 (.slice a0 L.length c0) (.int .i64 ((i7 : Nat) : Int))), .ran (Instr.loadAt 39 (.pointer (pAt a0 (i7 * 3)))), .look 0 [] [], .look 0 [] [], .ran (Instr.indexAt 22 (.slice a1 M.length c1) (.int .i64 ((i7 : Nat) : Int))), .ran (Instr.loadAt 39 (.pointer (pAt a1 (i7 * 3)))), .ran (do eqGuard .neq 39 (.tmp 19) (.tmp 23) (.agg #[.int .i64 ((List.getD L i7 Fe.z).k), .string ⟨((List.getD L i7 Fe.z).a).toArray⟩, .string ⟨((List.getD L i7 Fe.z).v).toArray⟩]) (.agg #[.int .i64 ((List.getD M i7 Fe.z).k), .string ⟨((List.getD M i7 Fe.z).a).toArray⟩, .string ⟨((List.getD M i7 Fe.z).v).toArray⟩]); binOp .neq 39 (.agg #[.int .i64 ((List.getD L i7 Fe.z).k), .string ⟨((List.getD L i7 Fe.z).a).toArray⟩, .string ⟨((List.getD L i7 Fe.z).v).toArray⟩]) (.agg #[.int .i64 ((List.getD M i7 Fe.z).k), .string ⟨((List.getD M i7 Fe.z).a).toArray⟩, .string ⟨((List.getD M i7 Fe.z).v).toArray⟩]))]), (fun φ11 xs11 => [.slice a0 L.length c0, .int .i64 ((i7 : Nat) : Int), .pointer (pAt a0 (i7 * 3)), .agg #[.int .i64 ((List.getD L i7 Fe.z).k), .string ⟨((List.getD L i7 Fe.z).a).toArray⟩, .string ⟨((List.getD L i7 Fe.z).v).toArray⟩], .slice a1 M.length c1, .int .i64 ((i7 : Nat) : Int), .pointer (pAt a1 (i7 * 3)), .agg #[.int .i64 ((List.getD M i7 Fe.z).k), .string ⟨((List.getD M i7 Fe.z).a).toArray⟩, .string ⟨((List.getD M i7 Fe.z).v).toArray⟩], .bool (!(decide ((List.getD L i7 Fe.z) = (List.getD M i7 Fe.z))))]), (fun φ11 xs11 => [[]]), (fun φ11 xs11 => [[default, default, default, default, default, default, default, default, default]]), [], [1, 1, 6, 6, 1, 1, 6, 6, 6]⟩ (fun j => ([MP.any, MP.any, MP.any, MP.any, MP.any, MP.any, MP.any, MP.any, MP.any] : List MP).getD j MP.any) [] [] [2, 3, 6, 7, 8] (fun φ11 xs11 => []) (fun φ11 xs11 => [(16, .slice a0 L.length c0), (17, .int .i64 ((i7 : Nat) : Int)), (18, .pointer (pAt a0 (i7 * 3))), (19, .agg #[.int .i64 ((List.getD L i7 Fe.z).k), .string ⟨((List.getD L i7 Fe.z).a).toArray⟩, .string ⟨((List.getD L i7 Fe.z).v).toArray⟩]), (20, .slice a1 M.length c1), (21, .int .i64 ((i7 : Nat) : Int)), (22, .pointer (pAt a1 (i7 * 3))), (23, .agg #[.int .i64 ((List.getD M i7 Fe.z).k), .string ⟨((List.getD M i7 Fe.z).a).toArray⟩, .string ⟨((List.getD M i7 Fe.z).v).toArray⟩]), (24, .bool (!(decide ((List.getD L i7 Fe.z) = (List.getD M i7 Fe.z)))))]) (fun φ11 xs11 => []) s trivial (by kernel_rfl) (by kernel_rfl) (fun _ _ => by kernel_rfl) (fun _ _ => by kernel_rfl) ⟨fun _ _ => by kernel_rfl, fun _ _ => by kernel_rfl, fun _ _ => by kernel_rfl, fun _ _ => by kernel_rfl⟩ (fun _ _ _ => by kernel_rfl) (fun _ _ => by kernel_rfl) (fun _ _ => by kernel_rfl) (fun _ _ => by kernel_rfl) (fun _ _ => by kernel_rfl) (fun _ _ => by kernel_rfl) trivial ⟨kcast (A := ∀ (φ11 : Nat → Nat) (xs11 : Xs) (J : IM) (w : World), I7.Le J → J.Sub w → ((Instr.indexAt 22 (.slice a0 L.length c0) (.int .i64 ((i7 : Nat) : Int))) : Sem Value).run Tryd.prog w = .ok (.pointer (pAt a0 (i7 * 3))) w) (by kernel_rfl) (fun φ11 xs11 J w hJ hS => fsl_idx22 (FSl.mono hJ h0) (by have e8 := hi7_0; have e7 := hlm; have hq0 := of_decide_eq_false hc3; have hq1 := of_decide_eq_true hc9; omega)), ⟨kcast (A := ∀ (φ11 : Nat → Nat) (xs11 : Xs) (J : IM) (w : World), I7.Le J → J.Sub w → ((Instr.loadAt 39 (.pointer (pAt a0 (i7 * 3)))) : Sem Value).run Tryd.prog w = .ok (.agg #[.int .i64 ((List.getD L i7 Fe.z).k), .string ⟨((List.getD L i7 Fe.z).a).toArray⟩, .string ⟨((List.getD L i7 Fe.z).v).toArray⟩]) w) (by kernel_rfl) (fun φ11 xs11 J w hJ hS => fsl_ld39 hS (FSl.mono hJ h0) (by have e8 := hi7_0; have e7 := hlm; have hq0 := of_decide_eq_false hc3; have hq1 := of_decide_eq_true hc9; omega)), ⟨kcast (A := ∀ (φ11 : Nat → Nat) (xs11 : Xs) (J : IM) (w : World), I7.Le J → J.Sub w → ((Instr.indexAt 22 (.slice a1 M.length c1) (.int .i64 ((i7 : Nat) : Int))) : Sem Value).run Tryd.prog w = .ok (.pointer (pAt a1 (i7 * 3))) w) (by kernel_rfl) (fun φ11 xs11 J w hJ hS => fsl_idx22 (FSl.mono hJ h1) (by have e8 := hi7_0; have e7 := hlm; have hq0 := of_decide_eq_false hc3; have hq1 := of_decide_eq_true hc9; omega)), ⟨kcast (A := ∀ (φ11 : Nat → Nat) (xs11 : Xs) (J : IM) (w : World), I7.Le J → J.Sub w → ((Instr.loadAt 39 (.pointer (pAt a1 (i7 * 3)))) : Sem Value).run Tryd.prog w = .ok (.agg #[.int .i64 ((List.getD M i7 Fe.z).k), .string ⟨((List.getD M i7 Fe.z).a).toArray⟩, .string ⟨((List.getD M i7 Fe.z).v).toArray⟩]) w) (by kernel_rfl) (fun φ11 xs11 J w hJ hS => fsl_ld39 hS (FSl.mono hJ h1) (by have e8 := hi7_0; have e7 := hlm; have hq0 := of_decide_eq_false hc3; have hq1 := of_decide_eq_true hc9; omega)), ⟨kcast (A := ∀ (φ11 : Nat → Nat) (xs11 : Xs) (J : IM) (w : World), I7.Le J → J.Sub w → ((do eqGuard .neq 39 (.tmp 19) (.tmp 23) (.agg #[.int .i64 ((List.getD L i7 Fe.z).k), .string ⟨((List.getD L i7 Fe.z).a).toArray⟩, .string ⟨((List.getD L i7 Fe.z).v).toArray⟩]) (.agg #[.int .i64 ((List.getD M i7 Fe.z).k), .string ⟨((List.getD M i7 Fe.z).a).toArray⟩, .string ⟨((List.getD M i7 Fe.z).v).toArray⟩]); binOp .neq 39 (.agg #[.int .i64 ((List.getD L i7 Fe.z).k), .string ⟨((List.getD L i7 Fe.z).a).toArray⟩, .string ⟨((List.getD L i7 Fe.z).v).toArray⟩]) (.agg #[.int .i64 ((List.getD M i7 Fe.z).k), .string ⟨((List.getD M i7 Fe.z).a).toArray⟩, .string ⟨((List.getD M i7 Fe.z).v).toArray⟩])) : Sem Value).run Tryd.prog w = .ok (.bool (!(decide ((List.getD L i7 Fe.z) = (List.getD M i7 Fe.z))))) w) (by kernel_rfl) (fun φ11 xs11 J w hJ hS => run_neqG39 (X := (List.getD L i7 Fe.z)) (Y := (List.getD M i7 Fe.z))), trivial⟩⟩⟩⟩⟩ (by kernel_rfl) trivial ?k11
      case k11 =>
        rintro φ11 xs11 I11 w11 le11 s 
        replace h0 := FSl.mono le11 h0
        replace h1 := FSl.mono le11 h1
        replace hle6 := leMono le11 hle6
        rcases Bool.eq_false_or_eq_true (decide ((List.getD L i7 Fe.z) = (List.getD M i7 Fe.z))) with hc12 | hc12
        ·
          rw [hc12]
          refine cond_false_rule (b := false) (by kernel_rfl) rfl ?_
          refine wp_skip ?_
          refine region_rule ?_
          refine ops_rule (C := []) [] [] 2 [] 0 (fun φ13 => [(13, .int .i64 (IntKind.wrap .i64 (((i7 : Nat) : Int) + ((1 : Nat) : Int)))), (25, .int .i64 (IntKind.wrap .i64 (((i7 : Nat) : Int) + ((1 : Nat) : Int))))]) (fun φ13 => []) (fun φ13 => []) s trivial (fun φ13 => by kernel_rfl) ?_
          intro φ13 w13 s
          rw [nat_addI (a := i7) (b := 1) (by have e8 := hi7_0; have e7 := hlm; have hq0 := of_decide_eq_false hc3; have hq1 := of_decide_eq_true hc9; have hq2 := of_decide_eq_true hc12; omega)]
          refine ops_done (by kernel_rfl) ?_
          exact ⟨⟨m7 - 1, i7 + 1, _, _, _, by have hq0 := of_decide_eq_false hc3; have hq1 := of_decide_eq_true hc9; have hq2 := of_decide_eq_true hc12; have := hi7_0; omega, rfl, s, List.Sublist.slnil, by kernel_rfl, hle6, by have hq0 := of_decide_eq_false hc3; have hq1 := of_decide_eq_true hc9; have hq2 := of_decide_eq_true hc12; have := hi7_0; show i7 + 1 + (m7 - 1) = L.length; omega, eq_next hi7_1 (of_decide_eq_true hc12)⟩⟩
        ·
          rw [hc12]
          refine cond_true_rule (b := true) (by kernel_rfl) rfl ?_
          refine wp_seq ?_
          refine region_rule ?_
          refine ops_rule (C := []) [] [] 1 [] 0 (fun φ14 => [(4, .bool false)]) (fun φ14 => []) (fun φ14 => []) s trivial (fun φ14 => by kernel_rfl) ?_
          intro φ14 w14 s
          refine ops_done (by kernel_rfl) ?_
          refine wp_ret ?_
          refine ret_rule (C := []) [] [] (.bool false) [] [] s trivial (by kernel_rfl) ?_
          exact ⟨_, _, _, rfl, s, (congrArg Value.bool (decide_eq_false (fun q => (of_decide_eq_false hc12) (by rw [q]))).symm)⟩
    ·
      rw [hc9]
      refine cond_false_rule (b := false) (by kernel_rfl) rfl ?_
      refine wp_exit ?_
      refine wp_seq ?_
      refine region_rule ?_
      refine ops_rule (C := []) [] [] 1 [] 0 (fun φ15 => [(4, .bool true)]) (fun φ15 => []) (fun φ15 => []) s trivial (fun φ15 => by kernel_rfl) ?_
      intro φ15 w15 s
      refine ops_done (by kernel_rfl) ?_
      refine wp_ret ?_
      refine ret_rule (C := []) [] [] (.bool true) [] [] s trivial (by kernel_rfl) ?_
      exact ⟨_, _, _, rfl, s, (congrArg Value.bool (decide_eq_true (eq_lists hlm (by have ei : i7 = L.length := (by have hq0 := of_decide_eq_false hc3; have hq1 := of_decide_eq_false hc9; have := hi7_0; omega); have h9 := hi7_1; rw [ei] at h9; exact h9))).symm)⟩

set_option maxHeartbeats 2000000 in
theorem indexX_c {I : IM} {L : List Fe} {a0 : Option Addr} {c0 : Nat} (h0 : FSl I L (.slice a0 L.length c0)) (hl : L.length ≤ 1000) {xf : Fe} : Fun Tryd.prog 74 #[.slice a0 L.length c0, .agg #[.int .i64 xf.k, .string ⟨(xf.a).toArray⟩, .string ⟨(xf.v).toArray⟩]] I (fun v J => ∃ z : Int, v = .int .i64 z ∧ (0 ≤ z ↔ xf ∈ L)) := by
  refine enter_rule 19 [(0, .slice a0 L.length c0), (1, .agg #[.int .i64 xf.k, .string ⟨(xf.a).toArray⟩, .string ⟨(xf.v).toArray⟩])] Tryd.func74 rfl (by kernel_rfl) ?_
  intro w s
  refine wp_seq ?_
  refine region_rule ?_
  refine ops_rule (C := []) [] [] 2 [] 1 (fun φ1 => [(4, .int .i64 0), (3, .pointer (some ⟨(φ1 0), 0, none⟩))]) (fun φ1 => [((φ1 0), .cells #[.int .i64 xf.k, .string ⟨(xf.a).toArray⟩, .string ⟨(xf.v).toArray⟩] 39)]) (fun φ1 => []) s trivial (fun φ1 => by kernel_rfl) ?_
  intro φ1 w1 s
  refine ops_done (by kernel_rfl) ?_
  refine wp_seq ?_
  refine wp_seq ?_
  refine region_rule ?_
  refine ops_rule (C := []) [((φ1 0), .cells #[.int .i64 xf.k, .string ⟨(xf.a).toArray⟩, .string ⟨(xf.v).toArray⟩] 39)] [] 3 [] 0 (fun φ2 => [(8, .int .i64 0), (7, .int .i64 ((L.length : Nat) : Int)), (6, .slice a0 L.length c0)]) (fun φ2 => [((φ1 0), .cells #[.int .i64 xf.k, .string ⟨(xf.a).toArray⟩, .string ⟨(xf.v).toArray⟩] 39)]) (fun φ2 => []) s trivial (fun φ2 => by kernel_rfl) ?_
  intro φ2 w2 s
  refine ops_done (by kernel_rfl) ?_
  refine wp_block ?_
  have hle3 := IM.Le.refl I
  refine loop_rule (fun (x : Nat) => [(0, .slice a0 L.length c0), (3, .pointer (some ⟨(φ1 0), 0, none⟩)), (6, .slice a0 L.length c0), (7, .int .i64 ((L.length : Nat) : Int)), (8, .int .i64 ((x : Nat) : Int))]) (fun (x : Nat) => [((φ1 0), .cells #[.int .i64 xf.k, .string ⟨(xf.a).toArray⟩, .string ⟨(xf.v).toArray⟩] 39)]) (fun m (x : Nat) J => IM.Le I J ∧ x + m = L.length ∧ (∀ j, j < x → L.getD j Fe.z ≠ xf)) (L.length) 0 s (by kernel_rfl) (List.Sublist.cons₂ _ List.Sublist.slnil) ⟨IM.Le.refl _, Nat.zero_add _, fun j h => by omega⟩ ?_
  rintro m4 i4 I4 w4 ev4 s ⟨le4, hi4_0, hi4_1⟩
  try dsimp only at s hi4_0 hi4_1 ⊢
  replace h0 := FSl.mono le4 h0
  replace hle3 := leMono le4 hle3
  refine wp_seq ?_
  refine region_rule ?_
  refine ops_rule (C := []) [((φ1 0), .cells #[.int .i64 xf.k, .string ⟨(xf.a).toArray⟩, .string ⟨(xf.v).toArray⟩] 39)] [] 1 [] 0 (fun φ5 => [(9, .bool (decide (((i4 : Nat) : Int) < ((L.length : Nat) : Int))))]) (fun φ5 => [((φ1 0), .cells #[.int .i64 xf.k, .string ⟨(xf.a).toArray⟩, .string ⟨(xf.v).toArray⟩] 39)]) (fun φ5 => []) s trivial (fun φ5 => by kernel_rfl) ?_
  intro φ5 w5 s
  rw [nat_lss (a := i4) (b := L.length)]
  refine ops_done (by kernel_rfl) ?_
  refine wp_seq ?_
  rcases Bool.eq_false_or_eq_true (decide (i4 < L.length)) with hc6 | hc6
  ·
    rw [hc6]
    refine cond_true_rule (b := true) (by kernel_rfl) rfl ?_
    refine wp_skip ?_
    refine wp_seq ?_
    refine wp_block ?_
    refine wp_seq ?_
    refine region_rule ?_
    refine ops_rule (C := []) [((φ1 0), .cells #[.int .i64 xf.k, .string ⟨(xf.a).toArray⟩, .string ⟨(xf.v).toArray⟩] 39)] [] 2 [] 0 (fun φ7 => [(5, .int .i64 ((i4 : Nat) : Int)), (10, .int .i64 ((i4 : Nat) : Int))]) (fun φ7 => [((φ1 0), .cells #[.int .i64 xf.k, .string ⟨(xf.a).toArray⟩, .string ⟨(xf.v).toArray⟩] 39)]) (fun φ7 => []) s trivial (fun φ7 => by kernel_rfl) ?_
    intro φ7 w7 s
    refine ops_done (by kernel_rfl) ?_
    refine wp_seq ?_
    refine draw_rule (C := []) ⟨(fun φ8 xs8 => [.look 0 [.o 0, .o 0, .o 0] [(φ1 0), (φ1 0), (φ1 0)], .look 0 [] [], .look 0 [] [], .ran (Instr.indexAt 22 (.slice a0 L.length c0) (.int .i64 ((i4 : Nat) : Int))), .ran (Instr.loadAt 39 (.pointer (pAt a0 (i4 * 3)))), .ran (do eqGuard .eql 39 (.tmp 11) (.tmp 15) (.agg #[.int .i64 xf.k, .string ⟨(xf.a).toArray⟩, .string ⟨(xf.v).toArray⟩]) (.agg #[.int .i64 ((List.getD L i4 Fe.z).k), .string ⟨((List.getD L i4 Fe.z).a).toArray⟩, .string ⟨((List.getD L i4 Fe.z).v).toArray⟩]); binOp .eql 39 (.agg #[.int .i64 xf.k, .string ⟨(xf.a).toArray⟩, .string ⟨(xf.v).toArray⟩]) (.agg #[.int .i64 ((List.getD L i4 Fe.z).k), .string ⟨((List.getD L i4 Fe.z).a).toArray⟩, .string ⟨((List.getD L i4 Fe.z).v).toArray⟩]))]), (fun φ8 xs8 => [.agg #[.int .i64 xf.k, .string ⟨(xf.a).toArray⟩, .string ⟨(xf.v).toArray⟩], .slice a0 L.length c0, .int .i64 ((i4 : Nat) : Int), .pointer (pAt a0 (i4 * 3)), .agg #[.int .i64 ((List.getD L i4 Fe.z).k), .string ⟨((List.getD L i4 Fe.z).a).toArray⟩, .string ⟨((List.getD L i4 Fe.z).v).toArray⟩], .bool (decide (xf = (List.getD L i4 Fe.z)))]), (fun φ8 xs8 => [[((φ1 0), .cells #[.int .i64 xf.k, .string ⟨(xf.a).toArray⟩, .string ⟨(xf.v).toArray⟩] 39)]]), (fun φ8 xs8 => [[default, default, default, default, default, default]]), [], [1, 1, 1, 6, 6, 6]⟩ (fun j => ([MP.any, MP.any, MP.any, MP.any, MP.any, MP.any] : List MP).getD j MP.any) [] [] [3, 4, 5] (fun φ8 xs8 => []) (fun φ8 xs8 => [(11, .agg #[.int .i64 xf.k, .string ⟨(xf.a).toArray⟩, .string ⟨(xf.v).toArray⟩]), (12, .slice a0 L.length c0), (13, .int .i64 ((i4 : Nat) : Int)), (14, .pointer (pAt a0 (i4 * 3))), (15, .agg #[.int .i64 ((List.getD L i4 Fe.z).k), .string ⟨((List.getD L i4 Fe.z).a).toArray⟩, .string ⟨((List.getD L i4 Fe.z).v).toArray⟩]), (16, .bool (decide (xf = (List.getD L i4 Fe.z))))]) (fun φ8 xs8 => [((φ1 0), .cells #[.int .i64 xf.k, .string ⟨(xf.a).toArray⟩, .string ⟨(xf.v).toArray⟩] 39)]) s trivial (by kernel_rfl) (by kernel_rfl) (fun _ _ => by kernel_rfl) (fun _ _ => by kernel_rfl) ⟨fun _ _ => by kernel_rfl, fun _ _ => by kernel_rfl, fun _ _ => by kernel_rfl, fun _ _ => by kernel_rfl⟩ (fun _ _ _ => by kernel_rfl) (fun _ _ => by kernel_rfl) (fun _ _ => by kernel_rfl) (fun _ _ => by kernel_rfl) (fun _ _ => by kernel_rfl) (fun _ _ => by kernel_rfl) trivial ⟨kcast (A := ∀ (φ8 : Nat → Nat) (xs8 : Xs) (J : IM) (w : World), I4.Le J → J.Sub w → ((Instr.indexAt 22 (.slice a0 L.length c0) (.int .i64 ((i4 : Nat) : Int))) : Sem Value).run Tryd.prog w = .ok (.pointer (pAt a0 (i4 * 3))) w) (by kernel_rfl) (fun φ8 xs8 J w hJ hS => fsl_idx22 (FSl.mono hJ h0) (by have e8 := hi4_0; have hq0 := of_decide_eq_true hc6; omega)), ⟨kcast (A := ∀ (φ8 : Nat → Nat) (xs8 : Xs) (J : IM) (w : World), I4.Le J → J.Sub w → ((Instr.loadAt 39 (.pointer (pAt a0 (i4 * 3)))) : Sem Value).run Tryd.prog w = .ok (.agg #[.int .i64 ((List.getD L i4 Fe.z).k), .string ⟨((List.getD L i4 Fe.z).a).toArray⟩, .string ⟨((List.getD L i4 Fe.z).v).toArray⟩]) w) (by kernel_rfl) (fun φ8 xs8 J w hJ hS => fsl_ld39 hS (FSl.mono hJ h0) (by have e8 := hi4_0; have hq0 := of_decide_eq_true hc6; omega)), ⟨kcast (A := ∀ (φ8 : Nat → Nat) (xs8 : Xs) (J : IM) (w : World), I4.Le J → J.Sub w → ((do eqGuard .eql 39 (.tmp 11) (.tmp 15) (.agg #[.int .i64 xf.k, .string ⟨(xf.a).toArray⟩, .string ⟨(xf.v).toArray⟩]) (.agg #[.int .i64 ((List.getD L i4 Fe.z).k), .string ⟨((List.getD L i4 Fe.z).a).toArray⟩, .string ⟨((List.getD L i4 Fe.z).v).toArray⟩]); binOp .eql 39 (.agg #[.int .i64 xf.k, .string ⟨(xf.a).toArray⟩, .string ⟨(xf.v).toArray⟩]) (.agg #[.int .i64 ((List.getD L i4 Fe.z).k), .string ⟨((List.getD L i4 Fe.z).a).toArray⟩, .string ⟨((List.getD L i4 Fe.z).v).toArray⟩])) : Sem Value).run Tryd.prog w = .ok (.bool (decide (xf = (List.getD L i4 Fe.z)))) w) (by kernel_rfl) (fun φ8 xs8 J w hJ hS => run_eqlG39 (X := xf) (Y := (List.getD L i4 Fe.z))), trivial⟩⟩⟩ (by kernel_rfl) trivial ?k8
    case k8 =>
      rintro φ8 xs8 I8 w8 le8 s 
      replace h0 := FSl.mono le8 h0
      replace hle3 := leMono le8 hle3
      rcases Bool.eq_false_or_eq_true (decide (xf = (List.getD L i4 Fe.z))) with hc9 | hc9
      ·
        rw [hc9]
        refine cond_true_rule (b := true) (by kernel_rfl) rfl ?_
        refine wp_seq ?_
        refine region_rule ?_
        refine ops_rule (C := []) [((φ1 0), .cells #[.int .i64 xf.k, .string ⟨(xf.a).toArray⟩, .string ⟨(xf.v).toArray⟩] 39)] [] 2 [] 0 (fun φ10 => [(4, .int .i64 ((i4 : Nat) : Int)), (17, .int .i64 ((i4 : Nat) : Int))]) (fun φ10 => [((φ1 0), .cells #[.int .i64 xf.k, .string ⟨(xf.a).toArray⟩, .string ⟨(xf.v).toArray⟩] 39)]) (fun φ10 => []) s trivial (fun φ10 => by kernel_rfl) ?_
        intro φ10 w10 s
        refine ops_done (by kernel_rfl) ?_
        refine wp_ret ?_
        refine ret_rule (C := []) [((φ1 0), .cells #[.int .i64 xf.k, .string ⟨(xf.a).toArray⟩, .string ⟨(xf.v).toArray⟩] 39)] [] (.int .i64 ((i4 : Nat) : Int)) [] [] s trivial (by kernel_rfl) ?_
        exact ⟨_, _, _, rfl, s, ⟨_, rfl, idx_yes (by have hq0 := of_decide_eq_true hc6; have hq1 := of_decide_eq_true hc9; have := hi4_0; omega) (of_decide_eq_true hc9).symm⟩⟩
      ·
        rw [hc9]
        refine cond_false_rule (b := false) (by kernel_rfl) rfl ?_
        refine wp_skip ?_
        refine region_rule ?_
        refine ops_rule (C := []) [((φ1 0), .cells #[.int .i64 xf.k, .string ⟨(xf.a).toArray⟩, .string ⟨(xf.v).toArray⟩] 39)] [] 2 [] 0 (fun φ11 => [(8, .int .i64 (IntKind.wrap .i64 (((i4 : Nat) : Int) + ((1 : Nat) : Int)))), (18, .int .i64 (IntKind.wrap .i64 (((i4 : Nat) : Int) + ((1 : Nat) : Int))))]) (fun φ11 => [((φ1 0), .cells #[.int .i64 xf.k, .string ⟨(xf.a).toArray⟩, .string ⟨(xf.v).toArray⟩] 39)]) (fun φ11 => []) s trivial (fun φ11 => by kernel_rfl) ?_
        intro φ11 w11 s
        rw [nat_addI (a := i4) (b := 1) (by have e8 := hi4_0; have hq0 := of_decide_eq_true hc6; have hq1 := of_decide_eq_false hc9; omega)]
        refine ops_done (by kernel_rfl) ?_
        exact ⟨⟨m4 - 1, i4 + 1, _, _, _, by have hq0 := of_decide_eq_true hc6; have hq1 := of_decide_eq_false hc9; have := hi4_0; omega, rfl, s, (List.Sublist.cons₂ _ List.Sublist.slnil), by kernel_rfl, hle3, by have hq0 := of_decide_eq_true hc6; have hq1 := of_decide_eq_false hc9; have := hi4_0; show i4 + 1 + (m4 - 1) = L.length; omega, (has_next hi4_1 (fun q => (of_decide_eq_false hc9) q.symm))⟩⟩
  ·
    rw [hc6]
    refine cond_false_rule (b := false) (by kernel_rfl) rfl ?_
    refine wp_exit ?_
    refine wp_seq ?_
    refine region_rule ?_
    refine ops_rule (C := []) [((φ1 0), .cells #[.int .i64 xf.k, .string ⟨(xf.a).toArray⟩, .string ⟨(xf.v).toArray⟩] 39)] [] 1 [] 0 (fun φ12 => [(4, .int .i64 (-1))]) (fun φ12 => [((φ1 0), .cells #[.int .i64 xf.k, .string ⟨(xf.a).toArray⟩, .string ⟨(xf.v).toArray⟩] 39)]) (fun φ12 => []) s trivial (fun φ12 => by kernel_rfl) ?_
    intro φ12 w12 s
    refine ops_done (by kernel_rfl) ?_
    refine wp_ret ?_
    refine ret_rule (C := []) [((φ1 0), .cells #[.int .i64 xf.k, .string ⟨(xf.a).toArray⟩, .string ⟨(xf.v).toArray⟩] 39)] [] (.int .i64 (-1)) [] [] s trivial (by kernel_rfl) ?_
    exact ⟨_, _, _, rfl, s, ⟨_, rfl, idx_no (by have ei : i4 = L.length := (by have hq0 := of_decide_eq_false hc6; have := hi4_0; omega); have h9 := hi4_1; rw [ei] at h9; exact h9)⟩⟩

set_option maxHeartbeats 1000000 in
theorem containsX_c {I : IM} {L : List Fe} {a0 : Option Addr} {c0 : Nat} (h0 : FSl I L (.slice a0 L.length c0)) (hl : L.length ≤ 1000) {xf : Fe} : Fun Tryd.prog 36 #[.slice a0 L.length c0, .agg #[.int .i64 xf.k, .string ⟨(xf.a).toArray⟩, .string ⟨(xf.v).toArray⟩]] I (fun v J => v = .bool (decide (xf ∈ L))) := by
  refine enter_rule 9 [(0, .slice a0 L.length c0), (1, .agg #[.int .i64 xf.k, .string ⟨(xf.a).toArray⟩, .string ⟨(xf.v).toArray⟩])] Tryd.func36 rfl (by kernel_rfl) ?_
  intro w s
  refine wp_seq ?_
  refine region_rule ?_
  refine ops_rule (C := []) [] [] 2 [] 1 (fun φ1 => [(4, .bool false), (3, .pointer (some ⟨(φ1 0), 0, none⟩))]) (fun φ1 => [((φ1 0), .cells #[.int .i64 xf.k, .string ⟨(xf.a).toArray⟩, .string ⟨(xf.v).toArray⟩] 39)]) (fun φ1 => []) s trivial (fun φ1 => by kernel_rfl) ?_
  intro φ1 w1 s
  refine ops_done (by kernel_rfl) ?_
  refine wp_seq ?_
  refine region_rule ?_
  refine ops_rule (C := []) [((φ1 0), .cells #[.int .i64 xf.k, .string ⟨(xf.a).toArray⟩, .string ⟨(xf.v).toArray⟩] 39)] [] 2 [.o 0, .o 0, .o 0] 0 (fun φ2 => [(6, .agg #[.int .i64 xf.k, .string ⟨(xf.a).toArray⟩, .string ⟨(xf.v).toArray⟩]), (5, .slice a0 L.length c0)]) (fun φ2 => [((φ1 0), .cells #[.int .i64 xf.k, .string ⟨(xf.a).toArray⟩, .string ⟨(xf.v).toArray⟩] 39)]) (fun φ2 => [(φ1 0), (φ1 0), (φ1 0)]) s trivial (fun φ2 => by kernel_rfl) ?_
  intro φ2 w2 s
  refine call_rule (some 7) s (indexX_c (xf := xf) h0 hl) (by kernel_rfl) ?_
  intro v3 I3 w3 le3 h3 s
  replace h0 := FSl.mono le3 h0
  obtain ⟨z3, rfl, h3_0⟩ := h3
  refine ops_rule (C := []) [((φ1 0), .cells #[.int .i64 xf.k, .string ⟨(xf.a).toArray⟩, .string ⟨(xf.v).toArray⟩] 39)] [] 2 [] 0 (fun φ4 => [(4, .bool (decide (z3 ≥ ((0 : Nat) : Int)))), (8, .bool (decide (z3 ≥ ((0 : Nat) : Int))))]) (fun φ4 => [((φ1 0), .cells #[.int .i64 xf.k, .string ⟨(xf.a).toArray⟩, .string ⟨(xf.v).toArray⟩] 39)]) (fun φ4 => []) s trivial (fun φ4 => by kernel_rfl) ?_
  intro φ4 w4 s
  refine ops_done (by kernel_rfl) ?_
  refine wp_ret ?_
  refine ret_rule (C := []) [((φ1 0), .cells #[.int .i64 xf.k, .string ⟨(xf.a).toArray⟩, .string ⟨(xf.v).toArray⟩] 39)] [] (.bool (decide (z3 ≥ ((0 : Nat) : Int)))) [] [] s trivial (by kernel_rfl) ?_
  exact ⟨_, _, _, rfl, s, (congrArg Value.bool (decide_eq_decide.2 h3_0))⟩

end Go.Proofs.YtcpmjogeafhpnaaDoor
/- Fields left out; of a kind. -/
set_option linter.all false
set_option maxRecDepth 100000
namespace Go.Proofs.YtcpmjogeafhpnaaDoor
open Go.RowKit Go.Sep
attribute [local irreducible] Go.wpList Go.Code.wp

/-- v is a slice of these ints, never written -/
def ISl (I : IM) (K : List Int) (v : Value) : Prop := ∃ a cap, v = .slice a K.length cap ∧ K.length ≤ cap ∧ ∀ (j : Nat) (x : Int), K[j]? = some x → ∃ (b o : Nat) (cs : Array Value) (T : TypeId) (fr : Nat × Nat), a = some ⟨b, o, none⟩ ∧ I b = some (.cells cs T fr) ∧ cs[o + j]? = some (.int .i64 x)
theorem ISl.mono {I J : IM} (le : I.Le J) {L : List Int} {v : Value} (h : ISl I L v) : ISl J L v := by
  obtain ⟨a, cap, hv, hc, hr⟩ := h
  refine ⟨a, cap, hv, hc, fun j x hj => ?_⟩
  obtain ⟨b, o, cs, T, fr, h1, h2, h3⟩ := hr j x hj
  exact ⟨b, o, cs, T, fr, h1, le _ _ h2, h3⟩
theorem ISl.open {I : IM} {L : List Int} {v : Value} (h : ISl I L v) : ∃ a c, v = .slice a L.length c ∧ L.length ≤ c ∧ ISl I L (.slice a L.length c) := by
  obtain ⟨a, c, rfl, hc, hr⟩ := h
  exact ⟨a, c, rfl, hc, a, c, rfl, hc, hr⟩
theorem isl_nil (I : IM) : ISl I [] (.slice none 0 0) := ⟨none, 0, rfl, Nat.le_refl _, fun j x h => by simp at h⟩
theorem ISl.cap {I : IM} {L : List Int} {a : Option Addr} {n c : Nat} (h : ISl I L (.slice a n c)) : n = L.length ∧ L.length ≤ c := by
  obtain ⟨a', c', hv, hc, _⟩ := h
  cases hv; exact ⟨rfl, hc⟩
theorem i_getD {L : List Int} {i : Nat} (h : i < L.length) : L[i]? = some (L.getD i 0) := by simp [h]
theorem isl_idx {I : IM} {w : World} {L : List Int} {a : Option Addr} {n c i : Nat} (h : ISl I L (.slice a n c)) (hi : i < L.length) :
    (Instr.indexAt 52 (.slice a n c) (.int .i64 ((i : Nat) : Int))).run Tryd.prog w = .ok (.pointer (pAt a i)) w := by
  obtain ⟨a', c', hv, hc, hr⟩ := h
  cases hv
  obtain ⟨b, o, cs, T, fr, rfl, h2, h3⟩ := hr i _ (i_getD hi)
  have h2 : (i : Int) < (L.length : Int) := by omega
  simp [Instr.indexAt, asIntOf, run_underlying under52s, size3s, h2, pAt]
  intro h3; omega
theorem isl_ld {I : IM} {w : World} (hS : I.Sub w) {L : List Int} {a : Option Addr} {n c i : Nat} (h : ISl I L (.slice a n c)) (hi : i < L.length) :
    (Instr.loadAt 3 (.pointer (pAt a i))).run Tryd.prog w = .ok (.int .i64 (L.getD i 0)) w := by
  obtain ⟨a', c', hv, hc, hr⟩ := h
  cases hv
  obtain ⟨b, o, cs, T, fr, rfl, h2, h3⟩ := hr i _ (i_getD hi)
  rw [show pAt (some ⟨b, o, none⟩) i = some ⟨b, o + i, none⟩ from congrArg some (addr_addO b o i)]
  have c1 := run_cell (a := ⟨b, o + i, none⟩) (hS _ _ h2) rfl rfl
  rw [h3] at c1
  have e : (Instr.loadAt 3 (.pointer (some ⟨b, o + i, none⟩))).run Tryd.prog w = (load ⟨b, o + i, none⟩).run Tryd.prog w := by kernel_rfl
  rw [e]; simp only [load, Sem.run, c1]
def qP (D : List Fe) (K : List Int) (x : Fe) : Bool := decide (x.k ∈ K) || decide (x ∈ D)
def keepF (q : Fe → Bool) (L : List Fe) : List Fe := L.filter (fun x => !(q x))
theorem keep_yes {q : Fe → Bool} {L : List Fe} {i : Nat} (hi : i < L.length) (h : q (L.getD i Fe.z) = false) : keepF q (L.take i) ++ [L.getD i Fe.z] = keepF q (L.take (i + 1)) := by
  unfold keepF; rw [fe_take hi, List.filter_append]
  congr 1
  rw [List.filter_cons, if_pos (by rw [h]; rfl)]; rfl
theorem keep_no {q : Fe → Bool} {L : List Fe} {i : Nat} (hi : i < L.length) (h : q (L.getD i Fe.z) = true) : keepF q (L.take i) = keepF q (L.take (i + 1)) := by
  unfold keepF; rw [fe_take hi, List.filter_append]
  have : [L.getD i Fe.z].filter (fun x => !(q x)) = [] := by rw [List.filter_cons, if_neg (by rw [h]; decide)]; rfl
  rw [this, List.append_nil]
theorem keep_len {q : Fe → Bool} {L : List Fe} : (keepF q L).length ≤ L.length := List.length_filter_le _ _
theorem mem_keep {q : Fe → Bool} {L : List Fe} {x : Fe} : x ∈ keepF q L ↔ x ∈ L ∧ q x = false := by
  unfold keepF; rw [List.mem_filter]; simp
theorem keep_takelen {q : Fe → Bool} {L : List Fe} {i : Nat} : (keepF q (L.take i)).length ≤ L.length := Nat.le_trans keep_len (by rw [List.length_take]; omega)
theorem asc_pw : ∀ {L : List Fe}, asc L → L.Pairwise (fun x y => lesFe x y = true)
  | [], _ => List.Pairwise.nil
  | x :: L, h => List.Pairwise.cons (fun y hy => asc_head h hy) (asc_pw (asc_tail h))
theorem pw_asc : ∀ {L : List Fe}, L.Pairwise (fun x y => lesFe x y = true) → asc L
  | [], _ => asc_nil
  | [x], _ => fun i h => by simp at h
  | x :: y :: L, h => fun i hi => by
    cases h with
    | cons h1 h2 =>
      match i with
      | 0 => exact h1 y (by simp)
      | i + 1 => simpa using pw_asc h2 i (by simpa using hi)
theorem asc_keep {q : Fe → Bool} {L : List Fe} (h : asc L) : asc (keepF q L) := pw_asc ((asc_pw h).filter _)
theorem memI_at {M : List Int} {x : Int} {i : Nat} (hi : i < M.length) (h : M.getD i 0 = x) : x ∈ M := by rw [← h]; simp [hi]
theorem memI_not {M : List Int} {x : Int} (h : ∀ j, j < M.length → M.getD j 0 ≠ x) : x ∉ M := fun hm => by
  obtain ⟨i, hi, he⟩ := List.getElem_of_mem hm
  exact h i hi (by simp [hi, he])
theorem idxI_no {L : List Int} {x : Int} (h : ∀ j, j < L.length → L.getD j 0 ≠ x) : (0 : Int) ≤ -1 ↔ x ∈ L := ⟨fun q => by omega, fun q => absurd q (memI_not h)⟩
theorem idxI_yes {L : List Int} {x : Int} {i : Nat} (hi : i < L.length) (h : L.getD i 0 = x) : (0 : Int) ≤ ((i : Nat) : Int) ↔ x ∈ L := ⟨fun _ => memI_at hi h, fun _ => by omega⟩
theorem hasI_next {M : List Int} {x : Int} {i : Nat} (h : ∀ j, j < i → M.getD j 0 ≠ x) (hi : M.getD i 0 ≠ x) : ∀ j, j < i + 1 → M.getD j 0 ≠ x := fun j hj => by
  by_cases e : j = i
  · subst e; exact hi
  · exact h j (by omega)

set_option maxHeartbeats 2000000 in
theorem indexI_c {I : IM} {K : List Int} {a0 : Option Addr} {c0 : Nat} (h0 : ISl I K (.slice a0 K.length c0)) (hl : K.length ≤ 1000) {z : Int} : Fun Tryd.prog 104 #[.slice a0 K.length c0, .int .i64 z] I (fun v J => ∃ y : Int, v = .int .i64 y ∧ (0 ≤ y ↔ z ∈ K)) := by
  refine enter_rule 19 [(0, .slice a0 K.length c0), (1, .int .i64 z)] Tryd.func104 rfl (by kernel_rfl) ?_
  intro w s
  refine wp_seq ?_
  refine region_rule ?_
  refine ops_rule (C := []) [] [] 1 [] 0 (fun φ1 => [(4, .int .i64 0)]) (fun φ1 => []) (fun φ1 => []) s trivial (fun φ1 => by kernel_rfl) ?_
  intro φ1 w1 s
  refine ops_done (by kernel_rfl) ?_
  refine wp_seq ?_
  refine wp_seq ?_
  refine region_rule ?_
  refine ops_rule (C := []) [] [] 3 [] 0 (fun φ2 => [(8, .int .i64 0), (7, .int .i64 ((K.length : Nat) : Int)), (6, .slice a0 K.length c0)]) (fun φ2 => []) (fun φ2 => []) s trivial (fun φ2 => by kernel_rfl) ?_
  intro φ2 w2 s
  refine ops_done (by kernel_rfl) ?_
  refine wp_block ?_
  have hle3 := IM.Le.refl I
  refine loop_rule (fun (x : Nat) => [(0, .slice a0 K.length c0), (1, .int .i64 z), (6, .slice a0 K.length c0), (7, .int .i64 ((K.length : Nat) : Int)), (8, .int .i64 ((x : Nat) : Int))]) (fun (x : Nat) => []) (fun m (x : Nat) J => IM.Le I J ∧ x + m = K.length ∧ (∀ j, j < x → K.getD j 0 ≠ z)) (K.length) 0 s (by kernel_rfl) List.Sublist.slnil ⟨IM.Le.refl _, Nat.zero_add _, fun j h => by omega⟩ ?_
  rintro m4 i4 I4 w4 ev4 s ⟨le4, hi4_0, hi4_1⟩
  try dsimp only at s hi4_0 hi4_1 ⊢
  replace h0 := ISl.mono le4 h0
  replace hle3 := leMono le4 hle3
  refine wp_seq ?_
  refine region_rule ?_
  refine ops_rule (C := []) [] [] 1 [] 0 (fun φ5 => [(9, .bool (decide (((i4 : Nat) : Int) < ((K.length : Nat) : Int))))]) (fun φ5 => []) (fun φ5 => []) s trivial (fun φ5 => by kernel_rfl) ?_
  intro φ5 w5 s
  rw [nat_lss (a := i4) (b := K.length)]
  refine ops_done (by kernel_rfl) ?_
  refine wp_seq ?_
  rcases Bool.eq_false_or_eq_true (decide (i4 < K.length)) with hc6 | hc6
  ·
    rw [hc6]
    refine cond_true_rule (b := true) (by kernel_rfl) rfl ?_
    refine wp_skip ?_
    refine wp_seq ?_
    refine wp_block ?_
    refine wp_seq ?_
    refine region_rule ?_
    refine ops_rule (C := []) [] [] 2 [] 0 (fun φ7 => [(5, .int .i64 ((i4 : Nat) : Int)), (10, .int .i64 ((i4 : Nat) : Int))]) (fun φ7 => []) (fun φ7 => []) s trivial (fun φ7 => by kernel_rfl) ?_
    intro φ7 w7 s
    refine ops_done (by kernel_rfl) ?_
    refine wp_seq ?_
    refine region_rule ?_
    refine ops_rule (C := []) [] [] 3 [] 0 (fun φ8 => [(13, .int .i64 ((i4 : Nat) : Int)), (12, .slice a0 K.length c0), (11, .int .i64 z)]) (fun φ8 => []) (fun φ8 => []) s trivial (fun φ8 => by kernel_rfl) ?_
    intro φ8 w8 s
    refine sem_rule (Instr.indexAt 52 (.slice a0 K.length c0) (.int .i64 ((i4 : Nat) : Int))) (some 14) (.pointer (pAt a0 i4)) (by kernel_rfl) (isl_idx h0 (by have e8 := hi4_0; have hq0 := of_decide_eq_true hc6; omega)) ?_
    refine sem_rule (Instr.loadAt 3 (.pointer (pAt a0 i4))) (some 15) (.int .i64 (List.getD K i4 0)) (by kernel_rfl) (isl_ld s.sub h0 (by have e8 := hi4_0; have hq0 := of_decide_eq_true hc6; omega)) ?_
    refine ops_rule (C := []) [] [] 1 [] 0 (fun φ9 => [(16, .bool (z == (List.getD K i4 0)))]) (fun φ9 => []) (fun φ9 => []) s trivial (fun φ9 => by kernel_rfl) ?_
    intro φ9 w9 s
    refine ops_done (by kernel_rfl) ?_
    rcases Bool.eq_false_or_eq_true (z == (List.getD K i4 0)) with hc10 | hc10
    ·
      rw [hc10]
      refine cond_true_rule (b := true) (by kernel_rfl) rfl ?_
      refine wp_seq ?_
      refine region_rule ?_
      refine ops_rule (C := []) [] [] 2 [] 0 (fun φ11 => [(4, .int .i64 ((i4 : Nat) : Int)), (17, .int .i64 ((i4 : Nat) : Int))]) (fun φ11 => []) (fun φ11 => []) s trivial (fun φ11 => by kernel_rfl) ?_
      intro φ11 w11 s
      refine ops_done (by kernel_rfl) ?_
      refine wp_ret ?_
      refine ret_rule (C := []) [] [] (.int .i64 ((i4 : Nat) : Int)) [] [] s trivial (by kernel_rfl) ?_
      exact ⟨_, _, _, rfl, s, ⟨_, rfl, idxI_yes (by have hq0 := of_decide_eq_true hc6; have := hi4_0; omega) (of_decide_eq_true hc10).symm⟩⟩
    ·
      rw [hc10]
      refine cond_false_rule (b := false) (by kernel_rfl) rfl ?_
      refine wp_skip ?_
      refine region_rule ?_
      refine ops_rule (C := []) [] [] 2 [] 0 (fun φ12 => [(8, .int .i64 (IntKind.wrap .i64 (((i4 : Nat) : Int) + ((1 : Nat) : Int)))), (18, .int .i64 (IntKind.wrap .i64 (((i4 : Nat) : Int) + ((1 : Nat) : Int))))]) (fun φ12 => []) (fun φ12 => []) s trivial (fun φ12 => by kernel_rfl) ?_
      intro φ12 w12 s
      rw [nat_addI (a := i4) (b := 1) (by have e8 := hi4_0; have hq0 := of_decide_eq_true hc6; omega)]
      refine ops_done (by kernel_rfl) ?_
      exact ⟨⟨m4 - 1, i4 + 1, _, _, _, by have hq0 := of_decide_eq_true hc6; have := hi4_0; omega, rfl, s, List.Sublist.slnil, by kernel_rfl, hle3, by have hq0 := of_decide_eq_true hc6; have := hi4_0; show i4 + 1 + (m4 - 1) = K.length; omega, (hasI_next hi4_1 (fun q => (of_decide_eq_false hc10) q.symm))⟩⟩
  ·
    rw [hc6]
    refine cond_false_rule (b := false) (by kernel_rfl) rfl ?_
    refine wp_exit ?_
    refine wp_seq ?_
    refine region_rule ?_
    refine ops_rule (C := []) [] [] 1 [] 0 (fun φ13 => [(4, .int .i64 (-1))]) (fun φ13 => []) (fun φ13 => []) s trivial (fun φ13 => by kernel_rfl) ?_
    intro φ13 w13 s
    refine ops_done (by kernel_rfl) ?_
    refine wp_ret ?_
    refine ret_rule (C := []) [] [] (.int .i64 (-1)) [] [] s trivial (by kernel_rfl) ?_
    exact ⟨_, _, _, rfl, s, ⟨_, rfl, idxI_no (by have ei : i4 = K.length := (by have hq0 := of_decide_eq_false hc6; have := hi4_0; omega); have h9 := hi4_1; rw [ei] at h9; exact h9)⟩⟩

set_option maxHeartbeats 1000000 in
theorem containsI_c {I : IM} {K : List Int} {a0 : Option Addr} {c0 : Nat} (h0 : ISl I K (.slice a0 K.length c0)) (hl : K.length ≤ 1000) {z : Int} : Fun Tryd.prog 69 #[.slice a0 K.length c0, .int .i64 z] I (fun v J => v = .bool (decide (z ∈ K))) := by
  refine enter_rule 9 [(0, .slice a0 K.length c0), (1, .int .i64 z)] Tryd.func69 rfl (by kernel_rfl) ?_
  intro w s
  refine wp_seq ?_
  refine region_rule ?_
  refine ops_rule (C := []) [] [] 1 [] 0 (fun φ1 => [(4, .bool false)]) (fun φ1 => []) (fun φ1 => []) s trivial (fun φ1 => by kernel_rfl) ?_
  intro φ1 w1 s
  refine ops_done (by kernel_rfl) ?_
  refine wp_seq ?_
  refine region_rule ?_
  refine ops_rule (C := []) [] [] 2 [] 0 (fun φ2 => [(6, .int .i64 z), (5, .slice a0 K.length c0)]) (fun φ2 => []) (fun φ2 => []) s trivial (fun φ2 => by kernel_rfl) ?_
  intro φ2 w2 s
  refine call_rule (some 7) s (indexI_c (z := z) h0 hl) (by kernel_rfl) ?_
  intro v3 I3 w3 le3 h3 s
  replace h0 := ISl.mono le3 h0
  obtain ⟨y3, rfl, h3_0⟩ := h3
  refine ops_rule (C := []) [] [] 2 [] 0 (fun φ4 => [(4, .bool (decide (y3 ≥ ((0 : Nat) : Int)))), (8, .bool (decide (y3 ≥ ((0 : Nat) : Int))))]) (fun φ4 => []) (fun φ4 => []) s trivial (fun φ4 => by kernel_rfl) ?_
  intro φ4 w4 s
  refine ops_done (by kernel_rfl) ?_
  refine wp_ret ?_
  refine ret_rule (C := []) [] [] (.bool (decide (y3 ≥ ((0 : Nat) : Int)))) [] [] s trivial (by kernel_rfl) ?_
  exact ⟨_, _, _, rfl, s, (congrArg Value.bool (decide_eq_decide.2 h3_0))⟩

set_option maxHeartbeats 1000000 in
theorem patchK_c {I : IM} {xf : Fe} {D : List Fe} {K : List Int} {aA aD aK : Option Addr} {nA cA cD cK kb : Nat} (hD : FSl I D (.slice aD D.length cD)) (hK : ISl I K (.slice aK K.length cK)) (hlD : D.length ≤ 1000) (hlK : K.length ≤ 1000) (hk : I kb = some (.cells #[.slice aA nA cA, .slice aD D.length cD, .slice aK K.length cK] 56)) : Fun Tryd.prog 68 #[.agg #[.int .i64 xf.k, .string ⟨(xf.a).toArray⟩, .string ⟨(xf.v).toArray⟩], .pointer (some ⟨kb, 0, none⟩)] I (fun v J => v = .bool (qP D K xf)) := by
  refine enter_rule 15 [(0, .agg #[.int .i64 xf.k, .string ⟨(xf.a).toArray⟩, .string ⟨(xf.v).toArray⟩]), (1, .pointer (some ⟨kb, 0, none⟩))] Tryd.func68 rfl (by kernel_rfl) ?_
  intro w s
  refine wp_seq ?_
  refine region_rule ?_
  refine ops_rule (C := []) [] [] 2 [] 1 (fun φ1 => [(3, .bool false), (2, .pointer (some ⟨(φ1 0), 0, none⟩))]) (fun φ1 => [((φ1 0), .cells #[.int .i64 xf.k, .string ⟨(xf.a).toArray⟩, .string ⟨(xf.v).toArray⟩] 39)]) (fun φ1 => []) s trivial (fun φ1 => by kernel_rfl) ?_
  intro φ1 w1 s
  refine ops_done (by kernel_rfl) ?_
  refine wp_seq ?_
  refine region_rule ?_
  refine ops_rule (C := [(kb, .cells #[.slice aA nA cA, .slice aD D.length cD, .slice aK K.length cK] 56)]) [((φ1 0), .cells #[.int .i64 xf.k, .string ⟨(xf.a).toArray⟩, .string ⟨(xf.v).toArray⟩] 39)] [] 4 [.c 0, .o 0] 0 (fun φ2 => [(7, .int .i64 xf.k), (6, .pointer (some ⟨(φ1 0), 0, none⟩)), (5, .slice aK K.length cK), (4, .pointer (some ⟨kb, 2, none⟩))]) (fun φ2 => [((φ1 0), .cells #[.int .i64 xf.k, .string ⟨(xf.a).toArray⟩, .string ⟨(xf.v).toArray⟩] 39)]) (fun φ2 => [kb, (φ1 0)]) s ⟨hk, trivial⟩ (fun φ2 => by kernel_rfl) ?_
  intro φ2 w2 s
  refine call_rule (some 8) s (containsI_c (z := xf.k) hK hlK) (by kernel_rfl) ?_
  intro v3 I3 w3 le3 h3 s
  replace hD := FSl.mono le3 hD
  replace hK := ISl.mono le3 hK
  replace hk := le3 _ _ hk
  obtain rfl := h3
  refine ops_rule (C := []) [((φ1 0), .cells #[.int .i64 xf.k, .string ⟨(xf.a).toArray⟩, .string ⟨(xf.v).toArray⟩] 39)] [] 1 [] 0 (fun φ4 => [(9, .bool (decide (xf.k ∈ K)))]) (fun φ4 => [((φ1 0), .cells #[.int .i64 xf.k, .string ⟨(xf.a).toArray⟩, .string ⟨(xf.v).toArray⟩] 39)]) (fun φ4 => []) s trivial (fun φ4 => by kernel_rfl) ?_
  intro φ4 w4 s
  rcases Bool.eq_false_or_eq_true (decide (xf.k ∈ K)) with hc5 | hc5
  ·
    rw [hc5]
    refine ops_rule (C := []) [((φ1 0), .cells #[.int .i64 xf.k, .string ⟨(xf.a).toArray⟩, .string ⟨(xf.v).toArray⟩] 39)] [] 6 [] 0 (fun φ6 => [(3, .bool true), (14, .bool true), (13, undef), (12, undef), (11, undef), (10, undef)]) (fun φ6 => [((φ1 0), .cells #[.int .i64 xf.k, .string ⟨(xf.a).toArray⟩, .string ⟨(xf.v).toArray⟩] 39)]) (fun φ6 => []) s trivial (fun φ6 => by kernel_rfl) ?_
    intro φ6 w6 s
    refine ops_done (by kernel_rfl) ?_
    refine wp_ret ?_
    refine ret_rule (C := []) [((φ1 0), .cells #[.int .i64 xf.k, .string ⟨(xf.a).toArray⟩, .string ⟨(xf.v).toArray⟩] 39)] [] (.bool true) [] [] s trivial (by kernel_rfl) ?_
    exact ⟨_, _, _, rfl, s, (congrArg Value.bool (by unfold qP; simp only [hc5]; simp))⟩
  ·
    rw [hc5]
    refine ops_rule (C := [(kb, .cells #[.slice aA nA cA, .slice aD D.length cD, .slice aK K.length cK] 56)]) [((φ1 0), .cells #[.int .i64 xf.k, .string ⟨(xf.a).toArray⟩, .string ⟨(xf.v).toArray⟩] 39)] [] 3 [.c 0, .o 0, .o 0, .o 0] 0 (fun φ7 => [(12, .agg #[.int .i64 xf.k, .string ⟨(xf.a).toArray⟩, .string ⟨(xf.v).toArray⟩]), (11, .slice aD D.length cD), (10, .pointer (some ⟨kb, 1, none⟩))]) (fun φ7 => [((φ1 0), .cells #[.int .i64 xf.k, .string ⟨(xf.a).toArray⟩, .string ⟨(xf.v).toArray⟩] 39)]) (fun φ7 => [kb, (φ1 0), (φ1 0), (φ1 0)]) s ⟨hk, trivial⟩ (fun φ7 => by kernel_rfl) ?_
    intro φ7 w7 s
    refine call_rule (some 13) s (containsX_c (xf := xf) hD hlD) (by kernel_rfl) ?_
    intro v8 I8 w8 le8 h8 s
    replace hD := FSl.mono le8 hD
    replace hK := ISl.mono le8 hK
    replace hk := le8 _ _ hk
    obtain rfl := h8
    refine ops_rule (C := []) [((φ1 0), .cells #[.int .i64 xf.k, .string ⟨(xf.a).toArray⟩, .string ⟨(xf.v).toArray⟩] 39)] [] 2 [] 0 (fun φ9 => [(3, .bool (decide (xf ∈ D))), (14, .bool (decide (xf ∈ D)))]) (fun φ9 => [((φ1 0), .cells #[.int .i64 xf.k, .string ⟨(xf.a).toArray⟩, .string ⟨(xf.v).toArray⟩] 39)]) (fun φ9 => []) s trivial (fun φ9 => by kernel_rfl) ?_
    intro φ9 w9 s
    refine ops_done (by kernel_rfl) ?_
    refine wp_ret ?_
    refine ret_rule (C := []) [((φ1 0), .cells #[.int .i64 xf.k, .string ⟨(xf.a).toArray⟩, .string ⟨(xf.v).toArray⟩] 39)] [] (.bool (decide (xf ∈ D))) [] [] s trivial (by kernel_rfl) ?_
    exact ⟨_, _, _, rfl, s, (congrArg Value.bool (by unfold qP; simp only [hc5]; simp))⟩

end Go.Proofs.YtcpmjogeafhpnaaDoor
/- A card is patched. -/
set_option linter.all false
set_option maxRecDepth 100000
namespace Go.Proofs.YtcpmjogeafhpnaaDoor
open Go.RowKit Go.Sep
attribute [local irreducible] Go.wpList Go.Code.wp

theorem asc_sub_len : ∀ {B A : List Fe}, asc A → asc B → (∀ x ∈ A, x ∈ B) → A.length ≤ B.length
  | _, [], _, _, _ => Nat.zero_le _
  | [], x :: A, _, _, h => by have := h x (by simp); simp at this
  | y :: B, x :: A, ha, hb, h => by
    have hx := h x (by simp)
    rw [List.mem_cons] at hx
    by_cases e : x = y
    · subst e
      have := asc_sub_len (B := B) (A := A) (asc_tail ha) (asc_tail hb) (fun z hz => by
        have q := h z (by simp [hz])
        rw [List.mem_cons] at q
        rcases q with rfl | q
        · have := asc_head ha hz; rw [les_irrFe] at this; cases this
        · exact q)
      simp; omega
    · have hxB : x ∈ B := by
        rcases hx with q | q
        · exact absurd q e
        · exact q
      have hyx := asc_head hb hxB
      have := asc_sub_len (B := B) (A := x :: A) ha (asc_tail hb) (fun z hz => by
        have q := h z hz
        rw [List.mem_cons] at q
        rcases q with rfl | q
        · rcases List.mem_cons.1 hz with r | r
          · exact absurd r.symm e
          · have r2 := asc_head ha r; rw [les_asym hyx] at r2; cases r2
        · exact q)
      simp at this ⊢; omega
/-- the program's patch -/
def pgF (L A D : List Fe) (K : List Int) : List Fe := if mkE A ≠ 0 then L else if ofE (keepF (qP D K) L ++ mkF A) ≠ 0 then L else ofF (keepF (qP D K) L ++ mkF A)
def pgE (L A D : List Fe) (K : List Int) : Nat := if mkE A ≠ 0 then mkE A else ofE (keepF (qP D K) L ++ mkF A)
theorem pg_1 {J : IM} {L A D : List Fe} {K : List Int} {a : Option Addr} {c : Nat} (h : mkE A ≠ 0) (hf : FSl J L (.slice a L.length c)) : ∃ a' c', (.tuple #[.agg #[.slice a L.length c], .int .i64 ((mkE A : Nat) : Int)] : Value) = .tuple #[.agg #[.slice a' (pgF L A D K).length c'], .int .i64 ((pgE L A D K : Nat) : Int)] ∧ FSl J (pgF L A D K) (.slice a' (pgF L A D K).length c') := by
  have e1 : pgF L A D K = L := if_pos h
  have e2 : pgE L A D K = mkE A := if_pos h
  rw [e1, e2]; exact ⟨a, c, rfl, hf⟩
theorem pg_2 {J : IM} {L A D : List Fe} {K : List Int} {a : Option Addr} {c : Nat} (h : mkE A = 0) (h2 : ofE (keepF (qP D K) L ++ mkF A) ≠ 0) (hf : FSl J L (.slice a L.length c)) : ∃ a' c', (.tuple #[.agg #[.slice a L.length c], .int .i64 ((ofE (keepF (qP D K) L ++ mkF A) : Nat) : Int)] : Value) = .tuple #[.agg #[.slice a' (pgF L A D K).length c'], .int .i64 ((pgE L A D K : Nat) : Int)] ∧ FSl J (pgF L A D K) (.slice a' (pgF L A D K).length c') := by
  have e1 : pgF L A D K = L := (if_neg (not_not_intro h)).trans (if_pos h2)
  have e2 : pgE L A D K = ofE (keepF (qP D K) L ++ mkF A) := if_neg (not_not_intro h)
  rw [e1, e2]; exact ⟨a, c, rfl, hf⟩
theorem pg_3 {J : IM} {L A D : List Fe} {K : List Int} {a : Option Addr} {c : Nat} (h : mkE A = 0) (h2 : ofE (keepF (qP D K) L ++ mkF A) = 0) (hf : FSl J (ofF (keepF (qP D K) L ++ mkF A)) (.slice a (ofF (keepF (qP D K) L ++ mkF A)).length c)) : ∃ a' c', (.tuple #[.agg #[.slice a (ofF (keepF (qP D K) L ++ mkF A)).length c], .int .i64 0] : Value) = .tuple #[.agg #[.slice a' (pgF L A D K).length c'], .int .i64 ((pgE L A D K : Nat) : Int)] ∧ FSl J (pgF L A D K) (.slice a' (pgF L A D K).length c') := by
  have e1 : pgF L A D K = ofF (keepF (qP D K) L ++ mkF A) := (if_neg (not_not_intro h)).trans (if_neg (not_not_intro h2))
  have e2 : pgE L A D K = 0 := (if_neg (not_not_intro h)).trans h2
  rw [e1, e2]; exact ⟨a, c, rfl, hf⟩
theorem row_app39 {v : Value} {L M : List Fe} {F : List OB} (h : RowH 39 3 v (L.length + M.length) (fcs L ++ fcs M) F) : RowH 39 3 v (L ++ M).length (fcs (L ++ M)) F := by
  rw [List.length_append, fcs_append]; exact h
/-- the document's -/
def dcL (L A D : List Fe) (K : List Int) : List Fe := A.foldl ins (keepF (qP D K) L)
def dcF (L A D : List Fe) (K : List Int) : List Fe := if eRt A ≠ 0 then L else if 8 < (dcL L A D K).length then L else dcL L A D K
def dcE (L A D : List Fe) (K : List Int) : Nat := if eRt A ≠ 0 then eRt A else if 8 < (dcL L A D K).length then 8 else 0
theorem mem_foldl {y : Fe} : ∀ (L M : List Fe), y ∈ L.foldl ins M ↔ y ∈ M ∨ y ∈ L
  | [], M => by simp
  | x :: L, M => by
    simp only [List.foldl_cons, mem_foldl L, mem_ins, List.mem_cons]
    constructor
    · rintro ((h | h) | h)
      · exact .inl h
      · exact .inr (.inl h)
      · exact .inr (.inr h)
    · rintro (h | h | h)
      · exact .inl (.inl h)
      · exact .inl (.inr h)
      · exact .inr h
theorem puts_dc {L A D : List Fe} {K : List Int} (hL : asc L) : puts (keepF (qP D K) L ++ puts A) = dcL L A D K := asc_eq (asc_puts _) (asc_foldl _ _ (asc_keep hL)) fun y => by
  unfold dcL
  rw [mem_puts, List.mem_append, mem_puts, mem_foldl]
theorem pg_dc {L A D : List Fe} {K : List Int} (hL : asc L) : pgF L A D K = dcF L A D K ∧ pgE L A D K = dcE L A D K := by
  by_cases h : eRt A = 0
  · by_cases h8 : (puts A).length ≤ 8
    · have e1 : mkE A = 0 := (if_pos h).trans (if_pos h8)
      have e2 : mkF A = puts A := (if_pos h).trans (if_pos h8)
      have hE : ofE (keepF (qP D K) L ++ mkF A) = if (dcL L A D K).length ≤ 8 then 0 else 8 := by rw [e2]; unfold ofE; rw [puts_dc hL]
      have hF : ofF (keepF (qP D K) L ++ mkF A) = if (dcL L A D K).length ≤ 8 then dcL L A D K else [] := by rw [e2]; unfold ofF; rw [puts_dc hL]
      have p1 : pgF L A D K = if ofE (keepF (qP D K) L ++ mkF A) ≠ 0 then L else ofF (keepF (qP D K) L ++ mkF A) := if_neg (not_not_intro e1)
      have p2 : pgE L A D K = ofE (keepF (qP D K) L ++ mkF A) := if_neg (not_not_intro e1)
      have d1 : dcF L A D K = if 8 < (dcL L A D K).length then L else dcL L A D K := if_neg (not_not_intro h)
      have d2 : dcE L A D K = if 8 < (dcL L A D K).length then 8 else 0 := if_neg (not_not_intro h)
      rw [p1, p2, d1, d2]
      by_cases q : (dcL L A D K).length ≤ 8
      · have o1 := hE.trans (if_pos q)
        have q2 : ¬ 8 < (dcL L A D K).length := by omega
        rw [if_neg (not_not_intro o1), o1, hF, if_pos q, if_neg q2, if_neg q2]; exact ⟨rfl, rfl⟩
      · have o1 := hE.trans (if_neg q)
        have q2 : 8 < (dcL L A D K).length := by omega
        rw [if_pos (by rw [o1]; decide), o1, if_pos q2, if_pos q2]; exact ⟨rfl, rfl⟩
    · have e1 : mkE A = 8 := (if_pos h).trans (if_neg h8)
      have hb : 8 < (dcL L A D K).length := by
        have := asc_sub_len (asc_puts A) (asc_foldl A (keepF (qP D K) L) (asc_keep hL)) (fun x hx => (mem_foldl A _).2 (.inr (mem_puts.1 hx)))
        unfold dcL; omega
      have hne : mkE A ≠ 0 := by rw [e1]; decide
      have p1 : pgF L A D K = L := if_pos hne
      have p2 : pgE L A D K = mkE A := if_pos hne
      have d1 : dcF L A D K = L := (if_neg (not_not_intro h)).trans (if_pos hb)
      have d2 : dcE L A D K = 8 := (if_neg (not_not_intro h)).trans (if_pos hb)
      rw [p1, p2, d1, d2, e1]; exact ⟨rfl, rfl⟩
  · have e1 : mkE A = eRt A := if_neg h
    have hne : mkE A ≠ 0 := by rw [e1]; exact h
    have p1 : pgF L A D K = L := if_pos hne
    have p2 : pgE L A D K = mkE A := if_pos hne
    have d1 : dcF L A D K = L := if_pos h
    have d2 : dcE L A D K = eRt A := if_pos h
    rw [p1, p2, d1, d2, e1]; exact ⟨rfl, rfl⟩

set_option maxHeartbeats 4000000 in
theorem withoutPM_c {I : IM} {L : List Fe} {a0 : Option Addr} {c0 : Nat} (h0 : FSl I L (.slice a0 L.length c0)) (hl : L.length ≤ 1000) {D : List Fe} {K : List Int} {aA aD aK : Option Addr} {nA cA cD cK kb : Nat} (hD : FSl I D (.slice aD D.length cD)) (hK : ISl I K (.slice aK K.length cK)) (hlD : D.length ≤ 1000) (hlK : K.length ≤ 1000) (hk : I kb = some (.cells #[.slice aA nA cA, .slice aD D.length cD, .slice aK K.length cK] 56)) : FunM Tryd.prog 66 #[.slice a0 L.length c0, .func (.func 68) #[] #[.pointer (some ⟨kb, 0, none⟩)]] I [] (fun v J F => RowH 39 3 v (keepF (qP D K) L).length (fcs (keepF (qP D K) L)) F) := by
  refine enterM_rule 24 [(0, .slice a0 L.length c0), (1, .func (.func 68) #[] #[.pointer (some ⟨kb, 0, none⟩)])] Tryd.func66 rfl (by kernel_rfl) ?_
  intro w s
  refine wp_seq ?_
  refine region_rule ?_
  refine ops_rule (C := []) [] [] 1 [] 0 (fun φ1 => [(4, .slice none 0 0)]) (fun φ1 => []) (fun φ1 => []) s trivial (fun φ1 => by kernel_rfl) ?_
  intro φ1 w1 s
  refine ops_done (by kernel_rfl) ?_
  refine wp_seq ?_
  refine region_rule ?_
  refine ops_rule (C := []) [] [] 1 [] 0 (fun φ2 => [(5, .slice none 0 0)]) (fun φ2 => []) (fun φ2 => []) s trivial (fun φ2 => by kernel_rfl) ?_
  intro φ2 w2 s
  refine ops_done (by kernel_rfl) ?_
  refine wp_seq ?_
  refine wp_seq ?_
  refine region_rule ?_
  refine ops_rule (C := []) [] [] 3 [] 0 (fun φ3 => [(10, .int .i64 0), (9, .int .i64 ((L.length : Nat) : Int)), (8, .slice a0 L.length c0)]) (fun φ3 => []) (fun φ3 => []) s trivial (fun φ3 => by kernel_rfl) ?_
  intro φ3 w3 s
  refine ops_done (by kernel_rfl) ?_
  refine wp_block ?_
  have hle4 := IM.Le.refl I
  refine loop_rule (fun (x : Nat × Value × List OB) => [(0, .slice a0 L.length c0), (1, .func (.func 68) #[] #[.pointer (some ⟨kb, 0, none⟩)]), (4, .slice none 0 0), (8, .slice a0 L.length c0), (9, .int .i64 ((L.length : Nat) : Int)), (10, .int .i64 ((x.1 : Nat) : Int)), (5, x.2.1)]) (fun (x : Nat × Value × List OB) => [] ++ x.2.2) (fun m (x : Nat × Value × List OB) J => IM.Le I J ∧ x.1 + m = L.length ∧ RowH 39 3 x.2.1 (List.length (keepF (qP D K) (L.take x.1))) (fcs (keepF (qP D K) (L.take x.1))) x.2.2) (L.length) (0, (.slice none 0 0), []) s (by kernel_rfl) (List.Sublist.refl _) ⟨IM.Le.refl _, Nat.zero_add _, (RowH.nil 39 3)⟩ ?_
  rintro m5 ⟨i5, v5, F5⟩ I5 w5 ev5 s ⟨le5, hi5_0, hi5_1⟩
  try dsimp only at s hi5_0 hi5_1 ⊢
  replace h0 := FSl.mono le5 h0
  replace hD := FSl.mono le5 hD
  replace hK := ISl.mono le5 hK
  replace hle4 := leMono le5 hle4
  replace hk := le5 _ _ hk
  refine wp_seq ?_
  refine region_rule ?_
  refine ops_rule (C := []) [] F5 1 [] 0 (fun φ6 => [(11, .bool (decide (((i5 : Nat) : Int) < ((L.length : Nat) : Int))))]) (fun φ6 => []) (fun φ6 => []) s trivial (fun φ6 => by kernel_rfl) ?_
  intro φ6 w6 s
  rw [nat_lss (a := i5) (b := L.length)]
  refine ops_done (by kernel_rfl) ?_
  refine wp_seq ?_
  rcases Bool.eq_false_or_eq_true (decide (i5 < L.length)) with hc7 | hc7
  ·
    rw [hc7]
    refine cond_true_rule (b := true) (by kernel_rfl) rfl ?_
    refine wp_skip ?_
    refine wp_seq ?_
    refine wp_block ?_
    refine wp_seq ?_
    refine region_rule ?_
    refine sem_rule (Instr.indexAt 22 (.slice a0 L.length c0) (.int .i64 ((i5 : Nat) : Int))) (some 12) (.pointer (pAt a0 (i5 * 3))) (by kernel_rfl) (fsl_idx22 h0 (by have e8 := hi5_0; have hq0 := of_decide_eq_true hc7; omega)) ?_
    refine sem_rule (Instr.loadAt 39 (.pointer (pAt a0 (i5 * 3)))) (some 13) (.agg #[.int .i64 ((List.getD L i5 Fe.z).k), .string ⟨((List.getD L i5 Fe.z).a).toArray⟩, .string ⟨((List.getD L i5 Fe.z).v).toArray⟩]) (by kernel_rfl) (fsl_ld39 s.sub h0 (by have e8 := hi5_0; have hq0 := of_decide_eq_true hc7; omega)) ?_
    refine ops_rule (C := []) [] F5 2 [.o 0, .o 0, .o 0] 1 (fun φ8 => [(7, .pointer (some ⟨(φ8 0), 0, none⟩))]) (fun φ8 => [((φ8 0), .cells #[.int .i64 ((List.getD L i5 Fe.z).k), .string ⟨((List.getD L i5 Fe.z).a).toArray⟩, .string ⟨((List.getD L i5 Fe.z).v).toArray⟩] 39)]) (fun φ8 => [(φ8 0), (φ8 0), (φ8 0)]) s trivial (fun φ8 => by kernel_rfl) ?_
    intro φ8 w8 s
    refine ops_done (by kernel_rfl) ?_
    refine wp_seq ?_
    refine region_rule ?_
    refine ops_rule (C := []) [((φ8 0), .cells #[.int .i64 ((List.getD L i5 Fe.z).k), .string ⟨((List.getD L i5 Fe.z).a).toArray⟩, .string ⟨((List.getD L i5 Fe.z).v).toArray⟩] 39)] F5 2 [.o 0, .o 0, .o 0] 0 (fun φ9 => [(15, .agg #[.int .i64 ((List.getD L i5 Fe.z).k), .string ⟨((List.getD L i5 Fe.z).a).toArray⟩, .string ⟨((List.getD L i5 Fe.z).v).toArray⟩]), (14, .func (.func 68) #[] #[.pointer (some ⟨kb, 0, none⟩)])]) (fun φ9 => [((φ8 0), .cells #[.int .i64 ((List.getD L i5 Fe.z).k), .string ⟨((List.getD L i5 Fe.z).a).toArray⟩, .string ⟨((List.getD L i5 Fe.z).v).toArray⟩] 39)]) (fun φ9 => [(φ8 0), (φ8 0), (φ8 0)]) s trivial (fun φ9 => by kernel_rfl) ?_
    intro φ9 w9 s
    refine call_rule (some 16) s (patchK_c (xf := (List.getD L i5 Fe.z)) hD hK hlD hlK hk) (by kernel_rfl) ?_
    intro v10 I10 w10 le10 h10 s
    replace h0 := FSl.mono le10 h0
    replace hD := FSl.mono le10 hD
    replace hK := ISl.mono le10 hK
    replace hle4 := leMono le10 hle4
    replace hk := le10 _ _ hk
    obtain rfl := h10
    refine ops_rule (C := []) [((φ8 0), .cells #[.int .i64 ((List.getD L i5 Fe.z).k), .string ⟨((List.getD L i5 Fe.z).a).toArray⟩, .string ⟨((List.getD L i5 Fe.z).v).toArray⟩] 39)] F5 1 [] 0 (fun φ11 => [(17, .bool (!(qP D K (List.getD L i5 Fe.z))))]) (fun φ11 => [((φ8 0), .cells #[.int .i64 ((List.getD L i5 Fe.z).k), .string ⟨((List.getD L i5 Fe.z).a).toArray⟩, .string ⟨((List.getD L i5 Fe.z).v).toArray⟩] 39)]) (fun φ11 => []) s trivial (fun φ11 => by kernel_rfl) ?_
    intro φ11 w11 s
    refine ops_done (by kernel_rfl) ?_
    rcases Bool.eq_false_or_eq_true (qP D K (List.getD L i5 Fe.z)) with hc12 | hc12
    ·
      rw [hc12]
      refine cond_false_rule (b := false) (by kernel_rfl) rfl ?_
      refine wp_skip ?_
      refine region_rule ?_
      refine ops_rule (C := []) [((φ8 0), .cells #[.int .i64 ((List.getD L i5 Fe.z).k), .string ⟨((List.getD L i5 Fe.z).a).toArray⟩, .string ⟨((List.getD L i5 Fe.z).v).toArray⟩] 39)] F5 2 [] 0 (fun φ13 => [(10, .int .i64 (IntKind.wrap .i64 (((i5 : Nat) : Int) + ((1 : Nat) : Int)))), (22, .int .i64 (IntKind.wrap .i64 (((i5 : Nat) : Int) + ((1 : Nat) : Int))))]) (fun φ13 => [((φ8 0), .cells #[.int .i64 ((List.getD L i5 Fe.z).k), .string ⟨((List.getD L i5 Fe.z).a).toArray⟩, .string ⟨((List.getD L i5 Fe.z).v).toArray⟩] 39)]) (fun φ13 => []) s trivial (fun φ13 => by kernel_rfl) ?_
      intro φ13 w13 s
      rw [nat_addI (a := i5) (b := 1) (by have e8 := hi5_0; have hq0 := of_decide_eq_true hc7; omega)]
      refine ops_done (by kernel_rfl) ?_
      exact ⟨⟨m5 - 1, (i5 + 1, v5, F5), _, _, _, by have hq0 := of_decide_eq_true hc7; have := hi5_0; omega, rfl, s, (List.Sublist.append (List.Sublist.cons _ List.Sublist.slnil) (List.Sublist.refl _)), by kernel_rfl, hle4, by have hq0 := of_decide_eq_true hc7; have := hi5_0; show i5 + 1 + (m5 - 1) = L.length; omega, (row_eq39 (keep_no (by have hq0 := of_decide_eq_true hc7; have := hi5_0; omega) hc12) hi5_1)⟩⟩
    ·
      rw [hc12]
      refine cond_true_rule (b := true) (by kernel_rfl) rfl ?_
      refine region_rule ?_
      refine ops_rule (C := []) [((φ8 0), .cells #[.int .i64 ((List.getD L i5 Fe.z).k), .string ⟨((List.getD L i5 Fe.z).a).toArray⟩, .string ⟨((List.getD L i5 Fe.z).v).toArray⟩] 39)] F5 3 [.o 0, .o 0, .o 0] 1 (fun φ14 => [(20, .slice (some ⟨(φ14 0), 0, none⟩) 1 1), (19, .agg #[.int .i64 ((List.getD L i5 Fe.z).k), .string ⟨((List.getD L i5 Fe.z).a).toArray⟩, .string ⟨((List.getD L i5 Fe.z).v).toArray⟩]), (18, v5)]) (fun φ14 => [((φ8 0), .cells #[.int .i64 ((List.getD L i5 Fe.z).k), .string ⟨((List.getD L i5 Fe.z).a).toArray⟩, .string ⟨((List.getD L i5 Fe.z).v).toArray⟩] 39), ((φ14 0), .cells #[.int .i64 ((List.getD L i5 Fe.z).k), .string ⟨((List.getD L i5 Fe.z).a).toArray⟩, .string ⟨((List.getD L i5 Fe.z).v).toArray⟩] 39)]) (fun φ14 => [(φ8 0), (φ8 0), (φ8 0)]) s trivial (fun φ14 => by kernel_rfl) ?_
      intro φ14 w14 s
      have hb15 : (List.length (keepF (qP D K) (L.take i5))) ≤ 100000 := (Nat.le_trans keep_takelen (by omega))
      refine append_rule (H := [((φ8 0), .cells #[.int .i64 ((List.getD L i5 Fe.z).k), .string ⟨((List.getD L i5 Fe.z).a).toArray⟩, .string ⟨((List.getD L i5 Fe.z).v).toArray⟩] 39), ((φ14 0), .cells #[.int .i64 ((List.getD L i5 Fe.z).k), .string ⟨((List.getD L i5 Fe.z).a).toArray⟩, .string ⟨((List.getD L i5 Fe.z).v).toArray⟩] 39)]) (F := F5) 22 22 39 Tryd.t39 (.agg #[.int .i64 0, .string ⟨#[]⟩, .string ⟨#[]⟩]) 3 40 (some 21) s Tryd.underlying22 (by kernel_rfl) (by kernel_rfl) (by kernel_rfl) (by kernel_rfl) (by kernel_rfl) (by decide) hi5_1 (src_own s 1 (φ14 0) #[.int .i64 ((List.getD L i5 Fe.z).k), .string ⟨((List.getD L i5 Fe.z).a).toArray⟩, .string ⟨((List.getD L i5 Fe.z).v).toArray⟩] 39 22 39 1 1 3 [.int .i64 ((List.getD L i5 Fe.z).k), .string ⟨((List.getD L i5 Fe.z).a).toArray⟩, .string ⟨((List.getD L i5 Fe.z).v).toArray⟩] (by kernel_rfl) Tryd.underlying22 (by kernel_rfl) (by kernel_rfl) (by kernel_rfl)) (by simp only [maxLen]; omega) (by omega) (by kernel_rfl) ?_
      intro v15 w15 F15 s h15
      replace h15 : RowH 39 3 v15 (List.length ((keepF (qP D K) (L.take i5)) ++ [(List.getD L i5 Fe.z)])) (fcs ((keepF (qP D K) (L.take i5)) ++ [(List.getD L i5 Fe.z)])) F15 := row39_snoc (Fs := (keepF (qP D K) (L.take i5))) (x := (List.getD L i5 Fe.z)) h15 rfl
      refine ops_rule (C := []) [((φ8 0), .cells #[.int .i64 ((List.getD L i5 Fe.z).k), .string ⟨((List.getD L i5 Fe.z).a).toArray⟩, .string ⟨((List.getD L i5 Fe.z).v).toArray⟩] 39), ((φ14 0), .cells #[.int .i64 ((List.getD L i5 Fe.z).k), .string ⟨((List.getD L i5 Fe.z).a).toArray⟩, .string ⟨((List.getD L i5 Fe.z).v).toArray⟩] 39)] F15 1 [] 0 (fun φ16 => [(5, v15)]) (fun φ16 => [((φ8 0), .cells #[.int .i64 ((List.getD L i5 Fe.z).k), .string ⟨((List.getD L i5 Fe.z).a).toArray⟩, .string ⟨((List.getD L i5 Fe.z).v).toArray⟩] 39), ((φ14 0), .cells #[.int .i64 ((List.getD L i5 Fe.z).k), .string ⟨((List.getD L i5 Fe.z).a).toArray⟩, .string ⟨((List.getD L i5 Fe.z).v).toArray⟩] 39)]) (fun φ16 => []) s trivial (fun φ16 => by kernel_rfl) ?_
      intro φ16 w16 s
      refine ops_done (by kernel_rfl) ?_
      refine region_rule ?_
      refine ops_rule (C := []) [((φ8 0), .cells #[.int .i64 ((List.getD L i5 Fe.z).k), .string ⟨((List.getD L i5 Fe.z).a).toArray⟩, .string ⟨((List.getD L i5 Fe.z).v).toArray⟩] 39), ((φ14 0), .cells #[.int .i64 ((List.getD L i5 Fe.z).k), .string ⟨((List.getD L i5 Fe.z).a).toArray⟩, .string ⟨((List.getD L i5 Fe.z).v).toArray⟩] 39)] F15 2 [] 0 (fun φ17 => [(10, .int .i64 (IntKind.wrap .i64 (((i5 : Nat) : Int) + ((1 : Nat) : Int)))), (22, .int .i64 (IntKind.wrap .i64 (((i5 : Nat) : Int) + ((1 : Nat) : Int))))]) (fun φ17 => [((φ8 0), .cells #[.int .i64 ((List.getD L i5 Fe.z).k), .string ⟨((List.getD L i5 Fe.z).a).toArray⟩, .string ⟨((List.getD L i5 Fe.z).v).toArray⟩] 39), ((φ14 0), .cells #[.int .i64 ((List.getD L i5 Fe.z).k), .string ⟨((List.getD L i5 Fe.z).a).toArray⟩, .string ⟨((List.getD L i5 Fe.z).v).toArray⟩] 39)]) (fun φ17 => []) s trivial (fun φ17 => by kernel_rfl) ?_
      intro φ17 w17 s
      rw [nat_addI (a := i5) (b := 1) (by have e8 := hi5_0; have hq0 := of_decide_eq_true hc7; omega)]
      refine ops_done (by kernel_rfl) ?_
      exact ⟨⟨m5 - 1, (i5 + 1, v15, F15), _, _, _, by have hq0 := of_decide_eq_true hc7; have := hi5_0; omega, rfl, s, (List.Sublist.append (List.Sublist.cons _ (List.Sublist.cons _ List.Sublist.slnil)) (List.Sublist.refl _)), by kernel_rfl, hle4, by have hq0 := of_decide_eq_true hc7; have := hi5_0; show i5 + 1 + (m5 - 1) = L.length; omega, (row_eq39 (keep_yes (by have hq0 := of_decide_eq_true hc7; have := hi5_0; omega) hc12) h15)⟩⟩
  ·
    rw [hc7]
    refine cond_false_rule (b := false) (by kernel_rfl) rfl ?_
    refine wp_exit ?_
    refine wp_seq ?_
    refine region_rule ?_
    refine ops_rule (C := []) [] F5 2 [] 0 (fun φ18 => [(4, v5), (23, v5)]) (fun φ18 => []) (fun φ18 => []) s trivial (fun φ18 => by kernel_rfl) ?_
    intro φ18 w18 s
    refine ops_done (by kernel_rfl) ?_
    refine wp_ret ?_
    refine ret_rule (C := []) [] F5 (v5) [] [] s trivial (by kernel_rfl) ?_
    replace s := s.drop (List.sublist_append_right [] F5)
    exact ⟨_, _, _, rfl, s, (row_eq39 (by have ei : i5 = L.length := (by have hq0 := of_decide_eq_false hc7; have := hi5_0; omega); rw [ei, List.take_length]) hi5_1)⟩

set_option maxHeartbeats 4000000 in
theorem cardPatch_c {I : IM} {L : List Fe} {a0 : Option Addr} {c0 : Nat} (h0 : FSl I L (.slice a0 L.length c0)) (hl : L.length ≤ 900) (hN : Tx.NmT I) (hT : Tx.U8 I) {A D : List Fe} {K : List Int} {aA aD aK : Option Addr} {cA cD cK : Nat} (hA : FSl I A (.slice aA A.length cA)) (hD : FSl I D (.slice aD D.length cD)) (hK : ISl I K (.slice aK K.length cK)) (hlA : A.length ≤ 1000) (hlD : D.length ≤ 1000) (hlK : K.length ≤ 1000) (hsA : shortL A) : Fun Tryd.prog 30 #[.agg #[.slice a0 L.length c0], .agg #[.slice aA A.length cA, .slice aD D.length cD, .slice aK K.length cK]] I (fun v J => ∃ a c, v = .tuple #[.agg #[.slice a (pgF L A D K).length c], .int .i64 ((pgE L A D K : Nat) : Int)] ∧ FSl J (pgF L A D K) (.slice a (pgF L A D K).length c)) := by
  refine enter_rule 37 [(0, .agg #[.slice a0 L.length c0]), (1, .agg #[.slice aA A.length cA, .slice aD D.length cD, .slice aK K.length cK])] Tryd.func30 rfl (by kernel_rfl) ?_
  intro w s
  refine wp_seq ?_
  refine region_rule ?_
  refine ops_rule (C := []) [] [] 4 [] 3 (fun φ1 => [(5, .int .i64 0), (4, .pointer (some ⟨(φ1 2), 0, none⟩)), (3, .pointer (some ⟨(φ1 1), 0, none⟩)), (2, .pointer (some ⟨(φ1 0), 0, none⟩))]) (fun φ1 => [((φ1 0), .cells #[.slice a0 L.length c0] 26), ((φ1 1), .cells #[.slice aA A.length cA, .slice aD D.length cD, .slice aK K.length cK] 56), ((φ1 2), .cells #[.slice none 0 0] 26)]) (fun φ1 => []) s trivial (fun φ1 => by kernel_rfl) ?_
  intro φ1 w1 s
  refine ops_done (by kernel_rfl) ?_
  refine wp_seq ?_
  refine region_rule ?_
  refine ops_rule (C := []) [((φ1 0), .cells #[.slice a0 L.length c0] 26), ((φ1 1), .cells #[.slice aA A.length cA, .slice aD D.length cD, .slice aK K.length cK] 56), ((φ1 2), .cells #[.slice none 0 0] 26)] [] 2 [.o 1] 0 (fun φ2 => [(12, .slice aA A.length cA), (11, .pointer (some ⟨(φ1 1), 0, none⟩))]) (fun φ2 => [((φ1 0), .cells #[.slice a0 L.length c0] 26), ((φ1 1), .cells #[.slice aA A.length cA, .slice aD D.length cD, .slice aK K.length cK] 56), ((φ1 2), .cells #[.slice none 0 0] 26)]) (fun φ2 => [(φ1 1)]) s trivial (fun φ2 => by kernel_rfl) ?_
  intro φ2 w2 s
  refine call_rule (some 13) s (make_c hA hlA hN hT hsA) (by kernel_rfl) ?_
  intro v3 I3 w3 le3 h3 s
  replace h0 := FSl.mono le3 h0
  replace hA := FSl.mono le3 hA
  replace hD := FSl.mono le3 hD
  replace hK := ISl.mono le3 hK
  replace hN := Tx.NmT.mono le3 hN
  replace hT := Tx.U8.mono le3 hT
  obtain ⟨a3, c3, rfl, h3_0⟩ := h3
  refine ops_rule (C := []) [((φ1 0), .cells #[.slice a0 L.length c0] 26), ((φ1 1), .cells #[.slice aA A.length cA, .slice aD D.length cD, .slice aK K.length cK] 56), ((φ1 2), .cells #[.slice none 0 0] 26)] [] 6 [.o 3] 1 (fun φ4 => [(7, .int .i64 ((mkE A : Nat) : Int)), (6, .pointer (some ⟨(φ4 0), 0, none⟩)), (15, .int .i64 ((mkE A : Nat) : Int)), (14, .agg #[.slice a3 (List.length (mkF A)) c3]), (10, .tuple #[.agg #[.slice a3 (List.length (mkF A)) c3], .int .i64 ((mkE A : Nat) : Int)])]) (fun φ4 => [((φ1 0), .cells #[.slice a0 L.length c0] 26), ((φ1 1), .cells #[.slice aA A.length cA, .slice aD D.length cD, .slice aK K.length cK] 56), ((φ1 2), .cells #[.slice none 0 0] 26), ((φ4 0), .cells #[.slice a3 (List.length (mkF A)) c3] 26)]) (fun φ4 => [(φ4 0)]) s trivial (fun φ4 => by kernel_rfl) ?_
  intro φ4 w4 s
  refine ops_done (by kernel_rfl) ?_
  refine wp_seq ?_
  refine wp_seq ?_
  refine region_rule ?_
  refine ops_rule (C := []) [((φ1 0), .cells #[.slice a0 L.length c0] 26), ((φ1 1), .cells #[.slice aA A.length cA, .slice aD D.length cD, .slice aK K.length cK] 56), ((φ1 2), .cells #[.slice none 0 0] 26), ((φ4 0), .cells #[.slice a3 (List.length (mkF A)) c3] 26)] [] 2 [] 0 (fun φ5 => [(17, .bool (((mkE A : Nat) : Int) != ((0 : Nat) : Int))), (16, .int .i64 ((mkE A : Nat) : Int))]) (fun φ5 => [((φ1 0), .cells #[.slice a0 L.length c0] 26), ((φ1 1), .cells #[.slice aA A.length cA, .slice aD D.length cD, .slice aK K.length cK] 56), ((φ1 2), .cells #[.slice none 0 0] 26), ((φ4 0), .cells #[.slice a3 (List.length (mkF A)) c3] 26)]) (fun φ5 => []) s trivial (fun φ5 => by kernel_rfl) ?_
  intro φ5 w5 s
  rw [nat_neq (a := (mkE A)) (b := 0)]
  refine ops_done (by kernel_rfl) ?_
  rcases Bool.eq_false_or_eq_true (decide ((mkE A) ≠ 0)) with hc6 | hc6
  ·
    rw [hc6]
    refine cond_true_rule (b := true) (by kernel_rfl) rfl ?_
    refine wp_seq ?_
    refine region_rule ?_
    refine ops_rule (C := []) [((φ1 0), .cells #[.slice a0 L.length c0] 26), ((φ1 1), .cells #[.slice aA A.length cA, .slice aD D.length cD, .slice aK K.length cK] 56), ((φ1 2), .cells #[.slice none 0 0] 26), ((φ4 0), .cells #[.slice a3 (List.length (mkF A)) c3] 26)] [] 4 [.o 0, .o 2] 0 (fun φ7 => [(5, .int .i64 ((mkE A : Nat) : Int)), (19, .int .i64 ((mkE A : Nat) : Int)), (18, .agg #[.slice a0 L.length c0])]) (fun φ7 => [((φ1 0), .cells #[.slice a0 L.length c0] 26), ((φ1 1), .cells #[.slice aA A.length cA, .slice aD D.length cD, .slice aK K.length cK] 56), ((φ1 2), .cells #[.slice a0 L.length c0] 26), ((φ4 0), .cells #[.slice a3 (List.length (mkF A)) c3] 26)]) (fun φ7 => [(φ1 0), (φ1 2)]) s trivial (fun φ7 => by kernel_rfl) ?_
    intro φ7 w7 s
    refine ops_done (by kernel_rfl) ?_
    refine wp_ret ?_
    refine ret_rule (C := []) [((φ1 0), .cells #[.slice a0 L.length c0] 26), ((φ1 1), .cells #[.slice aA A.length cA, .slice aD D.length cD, .slice aK K.length cK] 56), ((φ1 2), .cells #[.slice a0 L.length c0] 26), ((φ4 0), .cells #[.slice a3 (List.length (mkF A)) c3] 26)] [] (.tuple #[.agg #[.slice a0 L.length c0], .int .i64 ((mkE A : Nat) : Int)]) [.o 2] [(φ1 2)] s trivial (by kernel_rfl) ?_
    exact ⟨_, _, _, rfl, s, (pg_1 (rt1 hc6) h0)⟩
  ·
    rw [hc6]
    refine cond_false_rule (b := false) (by kernel_rfl) rfl ?_
    refine wp_skip ?_
    refine wp_seq ?_
    obtain ⟨I8, le8, hk8, s⟩ := s.freezeAt 1 (φ1 1) (.cells #[.slice aA A.length cA, .slice aD D.length cD, .slice aK K.length cK] 56) [((φ1 0), .cells #[.slice a0 L.length c0] 26), ((φ1 2), .cells #[.slice none 0 0] 26), ((φ4 0), .cells #[.slice a3 (List.length (mkF A)) c3] 26)] (by kernel_rfl) (by kernel_rfl)
    replace h0 := FSl.mono le8 h0
    replace hA := FSl.mono le8 hA
    replace hD := FSl.mono le8 hD
    replace hK := ISl.mono le8 hK
    replace hN := Tx.NmT.mono le8 hN
    replace hT := Tx.U8.mono le8 hT
    replace h3_0 := FSl.mono le8 h3_0
    refine region_rule ?_
    refine ops_rule (C := []) [((φ1 0), .cells #[.slice a0 L.length c0] 26), ((φ1 2), .cells #[.slice none 0 0] 26), ((φ4 0), .cells #[.slice a3 (List.length (mkF A)) c3] 26)] [] 3 [.o 0] 0 (fun φ9 => [(22, .func (.func 68) #[] #[.pointer (some ⟨(φ1 1), 0, none⟩)]), (21, .slice a0 L.length c0), (20, .pointer (some ⟨(φ1 0), 0, none⟩))]) (fun φ9 => [((φ1 0), .cells #[.slice a0 L.length c0] 26), ((φ1 2), .cells #[.slice none 0 0] 26), ((φ4 0), .cells #[.slice a3 (List.length (mkF A)) c3] 26)]) (fun φ9 => [(φ1 0)]) s trivial (fun φ9 => by kernel_rfl) ?_
    intro φ9 w9 s
    refine callF_rule (H := [((φ1 0), .cells #[.slice a0 L.length c0] 26), ((φ1 2), .cells #[.slice none 0 0] 26), ((φ4 0), .cells #[.slice a3 (List.length (mkF A)) c3] 26)]) (F := []) (some 23) s (withoutPM_c h0 (by omega) hD hK hlD hlK hk8) (by kernel_rfl) ?_
    intro v10 I10 w10 F10 le10 h10 s
    replace h0 := FSl.mono le10 h0
    replace hA := FSl.mono le10 hA
    replace hD := FSl.mono le10 hD
    replace hK := ISl.mono le10 hK
    replace hN := Tx.NmT.mono le10 hN
    replace hT := Tx.U8.mono le10 hT
    replace h3_0 := FSl.mono le10 h3_0
    replace hk8 := le10 _ _ hk8
    refine ops_rule (C := []) [((φ1 0), .cells #[.slice a0 L.length c0] 26), ((φ1 2), .cells #[.slice none 0 0] 26), ((φ4 0), .cells #[.slice a3 (List.length (mkF A)) c3] 26)] F10 1 [] 0 (fun φ11 => [(8, v10)]) (fun φ11 => [((φ1 0), .cells #[.slice a0 L.length c0] 26), ((φ1 2), .cells #[.slice none 0 0] 26), ((φ4 0), .cells #[.slice a3 (List.length (mkF A)) c3] 26)]) (fun φ11 => []) s trivial (fun φ11 => by kernel_rfl) ?_
    intro φ11 w11 s
    refine ops_done (by kernel_rfl) ?_
    refine wp_seq ?_
    refine region_rule ?_
    refine ops_rule (C := []) [((φ1 0), .cells #[.slice a0 L.length c0] 26), ((φ1 2), .cells #[.slice none 0 0] 26), ((φ4 0), .cells #[.slice a3 (List.length (mkF A)) c3] 26)] F10 3 [.o 2] 0 (fun φ12 => [(27, .slice a3 (List.length (mkF A)) c3), (26, .pointer (some ⟨(φ4 0), 0, none⟩)), (25, v10)]) (fun φ12 => [((φ1 0), .cells #[.slice a0 L.length c0] 26), ((φ1 2), .cells #[.slice none 0 0] 26), ((φ4 0), .cells #[.slice a3 (List.length (mkF A)) c3] 26)]) (fun φ12 => [(φ4 0)]) s trivial (fun φ12 => by kernel_rfl) ?_
    intro φ12 w12 s
    have hl8 := keep_len (q := qP D K) (L := L)
    have hm8 := mkF_len (L := A)
    refine append_rule (H := [((φ1 0), .cells #[.slice a0 L.length c0] 26), ((φ1 2), .cells #[.slice none 0 0] 26), ((φ4 0), .cells #[.slice a3 (List.length (mkF A)) c3] 26)]) (F := F10) 22 22 39 Tryd.t39 (.agg #[.int .i64 0, .string ⟨#[]⟩, .string ⟨#[]⟩]) 3 40 (some 28) s Tryd.underlying22 (by kernel_rfl) (by kernel_rfl) (by kernel_rfl) (by kernel_rfl) (by kernel_rfl) (by decide) h10 (src_fslL s.sub h3_0) (by simp only [maxLen]; omega) (by omega) (by kernel_rfl) ?_
    intro v13 w13 F13 s h13
    obtain ⟨J13, le13, hk13, s⟩ := freeze_row39 (H := [((φ1 0), .cells #[.slice a0 L.length c0] 26), ((φ1 2), .cells #[.slice none 0 0] 26), ((φ4 0), .cells #[.slice a3 (List.length (mkF A)) c3] 26)]) (F := F13) s (row_app39 h13)
    obtain ⟨a13, c13, hv13, -, hk13⟩ := hk13.open
    subst hv13
    replace h0 := FSl.mono le13 h0
    replace hA := FSl.mono le13 hA
    replace hD := FSl.mono le13 hD
    replace hK := ISl.mono le13 hK
    replace hN := Tx.NmT.mono le13 hN
    replace hT := Tx.U8.mono le13 hT
    replace h3_0 := FSl.mono le13 h3_0
    replace hk8 := le13 _ _ hk8
    refine call_rule (some 29) s (of_c hk13 (by rw [List.length_append]; omega)) (by kernel_rfl) ?_
    intro v14 I14 w14 le14 h14 s
    replace h0 := FSl.mono le14 h0
    replace hA := FSl.mono le14 hA
    replace hD := FSl.mono le14 hD
    replace hK := ISl.mono le14 hK
    replace hN := Tx.NmT.mono le14 hN
    replace hT := Tx.U8.mono le14 hT
    replace h3_0 := FSl.mono le14 h3_0
    replace hk13 := FSl.mono le14 hk13
    replace hk8 := le14 _ _ hk8
    obtain ⟨a14, c14, rfl, h14_0⟩ := h14
    refine ops_rule (C := []) [((φ1 0), .cells #[.slice a0 L.length c0] 26), ((φ1 2), .cells #[.slice none 0 0] 26), ((φ4 0), .cells #[.slice a3 (List.length (mkF A)) c3] 26)] [] 6 [.o 3] 1 (fun φ15 => [(7, .int .i64 ((ofE (keepF (qP D K) L ++ mkF A) : Nat) : Int)), (9, .pointer (some ⟨(φ15 0), 0, none⟩)), (31, .int .i64 ((ofE (keepF (qP D K) L ++ mkF A) : Nat) : Int)), (30, .agg #[.slice a14 (List.length (ofF (keepF (qP D K) L ++ mkF A))) c14]), (24, .tuple #[.agg #[.slice a14 (List.length (ofF (keepF (qP D K) L ++ mkF A))) c14], .int .i64 ((ofE (keepF (qP D K) L ++ mkF A) : Nat) : Int)])]) (fun φ15 => [((φ1 0), .cells #[.slice a0 L.length c0] 26), ((φ1 2), .cells #[.slice none 0 0] 26), ((φ4 0), .cells #[.slice a3 (List.length (mkF A)) c3] 26), ((φ15 0), .cells #[.slice a14 (List.length (ofF (keepF (qP D K) L ++ mkF A))) c14] 26)]) (fun φ15 => [(φ15 0)]) s trivial (fun φ15 => by kernel_rfl) ?_
    intro φ15 w15 s
    refine ops_done (by kernel_rfl) ?_
    refine wp_seq ?_
    refine wp_seq ?_
    refine region_rule ?_
    refine ops_rule (C := []) [((φ1 0), .cells #[.slice a0 L.length c0] 26), ((φ1 2), .cells #[.slice none 0 0] 26), ((φ4 0), .cells #[.slice a3 (List.length (mkF A)) c3] 26), ((φ15 0), .cells #[.slice a14 (List.length (ofF (keepF (qP D K) L ++ mkF A))) c14] 26)] [] 2 [] 0 (fun φ16 => [(33, .bool (((ofE (keepF (qP D K) L ++ mkF A) : Nat) : Int) != ((0 : Nat) : Int))), (32, .int .i64 ((ofE (keepF (qP D K) L ++ mkF A) : Nat) : Int))]) (fun φ16 => [((φ1 0), .cells #[.slice a0 L.length c0] 26), ((φ1 2), .cells #[.slice none 0 0] 26), ((φ4 0), .cells #[.slice a3 (List.length (mkF A)) c3] 26), ((φ15 0), .cells #[.slice a14 (List.length (ofF (keepF (qP D K) L ++ mkF A))) c14] 26)]) (fun φ16 => []) s trivial (fun φ16 => by kernel_rfl) ?_
    intro φ16 w16 s
    rw [nat_neq (a := (ofE (keepF (qP D K) L ++ mkF A))) (b := 0)]
    refine ops_done (by kernel_rfl) ?_
    rcases Bool.eq_false_or_eq_true (decide ((ofE (keepF (qP D K) L ++ mkF A)) ≠ 0)) with hc17 | hc17
    ·
      rw [hc17]
      refine cond_true_rule (b := true) (by kernel_rfl) rfl ?_
      refine wp_seq ?_
      refine region_rule ?_
      refine ops_rule (C := []) [((φ1 0), .cells #[.slice a0 L.length c0] 26), ((φ1 2), .cells #[.slice none 0 0] 26), ((φ4 0), .cells #[.slice a3 (List.length (mkF A)) c3] 26), ((φ15 0), .cells #[.slice a14 (List.length (ofF (keepF (qP D K) L ++ mkF A))) c14] 26)] [] 4 [.o 0, .o 1] 0 (fun φ18 => [(5, .int .i64 ((ofE (keepF (qP D K) L ++ mkF A) : Nat) : Int)), (35, .int .i64 ((ofE (keepF (qP D K) L ++ mkF A) : Nat) : Int)), (34, .agg #[.slice a0 L.length c0])]) (fun φ18 => [((φ1 0), .cells #[.slice a0 L.length c0] 26), ((φ1 2), .cells #[.slice a0 L.length c0] 26), ((φ4 0), .cells #[.slice a3 (List.length (mkF A)) c3] 26), ((φ15 0), .cells #[.slice a14 (List.length (ofF (keepF (qP D K) L ++ mkF A))) c14] 26)]) (fun φ18 => [(φ1 0), (φ1 2)]) s trivial (fun φ18 => by kernel_rfl) ?_
      intro φ18 w18 s
      refine ops_done (by kernel_rfl) ?_
      refine wp_ret ?_
      refine ret_rule (C := []) [((φ1 0), .cells #[.slice a0 L.length c0] 26), ((φ1 2), .cells #[.slice a0 L.length c0] 26), ((φ4 0), .cells #[.slice a3 (List.length (mkF A)) c3] 26), ((φ15 0), .cells #[.slice a14 (List.length (ofF (keepF (qP D K) L ++ mkF A))) c14] 26)] [] (.tuple #[.agg #[.slice a0 L.length c0], .int .i64 ((ofE (keepF (qP D K) L ++ mkF A) : Nat) : Int)]) [.o 1] [(φ1 2)] s trivial (by kernel_rfl) ?_
      exact ⟨_, _, _, rfl, s, (pg_2 (rt0 hc6) (rt1 hc17) h0)⟩
    ·
      rw [hc17]
      refine cond_false_rule (b := false) (by kernel_rfl) rfl ?_
      refine wp_skip ?_
      refine wp_seq ?_
      refine region_rule ?_
      refine ops_rule (C := []) [((φ1 0), .cells #[.slice a0 L.length c0] 26), ((φ1 2), .cells #[.slice none 0 0] 26), ((φ4 0), .cells #[.slice a3 (List.length (mkF A)) c3] 26), ((φ15 0), .cells #[.slice a14 (List.length (ofF (keepF (qP D K) L ++ mkF A))) c14] 26)] [] 3 [.o 3, .o 1] 0 (fun φ19 => [(5, .int .i64 0), (36, .agg #[.slice a14 (List.length (ofF (keepF (qP D K) L ++ mkF A))) c14])]) (fun φ19 => [((φ1 0), .cells #[.slice a0 L.length c0] 26), ((φ1 2), .cells #[.slice a14 (List.length (ofF (keepF (qP D K) L ++ mkF A))) c14] 26), ((φ4 0), .cells #[.slice a3 (List.length (mkF A)) c3] 26), ((φ15 0), .cells #[.slice a14 (List.length (ofF (keepF (qP D K) L ++ mkF A))) c14] 26)]) (fun φ19 => [(φ15 0), (φ1 2)]) s trivial (fun φ19 => by kernel_rfl) ?_
      intro φ19 w19 s
      refine ops_done (by kernel_rfl) ?_
      refine wp_ret ?_
      refine ret_rule (C := []) [((φ1 0), .cells #[.slice a0 L.length c0] 26), ((φ1 2), .cells #[.slice a14 (List.length (ofF (keepF (qP D K) L ++ mkF A))) c14] 26), ((φ4 0), .cells #[.slice a3 (List.length (mkF A)) c3] 26), ((φ15 0), .cells #[.slice a14 (List.length (ofF (keepF (qP D K) L ++ mkF A))) c14] 26)] [] (.tuple #[.agg #[.slice a14 (List.length (ofF (keepF (qP D K) L ++ mkF A))) c14], .int .i64 0]) [.o 1] [(φ1 2)] s trivial (by kernel_rfl) ?_
      exact ⟨_, _, _, rfl, s, (pg_3 (rt0 hc6) (rt0 hc17) h14_0)⟩

end Go.Proofs.YtcpmjogeafhpnaaDoor
/- Any patch makes the document's card. -/
set_option linter.all false
set_option maxRecDepth 100000
namespace Go.Proofs.YtcpmjogeafhpnaaDoor
open Go.RowKit Go.Sep
attribute [local irreducible] Go.wpList Go.Code.wp

theorem patchD_c {I : IM} {L : List Fe} {a0 : Option Addr} {c0 : Nat} (h0 : FSl I L (.slice a0 L.length c0)) (hl : L.length ≤ 900) (hL : asc L) (hN : Tx.NmT I) (hT : Tx.U8 I) {A D : List Fe} {K : List Int} {aA aD aK : Option Addr} {cA cD cK : Nat} (hA : FSl I A (.slice aA A.length cA)) (hD : FSl I D (.slice aD D.length cD)) (hK : ISl I K (.slice aK K.length cK)) (hlA : A.length ≤ 1000) (hlD : D.length ≤ 1000) (hlK : K.length ≤ 1000) (hsA : shortL A) :
    Fun Tryd.prog 30 #[.agg #[.slice a0 L.length c0], .agg #[.slice aA A.length cA, .slice aD D.length cD, .slice aK K.length cK]] I (fun v J => ∃ a c, v = .tuple #[.agg #[.slice a (dcF L A D K).length c], .int .i64 ((dcE L A D K : Nat) : Int)] ∧ FSl J (dcF L A D K) (.slice a (dcF L A D K).length c)) := by
  have q := cardPatch_c h0 hl hN hT hA hD hK hlA hlD hlK hsA
  rw [(pg_dc hL).1, (pg_dc hL).2] at q; exact q
end Go.Proofs.YtcpmjogeafhpnaaDoor
/- What differs makes the one card the other. -/
set_option linter.all false
set_option maxRecDepth 100000
namespace Go.Proofs.YtcpmjogeafhpnaaDoor
open Go.RowKit Go.Sep
attribute [local irreducible] Go.wpList Go.Code.wp

set_option maxHeartbeats 1000000 in
theorem sameCd_c {I : IM} {L M : List Fe} {a0 a1 : Option Addr} {c0 c1 : Nat} (h0 : FSl I L (.slice a0 L.length c0)) (h1 : FSl I M (.slice a1 M.length c1)) (hl : L.length ≤ 1000) : Fun Tryd.prog 28 #[.agg #[.slice a0 L.length c0], .agg #[.slice a1 M.length c1]] I (fun v J => v = .bool (decide (L = M))) := by
  refine enter_rule 10 [(0, .agg #[.slice a0 L.length c0]), (1, .agg #[.slice a1 M.length c1])] Tryd.func28 rfl (by kernel_rfl) ?_
  intro w s
  refine wp_seq ?_
  refine region_rule ?_
  refine ops_rule (C := []) [] [] 3 [] 2 (fun φ1 => [(4, .bool false), (3, .pointer (some ⟨(φ1 1), 0, none⟩)), (2, .pointer (some ⟨(φ1 0), 0, none⟩))]) (fun φ1 => [((φ1 0), .cells #[.slice a0 L.length c0] 26), ((φ1 1), .cells #[.slice a1 M.length c1] 26)]) (fun φ1 => []) s trivial (fun φ1 => by kernel_rfl) ?_
  intro φ1 w1 s
  refine ops_done (by kernel_rfl) ?_
  refine wp_seq ?_
  refine region_rule ?_
  refine ops_rule (C := []) [((φ1 0), .cells #[.slice a0 L.length c0] 26), ((φ1 1), .cells #[.slice a1 M.length c1] 26)] [] 4 [.o 0, .o 1] 0 (fun φ2 => [(8, .slice a1 M.length c1), (7, .pointer (some ⟨(φ1 1), 0, none⟩)), (6, .slice a0 L.length c0), (5, .pointer (some ⟨(φ1 0), 0, none⟩))]) (fun φ2 => [((φ1 0), .cells #[.slice a0 L.length c0] 26), ((φ1 1), .cells #[.slice a1 M.length c1] 26)]) (fun φ2 => [(φ1 0), (φ1 1)]) s trivial (fun φ2 => by kernel_rfl) ?_
  intro φ2 w2 s
  refine call_rule (some 9) s (equalG_c h0 h1 hl) (by kernel_rfl) ?_
  intro v3 I3 w3 le3 h3 s
  replace h0 := FSl.mono le3 h0
  replace h1 := FSl.mono le3 h1
  obtain rfl := h3
  refine ops_rule (C := []) [((φ1 0), .cells #[.slice a0 L.length c0] 26), ((φ1 1), .cells #[.slice a1 M.length c1] 26)] [] 1 [] 0 (fun φ4 => [(4, .bool (decide (L = M)))]) (fun φ4 => [((φ1 0), .cells #[.slice a0 L.length c0] 26), ((φ1 1), .cells #[.slice a1 M.length c1] 26)]) (fun φ4 => []) s trivial (fun φ4 => by kernel_rfl) ?_
  intro φ4 w4 s
  refine ops_done (by kernel_rfl) ?_
  refine wp_ret ?_
  refine ret_rule (C := []) [((φ1 0), .cells #[.slice a0 L.length c0] 26), ((φ1 1), .cells #[.slice a1 M.length c1] 26)] [] (.bool (decide (L = M))) [] [] s trivial (by kernel_rfl) ?_
  exact ⟨_, _, _, rfl, s, rfl⟩

theorem sameS_c {I : IM} {L : List Fe} {a0 a1 : Option Addr} {c0 c1 : Nat} (h0 : FSl I L (.slice a0 L.length c0)) (h1 : FSl I L (.slice a1 L.length c1)) (hl : L.length ≤ 1000) : Fun Tryd.prog 28 #[.agg #[.slice a0 L.length c0], .agg #[.slice a1 L.length c1]] I (fun v J => v = .bool true) :=
  (sameCd_c h0 h1 hl).mono fun v J _ q => q.trans (congrArg Value.bool (decide_eq_true rfl))
end Go.Proofs.YtcpmjogeafhpnaaDoor
