/- What is made of a few; fields compared, found. -/
import Derived.Test.YtcpmjogeafhpnaaDoorCoM25
set_option linter.all false
set_option maxRecDepth 100000
namespace Go.Proofs.YtcpmjogeafhpnaaDoor
open Go.RowKit Go.Sep
attribute [local irreducible] Go.wpList Go.Code.wp

def stepS (acc : List Fe) (x : Fe) : List Fe := if rtFe x = 0 ∧ acc.length < 8 then acc ++ [x] else acc
/-- up to as many as may be, of those that may be -/
def someF (M : List Fe) : List Fe := M.foldl stepS []
def madeF (L : List Fe) : List Fe := puts (someF (fewF L))
theorem some_take {M : List Fe} {i : Nat} (hi : i < M.length) : someF (M.take (i + 1)) = stepS (someF (M.take i)) (M.getD i Fe.z) := by
  unfold someF
  rw [fe_take hi, List.foldl_append]; rfl
theorem some_yes {M : List Fe} {i : Nat} (hi : i < M.length) (h1 : rtFe (M.getD i Fe.z) = 0) (h2 : (someF (M.take i)).length < 8) : someF (M.take i) ++ [M.getD i Fe.z] = someF (M.take (i + 1)) := by
  rw [some_take hi]; unfold stepS; rw [if_pos ⟨h1, h2⟩]
theorem some_no {M : List Fe} {i : Nat} (hi : i < M.length) (h : ¬ (rtFe (M.getD i Fe.z) = 0 ∧ (someF (M.take i)).length < 8)) : someF (M.take i) = someF (M.take (i + 1)) := by
  rw [some_take hi]; unfold stepS; rw [if_neg h]
theorem some_props : ∀ (M acc : List Fe), acc.length ≤ 8 → (∀ x ∈ acc, rtFe x = 0) → (M.foldl stepS acc).length ≤ 8 ∧ ∀ x ∈ M.foldl stepS acc, rtFe x = 0 ∧ (x ∈ M ∨ x ∈ acc)
  | [], acc, h1, h2 => ⟨h1, fun x hx => ⟨h2 x hx, .inr hx⟩⟩
  | y :: M, acc, h1, h2 => by
    have key : (stepS acc y).length ≤ 8 ∧ ∀ x ∈ stepS acc y, rtFe x = 0 ∧ (x = y ∨ x ∈ acc) := by
      unfold stepS; split
      · rename_i h
        refine ⟨by rw [List.length_append]; simp; omega, fun x hx => ?_⟩
        rcases List.mem_append.1 hx with q | q
        · exact ⟨h2 x q, .inr q⟩
        · simp at q; subst q; exact ⟨h.1, .inl rfl⟩
      · exact ⟨h1, fun x hx => ⟨h2 x hx, .inr hx⟩⟩
    obtain ⟨q1, q2⟩ := some_props M (stepS acc y) key.1 (fun x hx => (key.2 x hx).1)
    refine ⟨q1, fun x hx => ?_⟩
    obtain ⟨r1, r2⟩ := q2 x hx
    refine ⟨r1, ?_⟩
    rcases r2 with r2 | r2
    · exact .inl (List.mem_cons_of_mem _ r2)
    · rcases (key.2 x r2).2 with rfl | r3
      · exact .inl (by simp)
      · exact .inr r3
theorem some_len {M : List Fe} : (someF M).length ≤ 8 := (some_props M [] (Nat.zero_le _) (fun x h => by simp at h)).1
theorem some_rt {M : List Fe} {x : Fe} (h : x ∈ someF M) : rtFe x = 0 := ((some_props M [] (Nat.zero_le _) (fun x h => by simp at h)).2 x h).1
theorem some_mem {M : List Fe} {x : Fe} (h : x ∈ someF M) : x ∈ M := by
  have := ((some_props M [] (Nat.zero_le _) (fun x h => by simp at h)).2 x h).2
  simpa using this
theorem some_short {L : List Fe} : shortL (someF (fewF L)) := short_of fun x hx => by have := few_short x (some_mem hx); omega
theorem mkF_right {L : List Fe} (h1 : ∀ x ∈ L, rtFe x = 0) (h2 : (puts L).length ≤ 8) : mkF L = puts L ∧ mkE L = 0 := by
  have e := eRt_of h1
  exact ⟨(if_pos e).trans (if_pos h2), (if_pos e).trans (if_pos h2)⟩
theorem mk_some {L : List Fe} : mkF (someF (fewF L)) = madeF L ∧ mkE (someF (fewF L)) = 0 :=
  mkF_right (fun x hx => some_rt hx) (Nat.le_trans (puts_len _) some_len)
theorem made_len {L : List Fe} : (madeF L).length ≤ 8 := Nat.le_trans (puts_len _) some_len
theorem made_rt {L : List Fe} {x : Fe} (h : x ∈ madeF L) : rtFe x = 0 := some_rt (mem_puts.1 h)
theorem made_mem {L : List Fe} {x : Fe} (h : x ∈ madeF L) : x.a.length ≤ 60 ∧ x.v.length ≤ 60 := few_short x (some_mem (mem_puts.1 h))
theorem made_asc (L : List Fe) : asc (madeF L) := asc_puts _
theorem eq_lists : ∀ {L M : List Fe}, L.length = M.length → (∀ j, j < L.length → L.getD j Fe.z = M.getD j Fe.z) → L = M
  | [], [], _, _ => rfl
  | [], _ :: _, h, _ => by simp at h
  | _ :: _, [], h, _ => by simp at h
  | x :: L, y :: M, h, hj => by
    have h0 := hj 0 (by simp)
    simp only [List.getD_cons_zero] at h0
    have := eq_lists (L := L) (M := M) (by simpa using h) (fun j q => by have := hj (j + 1) (by simpa using q); simpa using this)
    rw [h0, this]
theorem eq_next {L M : List Fe} {i : Nat} (h : ∀ j, j < i → L.getD j Fe.z = M.getD j Fe.z) (hi : L.getD i Fe.z = M.getD i Fe.z) : ∀ j, j < i + 1 → L.getD j Fe.z = M.getD j Fe.z := fun j hj => by
  by_cases e : j = i
  · subst e; exact hi
  · exact h j (by omega)
theorem getD_mem {L : List Fe} {i : Nat} (hi : i < L.length) : L.getD i Fe.z ∈ L := by simp [hi]

theorem row_val {v : Value} {n : Nat} {xs : List Value} {F : List OB} {e sz : Nat} (h : RowH e sz v n xs F) : ∃ a c, v = .slice a n c := by
  rcases h.2 with ⟨h1, h2, _⟩ | ⟨g, cap, cur, h1, _⟩
  · exact ⟨none, 0, by rw [h1, h2]⟩
  · exact ⟨_, _, h1⟩
theorem makeS_c {I : IM} {L : List Fe} {a0 : Option Addr} {c0 : Nat} (h0 : FSl I (someF (fewF L)) (.slice a0 (someF (fewF L)).length c0)) (hN : Tx.NmT I) (hT : Tx.U8 I) : Fun Tryd.prog 15 #[.slice a0 (someF (fewF L)).length c0] I (fun v J => ∃ a c, v = .tuple #[.agg #[.slice a (madeF L).length c], .int .i64 0] ∧ FSl J (madeF L) (.slice a (madeF L).length c)) := by
  have q := make_c h0 (Nat.le_trans some_len (by decide)) hN hT some_short
  rw [mk_some.1, mk_some.2] at q; exact q
theorem refMakeS_c {I : IM} {L : List Fe} {a0 : Option Addr} {c0 : Nat} (h0 : FSl I (someF (fewF L)) (.slice a0 (someF (fewF L)).length c0)) : Fun Tryd.prog 16 #[.slice a0 (someF (fewF L)).length c0] I (fun v J => ∃ a c, v = .tuple #[.slice a (madeF L).length c, .int .i64 0] ∧ FSl J (madeF L) (.slice a (madeF L).length c)) := by
  have q := refMake_c h0 (Nat.le_trans some_len (by decide)) some_short
  rw [mk_some.1, mk_some.2] at q; exact q
set_option maxHeartbeats 4000000 in
theorem made_c {I : IM} {L : List Fe} {a0 : Option Addr} {c0 : Nat} (h0 : FSl I L (.slice a0 L.length c0)) (hl : L.length ≤ 9223372036854775807) (hN : Tx.NmT I) (hT : Tx.U8 I) : Fun Tryd.prog 24 #[.slice a0 L.length c0] I (fun v J => ∃ a c a' c', v = .tuple #[.agg #[.slice a (madeF L).length c], .slice a' (madeF L).length c'] ∧ FSl J (madeF L) (.slice a (madeF L).length c) ∧ FSl J (madeF L) (.slice a' (madeF L).length c')) := by
  refine enter_rule 44 [(0, .slice a0 L.length c0)] Tryd.func24 rfl (by kernel_rfl) ?_
  intro w s
  refine wp_seq ?_
  refine region_rule ?_
  refine ops_rule (C := []) [] [] 2 [] 1 (fun φ1 => [(3, .slice none 0 0), (2, .pointer (some ⟨(φ1 0), 0, none⟩))]) (fun φ1 => [((φ1 0), .cells #[.slice none 0 0] 26)]) (fun φ1 => []) s trivial (fun φ1 => by kernel_rfl) ?_
  intro φ1 w1 s
  refine ops_done (by kernel_rfl) ?_
  refine wp_seq ?_
  refine region_rule ?_
  refine ops_rule (C := []) [((φ1 0), .cells #[.slice none 0 0] 26)] [] 1 [] 0 (fun φ2 => [(4, .slice none 0 0)]) (fun φ2 => [((φ1 0), .cells #[.slice none 0 0] 26)]) (fun φ2 => []) s trivial (fun φ2 => by kernel_rfl) ?_
  intro φ2 w2 s
  refine ops_done (by kernel_rfl) ?_
  refine wp_seq ?_
  refine wp_seq ?_
  refine region_rule ?_
  refine ops_rule (C := []) [((φ1 0), .cells #[.slice none 0 0] 26)] [] 1 [] 0 (fun φ3 => [(11, .slice a0 L.length c0)]) (fun φ3 => [((φ1 0), .cells #[.slice none 0 0] 26)]) (fun φ3 => []) s trivial (fun φ3 => by kernel_rfl) ?_
  intro φ3 w3 s
  refine call_rule (some 12) s (few_c h0 hl) (by kernel_rfl) ?_
  intro v4 I4 w4 le4 h4 s
  replace h0 := FSl.mono le4 h0
  replace hN := Tx.NmT.mono le4 hN
  replace hT := Tx.U8.mono le4 hT
  obtain ⟨a4, c4, rfl, h4_0⟩ := h4
  refine ops_rule (C := []) [((φ1 0), .cells #[.slice none 0 0] 26)] [] 2 [] 0 (fun φ5 => [(14, .int .i64 0), (13, .int .i64 (((List.length (fewF L)) : Nat) : Int))]) (fun φ5 => [((φ1 0), .cells #[.slice none 0 0] 26)]) (fun φ5 => []) s trivial (fun φ5 => by kernel_rfl) ?_
  intro φ5 w5 s
  refine ops_done (by kernel_rfl) ?_
  refine wp_block ?_
  have hle6 := IM.Le.refl I4
  refine loop_rule (fun (x : Nat × Value × List OB) => [(0, .slice a0 L.length c0), (2, .pointer (some ⟨(φ1 0), 0, none⟩)), (3, .slice none 0 0), (12, .slice a4 (List.length (fewF L)) c4), (13, .int .i64 (((List.length (fewF L)) : Nat) : Int)), (14, .int .i64 ((x.1 : Nat) : Int)), (4, x.2.1)]) (fun (x : Nat × Value × List OB) => [((φ1 0), .cells #[.slice none 0 0] 26)] ++ x.2.2) (fun m (x : Nat × Value × List OB) J => IM.Le I4 J ∧ x.1 + m = (fewF L).length ∧ RowH 39 3 x.2.1 (List.length (someF ((fewF L).take x.1))) (fcs (someF ((fewF L).take x.1))) x.2.2) ((fewF L).length) (0, (.slice none 0 0), []) s (by kernel_rfl) (List.Sublist.refl _) ⟨IM.Le.refl _, Nat.zero_add _, (RowH.nil 39 3)⟩ ?_
  rintro m7 ⟨i7, v7, F7⟩ I7 w7 ev7 s ⟨le7, hi7_0, hi7_1⟩
  try dsimp only at s hi7_0 hi7_1 ⊢
  replace h0 := FSl.mono le7 h0
  replace hN := Tx.NmT.mono le7 hN
  replace hT := Tx.U8.mono le7 hT
  replace h4_0 := FSl.mono le7 h4_0
  replace hle6 := leMono le7 hle6
  obtain ⟨a8, c8, hv8⟩ := row_val hi7_1
  subst hv8
  refine wp_seq ?_
  refine region_rule ?_
  refine ops_rule (C := []) [((φ1 0), .cells #[.slice none 0 0] 26)] F7 1 [] 0 (fun φ9 => [(15, .bool (decide (((i7 : Nat) : Int) < (((List.length (fewF L)) : Nat) : Int))))]) (fun φ9 => [((φ1 0), .cells #[.slice none 0 0] 26)]) (fun φ9 => []) s trivial (fun φ9 => by kernel_rfl) ?_
  intro φ9 w9 s
  rw [nat_lss (a := i7) (b := (List.length (fewF L)))]
  refine ops_done (by kernel_rfl) ?_
  refine wp_seq ?_
  rcases Bool.eq_false_or_eq_true (decide (i7 < (List.length (fewF L)))) with hc10 | hc10
  ·
    rw [hc10]
    refine cond_true_rule (b := true) (by kernel_rfl) rfl ?_
    refine wp_skip ?_
    refine wp_seq ?_
    refine wp_block ?_
    refine wp_seq ?_
    refine region_rule ?_
    refine sem_rule (Instr.indexAt 22 (.slice a4 (List.length (fewF L)) c4) (.int .i64 ((i7 : Nat) : Int))) (some 16) (.pointer (pAt a4 (i7 * 3))) (by kernel_rfl) (fsl_idx22 h4_0 (by have e8 := hi7_0; have e7 := few_len (L := L); have hq0 := of_decide_eq_true hc10; omega)) ?_
    refine sem_rule (Instr.loadAt 39 (.pointer (pAt a4 (i7 * 3)))) (some 17) (.agg #[.int .i64 ((List.getD (fewF L) i7 Fe.z).k), .string ⟨((List.getD (fewF L) i7 Fe.z).a).toArray⟩, .string ⟨((List.getD (fewF L) i7 Fe.z).v).toArray⟩]) (by kernel_rfl) (fsl_ld39 s.sub h4_0 (by have e8 := hi7_0; have e7 := few_len (L := L); have hq0 := of_decide_eq_true hc10; omega)) ?_
    refine ops_rule (C := []) [((φ1 0), .cells #[.slice none 0 0] 26)] F7 2 [.o 1, .o 1, .o 1] 1 (fun φ11 => [(6, .pointer (some ⟨(φ11 0), 0, none⟩))]) (fun φ11 => [((φ1 0), .cells #[.slice none 0 0] 26), ((φ11 0), .cells #[.int .i64 ((List.getD (fewF L) i7 Fe.z).k), .string ⟨((List.getD (fewF L) i7 Fe.z).a).toArray⟩, .string ⟨((List.getD (fewF L) i7 Fe.z).v).toArray⟩] 39)]) (fun φ11 => [(φ11 0), (φ11 0), (φ11 0)]) s trivial (fun φ11 => by kernel_rfl) ?_
    intro φ11 w11 s
    refine ops_done (by kernel_rfl) ?_
    refine wp_seq ?_
    refine region_rule ?_
    refine ops_rule (C := []) [((φ1 0), .cells #[.slice none 0 0] 26), ((φ11 0), .cells #[.int .i64 ((List.getD (fewF L) i7 Fe.z).k), .string ⟨((List.getD (fewF L) i7 Fe.z).a).toArray⟩, .string ⟨((List.getD (fewF L) i7 Fe.z).v).toArray⟩] 39)] F7 1 [.o 1, .o 1, .o 1] 0 (fun φ12 => [(18, .agg #[.int .i64 ((List.getD (fewF L) i7 Fe.z).k), .string ⟨((List.getD (fewF L) i7 Fe.z).a).toArray⟩, .string ⟨((List.getD (fewF L) i7 Fe.z).v).toArray⟩])]) (fun φ12 => [((φ1 0), .cells #[.slice none 0 0] 26), ((φ11 0), .cells #[.int .i64 ((List.getD (fewF L) i7 Fe.z).k), .string ⟨((List.getD (fewF L) i7 Fe.z).a).toArray⟩, .string ⟨((List.getD (fewF L) i7 Fe.z).v).toArray⟩] 39)]) (fun φ12 => [(φ11 0), (φ11 0), (φ11 0)]) s trivial (fun φ12 => by kernel_rfl) ?_
    intro φ12 w12 s
    refine call_rule (some 19) s (rightX_c (x := (List.getD (fewF L) i7 Fe.z)) hN hT (few_shortL _ (by have hq0 := of_decide_eq_true hc10; have e8 := hi7_0; have e7 := few_len (L := L); omega))) (by kernel_rfl) ?_
    intro v13 I13 w13 le13 h13 s
    replace h0 := FSl.mono le13 h0
    replace hN := Tx.NmT.mono le13 hN
    replace hT := Tx.U8.mono le13 hT
    replace h4_0 := FSl.mono le13 h4_0
    replace hle6 := leMono le13 hle6
    obtain rfl := h13
    refine ops_rule (C := []) [((φ1 0), .cells #[.slice none 0 0] 26), ((φ11 0), .cells #[.int .i64 ((List.getD (fewF L) i7 Fe.z).k), .string ⟨((List.getD (fewF L) i7 Fe.z).a).toArray⟩, .string ⟨((List.getD (fewF L) i7 Fe.z).v).toArray⟩] 39)] F7 2 [] 0 (fun φ14 => [(21, .bool (((rtFe (List.getD (fewF L) i7 Fe.z) : Nat) : Int) == ((0 : Nat) : Int))), (20, .bool (((rtFe (List.getD (fewF L) i7 Fe.z) : Nat) : Int) == ((0 : Nat) : Int)))]) (fun φ14 => [((φ1 0), .cells #[.slice none 0 0] 26), ((φ11 0), .cells #[.int .i64 ((List.getD (fewF L) i7 Fe.z).k), .string ⟨((List.getD (fewF L) i7 Fe.z).a).toArray⟩, .string ⟨((List.getD (fewF L) i7 Fe.z).v).toArray⟩] 39)]) (fun φ14 => []) s trivial (fun φ14 => by kernel_rfl) ?_
    intro φ14 w14 s
    rw [nat_eql (a := (rtFe (List.getD (fewF L) i7 Fe.z))) (b := 0)]
    rcases Bool.eq_false_or_eq_true (decide ((rtFe (List.getD (fewF L) i7 Fe.z)) = 0)) with hc15 | hc15
    ·
      rw [hc15]
      refine ops_rule (C := []) [((φ1 0), .cells #[.slice none 0 0] 26), ((φ11 0), .cells #[.int .i64 ((List.getD (fewF L) i7 Fe.z).k), .string ⟨((List.getD (fewF L) i7 Fe.z).a).toArray⟩, .string ⟨((List.getD (fewF L) i7 Fe.z).v).toArray⟩] 39)] F7 4 [] 0 (fun φ16 => [(25, .bool (decide ((((List.length (someF ((fewF L).take i7))) : Nat) : Int) < ((8 : Nat) : Int)))), (24, .bool (decide ((((List.length (someF ((fewF L).take i7))) : Nat) : Int) < ((8 : Nat) : Int)))), (23, .int .i64 (((List.length (someF ((fewF L).take i7))) : Nat) : Int)), (22, .slice a8 (List.length (someF ((fewF L).take i7))) c8)]) (fun φ16 => [((φ1 0), .cells #[.slice none 0 0] 26), ((φ11 0), .cells #[.int .i64 ((List.getD (fewF L) i7 Fe.z).k), .string ⟨((List.getD (fewF L) i7 Fe.z).a).toArray⟩, .string ⟨((List.getD (fewF L) i7 Fe.z).v).toArray⟩] 39)]) (fun φ16 => []) s trivial (fun φ16 => by kernel_rfl) ?_
      intro φ16 w16 s
      rw [nat_lss (a := (List.length (someF ((fewF L).take i7)))) (b := 8)]
      refine ops_done (by kernel_rfl) ?_
      rcases Bool.eq_false_or_eq_true (decide ((List.length (someF ((fewF L).take i7))) < 8)) with hc17 | hc17
      ·
        rw [hc17]
        refine cond_true_rule (b := true) (by kernel_rfl) rfl ?_
        refine region_rule ?_
        refine ops_rule (C := []) [((φ1 0), .cells #[.slice none 0 0] 26), ((φ11 0), .cells #[.int .i64 ((List.getD (fewF L) i7 Fe.z).k), .string ⟨((List.getD (fewF L) i7 Fe.z).a).toArray⟩, .string ⟨((List.getD (fewF L) i7 Fe.z).v).toArray⟩] 39)] F7 3 [.o 1, .o 1, .o 1] 1 (fun φ18 => [(28, .slice (some ⟨(φ18 0), 0, none⟩) 1 1), (27, .agg #[.int .i64 ((List.getD (fewF L) i7 Fe.z).k), .string ⟨((List.getD (fewF L) i7 Fe.z).a).toArray⟩, .string ⟨((List.getD (fewF L) i7 Fe.z).v).toArray⟩]), (26, .slice a8 (List.length (someF ((fewF L).take i7))) c8)]) (fun φ18 => [((φ1 0), .cells #[.slice none 0 0] 26), ((φ11 0), .cells #[.int .i64 ((List.getD (fewF L) i7 Fe.z).k), .string ⟨((List.getD (fewF L) i7 Fe.z).a).toArray⟩, .string ⟨((List.getD (fewF L) i7 Fe.z).v).toArray⟩] 39), ((φ18 0), .cells #[.int .i64 ((List.getD (fewF L) i7 Fe.z).k), .string ⟨((List.getD (fewF L) i7 Fe.z).a).toArray⟩, .string ⟨((List.getD (fewF L) i7 Fe.z).v).toArray⟩] 39)]) (fun φ18 => [(φ11 0), (φ11 0), (φ11 0)]) s trivial (fun φ18 => by kernel_rfl) ?_
        intro φ18 w18 s
        have hb19 : (List.length (someF ((fewF L).take i7))) ≤ 100000 := (Nat.le_trans some_len (by decide))
        refine append_rule (H := [((φ1 0), .cells #[.slice none 0 0] 26), ((φ11 0), .cells #[.int .i64 ((List.getD (fewF L) i7 Fe.z).k), .string ⟨((List.getD (fewF L) i7 Fe.z).a).toArray⟩, .string ⟨((List.getD (fewF L) i7 Fe.z).v).toArray⟩] 39), ((φ18 0), .cells #[.int .i64 ((List.getD (fewF L) i7 Fe.z).k), .string ⟨((List.getD (fewF L) i7 Fe.z).a).toArray⟩, .string ⟨((List.getD (fewF L) i7 Fe.z).v).toArray⟩] 39)]) (F := F7) 22 22 39 Tryd.t39 (.agg #[.int .i64 0, .string ⟨#[]⟩, .string ⟨#[]⟩]) 3 40 (some 29) s Tryd.underlying22 (by kernel_rfl) (by kernel_rfl) (by kernel_rfl) (by kernel_rfl) (by kernel_rfl) (by decide) hi7_1 (src_own s 2 (φ18 0) #[.int .i64 ((List.getD (fewF L) i7 Fe.z).k), .string ⟨((List.getD (fewF L) i7 Fe.z).a).toArray⟩, .string ⟨((List.getD (fewF L) i7 Fe.z).v).toArray⟩] 39 22 39 1 1 3 [.int .i64 ((List.getD (fewF L) i7 Fe.z).k), .string ⟨((List.getD (fewF L) i7 Fe.z).a).toArray⟩, .string ⟨((List.getD (fewF L) i7 Fe.z).v).toArray⟩] (by kernel_rfl) Tryd.underlying22 (by kernel_rfl) (by kernel_rfl) (by kernel_rfl)) (by simp only [maxLen]; omega) (by omega) (by kernel_rfl) ?_
        intro v19 w19 F19 s h19
        replace h19 : RowH 39 3 v19 (List.length ((someF ((fewF L).take i7)) ++ [(List.getD (fewF L) i7 Fe.z)])) (fcs ((someF ((fewF L).take i7)) ++ [(List.getD (fewF L) i7 Fe.z)])) F19 := row39_snoc (Fs := (someF ((fewF L).take i7))) (x := (List.getD (fewF L) i7 Fe.z)) h19 rfl
        refine ops_rule (C := []) [((φ1 0), .cells #[.slice none 0 0] 26), ((φ11 0), .cells #[.int .i64 ((List.getD (fewF L) i7 Fe.z).k), .string ⟨((List.getD (fewF L) i7 Fe.z).a).toArray⟩, .string ⟨((List.getD (fewF L) i7 Fe.z).v).toArray⟩] 39), ((φ18 0), .cells #[.int .i64 ((List.getD (fewF L) i7 Fe.z).k), .string ⟨((List.getD (fewF L) i7 Fe.z).a).toArray⟩, .string ⟨((List.getD (fewF L) i7 Fe.z).v).toArray⟩] 39)] F19 1 [] 0 (fun φ20 => [(4, v19)]) (fun φ20 => [((φ1 0), .cells #[.slice none 0 0] 26), ((φ11 0), .cells #[.int .i64 ((List.getD (fewF L) i7 Fe.z).k), .string ⟨((List.getD (fewF L) i7 Fe.z).a).toArray⟩, .string ⟨((List.getD (fewF L) i7 Fe.z).v).toArray⟩] 39), ((φ18 0), .cells #[.int .i64 ((List.getD (fewF L) i7 Fe.z).k), .string ⟨((List.getD (fewF L) i7 Fe.z).a).toArray⟩, .string ⟨((List.getD (fewF L) i7 Fe.z).v).toArray⟩] 39)]) (fun φ20 => []) s trivial (fun φ20 => by kernel_rfl) ?_
        intro φ20 w20 s
        refine ops_done (by kernel_rfl) ?_
        refine region_rule ?_
        refine ops_rule (C := []) [((φ1 0), .cells #[.slice none 0 0] 26), ((φ11 0), .cells #[.int .i64 ((List.getD (fewF L) i7 Fe.z).k), .string ⟨((List.getD (fewF L) i7 Fe.z).a).toArray⟩, .string ⟨((List.getD (fewF L) i7 Fe.z).v).toArray⟩] 39), ((φ18 0), .cells #[.int .i64 ((List.getD (fewF L) i7 Fe.z).k), .string ⟨((List.getD (fewF L) i7 Fe.z).a).toArray⟩, .string ⟨((List.getD (fewF L) i7 Fe.z).v).toArray⟩] 39)] F19 2 [] 0 (fun φ21 => [(14, .int .i64 (IntKind.wrap .i64 (((i7 : Nat) : Int) + ((1 : Nat) : Int)))), (30, .int .i64 (IntKind.wrap .i64 (((i7 : Nat) : Int) + ((1 : Nat) : Int))))]) (fun φ21 => [((φ1 0), .cells #[.slice none 0 0] 26), ((φ11 0), .cells #[.int .i64 ((List.getD (fewF L) i7 Fe.z).k), .string ⟨((List.getD (fewF L) i7 Fe.z).a).toArray⟩, .string ⟨((List.getD (fewF L) i7 Fe.z).v).toArray⟩] 39), ((φ18 0), .cells #[.int .i64 ((List.getD (fewF L) i7 Fe.z).k), .string ⟨((List.getD (fewF L) i7 Fe.z).a).toArray⟩, .string ⟨((List.getD (fewF L) i7 Fe.z).v).toArray⟩] 39)]) (fun φ21 => []) s trivial (fun φ21 => by kernel_rfl) ?_
        intro φ21 w21 s
        rw [nat_addI (a := i7) (b := 1) (by have e8 := hi7_0; have e7 := few_len (L := L); have hq0 := of_decide_eq_true hc10; have hq1 := of_decide_eq_true hc15; have hq2 := of_decide_eq_true hc17; omega)]
        refine ops_done (by kernel_rfl) ?_
        exact ⟨⟨m7 - 1, (i7 + 1, v19, F19), _, _, _, by have hq0 := of_decide_eq_true hc10; have hq1 := of_decide_eq_true hc15; have hq2 := of_decide_eq_true hc17; have := hi7_0; omega, rfl, s, (List.Sublist.append (List.Sublist.cons₂ _ (List.Sublist.cons _ (List.Sublist.cons _ List.Sublist.slnil))) (List.Sublist.refl _)), by kernel_rfl, hle6, by have hq0 := of_decide_eq_true hc10; have hq1 := of_decide_eq_true hc15; have hq2 := of_decide_eq_true hc17; have := hi7_0; show i7 + 1 + (m7 - 1) = (fewF L).length; omega, (row_eq39 (some_yes (by have hq0 := of_decide_eq_true hc10; have hq1 := of_decide_eq_true hc15; have hq2 := of_decide_eq_true hc17; have := hi7_0; omega) (of_decide_eq_true hc15) (of_decide_eq_true hc17)) h19)⟩⟩
      ·
        rw [hc17]
        refine cond_false_rule (b := false) (by kernel_rfl) rfl ?_
        refine wp_skip ?_
        refine region_rule ?_
        refine ops_rule (C := []) [((φ1 0), .cells #[.slice none 0 0] 26), ((φ11 0), .cells #[.int .i64 ((List.getD (fewF L) i7 Fe.z).k), .string ⟨((List.getD (fewF L) i7 Fe.z).a).toArray⟩, .string ⟨((List.getD (fewF L) i7 Fe.z).v).toArray⟩] 39)] F7 2 [] 0 (fun φ22 => [(14, .int .i64 (IntKind.wrap .i64 (((i7 : Nat) : Int) + ((1 : Nat) : Int)))), (30, .int .i64 (IntKind.wrap .i64 (((i7 : Nat) : Int) + ((1 : Nat) : Int))))]) (fun φ22 => [((φ1 0), .cells #[.slice none 0 0] 26), ((φ11 0), .cells #[.int .i64 ((List.getD (fewF L) i7 Fe.z).k), .string ⟨((List.getD (fewF L) i7 Fe.z).a).toArray⟩, .string ⟨((List.getD (fewF L) i7 Fe.z).v).toArray⟩] 39)]) (fun φ22 => []) s trivial (fun φ22 => by kernel_rfl) ?_
        intro φ22 w22 s
        rw [nat_addI (a := i7) (b := 1) (by have e8 := hi7_0; have e7 := few_len (L := L); have hq0 := of_decide_eq_true hc10; have hq1 := of_decide_eq_true hc15; have hq2 := of_decide_eq_false hc17; omega)]
        refine ops_done (by kernel_rfl) ?_
        exact ⟨⟨m7 - 1, (i7 + 1, .slice a8 (List.length (someF ((fewF L).take i7))) c8, F7), _, _, _, by have hq0 := of_decide_eq_true hc10; have hq1 := of_decide_eq_true hc15; have hq2 := of_decide_eq_false hc17; have := hi7_0; omega, rfl, s, (List.Sublist.append (List.Sublist.cons₂ _ (List.Sublist.cons _ List.Sublist.slnil)) (List.Sublist.refl _)), by kernel_rfl, hle6, by have hq0 := of_decide_eq_true hc10; have hq1 := of_decide_eq_true hc15; have hq2 := of_decide_eq_false hc17; have := hi7_0; show i7 + 1 + (m7 - 1) = (fewF L).length; omega, (row_eq39 (some_no (by have hq0 := of_decide_eq_true hc10; have hq1 := of_decide_eq_true hc15; have hq2 := of_decide_eq_false hc17; have := hi7_0; omega) (fun q => (of_decide_eq_false hc17) q.2)) hi7_1)⟩⟩
    ·
      rw [hc15]
      refine ops_rule (C := []) [((φ1 0), .cells #[.slice none 0 0] 26), ((φ11 0), .cells #[.int .i64 ((List.getD (fewF L) i7 Fe.z).k), .string ⟨((List.getD (fewF L) i7 Fe.z).a).toArray⟩, .string ⟨((List.getD (fewF L) i7 Fe.z).v).toArray⟩] 39)] F7 4 [] 0 (fun φ23 => [(25, .bool false), (24, undef), (23, undef), (22, undef)]) (fun φ23 => [((φ1 0), .cells #[.slice none 0 0] 26), ((φ11 0), .cells #[.int .i64 ((List.getD (fewF L) i7 Fe.z).k), .string ⟨((List.getD (fewF L) i7 Fe.z).a).toArray⟩, .string ⟨((List.getD (fewF L) i7 Fe.z).v).toArray⟩] 39)]) (fun φ23 => []) s trivial (fun φ23 => by kernel_rfl) ?_
      intro φ23 w23 s
      refine ops_done (by kernel_rfl) ?_
      refine cond_false_rule (b := false) (by kernel_rfl) rfl ?_
      refine wp_skip ?_
      refine region_rule ?_
      refine ops_rule (C := []) [((φ1 0), .cells #[.slice none 0 0] 26), ((φ11 0), .cells #[.int .i64 ((List.getD (fewF L) i7 Fe.z).k), .string ⟨((List.getD (fewF L) i7 Fe.z).a).toArray⟩, .string ⟨((List.getD (fewF L) i7 Fe.z).v).toArray⟩] 39)] F7 2 [] 0 (fun φ24 => [(14, .int .i64 (IntKind.wrap .i64 (((i7 : Nat) : Int) + ((1 : Nat) : Int)))), (30, .int .i64 (IntKind.wrap .i64 (((i7 : Nat) : Int) + ((1 : Nat) : Int))))]) (fun φ24 => [((φ1 0), .cells #[.slice none 0 0] 26), ((φ11 0), .cells #[.int .i64 ((List.getD (fewF L) i7 Fe.z).k), .string ⟨((List.getD (fewF L) i7 Fe.z).a).toArray⟩, .string ⟨((List.getD (fewF L) i7 Fe.z).v).toArray⟩] 39)]) (fun φ24 => []) s trivial (fun φ24 => by kernel_rfl) ?_
      intro φ24 w24 s
      rw [nat_addI (a := i7) (b := 1) (by have e8 := hi7_0; have e7 := few_len (L := L); have hq0 := of_decide_eq_true hc10; have hq1 := of_decide_eq_false hc15; omega)]
      refine ops_done (by kernel_rfl) ?_
      exact ⟨⟨m7 - 1, (i7 + 1, .slice a8 (List.length (someF ((fewF L).take i7))) c8, F7), _, _, _, by have hq0 := of_decide_eq_true hc10; have hq1 := of_decide_eq_false hc15; have := hi7_0; omega, rfl, s, (List.Sublist.append (List.Sublist.cons₂ _ (List.Sublist.cons _ List.Sublist.slnil)) (List.Sublist.refl _)), by kernel_rfl, hle6, by have hq0 := of_decide_eq_true hc10; have hq1 := of_decide_eq_false hc15; have := hi7_0; show i7 + 1 + (m7 - 1) = (fewF L).length; omega, (row_eq39 (some_no (by have hq0 := of_decide_eq_true hc10; have hq1 := of_decide_eq_false hc15; have := hi7_0; omega) (fun q => (of_decide_eq_false hc15) q.1)) hi7_1)⟩⟩
  ·
    rw [hc10]
    refine cond_false_rule (b := false) (by kernel_rfl) rfl ?_
    refine wp_exit ?_
    refine wp_seq ?_
    have eA25 : (someF ((fewF L).take i7)) = (someF (fewF L)) := (by have ei : i7 = (fewF L).length := (by have hq0 := of_decide_eq_false hc10; have := hi7_0; omega); rw [ei, List.take_length])
    have hr25 := hi7_1
    rw [eA25] at hr25
    rw [eA25]
    obtain ⟨J25, le25, hk25, s⟩ := freeze_row39 (H := [((φ1 0), .cells #[.slice none 0 0] 26)]) (F := F7) s hr25
    replace h0 := FSl.mono le25 h0
    replace hN := Tx.NmT.mono le25 hN
    replace hT := Tx.U8.mono le25 hT
    replace h4_0 := FSl.mono le25 h4_0
    replace hle6 := leMono le25 hle6
    refine region_rule ?_
    refine ops_rule (C := []) [((φ1 0), .cells #[.slice none 0 0] 26)] [] 1 [] 0 (fun φ26 => [(32, .slice a8 (List.length (someF (fewF L))) c8)]) (fun φ26 => [((φ1 0), .cells #[.slice none 0 0] 26)]) (fun φ26 => []) s trivial (fun φ26 => by kernel_rfl) ?_
    intro φ26 w26 s
    refine call_rule (some 33) s (makeS_c hk25 hN hT) (by kernel_rfl) ?_
    intro v27 I27 w27 le27 h27 s
    replace h0 := FSl.mono le27 h0
    replace hN := Tx.NmT.mono le27 hN
    replace hT := Tx.U8.mono le27 hT
    replace h4_0 := FSl.mono le27 h4_0
    replace hle6 := leMono le27 hle6
    replace hk25 := FSl.mono le27 hk25
    obtain ⟨a27, c27, rfl, h27_0⟩ := h27
    refine ops_rule (C := []) [((φ1 0), .cells #[.slice none 0 0] 26)] [] 6 [.o 1] 1 (fun φ28 => [(8, .int .i64 0), (7, .pointer (some ⟨(φ28 0), 0, none⟩)), (35, .int .i64 0), (34, .agg #[.slice a27 (List.length (madeF L)) c27]), (31, .tuple #[.agg #[.slice a27 (List.length (madeF L)) c27], .int .i64 0])]) (fun φ28 => [((φ1 0), .cells #[.slice none 0 0] 26), ((φ28 0), .cells #[.slice a27 (List.length (madeF L)) c27] 26)]) (fun φ28 => [(φ28 0)]) s trivial (fun φ28 => by kernel_rfl) ?_
    intro φ28 w28 s
    refine ops_done (by kernel_rfl) ?_
    refine wp_seq ?_
    refine region_rule ?_
    refine ops_rule (C := []) [((φ1 0), .cells #[.slice none 0 0] 26), ((φ28 0), .cells #[.slice a27 (List.length (madeF L)) c27] 26)] [] 1 [] 0 (fun φ29 => [(37, .slice a8 (List.length (someF (fewF L))) c8)]) (fun φ29 => [((φ1 0), .cells #[.slice none 0 0] 26), ((φ28 0), .cells #[.slice a27 (List.length (madeF L)) c27] 26)]) (fun φ29 => []) s trivial (fun φ29 => by kernel_rfl) ?_
    intro φ29 w29 s
    refine call_rule (some 38) s (own9_c hk25 (Nat.le_trans some_len (by decide))) (by kernel_rfl) ?_
    intro v30 I30 w30 le30 h30 s
    replace h0 := FSl.mono le30 h0
    replace hN := Tx.NmT.mono le30 hN
    replace hT := Tx.U8.mono le30 hT
    replace h4_0 := FSl.mono le30 h4_0
    replace hle6 := leMono le30 hle6
    replace hk25 := FSl.mono le30 hk25
    replace h27_0 := FSl.mono le30 h27_0
    obtain ⟨a30, c30, rfl, h30_0⟩ := h30
    refine call_rule (some 39) s (refMakeS_c h30_0) (by kernel_rfl) ?_
    intro v31 I31 w31 le31 h31 s
    replace h0 := FSl.mono le31 h0
    replace hN := Tx.NmT.mono le31 hN
    replace hT := Tx.U8.mono le31 hT
    replace h4_0 := FSl.mono le31 h4_0
    replace hle6 := leMono le31 hle6
    replace hk25 := FSl.mono le31 hk25
    replace h27_0 := FSl.mono le31 h27_0
    replace h30_0 := FSl.mono le31 h30_0
    obtain ⟨a31, c31, rfl, h31_0⟩ := h31
    refine ops_rule (C := []) [((φ1 0), .cells #[.slice none 0 0] 26), ((φ28 0), .cells #[.slice a27 (List.length (madeF L)) c27] 26)] [] 5 [] 0 (fun φ32 => [(10, .int .i64 0), (9, .slice a31 (List.length (madeF L)) c31), (41, .int .i64 0), (40, .slice a31 (List.length (madeF L)) c31), (36, .tuple #[.slice a31 (List.length (madeF L)) c31, .int .i64 0])]) (fun φ32 => [((φ1 0), .cells #[.slice none 0 0] 26), ((φ28 0), .cells #[.slice a27 (List.length (madeF L)) c27] 26)]) (fun φ32 => []) s trivial (fun φ32 => by kernel_rfl) ?_
    intro φ32 w32 s
    refine ops_done (by kernel_rfl) ?_
    refine wp_seq ?_
    refine region_rule ?_
    refine ops_rule (C := []) [((φ1 0), .cells #[.slice none 0 0] 26), ((φ28 0), .cells #[.slice a27 (List.length (madeF L)) c27] 26)] [] 4 [.o 1, .o 0] 0 (fun φ33 => [(3, .slice a31 (List.length (madeF L)) c31), (43, .slice a31 (List.length (madeF L)) c31), (42, .agg #[.slice a27 (List.length (madeF L)) c27])]) (fun φ33 => [((φ1 0), .cells #[.slice a27 (List.length (madeF L)) c27] 26), ((φ28 0), .cells #[.slice a27 (List.length (madeF L)) c27] 26)]) (fun φ33 => [(φ28 0), (φ1 0)]) s trivial (fun φ33 => by kernel_rfl) ?_
    intro φ33 w33 s
    refine ops_done (by kernel_rfl) ?_
    refine wp_ret ?_
    refine ret_rule (C := []) [((φ1 0), .cells #[.slice a27 (List.length (madeF L)) c27] 26), ((φ28 0), .cells #[.slice a27 (List.length (madeF L)) c27] 26)] [] (.tuple #[.agg #[.slice a27 (List.length (madeF L)) c27], .slice a31 (List.length (madeF L)) c31]) [.o 0] [(φ1 0)] s trivial (by kernel_rfl) ?_
    exact ⟨_, _, _, rfl, s, ⟨_, _, _, _, rfl, h27_0, h31_0⟩⟩

set_option maxHeartbeats 2000000 in
theorem equalG_c {I : IM} {L M : List Fe} {a0 a1 : Option Addr} {c0 c1 : Nat} (h0 : FSl I L (.slice a0 L.length c0)) (h1 : FSl I M (.slice a1 M.length c1)) (hl : L.length ≤ 1000) : Fun Tryd.prog 21 #[.slice a0 L.length c0, .slice a1 M.length c1] I (fun v J => v = .bool (decide (L = M))) := by
  refine enter_rule 26 [(0, .slice a0 L.length c0), (1, .slice a1 M.length c1)] Tryd.func21 rfl (by kernel_rfl) ?_
  intro w s
  refine wp_seq ?_
  refine region_rule ?_
  refine ops_rule (C := []) [] [] 1 [] 0 (fun φ1 => [(4, .bool false)]) (fun φ1 => []) (fun φ1 => []) s trivial (fun φ1 => by kernel_rfl) ?_
  intro φ1 w1 s
  refine ops_done (by kernel_rfl) ?_
  refine wp_seq ?_
  refine wp_seq ?_
  refine region_rule ?_
  refine ops_rule (C := []) [] [] 5 [] 0 (fun φ2 => [(10, .bool (((L.length : Nat) : Int) != ((M.length : Nat) : Int))), (9, .int .i64 ((M.length : Nat) : Int)), (8, .slice a1 M.length c1), (7, .int .i64 ((L.length : Nat) : Int)), (6, .slice a0 L.length c0)]) (fun φ2 => []) (fun φ2 => []) s trivial (fun φ2 => by kernel_rfl) ?_
  intro φ2 w2 s
  rw [nat_neq (a := L.length) (b := M.length)]
  refine ops_done (by kernel_rfl) ?_
  rcases Bool.eq_false_or_eq_true (decide (L.length ≠ M.length)) with hc3 | hc3
  ·
    rw [hc3]
    refine cond_true_rule (b := true) (by kernel_rfl) rfl ?_
    refine wp_seq ?_
    refine region_rule ?_
    refine ops_rule (C := []) [] [] 1 [] 0 (fun φ4 => [(4, .bool false)]) (fun φ4 => []) (fun φ4 => []) s trivial (fun φ4 => by kernel_rfl) ?_
    intro φ4 w4 s
    refine ops_done (by kernel_rfl) ?_
    refine wp_ret ?_
    refine ret_rule (C := []) [] [] (.bool false) [] [] s trivial (by kernel_rfl) ?_
    exact ⟨_, _, _, rfl, s, (congrArg Value.bool (decide_eq_false (fun q => (of_decide_eq_true hc3) (by rw [q]))).symm)⟩
  ·
    rw [hc3]
    refine cond_false_rule (b := false) (by kernel_rfl) rfl ?_
    refine wp_skip ?_
    refine wp_seq ?_
    refine wp_seq ?_
    refine region_rule ?_
    refine ops_rule (C := []) [] [] 3 [] 0 (fun φ5 => [(13, .int .i64 0), (12, .int .i64 ((L.length : Nat) : Int)), (11, .slice a0 L.length c0)]) (fun φ5 => []) (fun φ5 => []) s trivial (fun φ5 => by kernel_rfl) ?_
    intro φ5 w5 s
    refine ops_done (by kernel_rfl) ?_
    refine wp_block ?_
    have hlm : L.length = M.length := Decidable.not_not.1 (of_decide_eq_false hc3)
    have hle6 := IM.Le.refl I
    refine loop_rule (fun (x : Nat) => [(0, .slice a0 L.length c0), (1, .slice a1 M.length c1), (4, .bool false), (11, .slice a0 L.length c0), (12, .int .i64 ((L.length : Nat) : Int)), (13, .int .i64 ((x : Nat) : Int))]) (fun (x : Nat) => []) (fun m (x : Nat) J => IM.Le I J ∧ x + m = L.length ∧ (∀ j, j < x → L.getD j Fe.z = M.getD j Fe.z)) (L.length) 0 s (by kernel_rfl) List.Sublist.slnil ⟨IM.Le.refl _, Nat.zero_add _, fun j h => by omega⟩ ?_
    rintro m7 i7 I7 w7 ev7 s ⟨le7, hi7_0, hi7_1⟩
    try dsimp only at s hi7_0 hi7_1 ⊢
    replace h0 := FSl.mono le7 h0
    replace h1 := FSl.mono le7 h1
    replace hle6 := leMono le7 hle6
    refine wp_seq ?_
    refine region_rule ?_
    refine ops_rule (C := []) [] [] 1 [] 0 (fun φ8 => [(14, .bool (decide (((i7 : Nat) : Int) < ((L.length : Nat) : Int))))]) (fun φ8 => []) (fun φ8 => []) s trivial (fun φ8 => by kernel_rfl) ?_
    intro φ8 w8 s
    rw [nat_lss (a := i7) (b := L.length)]
    refine ops_done (by kernel_rfl) ?_
    refine wp_seq ?_
    rcases Bool.eq_false_or_eq_true (decide (i7 < L.length)) with hc9 | hc9
    ·
      rw [hc9]
      refine cond_true_rule (b := true) (by kernel_rfl) rfl ?_
      refine wp_skip ?_
      refine wp_seq ?_
      refine wp_block ?_
      refine wp_seq ?_
      refine region_rule ?_
      refine ops_rule (C := []) [] [] 2 [] 0 (fun φ10 => [(5, .int .i64 ((i7 : Nat) : Int)), (15, .int .i64 ((i7 : Nat) : Int))]) (fun φ10 => []) (fun φ10 => []) s trivial (fun φ10 => by kernel_rfl) ?_
      intro φ10 w10 s
      refine ops_done (by kernel_rfl) ?_
      refine wp_seq ?_
      refine draw_rule (C := []) ⟨(fun φ11 xs11 => [.look 0 [] [], .look 0 [] [], .ran (Instr.indexAt 22 (.slice a0 L.length c0) (.int .i64 ((i7 : Nat) : Int))), .ran (Instr.loadAt 39 (.pointer (pAt a0 (i7 * 3)))), .look 0 [] [], .look 0 [] [], .ran (Instr.indexAt 22 (.slice a1 M.length c1) (.int .i64 ((i7 : Nat) : Int))), .ran (Instr.loadAt 39 (.pointer (pAt a1 (i7 * 3)))), .ran (do eqGuard .neq 39 (.tmp 19) (.tmp 23) (.agg #[.int .i64 ((List.getD L i7 Fe.z).k), .string ⟨((List.getD L i7 Fe.z).a).toArray⟩, .string ⟨((List.getD L i7 Fe.z).v).toArray⟩]) (.agg #[.int .i64 ((List.getD M i7 Fe.z).k), .string ⟨((List.getD M i7 Fe.z).a).toArray⟩, .string ⟨((List.getD M i7 Fe.z).v).toArray⟩]); binOp .neq 39 (.agg #[.int .i64 ((List.getD L i7 Fe.z).k), .string ⟨((List.getD L i7 Fe.z).a).toArray⟩, .string ⟨((List.getD L i7 Fe.z).v).toArray⟩]) (.agg #[.int .i64 ((List.getD M i7 Fe.z).k), .string ⟨((List.getD M i7 Fe.z).a).toArray⟩, .string ⟨((List.getD M i7 Fe.z).v).toArray⟩]))]), (fun φ11 xs11 => [.slice a0 L.length c0, .int .i64 ((i7 : Nat) : Int), .pointer (pAt a0 (i7 * 3)), .agg #[.int .i64 ((List.getD L i7 Fe.z).k), .string ⟨((List.getD L i7 Fe.z).a).toArray⟩, .string ⟨((List.getD L i7 Fe.z).v).toArray⟩], .slice a1 M.length c1, .int .i64 ((i7 : Nat) : Int), .pointer (pAt a1 (i7 * 3)), .agg #[.int .i64 ((List.getD M i7 Fe.z).k), .string ⟨((List.getD M i7 Fe.z).a).toArray⟩, .string ⟨((List.getD M i7 Fe.z).v).toArray⟩], .bool (!(decide ((List.getD L i7 Fe.z) = (List.getD M i7 Fe.z))))]), (fun φ11 xs11 => [[]]), (fun φ11 xs11 => [[default, default, default, default, default, default, default, default, default]]), [], [1, 1, 6, 6, 1, 1, 6, 6, 6]⟩ (fun j => ([MP.any, MP.any, MP.any, MP.any, MP.any, MP.any, MP.any, MP.any, MP.any] : List MP).getD j MP.any) [] [] [2, 3, 6, 7, 8] (fun φ11 xs11 => []) (fun φ11 xs11 => [(16, .slice a0 L.length c0), (17, .int .i64 ((i7 : Nat) : Int)), (18, .pointer (pAt a0 (i7 * 3))), (19, .agg #[.int .i64 ((List.getD L i7 Fe.z).k), .string ⟨((List.getD L i7 Fe.z).a).toArray⟩, .string ⟨((List.getD L i7 Fe.z).v).toArray⟩]), (20, .slice a1 M.length c1), (21, .int .i64 ((i7 : Nat) : Int)), (22, .pointer (pAt a1 (i7 * 3))), (23, .agg #[.int .i64 ((List.getD M i7 Fe.z).k), .string ⟨((List.getD M i7 Fe.z).a).toArray⟩, .string ⟨((List.getD M i7 Fe.z).v).toArray⟩]), (24, .bool (!(decide ((List.getD L i7 Fe.z) = (List.getD M i7 Fe.z)))))]) (fun φ11 xs11 => []) s trivial (by kernel_rfl) (by kernel_rfl) (fun _ _ => by kernel_rfl) (fun _ _ => by kernel_rfl) ⟨fun _ _ => by kernel_rfl, fun _ _ => by kernel_rfl, fun _ _ => by kernel_rfl, fun _ _ => by kernel_rfl⟩ (fun _ _ _ => by kernel_rfl) (fun _ _ => by kernel_rfl) (fun _ _ => by kernel_rfl) (fun _ _ => by kernel_rfl) (fun _ _ => by kernel_rfl) (fun _ _ => by kernel_rfl) trivial ⟨kcast (A := ∀ (φ11 : Nat → Nat) (xs11 : Xs) (J : IM) (w : World), I7.Le J → J.Sub w → ((Instr.indexAt 22 (.slice a0 L.length c0) (.int .i64 ((i7 : Nat) : Int))) : Sem Value).run Tryd.prog w = .ok (.pointer (pAt a0 (i7 * 3))) w) (by kernel_rfl) (fun φ11 xs11 J w hJ hS => fsl_idx22 (FSl.mono hJ h0) (by have e8 := hi7_0; have e7 := hlm; have hq0 := of_decide_eq_false hc3; have hq1 := of_decide_eq_true hc9; omega)), ⟨kcast (A := ∀ (φ11 : Nat → Nat) (xs11 : Xs) (J : IM) (w : World), I7.Le J → J.Sub w → ((Instr.loadAt 39 (.pointer (pAt a0 (i7 * 3)))) : Sem Value).run Tryd.prog w = .ok (.agg #[.int .i64 ((List.getD L i7 Fe.z).k), .string ⟨((List.getD L i7 Fe.z).a).toArray⟩, .string ⟨((List.getD L i7 Fe.z).v).toArray⟩]) w) (by kernel_rfl) (fun φ11 xs11 J w hJ hS => fsl_ld39 hS (FSl.mono hJ h0) (by have e8 := hi7_0; have e7 := hlm; have hq0 := of_decide_eq_false hc3; have hq1 := of_decide_eq_true hc9; omega)), ⟨kcast (A := ∀ (φ11 : Nat → Nat) (xs11 : Xs) (J : IM) (w : World), I7.Le J → J.Sub w → ((Instr.indexAt 22 (.slice a1 M.length c1) (.int .i64 ((i7 : Nat) : Int))) : Sem Value).run Tryd.prog w = .ok (.pointer (pAt a1 (i7 * 3))) w) (by kernel_rfl) (fun φ11 xs11 J w hJ hS => fsl_idx22 (FSl.mono hJ h1) (by have e8 := hi7_0; have e7 := hlm; have hq0 := of_decide_eq_false hc3; have hq1 := of_decide_eq_true hc9; omega)), ⟨kcast (A := ∀ (φ11 : Nat → Nat) (xs11 : Xs) (J : IM) (w : World), I7.Le J → J.Sub w → ((Instr.loadAt 39 (.pointer (pAt a1 (i7 * 3)))) : Sem Value).run Tryd.prog w = .ok (.agg #[.int .i64 ((List.getD M i7 Fe.z).k), .string ⟨((List.getD M i7 Fe.z).a).toArray⟩, .string ⟨((List.getD M i7 Fe.z).v).toArray⟩]) w) (by kernel_rfl) (fun φ11 xs11 J w hJ hS => fsl_ld39 hS (FSl.mono hJ h1) (by have e8 := hi7_0; have e7 := hlm; have hq0 := of_decide_eq_false hc3; have hq1 := of_decide_eq_true hc9; omega)), ⟨kcast (A := ∀ (φ11 : Nat → Nat) (xs11 : Xs) (J : IM) (w : World), I7.Le J → J.Sub w → ((do eqGuard .neq 39 (.tmp 19) (.tmp 23) (.agg #[.int .i64 ((List.getD L i7 Fe.z).k), .string ⟨((List.getD L i7 Fe.z).a).toArray⟩, .string ⟨((List.getD L i7 Fe.z).v).toArray⟩]) (.agg #[.int .i64 ((List.getD M i7 Fe.z).k), .string ⟨((List.getD M i7 Fe.z).a).toArray⟩, .string ⟨((List.getD M i7 Fe.z).v).toArray⟩]); binOp .neq 39 (.agg #[.int .i64 ((List.getD L i7 Fe.z).k), .string ⟨((List.getD L i7 Fe.z).a).toArray⟩, .string ⟨((List.getD L i7 Fe.z).v).toArray⟩]) (.agg #[.int .i64 ((List.getD M i7 Fe.z).k), .string ⟨((List.getD M i7 Fe.z).a).toArray⟩, .string ⟨((List.getD M i7 Fe.z).v).toArray⟩])) : Sem Value).run Tryd.prog w = .ok (.bool (!(decide ((List.getD L i7 Fe.z) = (List.getD M i7 Fe.z))))) w) (by kernel_rfl) (fun φ11 xs11 J w hJ hS => run_neqG39 (X := (List.getD L i7 Fe.z)) (Y := (List.getD M i7 Fe.z))), trivial⟩⟩⟩⟩⟩ (by kernel_rfl) trivial ?k11
      case k11 =>
        rintro φ11 xs11 I11 w11 le11 s 
        replace h0 := FSl.mono le11 h0
        replace h1 := FSl.mono le11 h1
        replace hle6 := leMono le11 hle6
        rcases Bool.eq_false_or_eq_true (decide ((List.getD L i7 Fe.z) = (List.getD M i7 Fe.z))) with hc12 | hc12
        ·
          rw [hc12]
          refine cond_false_rule (b := false) (by kernel_rfl) rfl ?_
          refine wp_skip ?_
          refine region_rule ?_
          refine ops_rule (C := []) [] [] 2 [] 0 (fun φ13 => [(13, .int .i64 (IntKind.wrap .i64 (((i7 : Nat) : Int) + ((1 : Nat) : Int)))), (25, .int .i64 (IntKind.wrap .i64 (((i7 : Nat) : Int) + ((1 : Nat) : Int))))]) (fun φ13 => []) (fun φ13 => []) s trivial (fun φ13 => by kernel_rfl) ?_
          intro φ13 w13 s
          rw [nat_addI (a := i7) (b := 1) (by have e8 := hi7_0; have e7 := hlm; have hq0 := of_decide_eq_false hc3; have hq1 := of_decide_eq_true hc9; have hq2 := of_decide_eq_true hc12; omega)]
          refine ops_done (by kernel_rfl) ?_
          exact ⟨⟨m7 - 1, i7 + 1, _, _, _, by have hq0 := of_decide_eq_false hc3; have hq1 := of_decide_eq_true hc9; have hq2 := of_decide_eq_true hc12; have := hi7_0; omega, rfl, s, List.Sublist.slnil, by kernel_rfl, hle6, by have hq0 := of_decide_eq_false hc3; have hq1 := of_decide_eq_true hc9; have hq2 := of_decide_eq_true hc12; have := hi7_0; show i7 + 1 + (m7 - 1) = L.length; omega, eq_next hi7_1 (of_decide_eq_true hc12)⟩⟩
        ·
          rw [hc12]
          refine cond_true_rule (b := true) (by kernel_rfl) rfl ?_
          refine wp_seq ?_
          refine region_rule ?_
          refine ops_rule (C := []) [] [] 1 [] 0 (fun φ14 => [(4, .bool false)]) (fun φ14 => []) (fun φ14 => []) s trivial (fun φ14 => by kernel_rfl) ?_
          intro φ14 w14 s
          refine ops_done (by kernel_rfl) ?_
          refine wp_ret ?_
          refine ret_rule (C := []) [] [] (.bool false) [] [] s trivial (by kernel_rfl) ?_
          exact ⟨_, _, _, rfl, s, (congrArg Value.bool (decide_eq_false (fun q => (of_decide_eq_false hc12) (by rw [q]))).symm)⟩
    ·
      rw [hc9]
      refine cond_false_rule (b := false) (by kernel_rfl) rfl ?_
      refine wp_exit ?_
      refine wp_seq ?_
      refine region_rule ?_
      refine ops_rule (C := []) [] [] 1 [] 0 (fun φ15 => [(4, .bool true)]) (fun φ15 => []) (fun φ15 => []) s trivial (fun φ15 => by kernel_rfl) ?_
      intro φ15 w15 s
      refine ops_done (by kernel_rfl) ?_
      refine wp_ret ?_
      refine ret_rule (C := []) [] [] (.bool true) [] [] s trivial (by kernel_rfl) ?_
      exact ⟨_, _, _, rfl, s, (congrArg Value.bool (decide_eq_true (eq_lists hlm (by have ei : i7 = L.length := (by have hq0 := of_decide_eq_false hc3; have hq1 := of_decide_eq_false hc9; have := hi7_0; omega); have h9 := hi7_1; rw [ei] at h9; exact h9))).symm)⟩

end Go.Proofs.YtcpmjogeafhpnaaDoor
/- Fields left out; of a kind. -/
set_option linter.all false
set_option maxRecDepth 100000
namespace Go.Proofs.YtcpmjogeafhpnaaDoor
open Go.RowKit Go.Sep
attribute [local irreducible] Go.wpList Go.Code.wp

/-- v is a slice of these ints, never written -/
def ISl (I : IM) (K : List Int) (v : Value) : Prop := ∃ a cap, v = .slice a K.length cap ∧ K.length ≤ cap ∧ ∀ (j : Nat) (x : Int), K[j]? = some x → ∃ (b o : Nat) (cs : Array Value) (T : TypeId) (fr : Nat × Nat), a = some ⟨b, o, none⟩ ∧ I b = some (.cells cs T fr) ∧ cs[o + j]? = some (.int .i64 x)
theorem ISl.mono {I J : IM} (le : I.Le J) {L : List Int} {v : Value} (h : ISl I L v) : ISl J L v := by
  obtain ⟨a, cap, hv, hc, hr⟩ := h
  refine ⟨a, cap, hv, hc, fun j x hj => ?_⟩
  obtain ⟨b, o, cs, T, fr, h1, h2, h3⟩ := hr j x hj
  exact ⟨b, o, cs, T, fr, h1, le _ _ h2, h3⟩
theorem ISl.open {I : IM} {L : List Int} {v : Value} (h : ISl I L v) : ∃ a c, v = .slice a L.length c ∧ L.length ≤ c ∧ ISl I L (.slice a L.length c) := by
  obtain ⟨a, c, rfl, hc, hr⟩ := h
  exact ⟨a, c, rfl, hc, a, c, rfl, hc, hr⟩
theorem ISl.cap {I : IM} {L : List Int} {a : Option Addr} {n c : Nat} (h : ISl I L (.slice a n c)) : n = L.length ∧ L.length ≤ c := by
  obtain ⟨a', c', hv, hc, _⟩ := h
  cases hv; exact ⟨rfl, hc⟩
end Go.Proofs.YtcpmjogeafhpnaaDoor
/- What differs makes the one card the other. -/
set_option linter.all false
set_option maxRecDepth 100000
namespace Go.Proofs.YtcpmjogeafhpnaaDoor
open Go.RowKit Go.Sep
attribute [local irreducible] Go.wpList Go.Code.wp

set_option maxHeartbeats 1000000 in
theorem sameCd_c {I : IM} {L M : List Fe} {a0 a1 : Option Addr} {c0 c1 : Nat} (h0 : FSl I L (.slice a0 L.length c0)) (h1 : FSl I M (.slice a1 M.length c1)) (hl : L.length ≤ 1000) : Fun Tryd.prog 28 #[.agg #[.slice a0 L.length c0], .agg #[.slice a1 M.length c1]] I (fun v J => v = .bool (decide (L = M))) := by
  refine enter_rule 10 [(0, .agg #[.slice a0 L.length c0]), (1, .agg #[.slice a1 M.length c1])] Tryd.func28 rfl (by kernel_rfl) ?_
  intro w s
  refine wp_seq ?_
  refine region_rule ?_
  refine ops_rule (C := []) [] [] 3 [] 2 (fun φ1 => [(4, .bool false), (3, .pointer (some ⟨(φ1 1), 0, none⟩)), (2, .pointer (some ⟨(φ1 0), 0, none⟩))]) (fun φ1 => [((φ1 0), .cells #[.slice a0 L.length c0] 26), ((φ1 1), .cells #[.slice a1 M.length c1] 26)]) (fun φ1 => []) s trivial (fun φ1 => by kernel_rfl) ?_
  intro φ1 w1 s
  refine ops_done (by kernel_rfl) ?_
  refine wp_seq ?_
  refine region_rule ?_
  refine ops_rule (C := []) [((φ1 0), .cells #[.slice a0 L.length c0] 26), ((φ1 1), .cells #[.slice a1 M.length c1] 26)] [] 4 [.o 0, .o 1] 0 (fun φ2 => [(8, .slice a1 M.length c1), (7, .pointer (some ⟨(φ1 1), 0, none⟩)), (6, .slice a0 L.length c0), (5, .pointer (some ⟨(φ1 0), 0, none⟩))]) (fun φ2 => [((φ1 0), .cells #[.slice a0 L.length c0] 26), ((φ1 1), .cells #[.slice a1 M.length c1] 26)]) (fun φ2 => [(φ1 0), (φ1 1)]) s trivial (fun φ2 => by kernel_rfl) ?_
  intro φ2 w2 s
  refine call_rule (some 9) s (equalG_c h0 h1 hl) (by kernel_rfl) ?_
  intro v3 I3 w3 le3 h3 s
  replace h0 := FSl.mono le3 h0
  replace h1 := FSl.mono le3 h1
  obtain rfl := h3
  refine ops_rule (C := []) [((φ1 0), .cells #[.slice a0 L.length c0] 26), ((φ1 1), .cells #[.slice a1 M.length c1] 26)] [] 1 [] 0 (fun φ4 => [(4, .bool (decide (L = M)))]) (fun φ4 => [((φ1 0), .cells #[.slice a0 L.length c0] 26), ((φ1 1), .cells #[.slice a1 M.length c1] 26)]) (fun φ4 => []) s trivial (fun φ4 => by kernel_rfl) ?_
  intro φ4 w4 s
  refine ops_done (by kernel_rfl) ?_
  refine wp_ret ?_
  refine ret_rule (C := []) [((φ1 0), .cells #[.slice a0 L.length c0] 26), ((φ1 1), .cells #[.slice a1 M.length c1] 26)] [] (.bool (decide (L = M))) [] [] s trivial (by kernel_rfl) ?_
  exact ⟨_, _, _, rfl, s, rfl⟩

theorem sameS_c {I : IM} {L : List Fe} {a0 a1 : Option Addr} {c0 c1 : Nat} (h0 : FSl I L (.slice a0 L.length c0)) (h1 : FSl I L (.slice a1 L.length c1)) (hl : L.length ≤ 1000) : Fun Tryd.prog 28 #[.agg #[.slice a0 L.length c0], .agg #[.slice a1 L.length c1]] I (fun v J => v = .bool true) :=
  (sameCd_c h0 h1 hl).mono fun v J _ q => q.trans (congrArg Value.bool (decide_eq_true rfl))
end Go.Proofs.YtcpmjogeafhpnaaDoor
