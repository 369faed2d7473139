/- Fields are written. -/
import Derived.Test.YtcpmjogeafhpnaaDoorPpM19
set_option linter.all false
set_option maxRecDepth 100000
namespace Go.Proofs.YtcpmjogeafhpnaaDoor
open Go.RowKit Go.Sep
attribute [local irreducible] Go.wpList Go.Code.wp

/-- the bytes of a field, of fields, of a patch -/
def encFe (x : Fe) : List UInt8 := [UInt8.ofNat x.k.toNat] ++ (encF 9 x.a.length ++ x.a) ++ (encF 9 x.v.length ++ x.v)
def encL (L : List Fe) : List UInt8 := encF 9 L.length ++ L.flatMap encFe
def encP (A D : List Fe) (K : List Nat) : List UInt8 := encL A ++ encL D ++ (encF 9 K.length ++ K.map UInt8.ofNat)
def okFe (x : Fe) : Prop := 0 ≤ x.k ∧ x.k ≤ 255 ∧ x.a.length ≤ 255 ∧ x.v.length ≤ 255
def okL (L : List Fe) : Prop := ∀ i, i < L.length → okFe (L.getD i Fe.z)
theorem encFe_len {x : Fe} (h : okFe x) : (encFe x).length ≤ 531 := by
  have h1 := (encF_len 9 x.a.length).2
  have h2 := (encF_len 9 x.v.length).2
  obtain ⟨-, -, h3, h4⟩ := h
  simp only [encFe, List.length_append, List.length_cons, List.length_nil]; omega
theorem encs_len {L : List Fe} (h : okL L) : ∀ i, i ≤ L.length → ((L.take i).flatMap encFe).length ≤ i * 531
  | 0, _ => by simp
  | i + 1, hi => by
    have ih := encs_len h i (by omega)
    have hx := encFe_len (h i (by omega))
    rw [fe_take (by omega), List.flatMap_append, List.length_append]
    simp only [List.flatMap_cons, List.flatMap_nil, List.append_nil]
    omega
theorem encL_len {L : List Fe} (h : okL L) (hl : L.length ≤ 255) : (encL L).length ≤ 140000 := by
  have h1 := encs_len h L.length (Nat.le_refl _)
  rw [List.take_length] at h1
  have h2 := (encF_len 9 L.length).2
  rw [encL, List.length_append]; omega
theorem run_conv35 {w : World} {z : Int} (h0 : 0 ≤ z) (h : z ≤ 255) : (convert 3 5 (.int .i64 z)).run Tryd.prog w = .ok (.int .u8 ((z.toNat : Nat) : Int)) w := by
  have e : (convert 3 5 (.int .i64 z)).run Tryd.prog w = .ok (.int .u8 (IntKind.wrap .u8 z)) w := by kernel_rfl
  rw [e]
  have e2 : IntKind.wrap .u8 z = ((z.toNat : Nat) : Int) := by simp only [IntKind.wrap, IntKind.signed, IntKind.bits]; simp; omega
  rw [e2]
theorem wtext_c {I : IM} {ss : List UInt8} (hss : ss.length ≤ 1000) : Fun Tryd.prog 111 #[.slice none 0 0, .string ⟨ss.toArray⟩] I (fun v J => bsR (encF 9 ss.length ++ ss) v J) := by
  have h := fun_of_rowB (textB_r (l := []) (bsl_nil I) (Nat.zero_le _) hss)
  simpa only [List.nil_append] using h
theorem row_eqB {v : Value} {l l2 : List UInt8} {F : List OB} (h : RowH 5 1 v l.length (l.map bV) F) (e : l = l2) : RowH 5 1 v l2.length (l2.map bV) F := by rw [← e]; exact h
theorem put_next {l : List UInt8} {L : List Fe} {i : Nat} (h : i < L.length) : l ++ encF 9 L.length ++ (L.take i).flatMap encFe ++ [UInt8.ofNat (L.getD i Fe.z).k.toNat] ++ (encF 9 (L.getD i Fe.z).a.length ++ (L.getD i Fe.z).a) ++ (encF 9 (L.getD i Fe.z).v.length ++ (L.getD i Fe.z).v) = l ++ encF 9 L.length ++ (L.take (i + 1)).flatMap encFe := by
  rw [fe_take h, List.flatMap_append]
  simp only [List.flatMap_cons, List.flatMap_nil, List.append_nil, encFe, List.append_assoc]
theorem put_end {l : List UInt8} {L : List Fe} : l ++ encF 9 L.length ++ (L.take L.length).flatMap encFe = l ++ encL L := by
  rw [List.take_length, encL, List.append_assoc]
theorem putk_next {l : List UInt8} {K : List Nat} {i : Nat} (h : i < K.length) : l ++ encF 9 K.length ++ (K.take i).map UInt8.ofNat ++ [UInt8.ofNat (K.getD i 0)] = l ++ encF 9 K.length ++ (K.take (i + 1)).map UInt8.ofNat := by
  rw [k_take h, List.map_append, List.append_assoc (l ++ encF 9 K.length)]; rfl

set_option maxHeartbeats 400000 in
theorem longText_c {I : IM} {z : Int} {A B : List UInt8} (h1 : A.length ≤ 255) (h2 : B.length ≤ 255) : Fun Tryd.prog 108 #[.agg #[.int .i64 z, .string ⟨A.toArray⟩, .string ⟨B.toArray⟩]] I (fun v J => v = .bool false) := by
  refine enter_rule 13 [(0, .agg #[.int .i64 z, .string ⟨(A).toArray⟩, .string ⟨(B).toArray⟩])] Tryd.func108 rfl (by kernel_rfl) ?_
  intro w s
  refine wp_seq ?_
  refine region_rule ?_
  refine ops_rule (C := []) [] [] 2 [] 1 (fun φ1 => [(2, .bool false), (1, .pointer (some ⟨(φ1 0), 0, none⟩))]) (fun φ1 => [((φ1 0), .cells #[.int .i64 z, .string ⟨(A).toArray⟩, .string ⟨(B).toArray⟩] 39)]) (fun φ1 => []) s trivial (fun φ1 => by kernel_rfl) ?_
  intro φ1 w1 s
  refine ops_done (by kernel_rfl) ?_
  refine wp_seq ?_
  refine region_rule ?_
  refine ops_rule (C := []) [((φ1 0), .cells #[.int .i64 z, .string ⟨(A).toArray⟩, .string ⟨(B).toArray⟩] 39)] [] 5 [.o 0] 0 (fun φ2 => [(7, .bool (decide (((A.length : Nat) : Int) > ((255 : Nat) : Int)))), (6, .bool (decide (((A.length : Nat) : Int) > ((255 : Nat) : Int)))), (5, .int .i64 ((A.length : Nat) : Int)), (4, .string ⟨(A).toArray⟩), (3, .pointer (some ⟨(φ1 0), 1, none⟩))]) (fun φ2 => [((φ1 0), .cells #[.int .i64 z, .string ⟨(A).toArray⟩, .string ⟨(B).toArray⟩] 39)]) (fun φ2 => [(φ1 0)]) s trivial (fun φ2 => by kernel_rfl) ?_
  intro φ2 w2 s
  rw [nat_gtr (a := A.length) (b := 255)]
  rcases Bool.eq_false_or_eq_true (decide (255 < A.length)) with hc3 | hc3
  ·
    exact absurd (of_decide_eq_true hc3) (by omega)
  ·
    rw [hc3]
    refine ops_rule (C := []) [((φ1 0), .cells #[.int .i64 z, .string ⟨(A).toArray⟩, .string ⟨(B).toArray⟩] 39)] [] 6 [.o 0] 0 (fun φ4 => [(2, .bool (decide (((B.length : Nat) : Int) > ((255 : Nat) : Int)))), (12, .bool (decide (((B.length : Nat) : Int) > ((255 : Nat) : Int)))), (11, .bool (decide (((B.length : Nat) : Int) > ((255 : Nat) : Int)))), (10, .int .i64 ((B.length : Nat) : Int)), (9, .string ⟨(B).toArray⟩), (8, .pointer (some ⟨(φ1 0), 2, none⟩))]) (fun φ4 => [((φ1 0), .cells #[.int .i64 z, .string ⟨(A).toArray⟩, .string ⟨(B).toArray⟩] 39)]) (fun φ4 => [(φ1 0)]) s trivial (fun φ4 => by kernel_rfl) ?_
    intro φ4 w4 s
    rw [nat_gtr (a := B.length) (b := 255)]
    refine ops_done (by kernel_rfl) ?_
    refine wp_ret ?_
    refine ret_rule (C := []) [((φ1 0), .cells #[.int .i64 z, .string ⟨(A).toArray⟩, .string ⟨(B).toArray⟩] 39)] [] (.bool (decide (255 < B.length))) [] [] s trivial (by kernel_rfl) ?_
    exact ⟨_, _, _, rfl, s, congrArg Value.bool (decide_eq_false (by omega))⟩

set_option maxHeartbeats 400000 in
theorem strange_c {I : IM} {z : Int} (h1 : 0 ≤ z) (h2 : z ≤ 255) : Fun Tryd.prog 81 #[.int .i64 z] I (fun v J => v = .bool false) := by
  refine enter_rule 9 [(0, .int .i64 z)] Tryd.func81 rfl (by kernel_rfl) ?_
  intro w s
  refine wp_seq ?_
  refine region_rule ?_
  refine ops_rule (C := []) [] [] 1 [] 0 (fun φ1 => [(2, .bool false)]) (fun φ1 => []) (fun φ1 => []) s trivial (fun φ1 => by kernel_rfl) ?_
  intro φ1 w1 s
  refine ops_done (by kernel_rfl) ?_
  refine wp_seq ?_
  refine region_rule ?_
  refine ops_rule (C := []) [] [] 3 [] 0 (fun φ2 => [(5, .bool (decide (z < ((0 : Nat) : Int)))), (4, .bool (decide (z < ((0 : Nat) : Int)))), (3, .int .i64 z)]) (fun φ2 => []) (fun φ2 => []) s trivial (fun φ2 => by kernel_rfl) ?_
  intro φ2 w2 s
  rcases Bool.eq_false_or_eq_true (decide (z < ((0 : Nat) : Int))) with hc3 | hc3
  ·
    exact absurd (of_decide_eq_true hc3) (by omega)
  ·
    rw [hc3]
    refine ops_rule (C := []) [] [] 4 [] 0 (fun φ4 => [(2, .bool (decide (z > ((255 : Nat) : Int)))), (8, .bool (decide (z > ((255 : Nat) : Int)))), (7, .bool (decide (z > ((255 : Nat) : Int)))), (6, .int .i64 z)]) (fun φ4 => []) (fun φ4 => []) s trivial (fun φ4 => by kernel_rfl) ?_
    intro φ4 w4 s
    refine ops_done (by kernel_rfl) ?_
    refine wp_ret ?_
    refine ret_rule (C := []) [] [] (.bool (decide (z > ((255 : Nat) : Int)))) [] [] s trivial (by kernel_rfl) ?_
    exact ⟨_, _, _, rfl, s, congrArg Value.bool (decide_eq_false (by omega))⟩

set_option maxHeartbeats 400000 in
theorem strangeKind_c {I : IM} {z : Int} {A B : List UInt8} (h1 : 0 ≤ z) (h2 : z ≤ 255) : Fun Tryd.prog 79 #[.agg #[.int .i64 z, .string ⟨A.toArray⟩, .string ⟨B.toArray⟩]] I (fun v J => v = .bool false) := by
  refine enter_rule 6 [(0, .agg #[.int .i64 z, .string ⟨(A).toArray⟩, .string ⟨(B).toArray⟩])] Tryd.func79 rfl (by kernel_rfl) ?_
  intro w s
  refine wp_seq ?_
  refine region_rule ?_
  refine ops_rule (C := []) [] [] 2 [] 1 (fun φ1 => [(2, .bool false), (1, .pointer (some ⟨(φ1 0), 0, none⟩))]) (fun φ1 => [((φ1 0), .cells #[.int .i64 z, .string ⟨(A).toArray⟩, .string ⟨(B).toArray⟩] 39)]) (fun φ1 => []) s trivial (fun φ1 => by kernel_rfl) ?_
  intro φ1 w1 s
  refine ops_done (by kernel_rfl) ?_
  refine wp_seq ?_
  refine region_rule ?_
  refine ops_rule (C := []) [((φ1 0), .cells #[.int .i64 z, .string ⟨(A).toArray⟩, .string ⟨(B).toArray⟩] 39)] [] 2 [.o 0] 0 (fun φ2 => [(4, .int .i64 z), (3, .pointer (some ⟨(φ1 0), 0, none⟩))]) (fun φ2 => [((φ1 0), .cells #[.int .i64 z, .string ⟨(A).toArray⟩, .string ⟨(B).toArray⟩] 39)]) (fun φ2 => [(φ1 0)]) s trivial (fun φ2 => by kernel_rfl) ?_
  intro φ2 w2 s
  refine call_rule (some 5) s (strange_c (z := z) (h1) (h2)) (by kernel_rfl) ?_
  intro v3 I3 w3 le3 h3 s
  obtain rfl := h3
  refine ops_rule (C := []) [((φ1 0), .cells #[.int .i64 z, .string ⟨(A).toArray⟩, .string ⟨(B).toArray⟩] 39)] [] 1 [] 0 (fun φ4 => [(2, .bool false)]) (fun φ4 => [((φ1 0), .cells #[.int .i64 z, .string ⟨(A).toArray⟩, .string ⟨(B).toArray⟩] 39)]) (fun φ4 => []) s trivial (fun φ4 => by kernel_rfl) ?_
  intro φ4 w4 s
  refine ops_done (by kernel_rfl) ?_
  refine wp_ret ?_
  refine ret_rule (C := []) [((φ1 0), .cells #[.int .i64 z, .string ⟨(A).toArray⟩, .string ⟨(B).toArray⟩] 39)] [] (.bool false) [] [] s trivial (by kernel_rfl) ?_
  exact ⟨_, _, _, rfl, s, rfl⟩

set_option maxHeartbeats 2000000 in
theorem index108_c {I : IM} {L : List Fe} {a0 : Option Addr} {c0 : Nat} (h0 : FSl I L (.slice a0 L.length c0)) (hl : L.length ≤ 255) (hok : okL L) : Fun Tryd.prog 109 #[.slice a0 L.length c0, .func (.func 108) #[] #[]] I (fun v J => v = .int .i64 (-1)) := by
  refine enter_rule 19 [(0, .slice a0 L.length c0), (1, .func (.func 108) #[] #[])] Tryd.func109 rfl (by kernel_rfl) ?_
  intro w s
  refine wp_seq ?_
  refine region_rule ?_
  refine ops_rule (C := []) [] [] 1 [] 0 (fun φ1 => [(4, .int .i64 0)]) (fun φ1 => []) (fun φ1 => []) s trivial (fun φ1 => by kernel_rfl) ?_
  intro φ1 w1 s
  refine ops_done (by kernel_rfl) ?_
  refine wp_seq ?_
  refine wp_seq ?_
  refine region_rule ?_
  refine ops_rule (C := []) [] [] 3 [] 0 (fun φ2 => [(8, .int .i64 0), (7, .int .i64 ((L.length : Nat) : Int)), (6, .slice a0 L.length c0)]) (fun φ2 => []) (fun φ2 => []) s trivial (fun φ2 => by kernel_rfl) ?_
  intro φ2 w2 s
  refine ops_done (by kernel_rfl) ?_
  refine wp_block ?_
  have hle3 := IM.Le.refl I
  refine loop_rule (fun (x : Nat) => [(0, .slice a0 L.length c0), (1, .func (.func 108) #[] #[]), (4, .int .i64 0), (6, .slice a0 L.length c0), (7, .int .i64 ((L.length : Nat) : Int)), (8, .int .i64 ((x : Nat) : Int))]) (fun (x : Nat) => []) (fun m (x : Nat) J => IM.Le I J ∧ x + m = L.length) (L.length) 0 s (by kernel_rfl) List.Sublist.slnil ⟨IM.Le.refl _, Nat.zero_add _⟩ ?_
  rintro m4 i4 I4 w4 ev4 s ⟨le4, hi4_0⟩
  try dsimp only at s hi4_0 ⊢
  replace h0 := FSl.mono le4 h0
  replace hle3 := leMono le4 hle3
  refine wp_seq ?_
  refine region_rule ?_
  refine ops_rule (C := []) [] [] 1 [] 0 (fun φ5 => [(9, .bool (decide (((i4 : Nat) : Int) < ((L.length : Nat) : Int))))]) (fun φ5 => []) (fun φ5 => []) s trivial (fun φ5 => by kernel_rfl) ?_
  intro φ5 w5 s
  rw [nat_lss (a := i4) (b := L.length)]
  refine ops_done (by kernel_rfl) ?_
  refine wp_seq ?_
  rcases Bool.eq_false_or_eq_true (decide (i4 < L.length)) with hc6 | hc6
  ·
    rw [hc6]
    refine cond_true_rule (b := true) (by kernel_rfl) rfl ?_
    refine wp_skip ?_
    refine wp_seq ?_
    refine wp_block ?_
    refine wp_seq ?_
    refine region_rule ?_
    refine ops_rule (C := []) [] [] 2 [] 0 (fun φ7 => [(5, .int .i64 ((i4 : Nat) : Int)), (10, .int .i64 ((i4 : Nat) : Int))]) (fun φ7 => []) (fun φ7 => []) s trivial (fun φ7 => by kernel_rfl) ?_
    intro φ7 w7 s
    refine ops_done (by kernel_rfl) ?_
    refine wp_seq ?_
    refine region_rule ?_
    refine ops_rule (C := []) [] [] 3 [] 0 (fun φ8 => [(13, .int .i64 ((i4 : Nat) : Int)), (12, .slice a0 L.length c0), (11, .func (.func 108) #[] #[])]) (fun φ8 => []) (fun φ8 => []) s trivial (fun φ8 => by kernel_rfl) ?_
    intro φ8 w8 s
    refine sem_rule (Instr.indexAt 22 (.slice a0 L.length c0) (.int .i64 ((i4 : Nat) : Int))) (some 14) (.pointer (pAt a0 (i4 * 3))) (by kernel_rfl) (fsl_idx22 h0 (by have e8 := hi4_0; have hq0 := of_decide_eq_true hc6; omega)) ?_
    refine sem_rule (Instr.loadAt 39 (.pointer (pAt a0 (i4 * 3)))) (some 15) (.agg #[.int .i64 ((List.getD L i4 Fe.z).k), .string ⟨((List.getD L i4 Fe.z).a).toArray⟩, .string ⟨((List.getD L i4 Fe.z).v).toArray⟩]) (by kernel_rfl) (fsl_ld39 s.sub h0 (by have e8 := hi4_0; have hq0 := of_decide_eq_true hc6; omega)) ?_
    refine call_rule (some 16) s (longText_c (z := (List.getD L i4 Fe.z).k) (hok i4 (by have hq0 := of_decide_eq_true hc6; omega)).2.2.1 (hok i4 (by have hq0 := of_decide_eq_true hc6; omega)).2.2.2) (by kernel_rfl) ?_
    intro v9 I9 w9 le9 h9 s
    replace h0 := FSl.mono le9 h0
    replace hle3 := leMono le9 hle3
    obtain rfl := h9
    refine ops_done (by kernel_rfl) ?_
    refine cond_false_rule (b := false) (by kernel_rfl) rfl ?_
    refine wp_skip ?_
    refine region_rule ?_
    refine ops_rule (C := []) [] [] 2 [] 0 (fun φ10 => [(8, .int .i64 (IntKind.wrap .i64 (((i4 : Nat) : Int) + ((1 : Nat) : Int)))), (18, .int .i64 (IntKind.wrap .i64 (((i4 : Nat) : Int) + ((1 : Nat) : Int))))]) (fun φ10 => []) (fun φ10 => []) s trivial (fun φ10 => by kernel_rfl) ?_
    intro φ10 w10 s
    rw [nat_addI (a := i4) (b := 1) (by have e8 := hi4_0; have hq0 := of_decide_eq_true hc6; omega)]
    refine ops_done (by kernel_rfl) ?_
    exact ⟨⟨m4 - 1, i4 + 1, _, _, _, by have hq0 := of_decide_eq_true hc6; have := hi4_0; omega, rfl, s, List.Sublist.slnil, by kernel_rfl, hle3, by have hq0 := of_decide_eq_true hc6; have := hi4_0; show i4 + 1 + (m4 - 1) = L.length; omega⟩⟩
  ·
    rw [hc6]
    refine cond_false_rule (b := false) (by kernel_rfl) rfl ?_
    refine wp_exit ?_
    refine wp_seq ?_
    refine region_rule ?_
    refine ops_rule (C := []) [] [] 1 [] 0 (fun φ11 => [(4, .int .i64 (-1))]) (fun φ11 => []) (fun φ11 => []) s trivial (fun φ11 => by kernel_rfl) ?_
    intro φ11 w11 s
    refine ops_done (by kernel_rfl) ?_
    refine wp_ret ?_
    refine ret_rule (C := []) [] [] (.int .i64 (-1)) [] [] s trivial (by kernel_rfl) ?_
    exact ⟨_, _, _, rfl, s, rfl⟩

set_option maxHeartbeats 2000000 in
theorem index79_c {I : IM} {L : List Fe} {a0 : Option Addr} {c0 : Nat} (h0 : FSl I L (.slice a0 L.length c0)) (hl : L.length ≤ 255) (hok : okL L) : Fun Tryd.prog 109 #[.slice a0 L.length c0, .func (.func 79) #[] #[]] I (fun v J => v = .int .i64 (-1)) := by
  refine enter_rule 19 [(0, .slice a0 L.length c0), (1, .func (.func 79) #[] #[])] Tryd.func109 rfl (by kernel_rfl) ?_
  intro w s
  refine wp_seq ?_
  refine region_rule ?_
  refine ops_rule (C := []) [] [] 1 [] 0 (fun φ1 => [(4, .int .i64 0)]) (fun φ1 => []) (fun φ1 => []) s trivial (fun φ1 => by kernel_rfl) ?_
  intro φ1 w1 s
  refine ops_done (by kernel_rfl) ?_
  refine wp_seq ?_
  refine wp_seq ?_
  refine region_rule ?_
  refine ops_rule (C := []) [] [] 3 [] 0 (fun φ2 => [(8, .int .i64 0), (7, .int .i64 ((L.length : Nat) : Int)), (6, .slice a0 L.length c0)]) (fun φ2 => []) (fun φ2 => []) s trivial (fun φ2 => by kernel_rfl) ?_
  intro φ2 w2 s
  refine ops_done (by kernel_rfl) ?_
  refine wp_block ?_
  have hle3 := IM.Le.refl I
  refine loop_rule (fun (x : Nat) => [(0, .slice a0 L.length c0), (1, .func (.func 79) #[] #[]), (4, .int .i64 0), (6, .slice a0 L.length c0), (7, .int .i64 ((L.length : Nat) : Int)), (8, .int .i64 ((x : Nat) : Int))]) (fun (x : Nat) => []) (fun m (x : Nat) J => IM.Le I J ∧ x + m = L.length) (L.length) 0 s (by kernel_rfl) List.Sublist.slnil ⟨IM.Le.refl _, Nat.zero_add _⟩ ?_
  rintro m4 i4 I4 w4 ev4 s ⟨le4, hi4_0⟩
  try dsimp only at s hi4_0 ⊢
  replace h0 := FSl.mono le4 h0
  replace hle3 := leMono le4 hle3
  refine wp_seq ?_
  refine region_rule ?_
  refine ops_rule (C := []) [] [] 1 [] 0 (fun φ5 => [(9, .bool (decide (((i4 : Nat) : Int) < ((L.length : Nat) : Int))))]) (fun φ5 => []) (fun φ5 => []) s trivial (fun φ5 => by kernel_rfl) ?_
  intro φ5 w5 s
  rw [nat_lss (a := i4) (b := L.length)]
  refine ops_done (by kernel_rfl) ?_
  refine wp_seq ?_
  rcases Bool.eq_false_or_eq_true (decide (i4 < L.length)) with hc6 | hc6
  ·
    rw [hc6]
    refine cond_true_rule (b := true) (by kernel_rfl) rfl ?_
    refine wp_skip ?_
    refine wp_seq ?_
    refine wp_block ?_
    refine wp_seq ?_
    refine region_rule ?_
    refine ops_rule (C := []) [] [] 2 [] 0 (fun φ7 => [(5, .int .i64 ((i4 : Nat) : Int)), (10, .int .i64 ((i4 : Nat) : Int))]) (fun φ7 => []) (fun φ7 => []) s trivial (fun φ7 => by kernel_rfl) ?_
    intro φ7 w7 s
    refine ops_done (by kernel_rfl) ?_
    refine wp_seq ?_
    refine region_rule ?_
    refine ops_rule (C := []) [] [] 3 [] 0 (fun φ8 => [(13, .int .i64 ((i4 : Nat) : Int)), (12, .slice a0 L.length c0), (11, .func (.func 79) #[] #[])]) (fun φ8 => []) (fun φ8 => []) s trivial (fun φ8 => by kernel_rfl) ?_
    intro φ8 w8 s
    refine sem_rule (Instr.indexAt 22 (.slice a0 L.length c0) (.int .i64 ((i4 : Nat) : Int))) (some 14) (.pointer (pAt a0 (i4 * 3))) (by kernel_rfl) (fsl_idx22 h0 (by have e8 := hi4_0; have hq0 := of_decide_eq_true hc6; omega)) ?_
    refine sem_rule (Instr.loadAt 39 (.pointer (pAt a0 (i4 * 3)))) (some 15) (.agg #[.int .i64 ((List.getD L i4 Fe.z).k), .string ⟨((List.getD L i4 Fe.z).a).toArray⟩, .string ⟨((List.getD L i4 Fe.z).v).toArray⟩]) (by kernel_rfl) (fsl_ld39 s.sub h0 (by have e8 := hi4_0; have hq0 := of_decide_eq_true hc6; omega)) ?_
    refine call_rule (some 16) s (strangeKind_c (z := (List.getD L i4 Fe.z).k) (A := (List.getD L i4 Fe.z).a) (B := (List.getD L i4 Fe.z).v) (hok i4 (by have hq0 := of_decide_eq_true hc6; omega)).1 (hok i4 (by have hq0 := of_decide_eq_true hc6; omega)).2.1) (by kernel_rfl) ?_
    intro v9 I9 w9 le9 h9 s
    replace h0 := FSl.mono le9 h0
    replace hle3 := leMono le9 hle3
    obtain rfl := h9
    refine ops_done (by kernel_rfl) ?_
    refine cond_false_rule (b := false) (by kernel_rfl) rfl ?_
    refine wp_skip ?_
    refine region_rule ?_
    refine ops_rule (C := []) [] [] 2 [] 0 (fun φ10 => [(8, .int .i64 (IntKind.wrap .i64 (((i4 : Nat) : Int) + ((1 : Nat) : Int)))), (18, .int .i64 (IntKind.wrap .i64 (((i4 : Nat) : Int) + ((1 : Nat) : Int))))]) (fun φ10 => []) (fun φ10 => []) s trivial (fun φ10 => by kernel_rfl) ?_
    intro φ10 w10 s
    rw [nat_addI (a := i4) (b := 1) (by have e8 := hi4_0; have hq0 := of_decide_eq_true hc6; omega)]
    refine ops_done (by kernel_rfl) ?_
    exact ⟨⟨m4 - 1, i4 + 1, _, _, _, by have hq0 := of_decide_eq_true hc6; have := hi4_0; omega, rfl, s, List.Sublist.slnil, by kernel_rfl, hle3, by have hq0 := of_decide_eq_true hc6; have := hi4_0; show i4 + 1 + (m4 - 1) = L.length; omega⟩⟩
  ·
    rw [hc6]
    refine cond_false_rule (b := false) (by kernel_rfl) rfl ?_
    refine wp_exit ?_
    refine wp_seq ?_
    refine region_rule ?_
    refine ops_rule (C := []) [] [] 1 [] 0 (fun φ11 => [(4, .int .i64 (-1))]) (fun φ11 => []) (fun φ11 => []) s trivial (fun φ11 => by kernel_rfl) ?_
    intro φ11 w11 s
    refine ops_done (by kernel_rfl) ?_
    refine wp_ret ?_
    refine ret_rule (C := []) [] [] (.int .i64 (-1)) [] [] s trivial (by kernel_rfl) ?_
    exact ⟨_, _, _, rfl, s, rfl⟩

set_option maxHeartbeats 400000 in
theorem contains108_c {I : IM} {L : List Fe} {a0 : Option Addr} {c0 : Nat} (h0 : FSl I L (.slice a0 L.length c0)) (hl : L.length ≤ 255) (hok : okL L) : Fun Tryd.prog 78 #[.slice a0 L.length c0, .func (.func 108) #[] #[]] I (fun v J => v = .bool false) := by
  refine enter_rule 9 [(0, .slice a0 L.length c0), (1, .func (.func 108) #[] #[])] Tryd.func78 rfl (by kernel_rfl) ?_
  intro w s
  refine wp_seq ?_
  refine region_rule ?_
  refine ops_rule (C := []) [] [] 1 [] 0 (fun φ1 => [(4, .bool false)]) (fun φ1 => []) (fun φ1 => []) s trivial (fun φ1 => by kernel_rfl) ?_
  intro φ1 w1 s
  refine ops_done (by kernel_rfl) ?_
  refine wp_seq ?_
  refine region_rule ?_
  refine ops_rule (C := []) [] [] 2 [] 0 (fun φ2 => [(6, .func (.func 108) #[] #[]), (5, .slice a0 L.length c0)]) (fun φ2 => []) (fun φ2 => []) s trivial (fun φ2 => by kernel_rfl) ?_
  intro φ2 w2 s
  refine call_rule (some 7) s (index108_c h0 hl hok) (by kernel_rfl) ?_
  intro v3 I3 w3 le3 h3 s
  replace h0 := FSl.mono le3 h0
  obtain rfl := h3
  refine ops_rule (C := []) [] [] 2 [] 0 (fun φ4 => [(4, .bool false), (8, .bool false)]) (fun φ4 => []) (fun φ4 => []) s trivial (fun φ4 => by kernel_rfl) ?_
  intro φ4 w4 s
  refine ops_done (by kernel_rfl) ?_
  refine wp_ret ?_
  refine ret_rule (C := []) [] [] (.bool false) [] [] s trivial (by kernel_rfl) ?_
  exact ⟨_, _, _, rfl, s, rfl⟩

set_option maxHeartbeats 400000 in
theorem contains79_c {I : IM} {L : List Fe} {a0 : Option Addr} {c0 : Nat} (h0 : FSl I L (.slice a0 L.length c0)) (hl : L.length ≤ 255) (hok : okL L) : Fun Tryd.prog 78 #[.slice a0 L.length c0, .func (.func 79) #[] #[]] I (fun v J => v = .bool false) := by
  refine enter_rule 9 [(0, .slice a0 L.length c0), (1, .func (.func 79) #[] #[])] Tryd.func78 rfl (by kernel_rfl) ?_
  intro w s
  refine wp_seq ?_
  refine region_rule ?_
  refine ops_rule (C := []) [] [] 1 [] 0 (fun φ1 => [(4, .bool false)]) (fun φ1 => []) (fun φ1 => []) s trivial (fun φ1 => by kernel_rfl) ?_
  intro φ1 w1 s
  refine ops_done (by kernel_rfl) ?_
  refine wp_seq ?_
  refine region_rule ?_
  refine ops_rule (C := []) [] [] 2 [] 0 (fun φ2 => [(6, .func (.func 79) #[] #[]), (5, .slice a0 L.length c0)]) (fun φ2 => []) (fun φ2 => []) s trivial (fun φ2 => by kernel_rfl) ?_
  intro φ2 w2 s
  refine call_rule (some 7) s (index79_c h0 hl hok) (by kernel_rfl) ?_
  intro v3 I3 w3 le3 h3 s
  replace h0 := FSl.mono le3 h0
  obtain rfl := h3
  refine ops_rule (C := []) [] [] 2 [] 0 (fun φ4 => [(4, .bool false), (8, .bool false)]) (fun φ4 => []) (fun φ4 => []) s trivial (fun φ4 => by kernel_rfl) ?_
  intro φ4 w4 s
  refine ops_done (by kernel_rfl) ?_
  refine wp_ret ?_
  refine ret_rule (C := []) [] [] (.bool false) [] [] s trivial (by kernel_rfl) ?_
  exact ⟨_, _, _, rfl, s, rfl⟩

set_option maxHeartbeats 2000000 in
theorem index81_c {I : IM} {L : List Nat} {a0 : Option Addr} {c0 : Nat} (h0 : KSl I L (.slice a0 L.length c0)) (hl : L.length ≤ 255) (hok : ∀ i, i < L.length → L.getD i 0 ≤ 255) : Fun Tryd.prog 110 #[.slice a0 L.length c0, .func (.func 81) #[] #[]] I (fun v J => v = .int .i64 (-1)) := by
  refine enter_rule 19 [(0, .slice a0 L.length c0), (1, .func (.func 81) #[] #[])] Tryd.func110 rfl (by kernel_rfl) ?_
  intro w s
  refine wp_seq ?_
  refine region_rule ?_
  refine ops_rule (C := []) [] [] 1 [] 0 (fun φ1 => [(4, .int .i64 0)]) (fun φ1 => []) (fun φ1 => []) s trivial (fun φ1 => by kernel_rfl) ?_
  intro φ1 w1 s
  refine ops_done (by kernel_rfl) ?_
  refine wp_seq ?_
  refine wp_seq ?_
  refine region_rule ?_
  refine ops_rule (C := []) [] [] 3 [] 0 (fun φ2 => [(8, .int .i64 0), (7, .int .i64 ((L.length : Nat) : Int)), (6, .slice a0 L.length c0)]) (fun φ2 => []) (fun φ2 => []) s trivial (fun φ2 => by kernel_rfl) ?_
  intro φ2 w2 s
  refine ops_done (by kernel_rfl) ?_
  refine wp_block ?_
  have hle3 := IM.Le.refl I
  refine loop_rule (fun (x : Nat) => [(0, .slice a0 L.length c0), (1, .func (.func 81) #[] #[]), (4, .int .i64 0), (6, .slice a0 L.length c0), (7, .int .i64 ((L.length : Nat) : Int)), (8, .int .i64 ((x : Nat) : Int))]) (fun (x : Nat) => []) (fun m (x : Nat) J => IM.Le I J ∧ x + m = L.length) (L.length) 0 s (by kernel_rfl) List.Sublist.slnil ⟨IM.Le.refl _, Nat.zero_add _⟩ ?_
  rintro m4 i4 I4 w4 ev4 s ⟨le4, hi4_0⟩
  try dsimp only at s hi4_0 ⊢
  replace h0 := KSl.mono le4 h0
  replace hle3 := leMono le4 hle3
  refine wp_seq ?_
  refine region_rule ?_
  refine ops_rule (C := []) [] [] 1 [] 0 (fun φ5 => [(9, .bool (decide (((i4 : Nat) : Int) < ((L.length : Nat) : Int))))]) (fun φ5 => []) (fun φ5 => []) s trivial (fun φ5 => by kernel_rfl) ?_
  intro φ5 w5 s
  rw [nat_lss (a := i4) (b := L.length)]
  refine ops_done (by kernel_rfl) ?_
  refine wp_seq ?_
  rcases Bool.eq_false_or_eq_true (decide (i4 < L.length)) with hc6 | hc6
  ·
    rw [hc6]
    refine cond_true_rule (b := true) (by kernel_rfl) rfl ?_
    refine wp_skip ?_
    refine wp_seq ?_
    refine wp_block ?_
    refine wp_seq ?_
    refine region_rule ?_
    refine ops_rule (C := []) [] [] 2 [] 0 (fun φ7 => [(5, .int .i64 ((i4 : Nat) : Int)), (10, .int .i64 ((i4 : Nat) : Int))]) (fun φ7 => []) (fun φ7 => []) s trivial (fun φ7 => by kernel_rfl) ?_
    intro φ7 w7 s
    refine ops_done (by kernel_rfl) ?_
    refine wp_seq ?_
    refine region_rule ?_
    refine ops_rule (C := []) [] [] 3 [] 0 (fun φ8 => [(13, .int .i64 ((i4 : Nat) : Int)), (12, .slice a0 L.length c0), (11, .func (.func 81) #[] #[])]) (fun φ8 => []) (fun φ8 => []) s trivial (fun φ8 => by kernel_rfl) ?_
    intro φ8 w8 s
    refine sem_rule (Instr.indexAt 52 (.slice a0 L.length c0) (.int .i64 ((i4 : Nat) : Int))) (some 14) (.pointer (pAt a0 i4)) (by kernel_rfl) (ksl_idx h0 (by have e8 := hi4_0; have hq0 := of_decide_eq_true hc6; omega)) ?_
    refine sem_rule (Instr.loadAt 3 (.pointer (pAt a0 i4))) (some 15) (.int .i64 (((List.getD L i4 0) : Nat) : Int)) (by kernel_rfl) (ksl_ld s.sub h0 (by have e8 := hi4_0; have hq0 := of_decide_eq_true hc6; omega)) ?_
    refine call_rule (some 16) s (strange_c (z := (((List.getD L i4 0) : Nat) : Int)) (by omega) (by have hq0 := of_decide_eq_true hc6; have := hok i4 (by omega); omega)) (by kernel_rfl) ?_
    intro v9 I9 w9 le9 h9 s
    replace h0 := KSl.mono le9 h0
    replace hle3 := leMono le9 hle3
    obtain rfl := h9
    refine ops_done (by kernel_rfl) ?_
    refine cond_false_rule (b := false) (by kernel_rfl) rfl ?_
    refine wp_skip ?_
    refine region_rule ?_
    refine ops_rule (C := []) [] [] 2 [] 0 (fun φ10 => [(8, .int .i64 (IntKind.wrap .i64 (((i4 : Nat) : Int) + ((1 : Nat) : Int)))), (18, .int .i64 (IntKind.wrap .i64 (((i4 : Nat) : Int) + ((1 : Nat) : Int))))]) (fun φ10 => []) (fun φ10 => []) s trivial (fun φ10 => by kernel_rfl) ?_
    intro φ10 w10 s
    rw [nat_addI (a := i4) (b := 1) (by have e8 := hi4_0; have hq0 := of_decide_eq_true hc6; omega)]
    refine ops_done (by kernel_rfl) ?_
    exact ⟨⟨m4 - 1, i4 + 1, _, _, _, by have hq0 := of_decide_eq_true hc6; have := hi4_0; omega, rfl, s, List.Sublist.slnil, by kernel_rfl, hle3, by have hq0 := of_decide_eq_true hc6; have := hi4_0; show i4 + 1 + (m4 - 1) = L.length; omega⟩⟩
  ·
    rw [hc6]
    refine cond_false_rule (b := false) (by kernel_rfl) rfl ?_
    refine wp_exit ?_
    refine wp_seq ?_
    refine region_rule ?_
    refine ops_rule (C := []) [] [] 1 [] 0 (fun φ11 => [(4, .int .i64 (-1))]) (fun φ11 => []) (fun φ11 => []) s trivial (fun φ11 => by kernel_rfl) ?_
    intro φ11 w11 s
    refine ops_done (by kernel_rfl) ?_
    refine wp_ret ?_
    refine ret_rule (C := []) [] [] (.int .i64 (-1)) [] [] s trivial (by kernel_rfl) ?_
    exact ⟨_, _, _, rfl, s, rfl⟩

set_option maxHeartbeats 400000 in
theorem contains81_c {I : IM} {L : List Nat} {a0 : Option Addr} {c0 : Nat} (h0 : KSl I L (.slice a0 L.length c0)) (hl : L.length ≤ 255) (hok : ∀ i, i < L.length → L.getD i 0 ≤ 255) : Fun Tryd.prog 80 #[.slice a0 L.length c0, .func (.func 81) #[] #[]] I (fun v J => v = .bool false) := by
  refine enter_rule 9 [(0, .slice a0 L.length c0), (1, .func (.func 81) #[] #[])] Tryd.func80 rfl (by kernel_rfl) ?_
  intro w s
  refine wp_seq ?_
  refine region_rule ?_
  refine ops_rule (C := []) [] [] 1 [] 0 (fun φ1 => [(4, .bool false)]) (fun φ1 => []) (fun φ1 => []) s trivial (fun φ1 => by kernel_rfl) ?_
  intro φ1 w1 s
  refine ops_done (by kernel_rfl) ?_
  refine wp_seq ?_
  refine region_rule ?_
  refine ops_rule (C := []) [] [] 2 [] 0 (fun φ2 => [(6, .func (.func 81) #[] #[]), (5, .slice a0 L.length c0)]) (fun φ2 => []) (fun φ2 => []) s trivial (fun φ2 => by kernel_rfl) ?_
  intro φ2 w2 s
  refine call_rule (some 7) s (index81_c h0 hl hok) (by kernel_rfl) ?_
  intro v3 I3 w3 le3 h3 s
  replace h0 := KSl.mono le3 h0
  obtain rfl := h3
  refine ops_rule (C := []) [] [] 2 [] 0 (fun φ4 => [(4, .bool false), (8, .bool false)]) (fun φ4 => []) (fun φ4 => []) s trivial (fun φ4 => by kernel_rfl) ?_
  intro φ4 w4 s
  refine ops_done (by kernel_rfl) ?_
  refine wp_ret ?_
  refine ret_rule (C := []) [] [] (.bool false) [] [] s trivial (by kernel_rfl) ?_
  exact ⟨_, _, _, rfl, s, rfl⟩

set_option maxHeartbeats 400000 in
theorem tooLong_c {I : IM} {L : List Fe} {a0 : Option Addr} {c0 : Nat} (h0 : FSl I L (.slice a0 L.length c0)) (hl : L.length ≤ 255) (hok : okL L) : Fun Tryd.prog 77 #[.slice a0 L.length c0] I (fun v J => v = .bool false) := by
  refine enter_rule 10 [(0, .slice a0 L.length c0)] Tryd.func77 rfl (by kernel_rfl) ?_
  intro w s
  refine wp_seq ?_
  refine region_rule ?_
  refine ops_rule (C := []) [] [] 1 [] 0 (fun φ1 => [(2, .bool false)]) (fun φ1 => []) (fun φ1 => []) s trivial (fun φ1 => by kernel_rfl) ?_
  intro φ1 w1 s
  refine ops_done (by kernel_rfl) ?_
  refine wp_seq ?_
  refine region_rule ?_
  refine ops_rule (C := []) [] [] 4 [] 0 (fun φ2 => [(6, .bool (decide (((L.length : Nat) : Int) > ((255 : Nat) : Int)))), (5, .bool (decide (((L.length : Nat) : Int) > ((255 : Nat) : Int)))), (4, .int .i64 ((L.length : Nat) : Int)), (3, .slice a0 L.length c0)]) (fun φ2 => []) (fun φ2 => []) s trivial (fun φ2 => by kernel_rfl) ?_
  intro φ2 w2 s
  rw [nat_gtr (a := L.length) (b := 255)]
  rcases Bool.eq_false_or_eq_true (decide (255 < L.length)) with hc3 | hc3
  ·
    exact absurd (of_decide_eq_true hc3) (by omega)
  ·
    rw [hc3]
    refine ops_rule (C := []) [] [] 1 [] 0 (fun φ4 => [(7, .slice a0 L.length c0)]) (fun φ4 => []) (fun φ4 => []) s trivial (fun φ4 => by kernel_rfl) ?_
    intro φ4 w4 s
    refine call_rule (some 8) s (contains108_c h0 hl hok) (by kernel_rfl) ?_
    intro v5 I5 w5 le5 h5 s
    replace h0 := FSl.mono le5 h0
    obtain rfl := h5
    refine ops_rule (C := []) [] [] 2 [] 0 (fun φ6 => [(2, .bool false), (9, .bool false)]) (fun φ6 => []) (fun φ6 => []) s trivial (fun φ6 => by kernel_rfl) ?_
    intro φ6 w6 s
    refine ops_done (by kernel_rfl) ?_
    refine wp_ret ?_
    refine ret_rule (C := []) [] [] (.bool false) [] [] s trivial (by kernel_rfl) ?_
    exact ⟨_, _, _, rfl, s, rfl⟩

set_option maxHeartbeats 4000000 in
theorem putFields_c {I : IM} {l : List UInt8} {a : Option Addr} {c : Nat} (hb : BSl I l (.slice a l.length c)) (hlb : l.length ≤ 500000) {L : List Fe} {a0 : Option Addr} {c0 : Nat} (h0 : FSl I L (.slice a0 L.length c0)) (hl : L.length ≤ 255) (hok : okL L) : Fun Tryd.prog 82 #[.slice a l.length c, .slice a0 L.length c0] I (fun v J => ∃ a c, v = .slice a (l ++ encL L).length c ∧ BSl J (l ++ encL L) (.slice a (l ++ encL L).length c)) := by
  refine enter_rule 36 [(0, .slice a l.length c), (1, .slice a0 L.length c0)] Tryd.func82 rfl (by kernel_rfl) ?_
  intro w s
  refine wp_seq ?_
  refine region_rule ?_
  refine ops_rule (C := []) [] [] 1 [] 0 (fun φ1 => [(4, .slice none 0 0)]) (fun φ1 => []) (fun φ1 => []) s trivial (fun φ1 => by kernel_rfl) ?_
  intro φ1 w1 s
  refine ops_done (by kernel_rfl) ?_
  refine wp_seq ?_
  refine region_rule ?_
  refine ops_rule (C := []) [] [] 4 [] 0 (fun φ2 => [(10, .int .u64 (IntKind.wrap .u64 ((L.length : Nat) : Int))), (9, .int .i64 ((L.length : Nat) : Int)), (8, .slice a0 L.length c0), (7, .slice a l.length c)]) (fun φ2 => []) (fun φ2 => []) s trivial (fun φ2 => by kernel_rfl) ?_
  intro φ2 w2 s
  rw [nat_wrapU (a := L.length) (by   (try simp only [List.length_drop, List.length_take, List.length_append, List.length_cons, List.length_nil]); omega)]
  refine callF_rule (H := []) (F := []) (some 11) s (numB_r (n := L.length) hb (by omega) (by omega)) (by kernel_rfl) ?_
  intro v3 I3 w3 F3 le3 h3 s
  replace hb := BSl.mono le3 hb
  replace h0 := FSl.mono le3 h0
  refine ops_rule (C := []) [] F3 1 [] 0 (fun φ4 => [(0, v3)]) (fun φ4 => []) (fun φ4 => []) s trivial (fun φ4 => by kernel_rfl) ?_
  intro φ4 w4 s
  refine ops_done (by kernel_rfl) ?_
  refine wp_seq ?_
  refine wp_seq ?_
  refine region_rule ?_
  refine ops_rule (C := []) [] F3 3 [] 0 (fun φ5 => [(14, .int .i64 0), (13, .int .i64 ((L.length : Nat) : Int)), (12, .slice a0 L.length c0)]) (fun φ5 => []) (fun φ5 => []) s trivial (fun φ5 => by kernel_rfl) ?_
  intro φ5 w5 s
  refine ops_done (by kernel_rfl) ?_
  refine wp_block ?_
  have hle6 := IM.Le.refl I3
  refine loop_rule (fun (x : Nat × Value × List OB) => [(1, .slice a0 L.length c0), (4, .slice none 0 0), (12, .slice a0 L.length c0), (13, .int .i64 ((L.length : Nat) : Int)), (14, .int .i64 ((x.1 : Nat) : Int)), (0, x.2.1)]) (fun (x : Nat × Value × List OB) => [] ++ x.2.2) (fun m (x : Nat × Value × List OB) J => IM.Le I3 J ∧ x.1 + m = L.length ∧ RowH 5 1 x.2.1 (l ++ encF 9 L.length ++ (L.take x.1).flatMap encFe).length ((l ++ encF 9 L.length ++ (L.take x.1).flatMap encFe).map bV) x.2.2) (L.length) (0, v3, F3) s (by kernel_rfl) (List.Sublist.refl _) ⟨IM.Le.refl _, Nat.zero_add _, row_eqB h3 (by simp)⟩ ?_
  rintro m7 ⟨i7, v7, F7⟩ I7 w7 ev7 s ⟨le7, hi7_0, hi7_1⟩
  try dsimp only at s hi7_0 hi7_1 ⊢
  replace hb := BSl.mono le7 hb
  replace h0 := FSl.mono le7 h0
  replace hle6 := leMono le7 hle6
  have hs9 := encs_len hok i7 (by have := hi7_0; omega)
  have hn9 := (encF_len 9 L.length).2
  have ha9 := (encF_len 9 (L.getD i7 Fe.z).a.length).2
  have hv9 := (encF_len 9 (L.getD i7 Fe.z).v.length).2
  have hx9 : i7 < L.length → okFe (L.getD i7 Fe.z) := hok i7
  refine wp_seq ?_
  refine region_rule ?_
  refine ops_rule (C := []) [] F7 1 [] 0 (fun φ8 => [(15, .bool (decide (((i7 : Nat) : Int) < ((L.length : Nat) : Int))))]) (fun φ8 => []) (fun φ8 => []) s trivial (fun φ8 => by kernel_rfl) ?_
  intro φ8 w8 s
  rw [nat_lss (a := i7) (b := L.length)]
  refine ops_done (by kernel_rfl) ?_
  refine wp_seq ?_
  rcases Bool.eq_false_or_eq_true (decide (i7 < L.length)) with hc9 | hc9
  ·
    rw [hc9]
    refine cond_true_rule (b := true) (by kernel_rfl) rfl ?_
    refine wp_skip ?_
    refine wp_seq ?_
    refine wp_block ?_
    refine wp_seq ?_
    refine region_rule ?_
    refine sem_rule (Instr.indexAt 22 (.slice a0 L.length c0) (.int .i64 ((i7 : Nat) : Int))) (some 16) (.pointer (pAt a0 (i7 * 3))) (by kernel_rfl) (fsl_idx22 h0 (by have e8 := hi7_0; have hq0 := of_decide_eq_true hc9; omega)) ?_
    refine sem_rule (Instr.loadAt 39 (.pointer (pAt a0 (i7 * 3)))) (some 17) (.agg #[.int .i64 ((List.getD L i7 Fe.z).k), .string ⟨((List.getD L i7 Fe.z).a).toArray⟩, .string ⟨((List.getD L i7 Fe.z).v).toArray⟩]) (by kernel_rfl) (fsl_ld39 s.sub h0 (by have e8 := hi7_0; have hq0 := of_decide_eq_true hc9; omega)) ?_
    refine ops_rule (C := []) [] F7 2 [.o 0, .o 0, .o 0] 1 (fun φ10 => [(6, .pointer (some ⟨(φ10 0), 0, none⟩))]) (fun φ10 => [((φ10 0), .cells #[.int .i64 ((List.getD L i7 Fe.z).k), .string ⟨((List.getD L i7 Fe.z).a).toArray⟩, .string ⟨((List.getD L i7 Fe.z).v).toArray⟩] 39)]) (fun φ10 => [(φ10 0), (φ10 0), (φ10 0)]) s trivial (fun φ10 => by kernel_rfl) ?_
    intro φ10 w10 s
    refine ops_done (by kernel_rfl) ?_
    refine wp_seq ?_
    refine region_rule ?_
    refine ops_rule (C := []) [((φ10 0), .cells #[.int .i64 ((List.getD L i7 Fe.z).k), .string ⟨((List.getD L i7 Fe.z).a).toArray⟩, .string ⟨((List.getD L i7 Fe.z).v).toArray⟩] 39)] F7 3 [.o 0] 0 (fun φ11 => [(20, .int .i64 ((List.getD L i7 Fe.z).k)), (19, .pointer (some ⟨(φ10 0), 0, none⟩)), (18, v7)]) (fun φ11 => [((φ10 0), .cells #[.int .i64 ((List.getD L i7 Fe.z).k), .string ⟨((List.getD L i7 Fe.z).a).toArray⟩, .string ⟨((List.getD L i7 Fe.z).v).toArray⟩] 39)]) (fun φ11 => [(φ10 0)]) s trivial (fun φ11 => by kernel_rfl) ?_
    intro φ11 w11 s
    refine sem_rule (convert 3 5 (.int .i64 ((List.getD L i7 Fe.z).k))) (some 21) (.int .u8 ((((List.getD L i7 Fe.z).k).toNat : Nat) : Int)) (by kernel_rfl) (run_conv35 (hok i7 (by have hq0 := of_decide_eq_true hc9; omega)).1 (hok i7 (by have hq0 := of_decide_eq_true hc9; omega)).2.1) ?_
    refine ops_rule (C := []) [((φ10 0), .cells #[.int .i64 ((List.getD L i7 Fe.z).k), .string ⟨((List.getD L i7 Fe.z).a).toArray⟩, .string ⟨((List.getD L i7 Fe.z).v).toArray⟩] 39)] F7 1 [] 1 (fun φ12 => [(22, .slice (some ⟨(φ12 0), 0, none⟩) 1 1)]) (fun φ12 => [((φ10 0), .cells #[.int .i64 ((List.getD L i7 Fe.z).k), .string ⟨((List.getD L i7 Fe.z).a).toArray⟩, .string ⟨((List.getD L i7 Fe.z).v).toArray⟩] 39), ((φ12 0), .cells #[.int .u8 ((((List.getD L i7 Fe.z).k).toNat : Nat) : Int)] 5)]) (fun φ12 => []) s trivial (fun φ12 => by kernel_rfl) ?_
    intro φ12 w12 s
    refine append_rule (H := [((φ10 0), .cells #[.int .i64 ((List.getD L i7 Fe.z).k), .string ⟨((List.getD L i7 Fe.z).a).toArray⟩, .string ⟨((List.getD L i7 Fe.z).v).toArray⟩] 39), ((φ12 0), .cells #[.int .u8 ((((List.getD L i7 Fe.z).k).toNat : Nat) : Int)] 5)]) (F := F7) 61 61 5 Tryd.t5 (.int .u8 0) 1 1 (some 23) s Tryd.underlying61 (by kernel_rfl) (by kernel_rfl) (by kernel_rfl) (by kernel_rfl) (by kernel_rfl) (by decide) hi7_1 (src_own (H := [((φ10 0), .cells #[.int .i64 ((List.getD L i7 Fe.z).k), .string ⟨((List.getD L i7 Fe.z).a).toArray⟩, .string ⟨((List.getD L i7 Fe.z).v).toArray⟩] 39), ((φ12 0), .cells #[.int .u8 ((((List.getD L i7 Fe.z).k).toNat : Nat) : Int)] 5)]) s 1 (φ12 0) #[.int .u8 ((((List.getD L i7 Fe.z).k).toNat : Nat) : Int)] 5 61 5 1 1 1 [.int .u8 ((((List.getD L i7 Fe.z).k).toNat : Nat) : Int)] (by kernel_rfl) under34 (by kernel_rfl) (by kernel_rfl) (by kernel_rfl)) (by have hq0 := of_decide_eq_true hc9; have h9 := hx9 (by omega); obtain ⟨h1, h2, h3, h4⟩ := h9; (try simp only [maxLen, List.length_append, List.length_cons, List.length_nil] at *); omega) (by have hq0 := of_decide_eq_true hc9; have h9 := hx9 (by omega); obtain ⟨h1, h2, h3, h4⟩ := h9; (try simp only [maxLen, List.length_append, List.length_cons, List.length_nil] at *); omega) (by kernel_rfl) ?_
    intro v13 w13 F13 s h13
    replace h13 : RowH 5 1 v13 ((l ++ encF 9 L.length ++ (L.take i7).flatMap encFe ++ ([UInt8.ofNat (((List.getD L i7 Fe.z).k).toNat)] : List UInt8)).length) ((l ++ encF 9 L.length ++ (L.take i7).flatMap encFe ++ ([UInt8.ofNat (((List.getD L i7 Fe.z).k).toNat)] : List UInt8)).map bV) F13 := row_snoc (x := (l ++ encF 9 L.length ++ (L.take i7).flatMap encFe)) (y := ([UInt8.ofNat (((List.getD L i7 Fe.z).k).toNat)] : List UInt8)) h13 (by simp only [List.map_cons, List.map_nil]; exact cells_bytes1 (by have hq0 := of_decide_eq_true hc9; have h9 := hx9 (by omega); obtain ⟨h1, h2, h3, h4⟩ := h9; omega))
    refine ops_rule (C := []) [((φ10 0), .cells #[.int .i64 ((List.getD L i7 Fe.z).k), .string ⟨((List.getD L i7 Fe.z).a).toArray⟩, .string ⟨((List.getD L i7 Fe.z).v).toArray⟩] 39), ((φ12 0), .cells #[.int .u8 ((((List.getD L i7 Fe.z).k).toNat : Nat) : Int)] 5)] F13 1 [] 0 (fun φ14 => [(0, v13)]) (fun φ14 => [((φ10 0), .cells #[.int .i64 ((List.getD L i7 Fe.z).k), .string ⟨((List.getD L i7 Fe.z).a).toArray⟩, .string ⟨((List.getD L i7 Fe.z).v).toArray⟩] 39), ((φ12 0), .cells #[.int .u8 ((((List.getD L i7 Fe.z).k).toNat : Nat) : Int)] 5)]) (fun φ14 => []) s trivial (fun φ14 => by kernel_rfl) ?_
    intro φ14 w14 s
    refine ops_done (by kernel_rfl) ?_
    refine wp_seq ?_
    refine region_rule ?_
    refine ops_rule (C := []) [((φ10 0), .cells #[.int .i64 ((List.getD L i7 Fe.z).k), .string ⟨((List.getD L i7 Fe.z).a).toArray⟩, .string ⟨((List.getD L i7 Fe.z).v).toArray⟩] 39), ((φ12 0), .cells #[.int .u8 ((((List.getD L i7 Fe.z).k).toNat : Nat) : Int)] 5)] F13 3 [.o 0] 0 (fun φ15 => [(26, .string ⟨((List.getD L i7 Fe.z).a).toArray⟩), (25, .pointer (some ⟨(φ10 0), 1, none⟩)), (24, v13)]) (fun φ15 => [((φ10 0), .cells #[.int .i64 ((List.getD L i7 Fe.z).k), .string ⟨((List.getD L i7 Fe.z).a).toArray⟩, .string ⟨((List.getD L i7 Fe.z).v).toArray⟩] 39), ((φ12 0), .cells #[.int .u8 ((((List.getD L i7 Fe.z).k).toNat : Nat) : Int)] 5)]) (fun φ15 => [(φ10 0)]) s trivial (fun φ15 => by kernel_rfl) ?_
    intro φ15 w15 s
    refine call_rule (some 27) s (wtext_c (ss := (List.getD L i7 Fe.z).a) (by have h9 := hok i7 (by have hq0 := of_decide_eq_true hc9; omega); obtain ⟨-, -, h3, h4⟩ := h9; omega)) (by kernel_rfl) ?_
    intro v16 I16 w16 le16 h16 s
    replace hb := BSl.mono le16 hb
    replace h0 := FSl.mono le16 h0
    replace hle6 := leMono le16 hle6
    obtain ⟨a16, c16, rfl, h16_0⟩ := h16
    refine append_rule (H := [((φ10 0), .cells #[.int .i64 ((List.getD L i7 Fe.z).k), .string ⟨((List.getD L i7 Fe.z).a).toArray⟩, .string ⟨((List.getD L i7 Fe.z).v).toArray⟩] 39), ((φ12 0), .cells #[.int .u8 ((((List.getD L i7 Fe.z).k).toNat : Nat) : Int)] 5)]) (F := F13) 61 61 5 Tryd.t5 (.int .u8 0) 1 1 (some 28) s Tryd.underlying61 (by kernel_rfl) (by kernel_rfl) (by kernel_rfl) (by kernel_rfl) (by kernel_rfl) (by decide) h13 (src_bsl s.sub h16_0) (by have hq0 := of_decide_eq_true hc9; have h9 := hx9 (by omega); obtain ⟨h1, h2, h3, h4⟩ := h9; (try simp only [maxLen, List.length_append, List.length_cons, List.length_nil] at *); omega) (by have hq0 := of_decide_eq_true hc9; have h9 := hx9 (by omega); obtain ⟨h1, h2, h3, h4⟩ := h9; (try simp only [maxLen, List.length_append, List.length_cons, List.length_nil] at *); omega) (by kernel_rfl) ?_
    intro v17 w17 F17 s h17
    replace h17 : RowH 5 1 v17 ((l ++ encF 9 L.length ++ (L.take i7).flatMap encFe ++ ([UInt8.ofNat (((List.getD L i7 Fe.z).k).toNat)] : List UInt8) ++ (encF 9 (List.length ((List.getD L i7 Fe.z).a)) ++ (List.getD L i7 Fe.z).a)).length) ((l ++ encF 9 L.length ++ (L.take i7).flatMap encFe ++ ([UInt8.ofNat (((List.getD L i7 Fe.z).k).toNat)] : List UInt8) ++ (encF 9 (List.length ((List.getD L i7 Fe.z).a)) ++ (List.getD L i7 Fe.z).a)).map bV) F17 := row_app (x := (l ++ encF 9 L.length ++ (L.take i7).flatMap encFe ++ ([UInt8.ofNat (((List.getD L i7 Fe.z).k).toNat)] : List UInt8))) (y := (encF 9 (List.length ((List.getD L i7 Fe.z).a)) ++ (List.getD L i7 Fe.z).a)) h17
    refine ops_rule (C := []) [((φ10 0), .cells #[.int .i64 ((List.getD L i7 Fe.z).k), .string ⟨((List.getD L i7 Fe.z).a).toArray⟩, .string ⟨((List.getD L i7 Fe.z).v).toArray⟩] 39), ((φ12 0), .cells #[.int .u8 ((((List.getD L i7 Fe.z).k).toNat : Nat) : Int)] 5)] F17 1 [] 0 (fun φ18 => [(0, v17)]) (fun φ18 => [((φ10 0), .cells #[.int .i64 ((List.getD L i7 Fe.z).k), .string ⟨((List.getD L i7 Fe.z).a).toArray⟩, .string ⟨((List.getD L i7 Fe.z).v).toArray⟩] 39), ((φ12 0), .cells #[.int .u8 ((((List.getD L i7 Fe.z).k).toNat : Nat) : Int)] 5)]) (fun φ18 => []) s trivial (fun φ18 => by kernel_rfl) ?_
    intro φ18 w18 s
    refine ops_done (by kernel_rfl) ?_
    refine region_rule ?_
    refine ops_rule (C := []) [((φ10 0), .cells #[.int .i64 ((List.getD L i7 Fe.z).k), .string ⟨((List.getD L i7 Fe.z).a).toArray⟩, .string ⟨((List.getD L i7 Fe.z).v).toArray⟩] 39), ((φ12 0), .cells #[.int .u8 ((((List.getD L i7 Fe.z).k).toNat : Nat) : Int)] 5)] F17 3 [.o 0] 0 (fun φ19 => [(31, .string ⟨((List.getD L i7 Fe.z).v).toArray⟩), (30, .pointer (some ⟨(φ10 0), 2, none⟩)), (29, v17)]) (fun φ19 => [((φ10 0), .cells #[.int .i64 ((List.getD L i7 Fe.z).k), .string ⟨((List.getD L i7 Fe.z).a).toArray⟩, .string ⟨((List.getD L i7 Fe.z).v).toArray⟩] 39), ((φ12 0), .cells #[.int .u8 ((((List.getD L i7 Fe.z).k).toNat : Nat) : Int)] 5)]) (fun φ19 => [(φ10 0)]) s trivial (fun φ19 => by kernel_rfl) ?_
    intro φ19 w19 s
    refine call_rule (some 32) s (wtext_c (ss := (List.getD L i7 Fe.z).v) (by have h9 := hok i7 (by have hq0 := of_decide_eq_true hc9; omega); obtain ⟨-, -, h3, h4⟩ := h9; omega)) (by kernel_rfl) ?_
    intro v20 I20 w20 le20 h20 s
    replace hb := BSl.mono le20 hb
    replace h0 := FSl.mono le20 h0
    replace hle6 := leMono le20 hle6
    replace h16_0 := BSl.mono le20 h16_0
    obtain ⟨a20, c20, rfl, h20_0⟩ := h20
    refine append_rule (H := [((φ10 0), .cells #[.int .i64 ((List.getD L i7 Fe.z).k), .string ⟨((List.getD L i7 Fe.z).a).toArray⟩, .string ⟨((List.getD L i7 Fe.z).v).toArray⟩] 39), ((φ12 0), .cells #[.int .u8 ((((List.getD L i7 Fe.z).k).toNat : Nat) : Int)] 5)]) (F := F17) 61 61 5 Tryd.t5 (.int .u8 0) 1 1 (some 33) s Tryd.underlying61 (by kernel_rfl) (by kernel_rfl) (by kernel_rfl) (by kernel_rfl) (by kernel_rfl) (by decide) h17 (src_bsl s.sub h20_0) (by have hq0 := of_decide_eq_true hc9; have h9 := hx9 (by omega); obtain ⟨h1, h2, h3, h4⟩ := h9; (try simp only [maxLen, List.length_append, List.length_cons, List.length_nil] at *); omega) (by have hq0 := of_decide_eq_true hc9; have h9 := hx9 (by omega); obtain ⟨h1, h2, h3, h4⟩ := h9; (try simp only [maxLen, List.length_append, List.length_cons, List.length_nil] at *); omega) (by kernel_rfl) ?_
    intro v21 w21 F21 s h21
    replace h21 : RowH 5 1 v21 ((l ++ encF 9 L.length ++ (L.take i7).flatMap encFe ++ ([UInt8.ofNat (((List.getD L i7 Fe.z).k).toNat)] : List UInt8) ++ (encF 9 (List.length ((List.getD L i7 Fe.z).a)) ++ (List.getD L i7 Fe.z).a) ++ (encF 9 (List.length ((List.getD L i7 Fe.z).v)) ++ (List.getD L i7 Fe.z).v)).length) ((l ++ encF 9 L.length ++ (L.take i7).flatMap encFe ++ ([UInt8.ofNat (((List.getD L i7 Fe.z).k).toNat)] : List UInt8) ++ (encF 9 (List.length ((List.getD L i7 Fe.z).a)) ++ (List.getD L i7 Fe.z).a) ++ (encF 9 (List.length ((List.getD L i7 Fe.z).v)) ++ (List.getD L i7 Fe.z).v)).map bV) F21 := row_app (x := (l ++ encF 9 L.length ++ (L.take i7).flatMap encFe ++ ([UInt8.ofNat (((List.getD L i7 Fe.z).k).toNat)] : List UInt8) ++ (encF 9 (List.length ((List.getD L i7 Fe.z).a)) ++ (List.getD L i7 Fe.z).a))) (y := (encF 9 (List.length ((List.getD L i7 Fe.z).v)) ++ (List.getD L i7 Fe.z).v)) h21
    refine ops_rule (C := []) [((φ10 0), .cells #[.int .i64 ((List.getD L i7 Fe.z).k), .string ⟨((List.getD L i7 Fe.z).a).toArray⟩, .string ⟨((List.getD L i7 Fe.z).v).toArray⟩] 39), ((φ12 0), .cells #[.int .u8 ((((List.getD L i7 Fe.z).k).toNat : Nat) : Int)] 5)] F21 1 [] 0 (fun φ22 => [(0, v21)]) (fun φ22 => [((φ10 0), .cells #[.int .i64 ((List.getD L i7 Fe.z).k), .string ⟨((List.getD L i7 Fe.z).a).toArray⟩, .string ⟨((List.getD L i7 Fe.z).v).toArray⟩] 39), ((φ12 0), .cells #[.int .u8 ((((List.getD L i7 Fe.z).k).toNat : Nat) : Int)] 5)]) (fun φ22 => []) s trivial (fun φ22 => by kernel_rfl) ?_
    intro φ22 w22 s
    refine ops_done (by kernel_rfl) ?_
    refine region_rule ?_
    refine ops_rule (C := []) [((φ10 0), .cells #[.int .i64 ((List.getD L i7 Fe.z).k), .string ⟨((List.getD L i7 Fe.z).a).toArray⟩, .string ⟨((List.getD L i7 Fe.z).v).toArray⟩] 39), ((φ12 0), .cells #[.int .u8 ((((List.getD L i7 Fe.z).k).toNat : Nat) : Int)] 5)] F21 2 [] 0 (fun φ23 => [(14, .int .i64 (IntKind.wrap .i64 (((i7 : Nat) : Int) + ((1 : Nat) : Int)))), (34, .int .i64 (IntKind.wrap .i64 (((i7 : Nat) : Int) + ((1 : Nat) : Int))))]) (fun φ23 => [((φ10 0), .cells #[.int .i64 ((List.getD L i7 Fe.z).k), .string ⟨((List.getD L i7 Fe.z).a).toArray⟩, .string ⟨((List.getD L i7 Fe.z).v).toArray⟩] 39), ((φ12 0), .cells #[.int .u8 ((((List.getD L i7 Fe.z).k).toNat : Nat) : Int)] 5)]) (fun φ23 => []) s trivial (fun φ23 => by kernel_rfl) ?_
    intro φ23 w23 s
    rw [nat_addI (a := i7) (b := 1) (by have e8 := hi7_0; have hq0 := of_decide_eq_true hc9; omega)]
    refine ops_done (by kernel_rfl) ?_
    exact ⟨⟨m7 - 1, (i7 + 1, v21, F21), _, _, _, by have hq0 := of_decide_eq_true hc9; have := hi7_0; omega, rfl, s, (List.Sublist.append (List.Sublist.cons _ (List.Sublist.cons _ List.Sublist.slnil)) (List.Sublist.refl _)), by kernel_rfl, hle6, by have hq0 := of_decide_eq_true hc9; have := hi7_0; show i7 + 1 + (m7 - 1) = L.length; omega, row_eqB h21 (put_next (by have hq0 := of_decide_eq_true hc9; have := hi7_0; omega))⟩⟩
  ·
    rw [hc9]
    refine cond_false_rule (b := false) (by kernel_rfl) rfl ?_
    refine wp_exit ?_
    refine wp_seq ?_
    refine region_rule ?_
    refine ops_rule (C := []) [] F7 2 [] 0 (fun φ24 => [(4, v7), (35, v7)]) (fun φ24 => []) (fun φ24 => []) s trivial (fun φ24 => by kernel_rfl) ?_
    intro φ24 w24 s
    refine ops_done (by kernel_rfl) ?_
    refine wp_ret ?_
    refine ret_rule (C := []) [] F7 (v7) [] [] s trivial (by kernel_rfl) ?_
    have ei : i7 = L.length := by have hq0 := of_decide_eq_false hc9; have := hi7_0; omega
    have hr9 := row_eqB (l2 := l ++ encL L) hi7_1 (by rw [ei]; exact put_end)
    obtain ⟨J25, le25, hk25, s⟩ := freeze_row (H := []) (F := F7) s hr9
    obtain ⟨a25, c25, hv25, -, hk25⟩ := hk25.open
    subst hv25
    exact ⟨_, _, _, rfl, s, ⟨_, _, rfl, hk25⟩⟩

end Go.Proofs.YtcpmjogeafhpnaaDoor
/- A patch is written. -/
set_option linter.all false
set_option maxRecDepth 100000
namespace Go.Proofs.YtcpmjogeafhpnaaDoor
open Go.RowKit Go.Sep
attribute [local irreducible] Go.wpList Go.Code.wp

theorem putk_end {A D : List Fe} {K : List Nat} : ([] ++ encL A) ++ encL D ++ encF 9 K.length ++ (K.take K.length).map UInt8.ofNat = encP A D K := by
  rw [List.take_length, List.nil_append, encP, List.append_assoc (encL A ++ encL D)]

set_option maxHeartbeats 4000000 in
theorem patch_c {I : IM} {A D : List Fe} {K : List Nat} {a1 a2 a3 : Option Addr} {c1 c2 c3 : Nat} (hA : FSl I A (.slice a1 A.length c1)) (hD : FSl I D (.slice a2 D.length c2)) (hK : KSl I K (.slice a3 K.length c3)) (hlA : A.length ≤ 255) (hlD : D.length ≤ 255) (hlK : K.length ≤ 255) (okA : okL A) (okD : okL D) (hok : ∀ i, i < K.length → K.getD i 0 ≤ 255) : Fun Tryd.prog 44 #[.agg #[.slice a1 A.length c1, .slice a2 D.length c2, .slice a3 K.length c3]] I (fun v J => ∃ a c, v = .tuple #[.slice a (encP A D K).length c, .int .i64 0] ∧ BSl J (encP A D K) (.slice a (encP A D K).length c)) := by
  refine enter_rule 61 [(0, .agg #[.slice a1 A.length c1, .slice a2 D.length c2, .slice a3 K.length c3])] Tryd.func44 rfl (by kernel_rfl) ?_
  intro w s
  refine wp_seq ?_
  refine region_rule ?_
  refine ops_rule (C := []) [] [] 3 [] 1 (fun φ1 => [(3, .int .i64 0), (2, .slice none 0 0), (1, .pointer (some ⟨(φ1 0), 0, none⟩))]) (fun φ1 => [((φ1 0), .cells #[.slice a1 A.length c1, .slice a2 D.length c2, .slice a3 K.length c3] 56)]) (fun φ1 => []) s trivial (fun φ1 => by kernel_rfl) ?_
  intro φ1 w1 s
  refine ops_done (by kernel_rfl) ?_
  refine wp_seq ?_
  refine wp_seq ?_
  refine region_rule ?_
  refine ops_rule (C := []) [((φ1 0), .cells #[.slice a1 A.length c1, .slice a2 D.length c2, .slice a3 K.length c3] 56)] [] 5 [.o 0] 0 (fun φ2 => [(11, .bool (decide (((K.length : Nat) : Int) > ((255 : Nat) : Int)))), (10, .bool (decide (((K.length : Nat) : Int) > ((255 : Nat) : Int)))), (9, .int .i64 ((K.length : Nat) : Int)), (8, .slice a3 K.length c3), (7, .pointer (some ⟨(φ1 0), 2, none⟩))]) (fun φ2 => [((φ1 0), .cells #[.slice a1 A.length c1, .slice a2 D.length c2, .slice a3 K.length c3] 56)]) (fun φ2 => [(φ1 0)]) s trivial (fun φ2 => by kernel_rfl) ?_
  intro φ2 w2 s
  rw [nat_gtr (a := K.length) (b := 255)]
  rcases Bool.eq_false_or_eq_true (decide (255 < K.length)) with hc3 | hc3
  ·
    exact absurd (of_decide_eq_true hc3) (by omega)
  ·
    rw [hc3]
    refine ops_rule (C := []) [((φ1 0), .cells #[.slice a1 A.length c1, .slice a2 D.length c2, .slice a3 K.length c3] 56)] [] 2 [.o 0] 0 (fun φ4 => [(13, .slice a1 A.length c1), (12, .pointer (some ⟨(φ1 0), 0, none⟩))]) (fun φ4 => [((φ1 0), .cells #[.slice a1 A.length c1, .slice a2 D.length c2, .slice a3 K.length c3] 56)]) (fun φ4 => [(φ1 0)]) s trivial (fun φ4 => by kernel_rfl) ?_
    intro φ4 w4 s
    refine call_rule (some 14) s (tooLong_c hA hlA okA) (by kernel_rfl) ?_
    intro v5 I5 w5 le5 h5 s
    replace hA := FSl.mono le5 hA
    replace hD := FSl.mono le5 hD
    replace hK := KSl.mono le5 hK
    obtain rfl := h5
    refine ops_rule (C := []) [((φ1 0), .cells #[.slice a1 A.length c1, .slice a2 D.length c2, .slice a3 K.length c3] 56)] [] 4 [.o 0] 0 (fun φ6 => [(18, .slice a2 D.length c2), (17, .pointer (some ⟨(φ1 0), 1, none⟩)), (16, .bool false), (15, .bool false)]) (fun φ6 => [((φ1 0), .cells #[.slice a1 A.length c1, .slice a2 D.length c2, .slice a3 K.length c3] 56)]) (fun φ6 => [(φ1 0)]) s trivial (fun φ6 => by kernel_rfl) ?_
    intro φ6 w6 s
    refine call_rule (some 19) s (tooLong_c hD hlD okD) (by kernel_rfl) ?_
    intro v7 I7 w7 le7 h7 s
    replace hA := FSl.mono le7 hA
    replace hD := FSl.mono le7 hD
    replace hK := KSl.mono le7 hK
    obtain rfl := h7
    refine ops_rule (C := []) [((φ1 0), .cells #[.slice a1 A.length c1, .slice a2 D.length c2, .slice a3 K.length c3] 56)] [] 1 [] 0 (fun φ8 => [(20, .bool false)]) (fun φ8 => [((φ1 0), .cells #[.slice a1 A.length c1, .slice a2 D.length c2, .slice a3 K.length c3] 56)]) (fun φ8 => []) s trivial (fun φ8 => by kernel_rfl) ?_
    intro φ8 w8 s
    refine ops_done (by kernel_rfl) ?_
    refine cond_false_rule (b := false) (by kernel_rfl) rfl ?_
    refine wp_skip ?_
    refine wp_seq ?_
    refine wp_seq ?_
    refine region_rule ?_
    refine ops_rule (C := []) [((φ1 0), .cells #[.slice a1 A.length c1, .slice a2 D.length c2, .slice a3 K.length c3] 56)] [] 2 [.o 0] 0 (fun φ9 => [(22, .slice a1 A.length c1), (21, .pointer (some ⟨(φ1 0), 0, none⟩))]) (fun φ9 => [((φ1 0), .cells #[.slice a1 A.length c1, .slice a2 D.length c2, .slice a3 K.length c3] 56)]) (fun φ9 => [(φ1 0)]) s trivial (fun φ9 => by kernel_rfl) ?_
    intro φ9 w9 s
    refine call_rule (some 23) s (contains79_c hA hlA okA) (by kernel_rfl) ?_
    intro v10 I10 w10 le10 h10 s
    replace hA := FSl.mono le10 hA
    replace hD := FSl.mono le10 hD
    replace hK := KSl.mono le10 hK
    obtain rfl := h10
    refine ops_rule (C := []) [((φ1 0), .cells #[.slice a1 A.length c1, .slice a2 D.length c2, .slice a3 K.length c3] 56)] [] 3 [.o 0] 0 (fun φ11 => [(26, .slice a2 D.length c2), (25, .pointer (some ⟨(φ1 0), 1, none⟩)), (24, .bool false)]) (fun φ11 => [((φ1 0), .cells #[.slice a1 A.length c1, .slice a2 D.length c2, .slice a3 K.length c3] 56)]) (fun φ11 => [(φ1 0)]) s trivial (fun φ11 => by kernel_rfl) ?_
    intro φ11 w11 s
    refine call_rule (some 27) s (contains79_c hD hlD okD) (by kernel_rfl) ?_
    intro v12 I12 w12 le12 h12 s
    replace hA := FSl.mono le12 hA
    replace hD := FSl.mono le12 hD
    replace hK := KSl.mono le12 hK
    obtain rfl := h12
    refine ops_rule (C := []) [((φ1 0), .cells #[.slice a1 A.length c1, .slice a2 D.length c2, .slice a3 K.length c3] 56)] [] 4 [.o 0] 0 (fun φ13 => [(31, .slice a3 K.length c3), (30, .pointer (some ⟨(φ1 0), 2, none⟩)), (29, .bool false), (28, .bool false)]) (fun φ13 => [((φ1 0), .cells #[.slice a1 A.length c1, .slice a2 D.length c2, .slice a3 K.length c3] 56)]) (fun φ13 => [(φ1 0)]) s trivial (fun φ13 => by kernel_rfl) ?_
    intro φ13 w13 s
    refine call_rule (some 32) s (contains81_c hK hlK hok) (by kernel_rfl) ?_
    intro v14 I14 w14 le14 h14 s
    replace hA := FSl.mono le14 hA
    replace hD := FSl.mono le14 hD
    replace hK := KSl.mono le14 hK
    obtain rfl := h14
    refine ops_rule (C := []) [((φ1 0), .cells #[.slice a1 A.length c1, .slice a2 D.length c2, .slice a3 K.length c3] 56)] [] 1 [] 0 (fun φ15 => [(33, .bool false)]) (fun φ15 => [((φ1 0), .cells #[.slice a1 A.length c1, .slice a2 D.length c2, .slice a3 K.length c3] 56)]) (fun φ15 => []) s trivial (fun φ15 => by kernel_rfl) ?_
    intro φ15 w15 s
    refine ops_done (by kernel_rfl) ?_
    refine cond_false_rule (b := false) (by kernel_rfl) rfl ?_
    refine wp_skip ?_
    refine wp_seq ?_
    refine region_rule ?_
    refine ops_rule (C := []) [((φ1 0), .cells #[.slice a1 A.length c1, .slice a2 D.length c2, .slice a3 K.length c3] 56)] [] 2 [.o 0] 0 (fun φ16 => [(35, .slice a1 A.length c1), (34, .pointer (some ⟨(φ1 0), 0, none⟩))]) (fun φ16 => [((φ1 0), .cells #[.slice a1 A.length c1, .slice a2 D.length c2, .slice a3 K.length c3] 56)]) (fun φ16 => [(φ1 0)]) s trivial (fun φ16 => by kernel_rfl) ?_
    intro φ16 w16 s
    refine call_rule (some 36) s (putFields_c (l := []) (bsl_nil _) (by have e1 := encL_len okA hlA; (try simp only [List.length_append, List.length_nil]); omega) hA hlA okA) (by kernel_rfl) ?_
    intro v17 I17 w17 le17 h17 s
    replace hA := FSl.mono le17 hA
    replace hD := FSl.mono le17 hD
    replace hK := KSl.mono le17 hK
    obtain ⟨a17, c17, rfl, h17_0⟩ := h17
    refine ops_rule (C := []) [((φ1 0), .cells #[.slice a1 A.length c1, .slice a2 D.length c2, .slice a3 K.length c3] 56)] [] 1 [] 0 (fun φ18 => [(4, .slice a17 (List.length ([] ++ encL A)) c17)]) (fun φ18 => [((φ1 0), .cells #[.slice a1 A.length c1, .slice a2 D.length c2, .slice a3 K.length c3] 56)]) (fun φ18 => []) s trivial (fun φ18 => by kernel_rfl) ?_
    intro φ18 w18 s
    refine ops_done (by kernel_rfl) ?_
    refine wp_seq ?_
    refine region_rule ?_
    refine ops_rule (C := []) [((φ1 0), .cells #[.slice a1 A.length c1, .slice a2 D.length c2, .slice a3 K.length c3] 56)] [] 3 [.o 0] 0 (fun φ19 => [(39, .slice a2 D.length c2), (38, .pointer (some ⟨(φ1 0), 1, none⟩)), (37, .slice a17 (List.length ([] ++ encL A)) c17)]) (fun φ19 => [((φ1 0), .cells #[.slice a1 A.length c1, .slice a2 D.length c2, .slice a3 K.length c3] 56)]) (fun φ19 => [(φ1 0)]) s trivial (fun φ19 => by kernel_rfl) ?_
    intro φ19 w19 s
    refine call_rule (some 40) s (putFields_c (l := ([] ++ encL A)) h17_0 (by have e1 := encL_len okA hlA; (try simp only [List.length_append, List.length_nil]); omega) hD hlD okD) (by kernel_rfl) ?_
    intro v20 I20 w20 le20 h20 s
    replace hA := FSl.mono le20 hA
    replace hD := FSl.mono le20 hD
    replace hK := KSl.mono le20 hK
    replace h17_0 := BSl.mono le20 h17_0
    obtain ⟨a20, c20, rfl, h20_0⟩ := h20
    refine ops_rule (C := []) [((φ1 0), .cells #[.slice a1 A.length c1, .slice a2 D.length c2, .slice a3 K.length c3] 56)] [] 1 [] 0 (fun φ21 => [(4, .slice a20 (List.length (([] ++ encL A) ++ encL D)) c20)]) (fun φ21 => [((φ1 0), .cells #[.slice a1 A.length c1, .slice a2 D.length c2, .slice a3 K.length c3] 56)]) (fun φ21 => []) s trivial (fun φ21 => by kernel_rfl) ?_
    intro φ21 w21 s
    refine ops_done (by kernel_rfl) ?_
    refine wp_seq ?_
    refine region_rule ?_
    refine ops_rule (C := []) [((φ1 0), .cells #[.slice a1 A.length c1, .slice a2 D.length c2, .slice a3 K.length c3] 56)] [] 5 [.o 0] 0 (fun φ22 => [(45, .int .u64 (IntKind.wrap .u64 ((K.length : Nat) : Int))), (44, .int .i64 ((K.length : Nat) : Int)), (43, .slice a3 K.length c3), (42, .pointer (some ⟨(φ1 0), 2, none⟩)), (41, .slice a20 (List.length (([] ++ encL A) ++ encL D)) c20)]) (fun φ22 => [((φ1 0), .cells #[.slice a1 A.length c1, .slice a2 D.length c2, .slice a3 K.length c3] 56)]) (fun φ22 => [(φ1 0)]) s trivial (fun φ22 => by kernel_rfl) ?_
    intro φ22 w22 s
    rw [nat_wrapU (a := K.length) (by  have hq0 := of_decide_eq_false hc3; (try simp only [List.length_drop, List.length_take, List.length_append, List.length_cons, List.length_nil]); omega)]
    refine callF_rule (H := [((φ1 0), .cells #[.slice a1 A.length c1, .slice a2 D.length c2, .slice a3 K.length c3] 56)]) (F := []) (some 46) s (numB_r (n := K.length) h20_0 (by have e1 := encL_len okA hlA; have e2 := encL_len okD hlD; (try simp only [List.length_append, List.length_nil]); omega) (by omega)) (by kernel_rfl) ?_
    intro v23 I23 w23 F23 le23 h23 s
    replace hA := FSl.mono le23 hA
    replace hD := FSl.mono le23 hD
    replace hK := KSl.mono le23 hK
    replace h17_0 := BSl.mono le23 h17_0
    replace h20_0 := BSl.mono le23 h20_0
    refine ops_rule (C := []) [((φ1 0), .cells #[.slice a1 A.length c1, .slice a2 D.length c2, .slice a3 K.length c3] 56)] F23 1 [] 0 (fun φ24 => [(4, v23)]) (fun φ24 => [((φ1 0), .cells #[.slice a1 A.length c1, .slice a2 D.length c2, .slice a3 K.length c3] 56)]) (fun φ24 => []) s trivial (fun φ24 => by kernel_rfl) ?_
    intro φ24 w24 s
    refine ops_done (by kernel_rfl) ?_
    refine wp_seq ?_
    refine wp_seq ?_
    refine region_rule ?_
    refine ops_rule (C := []) [((φ1 0), .cells #[.slice a1 A.length c1, .slice a2 D.length c2, .slice a3 K.length c3] 56)] F23 4 [.o 0] 0 (fun φ25 => [(50, .int .i64 0), (49, .int .i64 ((K.length : Nat) : Int)), (48, .slice a3 K.length c3), (47, .pointer (some ⟨(φ1 0), 2, none⟩))]) (fun φ25 => [((φ1 0), .cells #[.slice a1 A.length c1, .slice a2 D.length c2, .slice a3 K.length c3] 56)]) (fun φ25 => [(φ1 0)]) s trivial (fun φ25 => by kernel_rfl) ?_
    intro φ25 w25 s
    refine ops_done (by kernel_rfl) ?_
    refine wp_block ?_
    have hle26 := IM.Le.refl I23
    refine loop_rule (fun (x : Nat × Value × List OB) => [(2, .slice none 0 0), (3, .int .i64 0), (48, .slice a3 K.length c3), (49, .int .i64 ((K.length : Nat) : Int)), (50, .int .i64 ((x.1 : Nat) : Int)), (4, x.2.1)]) (fun (x : Nat × Value × List OB) => [((φ1 0), .cells #[.slice a1 A.length c1, .slice a2 D.length c2, .slice a3 K.length c3] 56)] ++ x.2.2) (fun m (x : Nat × Value × List OB) J => IM.Le I23 J ∧ x.1 + m = K.length ∧ RowH 5 1 x.2.1 (([] ++ encL A) ++ encL D ++ encF 9 K.length ++ (K.take x.1).map UInt8.ofNat).length ((([] ++ encL A) ++ encL D ++ encF 9 K.length ++ (K.take x.1).map UInt8.ofNat).map bV) x.2.2) (K.length) (0, v23, F23) s (by kernel_rfl) (List.Sublist.refl _) ⟨IM.Le.refl _, Nat.zero_add _, row_eqB h23 (by simp)⟩ ?_
    rintro m27 ⟨i27, v27, F27⟩ I27 w27 ev27 s ⟨le27, hi27_0, hi27_1⟩
    try dsimp only at s hi27_0 hi27_1 ⊢
    replace hA := FSl.mono le27 hA
    replace hD := FSl.mono le27 hD
    replace hK := KSl.mono le27 hK
    replace h17_0 := BSl.mono le27 h17_0
    replace h20_0 := BSl.mono le27 h20_0
    replace hle26 := leMono le27 hle26
    have hs9 : ((K.take i27).map UInt8.ofNat).length ≤ 255 := by rw [List.length_map, List.length_take]; omega
    have hn9 := (encF_len 9 K.length).2
    have hA9 := encL_len okA hlA
    have hD9 := encL_len okD hlD
    have hx9 : i27 < K.length → K.getD i27 0 ≤ 255 := hok i27
    refine wp_seq ?_
    refine region_rule ?_
    refine ops_rule (C := []) [((φ1 0), .cells #[.slice a1 A.length c1, .slice a2 D.length c2, .slice a3 K.length c3] 56)] F27 1 [] 0 (fun φ28 => [(51, .bool (decide (((i27 : Nat) : Int) < ((K.length : Nat) : Int))))]) (fun φ28 => [((φ1 0), .cells #[.slice a1 A.length c1, .slice a2 D.length c2, .slice a3 K.length c3] 56)]) (fun φ28 => []) s trivial (fun φ28 => by kernel_rfl) ?_
    intro φ28 w28 s
    rw [nat_lss (a := i27) (b := K.length)]
    refine ops_done (by kernel_rfl) ?_
    refine wp_seq ?_
    rcases Bool.eq_false_or_eq_true (decide (i27 < K.length)) with hc29 | hc29
    ·
      rw [hc29]
      refine cond_true_rule (b := true) (by kernel_rfl) rfl ?_
      refine wp_skip ?_
      refine wp_seq ?_
      refine wp_block ?_
      refine wp_seq ?_
      refine region_rule ?_
      refine sem_rule (Instr.indexAt 52 (.slice a3 K.length c3) (.int .i64 ((i27 : Nat) : Int))) (some 52) (.pointer (pAt a3 i27)) (by kernel_rfl) (ksl_idx hK (by have e8 := hi27_0; have hq0 := of_decide_eq_false hc3; have hq1 := of_decide_eq_true hc29; omega)) ?_
      refine sem_rule (Instr.loadAt 3 (.pointer (pAt a3 i27))) (some 53) (.int .i64 (((List.getD K i27 0) : Nat) : Int)) (by kernel_rfl) (ksl_ld s.sub hK (by have e8 := hi27_0; have hq0 := of_decide_eq_false hc3; have hq1 := of_decide_eq_true hc29; omega)) ?_
      refine ops_rule (C := []) [((φ1 0), .cells #[.slice a1 A.length c1, .slice a2 D.length c2, .slice a3 K.length c3] 56)] F27 1 [] 0 (fun φ30 => [(6, .int .i64 (((List.getD K i27 0) : Nat) : Int))]) (fun φ30 => [((φ1 0), .cells #[.slice a1 A.length c1, .slice a2 D.length c2, .slice a3 K.length c3] 56)]) (fun φ30 => []) s trivial (fun φ30 => by kernel_rfl) ?_
      intro φ30 w30 s
      refine ops_done (by kernel_rfl) ?_
      refine region_rule ?_
      refine ops_rule (C := []) [((φ1 0), .cells #[.slice a1 A.length c1, .slice a2 D.length c2, .slice a3 K.length c3] 56)] F27 2 [] 0 (fun φ31 => [(55, .int .i64 (((List.getD K i27 0) : Nat) : Int)), (54, v27)]) (fun φ31 => [((φ1 0), .cells #[.slice a1 A.length c1, .slice a2 D.length c2, .slice a3 K.length c3] 56)]) (fun φ31 => []) s trivial (fun φ31 => by kernel_rfl) ?_
      intro φ31 w31 s
      refine sem_rule (convert 3 5 (.int .i64 (((List.getD K i27 0) : Nat) : Int))) (some 56) (.int .u8 (((List.getD K i27 0) : Nat) : Int)) (by kernel_rfl) (run_conv35 (by omega) (by have hq0 := of_decide_eq_false hc3; have hq1 := of_decide_eq_true hc29; have := hok i27 (by omega); omega)) ?_
      refine ops_rule (C := []) [((φ1 0), .cells #[.slice a1 A.length c1, .slice a2 D.length c2, .slice a3 K.length c3] 56)] F27 1 [] 1 (fun φ32 => [(57, .slice (some ⟨(φ32 0), 0, none⟩) 1 1)]) (fun φ32 => [((φ1 0), .cells #[.slice a1 A.length c1, .slice a2 D.length c2, .slice a3 K.length c3] 56), ((φ32 0), .cells #[.int .u8 (((List.getD K i27 0) : Nat) : Int)] 5)]) (fun φ32 => []) s trivial (fun φ32 => by kernel_rfl) ?_
      intro φ32 w32 s
      refine append_rule (H := [((φ1 0), .cells #[.slice a1 A.length c1, .slice a2 D.length c2, .slice a3 K.length c3] 56), ((φ32 0), .cells #[.int .u8 (((List.getD K i27 0) : Nat) : Int)] 5)]) (F := F27) 61 61 5 Tryd.t5 (.int .u8 0) 1 1 (some 58) s Tryd.underlying61 (by kernel_rfl) (by kernel_rfl) (by kernel_rfl) (by kernel_rfl) (by kernel_rfl) (by decide) hi27_1 (src_own (H := [((φ1 0), .cells #[.slice a1 A.length c1, .slice a2 D.length c2, .slice a3 K.length c3] 56), ((φ32 0), .cells #[.int .u8 (((List.getD K i27 0) : Nat) : Int)] 5)]) s 1 (φ32 0) #[.int .u8 (((List.getD K i27 0) : Nat) : Int)] 5 61 5 1 1 1 [.int .u8 (((List.getD K i27 0) : Nat) : Int)] (by kernel_rfl) under34 (by kernel_rfl) (by kernel_rfl) (by kernel_rfl)) (by have hq0 := of_decide_eq_false hc3; have hq1 := of_decide_eq_true hc29; (try simp only [maxLen, List.length_append, List.length_cons, List.length_nil] at *); omega) (by have hq0 := of_decide_eq_false hc3; have hq1 := of_decide_eq_true hc29; (try simp only [maxLen, List.length_append, List.length_cons, List.length_nil] at *); omega) (by kernel_rfl) ?_
      intro v33 w33 F33 s h33
      replace h33 : RowH 5 1 v33 ((([] ++ encL A) ++ encL D ++ encF 9 K.length ++ (K.take i27).map UInt8.ofNat ++ ([UInt8.ofNat (List.getD K i27 0)] : List UInt8)).length) ((([] ++ encL A) ++ encL D ++ encF 9 K.length ++ (K.take i27).map UInt8.ofNat ++ ([UInt8.ofNat (List.getD K i27 0)] : List UInt8)).map bV) F33 := row_snoc (x := (([] ++ encL A) ++ encL D ++ encF 9 K.length ++ (K.take i27).map UInt8.ofNat)) (y := ([UInt8.ofNat (List.getD K i27 0)] : List UInt8)) h33 (by simp only [List.map_cons, List.map_nil]; exact cells_bytes1 (by have hq0 := of_decide_eq_false hc3; have hq1 := of_decide_eq_true hc29; have h9 := hx9 (by omega); omega))
      refine ops_rule (C := []) [((φ1 0), .cells #[.slice a1 A.length c1, .slice a2 D.length c2, .slice a3 K.length c3] 56), ((φ32 0), .cells #[.int .u8 (((List.getD K i27 0) : Nat) : Int)] 5)] F33 1 [] 0 (fun φ34 => [(4, v33)]) (fun φ34 => [((φ1 0), .cells #[.slice a1 A.length c1, .slice a2 D.length c2, .slice a3 K.length c3] 56), ((φ32 0), .cells #[.int .u8 (((List.getD K i27 0) : Nat) : Int)] 5)]) (fun φ34 => []) s trivial (fun φ34 => by kernel_rfl) ?_
      intro φ34 w34 s
      refine ops_done (by kernel_rfl) ?_
      refine region_rule ?_
      refine ops_rule (C := []) [((φ1 0), .cells #[.slice a1 A.length c1, .slice a2 D.length c2, .slice a3 K.length c3] 56), ((φ32 0), .cells #[.int .u8 (((List.getD K i27 0) : Nat) : Int)] 5)] F33 2 [] 0 (fun φ35 => [(50, .int .i64 (IntKind.wrap .i64 (((i27 : Nat) : Int) + ((1 : Nat) : Int)))), (59, .int .i64 (IntKind.wrap .i64 (((i27 : Nat) : Int) + ((1 : Nat) : Int))))]) (fun φ35 => [((φ1 0), .cells #[.slice a1 A.length c1, .slice a2 D.length c2, .slice a3 K.length c3] 56), ((φ32 0), .cells #[.int .u8 (((List.getD K i27 0) : Nat) : Int)] 5)]) (fun φ35 => []) s trivial (fun φ35 => by kernel_rfl) ?_
      intro φ35 w35 s
      rw [nat_addI (a := i27) (b := 1) (by have e8 := hi27_0; have hq0 := of_decide_eq_false hc3; have hq1 := of_decide_eq_true hc29; omega)]
      refine ops_done (by kernel_rfl) ?_
      exact ⟨⟨m27 - 1, (i27 + 1, v33, F33), _, _, _, by have hq0 := of_decide_eq_false hc3; have hq1 := of_decide_eq_true hc29; have := hi27_0; omega, rfl, s, (List.Sublist.append (List.Sublist.cons₂ _ (List.Sublist.cons _ List.Sublist.slnil)) (List.Sublist.refl _)), by kernel_rfl, hle26, by have hq0 := of_decide_eq_false hc3; have hq1 := of_decide_eq_true hc29; have := hi27_0; show i27 + 1 + (m27 - 1) = K.length; omega, row_eqB h33 (putk_next (by have hq0 := of_decide_eq_false hc3; have hq1 := of_decide_eq_true hc29; have := hi27_0; omega))⟩⟩
    ·
      rw [hc29]
      refine cond_false_rule (b := false) (by kernel_rfl) rfl ?_
      refine wp_exit ?_
      refine wp_seq ?_
      refine region_rule ?_
      refine ops_rule (C := []) [((φ1 0), .cells #[.slice a1 A.length c1, .slice a2 D.length c2, .slice a3 K.length c3] 56)] F27 3 [] 0 (fun φ36 => [(3, .int .i64 0), (2, v27), (60, v27)]) (fun φ36 => [((φ1 0), .cells #[.slice a1 A.length c1, .slice a2 D.length c2, .slice a3 K.length c3] 56)]) (fun φ36 => []) s trivial (fun φ36 => by kernel_rfl) ?_
      intro φ36 w36 s
      refine ops_done (by kernel_rfl) ?_
      refine wp_ret ?_
      refine ret_rule (C := []) [((φ1 0), .cells #[.slice a1 A.length c1, .slice a2 D.length c2, .slice a3 K.length c3] 56)] F27 (.tuple #[v27, .int .i64 0]) [] [] s trivial (by kernel_rfl) ?_
      have ei : i27 = K.length := by have hq0 := of_decide_eq_false hc3; have hq1 := of_decide_eq_false hc29; have := hi27_0; omega
      have hr9 := row_eqB (l2 := encP A D K) hi27_1 (by rw [ei]; exact putk_end)
      obtain ⟨J37, le37, hk37, s⟩ := freeze_row (H := [((φ1 0), .cells #[.slice a1 A.length c1, .slice a2 D.length c2, .slice a3 K.length c3] 56)]) (F := F27) s hr9
      obtain ⟨a37, c37, hv37, -, hk37⟩ := hk37.open
      subst hv37
      exact ⟨_, _, _, rfl, s, ⟨_, _, rfl, hk37⟩⟩

end Go.Proofs.YtcpmjogeafhpnaaDoor
/- Fields lent, fields in a row: for a card that is made. -/
set_option linter.all false
set_option maxRecDepth 100000
namespace Go.Proofs.YtcpmjogeafhpnaaDoor
open Go.RowKit Go.Sep
section
variable {w0 : World} {I0 : IM} {m : List Nat} {I : IM} {P : Program} {Q : Exit → Act → World → Prop}
end
theorem src_fsl {I : IM} {w : World} (hs : I.Sub w) {x : Fe} {a : Option Addr} {c : Nat} (h : FSl I [x] (.slice a 1 c)) : Src Tryd.prog 3 22 (.slice a 1 c) 1 (fc x) w := by
  obtain ⟨a', c', hv, hc, hr⟩ := h
  cases hv
  obtain ⟨b, o, cs, T, fr, rfl, h2, h3, h4, h5⟩ := hr 0 x rfl
  refine Src.ofSlice w under22s ⟨b, o, none⟩ 1 c (fc x) rfl (fun j u hu => ?_) (fun u hu => ?_)
  · rw [addr_addO, run_cell (a := ⟨b, o + j, none⟩) (hs _ _ h2) rfl rfl]
    match j with
    | 0 => simp only [fc, List.getElem?_cons_zero, Option.some.injEq] at hu; subst hu; exact h3
    | 1 => simp only [fc, List.getElem?_cons_succ, List.getElem?_cons_zero, Option.some.injEq] at hu; subst hu; exact h4
    | 2 => simp only [fc, List.getElem?_cons_succ, List.getElem?_cons_zero, Option.some.injEq] at hu; subst hu; exact h5
    | j + 3 => simp [fc] at hu
  · simp only [fc, List.mem_cons, List.not_mem_nil, or_false] at hu
    rcases hu with rfl | rfl | rfl <;> rfl
theorem row_new39 (b : Nat) : RowH 39 3 (.slice (some ⟨b, 0, none⟩) 0 0) 0 [] [(b, .cells #[] 39)] := ⟨rfl, .inr ⟨b, 0, #[], rfl, rfl, Nat.le_refl _, by decide, rfl, rfl⟩⟩
end Go.Proofs.YtcpmjogeafhpnaaDoor
/- The field of the example. -/
set_option linter.all false
set_option maxRecDepth 100000
namespace Go.Proofs.YtcpmjogeafhpnaaDoor
open Go.RowKit Go.Sep
attribute [local irreducible] Go.wpList Go.Code.wp

def x0 : Fe := ⟨1, [], [65, 110, 110]⟩
/-- the names of the kinds, as they are laid -/
def NmT (I : IM) : Prop := ∃ cs T fr, I 0 = some (.cells cs T fr) ∧ cs[1]? = some (.string ⟨#[110, 97, 109, 101]⟩)
theorem NmT.mono {I J : IM} (le : I.Le J) (h : NmT I) : NmT J := by
  obtain ⟨cs, T, fr, h1, h2⟩ := h
  exact ⟨cs, T, fr, le _ _ h1, h2⟩
theorem nm_ld {I : IM} {w : World} (hs : I.Sub w) (h : NmT I) : (Instr.loadAt 9 (.pointer (some ⟨0, 1, none⟩))).run Tryd.prog w = .ok (.string ⟨#[110, 97, 109, 101]⟩) w := by
  obtain ⟨cs, T, fr, h1, h2⟩ := h
  have c1 := run_cell (a := ⟨0, 1, none⟩) (hs _ _ h1) rfl rfl
  rw [h2] at c1
  have e : (Instr.loadAt 9 (.pointer (some ⟨0, 1, none⟩))).run Tryd.prog w = (load ⟨0, 1, none⟩).run Tryd.prog w := by kernel_rfl
  rw [e]; simp only [load, Sem.run, c1]
theorem u8_mono {I J : IM} (le : I.Le J) (h : Tx.U8 I) : Tx.U8 J := fun w hw => h w (fun k o e => hw k o (le k o e))
theorem fun_mono {P : Program} {f : FuncId} {args : Array Value} {I : IM} {R R' : Value → IM → Prop} (h : Fun P f args I R) (k : ∀ v J, R v J → R' v J) : Fun P f args I R' :=
  fun w hw => (h w hw).mono fun e w' ⟨v, J, H, he, s, q⟩ => ⟨v, J, H, he, s, k v J q⟩
theorem ckNone {I : IM} (hT : Tx.U8 I) : Fun Tryd.prog 60 #[.string ⟨#[]⟩, .int .i64 12] I (fun v J => v = .int .i64 0) :=
  fun_mono (Tx.check_c (l := []) (mi := 12) hT (by decide)) (fun v J h => h.trans (congrArg (fun q : Nat => Value.int .i64 (q : Int)) (show Tx.ckE [] 12 = 0 by decide +kernel)))
theorem ckAnn {I : IM} (hT : Tx.U8 I) : Fun Tryd.prog 60 #[.string ⟨#[65, 110, 110]⟩, .int .i64 40] I (fun v J => v = .int .i64 0) :=
  fun_mono (Tx.check_c (l := [65, 110, 110]) (mi := 40) hT (by decide)) (fun v J h => h.trans (congrArg (fun q : Nat => Value.int .i64 (q : Int)) (show Tx.ckE [65, 110, 110] 40 = 0 by decide +kernel)))
theorem foldAnn {I : IM} : Fun Tryd.prog 100 #[.string ⟨#[65, 110, 110]⟩] I (fun v J => v = .string ⟨#[65, 110, 110]⟩) :=
  fun_mono (Tx.fold_c (l := [65, 110, 110]) (by decide)) (fun v J h => h.trans (congrArg (fun q : List UInt8 => Value.string ⟨q.toArray⟩) (show Tx.fldS [65, 110, 110] = [65, 110, 110] by decide +kernel)))

theorem semlem0 {w : World} : (Instr.indexAt 98 (.pointer (some ⟨0, 0, none⟩)) (.int .i64 1)).run Tryd.prog w = .ok (.pointer (some ⟨0, 1, none⟩)) w := by kernel_rfl
set_option maxHeartbeats 400000 in
theorem kindName_c {I : IM} (hN : NmT I) : Fun Tryd.prog 27 #[.int .i64 1] I (fun v J => v = .string ⟨#[110, 97, 109, 101]⟩) := by
  refine enter_rule 12 [(0, .int .i64 1)] Tryd.func27 rfl (by kernel_rfl) ?_
  intro w s
  refine wp_seq ?_
  refine region_rule ?_
  refine ops_rule (C := []) [] [] 1 [] 0 (fun φ1 => [(2, .string ⟨#[]⟩)]) (fun φ1 => []) (fun φ1 => []) s trivial (fun φ1 => by kernel_rfl) ?_
  intro φ1 w1 s
  refine ops_done (by kernel_rfl) ?_
  refine wp_seq ?_
  refine wp_seq ?_
  refine region_rule ?_
  refine ops_rule (C := []) [] [] 6 [] 0 (fun φ2 => [(8, .bool false), (7, .bool false), (6, .int .i64 1), (5, .bool false), (4, .bool false), (3, .int .i64 1)]) (fun φ2 => []) (fun φ2 => []) s trivial (fun φ2 => by kernel_rfl) ?_
  intro φ2 w2 s
  refine ops_done (by kernel_rfl) ?_
  refine cond_false_rule (b := false) (by kernel_rfl) rfl ?_
  refine wp_skip ?_
  refine wp_seq ?_
  refine region_rule ?_
  refine ops_rule (C := []) [] [] 1 [] 0 (fun φ3 => [(9, .int .i64 1)]) (fun φ3 => []) (fun φ3 => []) s trivial (fun φ3 => by kernel_rfl) ?_
  intro φ3 w3 s
  refine sem_rule (Instr.indexAt 98 (.pointer (some ⟨0, 0, none⟩)) (.int .i64 1)) (some 10) (.pointer (some ⟨0, 1, none⟩)) (by kernel_rfl) (semlem0) ?_
  refine sem_rule (Instr.loadAt 9 (.pointer (some ⟨0, 1, none⟩))) (some 11) (.string ⟨#[110, 97, 109, 101]⟩) (by kernel_rfl) (nm_ld s.sub hN) ?_
  refine ops_rule (C := []) [] [] 1 [] 0 (fun φ4 => [(2, .string ⟨#[110, 97, 109, 101]⟩)]) (fun φ4 => []) (fun φ4 => []) s trivial (fun φ4 => by kernel_rfl) ?_
  intro φ4 w4 s
  refine ops_done (by kernel_rfl) ?_
  refine wp_ret ?_
  refine ret_rule (C := []) [] [] (.string ⟨#[110, 97, 109, 101]⟩) [] [] s trivial (by kernel_rfl) ?_
  exact ⟨_, _, _, rfl, s, rfl⟩

theorem semlem1 {w : World} : (binOp .eql 9 (.string ⟨#[65, 110, 110]⟩) (.string ⟨#[]⟩)).run Tryd.prog w = .ok (.bool false) w := by kernel_rfl
theorem semlem2 {w : World} : (binOp .neq 9 (.string ⟨#[65, 110, 110]⟩) (.string ⟨#[65, 110, 110]⟩)).run Tryd.prog w = .ok (.bool false) w := by kernel_rfl
set_option maxHeartbeats 1000000 in
theorem fits_c {I : IM} : Fun Tryd.prog 61 #[.agg #[.int .i64 1, .string ⟨#[]⟩, .string ⟨#[65, 110, 110]⟩]] I (fun v J => v = .bool true) := by
  refine enter_rule 29 [(0, .agg #[.int .i64 1, .string ⟨#[]⟩, .string ⟨#[65, 110, 110]⟩])] Tryd.func61 rfl (by kernel_rfl) ?_
  intro w s
  refine wp_seq ?_
  refine region_rule ?_
  refine ops_rule (C := []) [] [] 2 [] 1 (fun φ1 => [(2, .bool false), (1, .pointer (some ⟨(φ1 0), 0, none⟩))]) (fun φ1 => [((φ1 0), .cells #[.int .i64 1, .string ⟨#[]⟩, .string ⟨#[65, 110, 110]⟩] 39)]) (fun φ1 => []) s trivial (fun φ1 => by kernel_rfl) ?_
  intro φ1 w1 s
  refine ops_done (by kernel_rfl) ?_
  refine wp_seq ?_
  refine wp_block ?_
  refine wp_seq ?_
  refine draw_rule (C := []) ⟨(fun φ2 xs2 => [.look 0 [] [], .look 0 [.o 0] [(φ1 0)], .ran (binOp .eql 9 (.string ⟨#[65, 110, 110]⟩) (.string ⟨#[]⟩)), .look 0 [] [], .look 0 [] [], .look 0 [.o 0] [(φ1 0)], .look 0 [] [], .look 0 [.o 0] [(φ1 0)], .call 100 #[.string ⟨#[65, 110, 110]⟩], .ran (binOp .neq 9 (.string ⟨#[65, 110, 110]⟩) (.string ⟨#[65, 110, 110]⟩)), .look 0 [] [], .look 0 [] []]), (fun φ2 xs2 => [.pointer (some ⟨(φ1 0), 2, none⟩), .string ⟨#[65, 110, 110]⟩, .bool false, .bool false, .pointer (some ⟨(φ1 0), 2, none⟩), .string ⟨#[65, 110, 110]⟩, .pointer (some ⟨(φ1 0), 2, none⟩), .string ⟨#[65, 110, 110]⟩, .string ⟨#[65, 110, 110]⟩, .bool false, .bool false, .bool false]), (fun φ2 xs2 => [[((φ1 0), .cells #[.int .i64 1, .string ⟨#[]⟩, .string ⟨#[65, 110, 110]⟩] 39)]]), (fun φ2 xs2 => [[default, default, default, default, default, default, default, default, default, default, default, default]]), [], [1, 1, 6, 1, 1, 1, 1, 1, 3, 6, 1, 1]⟩ (fun j => ([MP.any, MP.any, MP.any, MP.any, MP.any, MP.any, MP.any, MP.any, MP.any, MP.any, MP.any, MP.any] : List MP).getD j MP.any) [8] [] [2, 9] (fun φ2 xs2 => []) (fun φ2 xs2 => [(4, .pointer (some ⟨(φ1 0), 2, none⟩)), (5, .string ⟨#[65, 110, 110]⟩), (6, .bool false), (7, .bool false), (8, .pointer (some ⟨(φ1 0), 2, none⟩)), (9, .string ⟨#[65, 110, 110]⟩), (10, .pointer (some ⟨(φ1 0), 2, none⟩)), (11, .string ⟨#[65, 110, 110]⟩), (12, .string ⟨#[65, 110, 110]⟩), (13, .bool false), (14, .bool false), (3, .bool false)]) (fun φ2 xs2 => [((φ1 0), .cells #[.int .i64 1, .string ⟨#[]⟩, .string ⟨#[65, 110, 110]⟩] 39)]) s trivial (by kernel_rfl) (by kernel_rfl) (fun _ _ => by kernel_rfl) (fun _ _ => by kernel_rfl) ⟨fun _ _ => by kernel_rfl, fun _ _ => by kernel_rfl, fun _ _ => by kernel_rfl, fun _ _ => by kernel_rfl⟩ (fun _ _ _ => by kernel_rfl) (fun _ _ => by kernel_rfl) (fun _ _ => by kernel_rfl) (fun _ _ => by kernel_rfl) (fun _ _ => by kernel_rfl) (fun _ _ => by kernel_rfl) trivial ⟨kcast (A := ∀ (φ2 : Nat → Nat) (xs2 : Xs) (J : IM) (w : World), I.Le J → J.Sub w → ((binOp .eql 9 (.string ⟨#[65, 110, 110]⟩) (.string ⟨#[]⟩)) : Sem Value).run Tryd.prog w = .ok (.bool false) w) (by kernel_rfl) (fun φ2 xs2 J w hJ hS => semlem1), ⟨kcast (A := ∀ (φ2 : Nat → Nat) (xs2 : Xs) (J : IM) (w : World), I.Le J → J.Sub w → ((binOp .neq 9 (.string ⟨#[65, 110, 110]⟩) (.string ⟨#[65, 110, 110]⟩)) : Sem Value).run Tryd.prog w = .ok (.bool false) w) (by kernel_rfl) (fun φ2 xs2 J w hJ hS => semlem2), trivial⟩⟩ (by kernel_rfl) ⟨?c2_8, trivial⟩ ?k2
  case c2_8 =>
    refine kcast (A := ∀ (φ2 : Nat → Nat) (xs2 : Xs) (J8_2 : IM), I.Le J8_2 → Fun Tryd.prog 100 #[.string ⟨#[65, 110, 110]⟩] J8_2 (fun v J' => ∃ x : UX, v = .string ⟨#[65, 110, 110]⟩ ∧ (True))) (by kernel_rfl) ?_
    intro φ2 xs2 J8_2 leJ
    exact Fun.mono (foldAnn) (fun v J' _ h => ⟨UX.d, h, trivial⟩)
  case k2 =>
    rintro φ2 xs2 I2 w2 le2 s _
    refine cond_false_rule (b := false) (by kernel_rfl) rfl ?_
    refine wp_seq ?_
    refine region_rule ?_
    refine ops_rule (C := []) [((φ1 0), .cells #[.int .i64 1, .string ⟨#[]⟩, .string ⟨#[65, 110, 110]⟩] 39)] [] 4 [.o 0] 0 (fun φ3 => [(15, .bool false), (18, .bool false), (17, .int .i64 1), (16, .pointer (some ⟨(φ1 0), 0, none⟩))]) (fun φ3 => [((φ1 0), .cells #[.int .i64 1, .string ⟨#[]⟩, .string ⟨#[65, 110, 110]⟩] 39)]) (fun φ3 => [(φ1 0)]) s trivial (fun φ3 => by kernel_rfl) ?_
    intro φ3 w3 s
    refine ops_done (by kernel_rfl) ?_
    refine cond_false_rule (b := false) (by kernel_rfl) rfl ?_
    refine wp_seq ?_
    refine region_rule ?_
    refine ops_rule (C := []) [((φ1 0), .cells #[.int .i64 1, .string ⟨#[]⟩, .string ⟨#[65, 110, 110]⟩] 39)] [] 4 [.o 0] 0 (fun φ4 => [(22, .bool false), (25, .bool false), (24, .int .i64 1), (23, .pointer (some ⟨(φ1 0), 0, none⟩))]) (fun φ4 => [((φ1 0), .cells #[.int .i64 1, .string ⟨#[]⟩, .string ⟨#[65, 110, 110]⟩] 39)]) (fun φ4 => [(φ1 0)]) s trivial (fun φ4 => by kernel_rfl) ?_
    intro φ4 w4 s
    refine ops_done (by kernel_rfl) ?_
    refine cond_false_rule (b := false) (by kernel_rfl) rfl ?_
    refine wp_skip ?_
    refine wp_seq ?_
    refine region_rule ?_
    refine ops_rule (C := []) [((φ1 0), .cells #[.int .i64 1, .string ⟨#[]⟩, .string ⟨#[65, 110, 110]⟩] 39)] [] 1 [] 0 (fun φ5 => [(2, .bool true)]) (fun φ5 => [((φ1 0), .cells #[.int .i64 1, .string ⟨#[]⟩, .string ⟨#[65, 110, 110]⟩] 39)]) (fun φ5 => []) s trivial (fun φ5 => by kernel_rfl) ?_
    intro φ5 w5 s
    refine ops_done (by kernel_rfl) ?_
    refine wp_ret ?_
    refine ret_rule (C := []) [((φ1 0), .cells #[.int .i64 1, .string ⟨#[]⟩, .string ⟨#[65, 110, 110]⟩] 39)] [] (.bool true) [] [] s trivial (by kernel_rfl) ?_
    exact ⟨_, _, _, rfl, s, rfl⟩

theorem semlem3 {w : World} : (binOp .eql 9 (.string ⟨#[110, 97, 109, 101]⟩) (.string ⟨#[]⟩)).run Tryd.prog w = .ok (.bool false) w := by kernel_rfl
set_option maxHeartbeats 1000000 in
theorem right_c {I : IM} (hN : NmT I) (hT : Tx.U8 I) : Fun Tryd.prog 22 #[.agg #[.int .i64 1, .string ⟨#[]⟩, .string ⟨#[65, 110, 110]⟩]] I (fun v J => v = .int .i64 0) := by
  refine enter_rule 24 [(0, .agg #[.int .i64 1, .string ⟨#[]⟩, .string ⟨#[65, 110, 110]⟩])] Tryd.func22 rfl (by kernel_rfl) ?_
  intro w s
  refine wp_seq ?_
  refine region_rule ?_
  refine ops_rule (C := []) [] [] 2 [] 1 (fun φ1 => [(2, .int .i64 0), (1, .pointer (some ⟨(φ1 0), 0, none⟩))]) (fun φ1 => [((φ1 0), .cells #[.int .i64 1, .string ⟨#[]⟩, .string ⟨#[65, 110, 110]⟩] 39)]) (fun φ1 => []) s trivial (fun φ1 => by kernel_rfl) ?_
  intro φ1 w1 s
  refine ops_done (by kernel_rfl) ?_
  refine wp_seq ?_
  refine wp_seq ?_
  refine region_rule ?_
  refine ops_rule (C := []) [((φ1 0), .cells #[.int .i64 1, .string ⟨#[]⟩, .string ⟨#[65, 110, 110]⟩] 39)] [] 2 [.o 0] 0 (fun φ2 => [(6, .int .i64 1), (5, .pointer (some ⟨(φ1 0), 0, none⟩))]) (fun φ2 => [((φ1 0), .cells #[.int .i64 1, .string ⟨#[]⟩, .string ⟨#[65, 110, 110]⟩] 39)]) (fun φ2 => [(φ1 0)]) s trivial (fun φ2 => by kernel_rfl) ?_
  intro φ2 w2 s
  refine call_rule (some 7) s (kindName_c hN) (by kernel_rfl) ?_
  intro v3 I3 w3 le3 h3 s
  replace hN := NmT.mono le3 hN
  replace hT := u8_mono le3 hT
  obtain rfl := h3
  refine sem_rule (binOp .eql 9 (.string ⟨#[110, 97, 109, 101]⟩) (.string ⟨#[]⟩)) (some 8) (.bool false) (by kernel_rfl) (semlem3) ?_
  refine ops_done (by kernel_rfl) ?_
  refine cond_false_rule (b := false) (by kernel_rfl) rfl ?_
  refine wp_skip ?_
  refine wp_seq ?_
  refine wp_seq ?_
  refine region_rule ?_
  refine ops_rule (C := []) [((φ1 0), .cells #[.int .i64 1, .string ⟨#[]⟩, .string ⟨#[65, 110, 110]⟩] 39)] [] 2 [.o 0] 0 (fun φ4 => [(10, .string ⟨#[]⟩), (9, .pointer (some ⟨(φ1 0), 1, none⟩))]) (fun φ4 => [((φ1 0), .cells #[.int .i64 1, .string ⟨#[]⟩, .string ⟨#[65, 110, 110]⟩] 39)]) (fun φ4 => [(φ1 0)]) s trivial (fun φ4 => by kernel_rfl) ?_
  intro φ4 w4 s
  refine call_rule (some 11) s (ckNone hT) (by kernel_rfl) ?_
  intro v5 I5 w5 le5 h5 s
  replace hN := NmT.mono le5 hN
  replace hT := u8_mono le5 hT
  obtain rfl := h5
  refine ops_rule (C := []) [((φ1 0), .cells #[.int .i64 1, .string ⟨#[]⟩, .string ⟨#[65, 110, 110]⟩] 39)] [] 1 [] 0 (fun φ6 => [(3, .int .i64 0)]) (fun φ6 => [((φ1 0), .cells #[.int .i64 1, .string ⟨#[]⟩, .string ⟨#[65, 110, 110]⟩] 39)]) (fun φ6 => []) s trivial (fun φ6 => by kernel_rfl) ?_
  intro φ6 w6 s
  refine ops_done (by kernel_rfl) ?_
  refine wp_seq ?_
  refine region_rule ?_
  refine ops_rule (C := []) [((φ1 0), .cells #[.int .i64 1, .string ⟨#[]⟩, .string ⟨#[65, 110, 110]⟩] 39)] [] 2 [] 0 (fun φ7 => [(13, .bool false), (12, .int .i64 0)]) (fun φ7 => [((φ1 0), .cells #[.int .i64 1, .string ⟨#[]⟩, .string ⟨#[65, 110, 110]⟩] 39)]) (fun φ7 => []) s trivial (fun φ7 => by kernel_rfl) ?_
  intro φ7 w7 s
  refine ops_done (by kernel_rfl) ?_
  refine cond_false_rule (b := false) (by kernel_rfl) rfl ?_
  refine wp_skip ?_
  refine wp_seq ?_
  refine wp_seq ?_
  refine region_rule ?_
  refine ops_rule (C := []) [((φ1 0), .cells #[.int .i64 1, .string ⟨#[]⟩, .string ⟨#[65, 110, 110]⟩] 39)] [] 2 [.o 0] 0 (fun φ8 => [(16, .string ⟨#[65, 110, 110]⟩), (15, .pointer (some ⟨(φ1 0), 2, none⟩))]) (fun φ8 => [((φ1 0), .cells #[.int .i64 1, .string ⟨#[]⟩, .string ⟨#[65, 110, 110]⟩] 39)]) (fun φ8 => [(φ1 0)]) s trivial (fun φ8 => by kernel_rfl) ?_
  intro φ8 w8 s
  refine call_rule (some 17) s (ckAnn hT) (by kernel_rfl) ?_
  intro v9 I9 w9 le9 h9 s
  replace hN := NmT.mono le9 hN
  replace hT := u8_mono le9 hT
  obtain rfl := h9
  refine ops_rule (C := []) [((φ1 0), .cells #[.int .i64 1, .string ⟨#[]⟩, .string ⟨#[65, 110, 110]⟩] 39)] [] 1 [] 0 (fun φ10 => [(4, .int .i64 0)]) (fun φ10 => [((φ1 0), .cells #[.int .i64 1, .string ⟨#[]⟩, .string ⟨#[65, 110, 110]⟩] 39)]) (fun φ10 => []) s trivial (fun φ10 => by kernel_rfl) ?_
  intro φ10 w10 s
  refine ops_done (by kernel_rfl) ?_
  refine wp_seq ?_
  refine region_rule ?_
  refine ops_rule (C := []) [((φ1 0), .cells #[.int .i64 1, .string ⟨#[]⟩, .string ⟨#[65, 110, 110]⟩] 39)] [] 2 [] 0 (fun φ11 => [(19, .bool false), (18, .int .i64 0)]) (fun φ11 => [((φ1 0), .cells #[.int .i64 1, .string ⟨#[]⟩, .string ⟨#[65, 110, 110]⟩] 39)]) (fun φ11 => []) s trivial (fun φ11 => by kernel_rfl) ?_
  intro φ11 w11 s
  refine ops_done (by kernel_rfl) ?_
  refine cond_false_rule (b := false) (by kernel_rfl) rfl ?_
  refine wp_skip ?_
  refine wp_seq ?_
  refine wp_seq ?_
  refine region_rule ?_
  refine ops_rule (C := []) [((φ1 0), .cells #[.int .i64 1, .string ⟨#[]⟩, .string ⟨#[65, 110, 110]⟩] 39)] [] 1 [.o 0, .o 0, .o 0] 0 (fun φ12 => [(21, .agg #[.int .i64 1, .string ⟨#[]⟩, .string ⟨#[65, 110, 110]⟩])]) (fun φ12 => [((φ1 0), .cells #[.int .i64 1, .string ⟨#[]⟩, .string ⟨#[65, 110, 110]⟩] 39)]) (fun φ12 => [(φ1 0), (φ1 0), (φ1 0)]) s trivial (fun φ12 => by kernel_rfl) ?_
  intro φ12 w12 s
  refine call_rule (some 22) s (fits_c) (by kernel_rfl) ?_
  intro v13 I13 w13 le13 h13 s
  replace hN := NmT.mono le13 hN
  replace hT := u8_mono le13 hT
  obtain rfl := h13
  refine ops_rule (C := []) [((φ1 0), .cells #[.int .i64 1, .string ⟨#[]⟩, .string ⟨#[65, 110, 110]⟩] 39)] [] 1 [] 0 (fun φ14 => [(23, .bool false)]) (fun φ14 => [((φ1 0), .cells #[.int .i64 1, .string ⟨#[]⟩, .string ⟨#[65, 110, 110]⟩] 39)]) (fun φ14 => []) s trivial (fun φ14 => by kernel_rfl) ?_
  intro φ14 w14 s
  refine ops_done (by kernel_rfl) ?_
  refine cond_false_rule (b := false) (by kernel_rfl) rfl ?_
  refine wp_skip ?_
  refine wp_seq ?_
  refine region_rule ?_
  refine ops_rule (C := []) [((φ1 0), .cells #[.int .i64 1, .string ⟨#[]⟩, .string ⟨#[65, 110, 110]⟩] 39)] [] 1 [] 0 (fun φ15 => [(2, .int .i64 0)]) (fun φ15 => [((φ1 0), .cells #[.int .i64 1, .string ⟨#[]⟩, .string ⟨#[65, 110, 110]⟩] 39)]) (fun φ15 => []) s trivial (fun φ15 => by kernel_rfl) ?_
  intro φ15 w15 s
  refine ops_done (by kernel_rfl) ?_
  refine wp_ret ?_
  refine ret_rule (C := []) [((φ1 0), .cells #[.int .i64 1, .string ⟨#[]⟩, .string ⟨#[65, 110, 110]⟩] 39)] [] (.int .i64 0) [] [] s trivial (by kernel_rfl) ?_
  exact ⟨_, _, _, rfl, s, rfl⟩

end Go.Proofs.YtcpmjogeafhpnaaDoor
/- The card of the example. -/
set_option linter.all false
set_option maxRecDepth 100000
namespace Go.Proofs.YtcpmjogeafhpnaaDoor
open Go.RowKit Go.Sep
attribute [local irreducible] Go.wpList Go.Code.wp

theorem fsl_rb {I : IM} {k : Nat} (h : I k = some (.cells #[.int .i64 1, .string ⟨#[]⟩, .string ⟨#[65, 110, 110]⟩] 39)) : FSl I [x0] (.slice (some ⟨k, 0, none⟩) 1 1) := by
  refine ⟨some ⟨k, 0, none⟩, 1, rfl, Nat.le_refl _, fun j x hj => ?_⟩
  match j with
  | 0 => simp only [List.getElem?_cons_zero, Option.some.injEq] at hj; subst hj; exact ⟨k, 0, _, 39, (0, 0), rfl, h, rfl, rfl, rfl⟩
  | j + 1 => simp at hj
theorem fsl_addr {I : IM} {x : Fe} {a : Option Addr} {c : Nat} (h : FSl I [x] (.slice a 1 c)) : ∃ b o, a = some ⟨b, o, none⟩ := by
  obtain ⟨a', c', hv, hc, hr⟩ := h
  cases hv
  obtain ⟨b, o, cs, T, fr, rfl, h2⟩ := hr 0 x rfl
  exact ⟨b, o, rfl⟩
theorem row_one39 {v : Value} {F : List OB} (h : RowH 39 3 v (0 + 1) ([] ++ fc x0) F) : RowH 39 3 v 1 (fcs [x0]) F := h

set_option maxHeartbeats 1000000 in
theorem Ysearch_c {I : IM} : Fun Tryd.prog 97 #[.slice none 0 0, .agg #[.int .i64 1, .string ⟨#[]⟩, .string ⟨#[65, 110, 110]⟩], .func (.func 72) #[] #[]] I (fun v J => v = .tuple #[.int .i64 0, .bool false]) := by
  refine enter_rule 49 [(0, .slice none 0 0), (1, .agg #[.int .i64 1, .string ⟨#[]⟩, .string ⟨#[65, 110, 110]⟩]), (2, .func (.func 72) #[] #[])] Tryd.func97 rfl (by kernel_rfl) ?_
  intro w s
  refine wp_seq ?_
  refine region_rule ?_
  refine ops_rule (C := []) [] [] 3 [] 1 (fun φ1 => [(7, .bool false), (6, .int .i64 0), (4, .pointer (some ⟨(φ1 0), 0, none⟩))]) (fun φ1 => [((φ1 0), .cells #[.int .i64 1, .string ⟨#[]⟩, .string ⟨#[65, 110, 110]⟩] 39)]) (fun φ1 => []) s trivial (fun φ1 => by kernel_rfl) ?_
  intro φ1 w1 s
  refine ops_done (by kernel_rfl) ?_
  refine wp_seq ?_
  refine region_rule ?_
  refine ops_rule (C := []) [((φ1 0), .cells #[.int .i64 1, .string ⟨#[]⟩, .string ⟨#[65, 110, 110]⟩] 39)] [] 3 [] 0 (fun φ2 => [(8, .int .i64 0), (13, .int .i64 0), (12, .slice none 0 0)]) (fun φ2 => [((φ1 0), .cells #[.int .i64 1, .string ⟨#[]⟩, .string ⟨#[65, 110, 110]⟩] 39)]) (fun φ2 => []) s trivial (fun φ2 => by kernel_rfl) ?_
  intro φ2 w2 s
  refine ops_done (by kernel_rfl) ?_
  refine wp_seq ?_
  refine region_rule ?_
  refine ops_rule (C := []) [((φ1 0), .cells #[.int .i64 1, .string ⟨#[]⟩, .string ⟨#[65, 110, 110]⟩] 39)] [] 3 [] 0 (fun φ3 => [(10, .int .i64 0), (9, .int .i64 0), (14, .int .i64 0)]) (fun φ3 => [((φ1 0), .cells #[.int .i64 1, .string ⟨#[]⟩, .string ⟨#[65, 110, 110]⟩] 39)]) (fun φ3 => []) s trivial (fun φ3 => by kernel_rfl) ?_
  intro φ3 w3 s
  refine ops_done (by kernel_rfl) ?_
  refine wp_seq ?_
  refine wp_block ?_
  refine Go.wp_loop_rounds 1 ?_
  refine rounds_step (n := 0) ?_
  refine wp_seq ?_
  refine wp_seq ?_
  refine region_rule ?_
  refine ops_rule (C := []) [((φ1 0), .cells #[.int .i64 1, .string ⟨#[]⟩, .string ⟨#[65, 110, 110]⟩] 39)] [] 3 [] 0 (fun φ4 => [(17, .bool false), (16, .int .i64 0), (15, .int .i64 0)]) (fun φ4 => [((φ1 0), .cells #[.int .i64 1, .string ⟨#[]⟩, .string ⟨#[65, 110, 110]⟩] 39)]) (fun φ4 => []) s trivial (fun φ4 => by kernel_rfl) ?_
  intro φ4 w4 s
  refine ops_done (by kernel_rfl) ?_
  refine cond_false_rule (b := false) (by kernel_rfl) rfl ?_
  refine wp_exit ?_
  refine wp_seq ?_
  refine draw_rule (C := []) ⟨(fun φ5 xs5 => [.look 0 [] [], .look 0 [] [], .look 0 [] [], .look 0 [] [], .look 0 [] [], .skip, .skip, .skip, .skip, .skip, .skip, .skip, .skip, .look 0 [] [], .look 0 [] [], .look 0 [] []]), (fun φ5 xs5 => [.int .i64 0, .int .i64 0, .int .i64 0, .bool false, .bool false, undef, undef, undef, undef, undef, undef, undef, undef, .bool false, .int .i64 0, .bool false]), (fun φ5 xs5 => [[((φ1 0), .cells #[.int .i64 1, .string ⟨#[]⟩, .string ⟨#[65, 110, 110]⟩] 39)]]), (fun φ5 xs5 => [[default, default, default, default, default, default, default, default, default, default, default, default, default, default, default, default]]), [], [1, 1, 1, 1, 1, 0, 0, 0, 0, 0, 0, 0, 0, 1, 1, 1]⟩ (fun j => ([MP.any, MP.any, MP.any, MP.any, MP.any, MP.any, MP.any, MP.any, MP.any, MP.any, MP.any, MP.any, MP.any, MP.any, MP.any, MP.any] : List MP).getD j MP.any) [] [] [] (fun φ5 xs5 => []) (fun φ5 xs5 => [(35, .int .i64 0), (36, .int .i64 0), (37, .int .i64 0), (38, .bool false), (39, .bool false), (40, undef), (41, undef), (42, undef), (43, undef), (44, undef), (45, undef), (46, undef), (47, undef), (48, .bool false), (6, .int .i64 0), (7, .bool false)]) (fun φ5 xs5 => [((φ1 0), .cells #[.int .i64 1, .string ⟨#[]⟩, .string ⟨#[65, 110, 110]⟩] 39)]) s trivial (by kernel_rfl) (by kernel_rfl) (fun _ _ => by kernel_rfl) (fun _ _ => by kernel_rfl) ⟨fun _ _ => by kernel_rfl, fun _ _ => by kernel_rfl, fun _ _ => by kernel_rfl, fun _ _ => by kernel_rfl⟩ (fun _ _ _ => by kernel_rfl) (fun _ _ => by kernel_rfl) (fun _ _ => by kernel_rfl) (fun _ _ => by kernel_rfl) (fun _ _ => by kernel_rfl) (fun _ _ => by kernel_rfl) trivial trivial (by kernel_rfl) trivial ?k5
  case k5 =>
    rintro φ5 xs5 I5 w5 le5 s 
    refine wp_ret ?_
    refine ret_rule (C := []) [((φ1 0), .cells #[.int .i64 1, .string ⟨#[]⟩, .string ⟨#[65, 110, 110]⟩] 39)] [] (.tuple #[.int .i64 0, .bool false]) [] [] s trivial (by kernel_rfl) ?_
    exact ⟨_, _, _, rfl, s, rfl⟩

theorem semlem4 {w : World} : (Instr.sliceAt 22 (.slice none 0 0) (some (.int .i64 0)) none none).run Tryd.prog w = .ok (.slice none 0 0) w := by kernel_rfl
set_option maxHeartbeats 1000000 in
theorem insert_c {I : IM} {a0 : Option Addr} {c0 : Nat} (h0 : FSl I [x0] (.slice a0 1 c0)) : Fun Tryd.prog 98 #[.slice none 0 0, .int .i64 0, .slice a0 1 c0] I (fun v J => ∃ a c, v = .slice a 1 c ∧ FSl J [x0] (.slice a 1 c)) := by
  refine enter_rule 95 [(0, .slice none 0 0), (1, .int .i64 0), (2, .slice a0 1 c0)] Tryd.func98 rfl (by kernel_rfl) ?_
  intro w s
  refine wp_seq ?_
  refine region_rule ?_
  refine ops_rule (C := []) [] [] 1 [] 0 (fun φ1 => [(6, .slice none 0 0)]) (fun φ1 => []) (fun φ1 => []) s trivial (fun φ1 => by kernel_rfl) ?_
  intro φ1 w1 s
  refine ops_done (by kernel_rfl) ?_
  refine wp_seq ?_
  refine region_rule ?_
  refine ops_rule (C := []) [] [] 2 [] 0 (fun φ2 => [(11, .int .i64 0), (10, .slice none 0 0)]) (fun φ2 => []) (fun φ2 => []) s trivial (fun φ2 => by kernel_rfl) ?_
  intro φ2 w2 s
  refine sem_rule (Instr.sliceAt 22 (.slice none 0 0) (some (.int .i64 0)) none none) (some 12) (.slice none 0 0) (by kernel_rfl) (semlem4) ?_
  refine ops_done (by kernel_rfl) ?_
  refine wp_seq ?_
  refine region_rule ?_
  refine ops_rule (C := []) [] [] 3 [] 0 (fun φ3 => [(7, .int .i64 1), (14, .int .i64 1), (13, .slice a0 1 c0)]) (fun φ3 => []) (fun φ3 => []) s trivial (fun φ3 => by kernel_rfl) ?_
  intro φ3 w3 s
  refine ops_done (by kernel_rfl) ?_
  refine wp_seq ?_
  refine wp_seq ?_
  refine region_rule ?_
  refine ops_rule (C := []) [] [] 2 [] 0 (fun φ4 => [(16, .bool false), (15, .int .i64 1)]) (fun φ4 => []) (fun φ4 => []) s trivial (fun φ4 => by kernel_rfl) ?_
  intro φ4 w4 s
  refine ops_done (by kernel_rfl) ?_
  refine cond_false_rule (b := false) (by kernel_rfl) rfl ?_
  refine wp_skip ?_
  refine wp_seq ?_
  refine region_rule ?_
  refine ops_rule (C := []) [] [] 3 [] 0 (fun φ5 => [(8, .int .i64 0), (19, .int .i64 0), (18, .slice none 0 0)]) (fun φ5 => []) (fun φ5 => []) s trivial (fun φ5 => by kernel_rfl) ?_
  intro φ5 w5 s
  refine ops_done (by kernel_rfl) ?_
  refine wp_seq ?_
  refine wp_seq ?_
  refine region_rule ?_
  refine ops_rule (C := []) [] [] 3 [] 0 (fun φ6 => [(22, .bool true), (21, .int .i64 0), (20, .int .i64 0)]) (fun φ6 => []) (fun φ6 => []) s trivial (fun φ6 => by kernel_rfl) ?_
  intro φ6 w6 s
  refine ops_done (by kernel_rfl) ?_
  refine cond_true_rule (b := true) (by kernel_rfl) rfl ?_
  refine wp_seq ?_
  refine region_rule ?_
  refine ops_rule (C := []) [] [] 2 [] 0 (fun φ7 => [(24, .slice a0 1 c0), (23, .slice none 0 0)]) (fun φ7 => []) (fun φ7 => []) s trivial (fun φ7 => by kernel_rfl) ?_
  intro φ7 w7 s
  refine append_rule (H := []) (F := []) 22 22 39 Tryd.t39 (.agg #[.int .i64 0, .string ⟨#[]⟩, .string ⟨#[]⟩]) 3 40 (some 25) s Tryd.underlying22 (by kernel_rfl) (by kernel_rfl) (by kernel_rfl) (by kernel_rfl) (by kernel_rfl) (by decide) (RowH.nil 39 3) (src_fsl s.sub h0) (by simp only [maxLen]; omega) (by omega) (by kernel_rfl) ?_
  intro v8 w8 F8 s h8
  obtain ⟨J8, le8, hk8, s⟩ := freeze_row39 (H := []) (F := F8) s (row_one39 h8)
  obtain ⟨a8, c8, hv8, -, hk8⟩ := hk8.open
  subst hv8
  replace hk8 : FSl J8 [x0] (.slice a8 1 c8) := hk8
  replace h0 := FSl.mono le8 h0
  refine ops_rule (C := []) [] [] 1 [] 0 (fun φ9 => [(6, .slice a8 1 c8)]) (fun φ9 => []) (fun φ9 => []) s trivial (fun φ9 => by kernel_rfl) ?_
  intro φ9 w9 s
  refine ops_done (by kernel_rfl) ?_
  refine wp_ret ?_
  refine ret_rule (C := []) [] [] (.slice a8 1 c8) [] [] s trivial (by kernel_rfl) ?_
  exact ⟨_, _, _, rfl, s, ⟨_, _, rfl, hk8⟩⟩

theorem semlem5 {w : World} {b0 c0 o0 : Nat} : (binOp .eql 22 (.slice (some ⟨b0, o0, none⟩) 1 c0) (.slice none 0 0)).run Tryd.prog w = .ok (.bool false) w := by kernel_rfl
set_option maxHeartbeats 1000000 in
theorem cloneF1_c {I : IM} {a0 : Option Addr} {c0 : Nat} (h0 : FSl I [x0] (.slice a0 1 c0)) : Fun Tryd.prog 59 #[.slice a0 1 c0] I (fun v J => ∃ a c, v = .slice a 1 c ∧ FSl J [x0] (.slice a 1 c)) := by
  obtain ⟨b0, o0, rfl⟩ := fsl_addr h0
  refine enter_rule 8 [(0, .slice (some ⟨b0, o0, none⟩) 1 c0)] Tryd.func59 rfl (by kernel_rfl) ?_
  intro w s
  refine wp_seq ?_
  refine region_rule ?_
  refine ops_rule (C := []) [] [] 1 [] 0 (fun φ1 => [(2, .slice none 0 0)]) (fun φ1 => []) (fun φ1 => []) s trivial (fun φ1 => by kernel_rfl) ?_
  intro φ1 w1 s
  refine ops_done (by kernel_rfl) ?_
  refine wp_seq ?_
  refine wp_seq ?_
  refine region_rule ?_
  refine ops_rule (C := []) [] [] 1 [] 0 (fun φ2 => [(3, .slice (some ⟨b0, o0, none⟩) 1 c0)]) (fun φ2 => []) (fun φ2 => []) s trivial (fun φ2 => by kernel_rfl) ?_
  intro φ2 w2 s
  refine sem_rule (binOp .eql 22 (.slice (some ⟨b0, o0, none⟩) 1 c0) (.slice none 0 0)) (some 4) (.bool false) (by kernel_rfl) (semlem5) ?_
  refine ops_done (by kernel_rfl) ?_
  refine cond_false_rule (b := false) (by kernel_rfl) rfl ?_
  refine wp_skip ?_
  refine wp_seq ?_
  refine region_rule ?_
  refine ops_rule (C := []) [] [] 2 [] 1 (fun φ3 => [(6, .slice (some ⟨b0, o0, none⟩) 1 c0), (5, .slice (some ⟨(φ3 0), 0, none⟩) 0 0)]) (fun φ3 => [((φ3 0), .cells #[] 39)]) (fun φ3 => []) s trivial (fun φ3 => by kernel_rfl) ?_
  intro φ3 w3 s
  refine append_rule (H := []) (F := [((φ3 0), .cells #[] 39)]) 22 22 39 Tryd.t39 (.agg #[.int .i64 0, .string ⟨#[]⟩, .string ⟨#[]⟩]) 3 40 (some 7) s Tryd.underlying22 (by kernel_rfl) (by kernel_rfl) (by kernel_rfl) (by kernel_rfl) (by kernel_rfl) (by decide) (row_new39 (φ3 0)) (src_fsl s.sub h0) (by simp only [maxLen]; omega) (by omega) (by kernel_rfl) ?_
  intro v4 w4 F4 s h4
  obtain ⟨J4, le4, hk4, s⟩ := freeze_row39 (H := []) (F := F4) s (row_one39 h4)
  obtain ⟨a4, c4, hv4, -, hk4⟩ := hk4.open
  subst hv4
  replace hk4 : FSl J4 [x0] (.slice a4 1 c4) := hk4
  replace h0 := FSl.mono le4 h0
  refine ops_rule (C := []) [] [] 1 [] 0 (fun φ5 => [(2, .slice a4 1 c4)]) (fun φ5 => []) (fun φ5 => []) s trivial (fun φ5 => by kernel_rfl) ?_
  intro φ5 w5 s
  refine ops_done (by kernel_rfl) ?_
  refine wp_ret ?_
  refine ret_rule (C := []) [] [] (.slice a4 1 c4) [] [] s trivial (by kernel_rfl) ?_
  exact ⟨_, _, _, rfl, s, ⟨_, _, rfl, hk4⟩⟩

set_option maxHeartbeats 1000000 in
theorem fieldsF1_c {I : IM} {a0 : Option Addr} {c0 : Nat} (h0 : FSl I [x0] (.slice a0 1 c0)) : Fun Tryd.prog 19 #[.agg #[.slice a0 1 c0]] I (fun v J => ∃ a c, v = .slice a 1 c ∧ FSl J [x0] (.slice a 1 c)) := by
  refine enter_rule 6 [(0, .agg #[.slice a0 1 c0])] Tryd.func19 rfl (by kernel_rfl) ?_
  intro w s
  refine wp_seq ?_
  refine region_rule ?_
  refine ops_rule (C := []) [] [] 2 [] 1 (fun φ1 => [(2, .slice none 0 0), (1, .pointer (some ⟨(φ1 0), 0, none⟩))]) (fun φ1 => [((φ1 0), .cells #[.slice a0 1 c0] 26)]) (fun φ1 => []) s trivial (fun φ1 => by kernel_rfl) ?_
  intro φ1 w1 s
  refine ops_done (by kernel_rfl) ?_
  refine wp_seq ?_
  refine region_rule ?_
  refine ops_rule (C := []) [((φ1 0), .cells #[.slice a0 1 c0] 26)] [] 2 [.o 0] 0 (fun φ2 => [(4, .slice a0 1 c0), (3, .pointer (some ⟨(φ1 0), 0, none⟩))]) (fun φ2 => [((φ1 0), .cells #[.slice a0 1 c0] 26)]) (fun φ2 => [(φ1 0)]) s trivial (fun φ2 => by kernel_rfl) ?_
  intro φ2 w2 s
  refine call_rule (some 5) s (cloneF1_c h0) (by kernel_rfl) ?_
  intro v3 I3 w3 le3 h3 s
  replace h0 := FSl.mono le3 h0
  obtain ⟨a3, c3, rfl, h3_0⟩ := h3
  refine ops_rule (C := []) [((φ1 0), .cells #[.slice a0 1 c0] 26)] [] 1 [] 0 (fun φ4 => [(2, .slice a3 1 c3)]) (fun φ4 => [((φ1 0), .cells #[.slice a0 1 c0] 26)]) (fun φ4 => []) s trivial (fun φ4 => by kernel_rfl) ?_
  intro φ4 w4 s
  refine ops_done (by kernel_rfl) ?_
  refine wp_ret ?_
  refine ret_rule (C := []) [((φ1 0), .cells #[.slice a0 1 c0] 26)] [] (.slice a3 1 c3) [] [] s trivial (by kernel_rfl) ?_
  exact ⟨_, _, _, rfl, s, ⟨_, _, rfl, h3_0⟩⟩

set_option maxHeartbeats 2000000 in
theorem Yof_c {I : IM} {a0 : Option Addr} {c0 : Nat} (h0 : FSl I [x0] (.slice a0 1 c0)) : Fun Tryd.prog 57 #[.slice a0 1 c0] I (fun v J => ∃ a c, v = .tuple #[.agg #[.slice a 1 c], .int .i64 0] ∧ FSl J [x0] (.slice a 1 c)) := by
  refine enter_rule 34 [(0, .slice a0 1 c0)] Tryd.func57 rfl (by kernel_rfl) ?_
  intro w s
  refine wp_seq ?_
  refine region_rule ?_
  refine ops_rule (C := []) [] [] 2 [] 1 (fun φ1 => [(3, .int .i64 0), (2, .pointer (some ⟨(φ1 0), 0, none⟩))]) (fun φ1 => [((φ1 0), .cells #[.slice none 0 0] 26)]) (fun φ1 => []) s trivial (fun φ1 => by kernel_rfl) ?_
  intro φ1 w1 s
  refine ops_done (by kernel_rfl) ?_
  refine wp_seq ?_
  refine region_rule ?_
  refine ops_rule (C := []) [((φ1 0), .cells #[.slice none 0 0] 26)] [] 1 [] 0 (fun φ2 => [(4, .slice none 0 0)]) (fun φ2 => [((φ1 0), .cells #[.slice none 0 0] 26)]) (fun φ2 => []) s trivial (fun φ2 => by kernel_rfl) ?_
  intro φ2 w2 s
  refine ops_done (by kernel_rfl) ?_
  refine wp_seq ?_
  refine wp_seq ?_
  refine region_rule ?_
  refine ops_rule (C := []) [((φ1 0), .cells #[.slice none 0 0] 26)] [] 3 [] 0 (fun φ3 => [(11, .int .i64 0), (10, .int .i64 1), (9, .slice a0 1 c0)]) (fun φ3 => [((φ1 0), .cells #[.slice none 0 0] 26)]) (fun φ3 => []) s trivial (fun φ3 => by kernel_rfl) ?_
  intro φ3 w3 s
  refine ops_done (by kernel_rfl) ?_
  refine wp_block ?_
  refine Go.wp_loop_rounds 2 ?_
  refine rounds_step (n := 1) ?_
  refine wp_seq ?_
  refine region_rule ?_
  refine ops_rule (C := []) [((φ1 0), .cells #[.slice none 0 0] 26)] [] 1 [] 0 (fun φ4 => [(12, .bool true)]) (fun φ4 => [((φ1 0), .cells #[.slice none 0 0] 26)]) (fun φ4 => []) s trivial (fun φ4 => by kernel_rfl) ?_
  intro φ4 w4 s
  refine ops_done (by kernel_rfl) ?_
  refine wp_seq ?_
  refine cond_true_rule (b := true) (by kernel_rfl) rfl ?_
  refine wp_skip ?_
  refine wp_seq ?_
  refine wp_block ?_
  refine wp_seq ?_
  refine region_rule ?_
  refine sem_rule (Instr.indexAt 22 (.slice a0 1 c0) (.int .i64 0)) (some 13) (.pointer (pAt a0 (0 * 3))) (by kernel_rfl) (fsl_idx22 (i := 0) h0 (by decide)) ?_
  refine sem_rule (Instr.loadAt 39 (.pointer (pAt a0 (0 * 3)))) (some 14) (.agg #[.int .i64 1, .string ⟨#[]⟩, .string ⟨#[65, 110, 110]⟩]) (by kernel_rfl) (fsl_ld39 (i := 0) s.sub h0 (by decide)) ?_
  refine ops_rule (C := []) [((φ1 0), .cells #[.slice none 0 0] 26)] [] 2 [.o 1, .o 1, .o 1] 1 (fun φ5 => [(6, .pointer (some ⟨(φ5 0), 0, none⟩))]) (fun φ5 => [((φ1 0), .cells #[.slice none 0 0] 26), ((φ5 0), .cells #[.int .i64 1, .string ⟨#[]⟩, .string ⟨#[65, 110, 110]⟩] 39)]) (fun φ5 => [(φ5 0), (φ5 0), (φ5 0)]) s trivial (fun φ5 => by kernel_rfl) ?_
  intro φ5 w5 s
  refine ops_done (by kernel_rfl) ?_
  refine wp_seq ?_
  refine region_rule ?_
  refine ops_rule (C := []) [((φ1 0), .cells #[.slice none 0 0] 26), ((φ5 0), .cells #[.int .i64 1, .string ⟨#[]⟩, .string ⟨#[65, 110, 110]⟩] 39)] [] 2 [.o 1, .o 1, .o 1] 0 (fun φ6 => [(17, .agg #[.int .i64 1, .string ⟨#[]⟩, .string ⟨#[65, 110, 110]⟩]), (16, .slice none 0 0)]) (fun φ6 => [((φ1 0), .cells #[.slice none 0 0] 26), ((φ5 0), .cells #[.int .i64 1, .string ⟨#[]⟩, .string ⟨#[65, 110, 110]⟩] 39)]) (fun φ6 => [(φ5 0), (φ5 0), (φ5 0)]) s trivial (fun φ6 => by kernel_rfl) ?_
  intro φ6 w6 s
  refine call_rule (some 18) s (Ysearch_c) (by kernel_rfl) ?_
  intro v7 I7 w7 le7 h7 s
  replace h0 := FSl.mono le7 h0
  obtain rfl := h7
  refine ops_rule (C := []) [((φ1 0), .cells #[.slice none 0 0] 26), ((φ5 0), .cells #[.int .i64 1, .string ⟨#[]⟩, .string ⟨#[65, 110, 110]⟩] 39)] [] 5 [] 0 (fun φ8 => [(8, .bool false), (7, .int .i64 0), (20, .bool false), (19, .int .i64 0), (15, .tuple #[.int .i64 0, .bool false])]) (fun φ8 => [((φ1 0), .cells #[.slice none 0 0] 26), ((φ5 0), .cells #[.int .i64 1, .string ⟨#[]⟩, .string ⟨#[65, 110, 110]⟩] 39)]) (fun φ8 => []) s trivial (fun φ8 => by kernel_rfl) ?_
  intro φ8 w8 s
  refine ops_done (by kernel_rfl) ?_
  refine wp_seq ?_
  refine wp_seq ?_
  refine region_rule ?_
  refine ops_rule (C := []) [((φ1 0), .cells #[.slice none 0 0] 26), ((φ5 0), .cells #[.int .i64 1, .string ⟨#[]⟩, .string ⟨#[65, 110, 110]⟩] 39)] [] 1 [] 0 (fun φ9 => [(21, .bool false)]) (fun φ9 => [((φ1 0), .cells #[.slice none 0 0] 26), ((φ5 0), .cells #[.int .i64 1, .string ⟨#[]⟩, .string ⟨#[65, 110, 110]⟩] 39)]) (fun φ9 => []) s trivial (fun φ9 => by kernel_rfl) ?_
  intro φ9 w9 s
  refine ops_done (by kernel_rfl) ?_
  refine cond_false_rule (b := false) (by kernel_rfl) rfl ?_
  refine wp_skip ?_
  refine wp_seq ?_
  refine wp_seq ?_
  refine region_rule ?_
  refine ops_rule (C := []) [((φ1 0), .cells #[.slice none 0 0] 26), ((φ5 0), .cells #[.int .i64 1, .string ⟨#[]⟩, .string ⟨#[65, 110, 110]⟩] 39)] [] 3 [] 0 (fun φ10 => [(24, .bool false), (23, .int .i64 0), (22, .slice none 0 0)]) (fun φ10 => [((φ1 0), .cells #[.slice none 0 0] 26), ((φ5 0), .cells #[.int .i64 1, .string ⟨#[]⟩, .string ⟨#[65, 110, 110]⟩] 39)]) (fun φ10 => []) s trivial (fun φ10 => by kernel_rfl) ?_
  intro φ10 w10 s
  refine ops_done (by kernel_rfl) ?_
  refine cond_false_rule (b := false) (by kernel_rfl) rfl ?_
  refine wp_skip ?_
  refine region_rule ?_
  refine ops_rule (C := []) [((φ1 0), .cells #[.slice none 0 0] 26), ((φ5 0), .cells #[.int .i64 1, .string ⟨#[]⟩, .string ⟨#[65, 110, 110]⟩] 39)] [] 4 [.o 1, .o 1, .o 1] 1 (fun φ11 => [(29, .slice (some ⟨(φ11 0), 0, none⟩) 1 1), (28, .agg #[.int .i64 1, .string ⟨#[]⟩, .string ⟨#[65, 110, 110]⟩]), (27, .int .i64 0), (26, .slice none 0 0)]) (fun φ11 => [((φ1 0), .cells #[.slice none 0 0] 26), ((φ5 0), .cells #[.int .i64 1, .string ⟨#[]⟩, .string ⟨#[65, 110, 110]⟩] 39), ((φ11 0), .cells #[.int .i64 1, .string ⟨#[]⟩, .string ⟨#[65, 110, 110]⟩] 39)]) (fun φ11 => [(φ5 0), (φ5 0), (φ5 0)]) s trivial (fun φ11 => by kernel_rfl) ?_
  intro φ11 w11 s
  obtain ⟨I12, le12, hk12, s⟩ := s.freezeAt 2 (φ11 0) (.cells #[.int .i64 1, .string ⟨#[]⟩, .string ⟨#[65, 110, 110]⟩] 39) [((φ1 0), .cells #[.slice none 0 0] 26), ((φ5 0), .cells #[.int .i64 1, .string ⟨#[]⟩, .string ⟨#[65, 110, 110]⟩] 39)] (by kernel_rfl) (by kernel_rfl)
  replace h0 := FSl.mono le12 h0
  have hf13 := fsl_rb hk12
  refine call_rule (some 30) s (insert_c hf13) (by kernel_rfl) ?_
  intro v14 I14 w14 le14 h14 s
  replace h0 := FSl.mono le14 h0
  replace hf13 := FSl.mono le14 hf13
  replace hk12 := le14 _ _ hk12
  obtain ⟨a14, c14, rfl, h14_0⟩ := h14
  refine ops_rule (C := []) [((φ1 0), .cells #[.slice none 0 0] 26), ((φ5 0), .cells #[.int .i64 1, .string ⟨#[]⟩, .string ⟨#[65, 110, 110]⟩] 39)] [] 1 [] 0 (fun φ15 => [(4, .slice a14 1 c14)]) (fun φ15 => [((φ1 0), .cells #[.slice none 0 0] 26), ((φ5 0), .cells #[.int .i64 1, .string ⟨#[]⟩, .string ⟨#[65, 110, 110]⟩] 39)]) (fun φ15 => []) s trivial (fun φ15 => by kernel_rfl) ?_
  intro φ15 w15 s
  refine ops_done (by kernel_rfl) ?_
  refine region_rule ?_
  refine ops_rule (C := []) [((φ1 0), .cells #[.slice none 0 0] 26), ((φ5 0), .cells #[.int .i64 1, .string ⟨#[]⟩, .string ⟨#[65, 110, 110]⟩] 39)] [] 2 [] 0 (fun φ16 => [(11, .int .i64 1), (31, .int .i64 1)]) (fun φ16 => [((φ1 0), .cells #[.slice none 0 0] 26), ((φ5 0), .cells #[.int .i64 1, .string ⟨#[]⟩, .string ⟨#[65, 110, 110]⟩] 39)]) (fun φ16 => []) s trivial (fun φ16 => by kernel_rfl) ?_
  intro φ16 w16 s
  refine ops_done (by kernel_rfl) ?_
  refine rounds_step (n := 0) ?_
  refine wp_seq ?_
  refine region_rule ?_
  refine ops_rule (C := []) [((φ1 0), .cells #[.slice none 0 0] 26), ((φ5 0), .cells #[.int .i64 1, .string ⟨#[]⟩, .string ⟨#[65, 110, 110]⟩] 39)] [] 1 [] 0 (fun φ17 => [(12, .bool false)]) (fun φ17 => [((φ1 0), .cells #[.slice none 0 0] 26), ((φ5 0), .cells #[.int .i64 1, .string ⟨#[]⟩, .string ⟨#[65, 110, 110]⟩] 39)]) (fun φ17 => []) s trivial (fun φ17 => by kernel_rfl) ?_
  intro φ17 w17 s
  refine ops_done (by kernel_rfl) ?_
  refine wp_seq ?_
  refine cond_false_rule (b := false) (by kernel_rfl) rfl ?_
  refine wp_exit ?_
  refine wp_seq ?_
  refine region_rule ?_
  refine ops_rule (C := []) [((φ1 0), .cells #[.slice none 0 0] 26), ((φ5 0), .cells #[.int .i64 1, .string ⟨#[]⟩, .string ⟨#[65, 110, 110]⟩] 39)] [] 4 [.o 0] 0 (fun φ18 => [(3, .int .i64 0), (33, .agg #[.slice a14 1 c14]), (32, .slice a14 1 c14)]) (fun φ18 => [((φ1 0), .cells #[.slice a14 1 c14] 26), ((φ5 0), .cells #[.int .i64 1, .string ⟨#[]⟩, .string ⟨#[65, 110, 110]⟩] 39)]) (fun φ18 => [(φ1 0)]) s trivial (fun φ18 => by kernel_rfl) ?_
  intro φ18 w18 s
  refine ops_done (by kernel_rfl) ?_
  refine wp_ret ?_
  refine ret_rule (C := []) [((φ1 0), .cells #[.slice a14 1 c14] 26), ((φ5 0), .cells #[.int .i64 1, .string ⟨#[]⟩, .string ⟨#[65, 110, 110]⟩] 39)] [] (.tuple #[.agg #[.slice a14 1 c14], .int .i64 0]) [.o 0] [(φ1 0)] s trivial (by kernel_rfl) ?_
  exact ⟨_, _, _, rfl, s, ⟨_, _, rfl, h14_0⟩⟩

set_option maxHeartbeats 2000000 in
theorem Ymake_c {I : IM} {a0 : Option Addr} {c0 : Nat} (h0 : FSl I [x0] (.slice a0 1 c0)) (hN : NmT I) (hT : Tx.U8 I) : Fun Tryd.prog 15 #[.slice a0 1 c0] I (fun v J => ∃ a c, v = .tuple #[.agg #[.slice a 1 c], .int .i64 0] ∧ FSl J [x0] (.slice a 1 c)) := by
  refine enter_rule 24 [(0, .slice a0 1 c0)] Tryd.func15 rfl (by kernel_rfl) ?_
  intro w s
  refine wp_seq ?_
  refine region_rule ?_
  refine ops_rule (C := []) [] [] 2 [] 1 (fun φ1 => [(3, .int .i64 0), (2, .pointer (some ⟨(φ1 0), 0, none⟩))]) (fun φ1 => [((φ1 0), .cells #[.slice none 0 0] 26)]) (fun φ1 => []) s trivial (fun φ1 => by kernel_rfl) ?_
  intro φ1 w1 s
  refine ops_done (by kernel_rfl) ?_
  refine wp_seq ?_
  refine wp_seq ?_
  refine region_rule ?_
  refine ops_rule (C := []) [((φ1 0), .cells #[.slice none 0 0] 26)] [] 3 [] 0 (fun φ2 => [(9, .int .i64 0), (8, .int .i64 1), (7, .slice a0 1 c0)]) (fun φ2 => [((φ1 0), .cells #[.slice none 0 0] 26)]) (fun φ2 => []) s trivial (fun φ2 => by kernel_rfl) ?_
  intro φ2 w2 s
  refine ops_done (by kernel_rfl) ?_
  refine wp_block ?_
  refine Go.wp_loop_rounds 2 ?_
  refine rounds_step (n := 1) ?_
  refine wp_seq ?_
  refine region_rule ?_
  refine ops_rule (C := []) [((φ1 0), .cells #[.slice none 0 0] 26)] [] 1 [] 0 (fun φ3 => [(10, .bool true)]) (fun φ3 => [((φ1 0), .cells #[.slice none 0 0] 26)]) (fun φ3 => []) s trivial (fun φ3 => by kernel_rfl) ?_
  intro φ3 w3 s
  refine ops_done (by kernel_rfl) ?_
  refine wp_seq ?_
  refine cond_true_rule (b := true) (by kernel_rfl) rfl ?_
  refine wp_skip ?_
  refine wp_seq ?_
  refine wp_block ?_
  refine wp_seq ?_
  refine region_rule ?_
  refine sem_rule (Instr.indexAt 22 (.slice a0 1 c0) (.int .i64 0)) (some 11) (.pointer (pAt a0 (0 * 3))) (by kernel_rfl) (fsl_idx22 (i := 0) h0 (by decide)) ?_
  refine sem_rule (Instr.loadAt 39 (.pointer (pAt a0 (0 * 3)))) (some 12) (.agg #[.int .i64 1, .string ⟨#[]⟩, .string ⟨#[65, 110, 110]⟩]) (by kernel_rfl) (fsl_ld39 (i := 0) s.sub h0 (by decide)) ?_
  refine ops_rule (C := []) [((φ1 0), .cells #[.slice none 0 0] 26)] [] 2 [.o 1, .o 1, .o 1] 1 (fun φ4 => [(5, .pointer (some ⟨(φ4 0), 0, none⟩))]) (fun φ4 => [((φ1 0), .cells #[.slice none 0 0] 26), ((φ4 0), .cells #[.int .i64 1, .string ⟨#[]⟩, .string ⟨#[65, 110, 110]⟩] 39)]) (fun φ4 => [(φ4 0), (φ4 0), (φ4 0)]) s trivial (fun φ4 => by kernel_rfl) ?_
  intro φ4 w4 s
  refine ops_done (by kernel_rfl) ?_
  refine wp_seq ?_
  refine region_rule ?_
  refine ops_rule (C := []) [((φ1 0), .cells #[.slice none 0 0] 26), ((φ4 0), .cells #[.int .i64 1, .string ⟨#[]⟩, .string ⟨#[65, 110, 110]⟩] 39)] [] 1 [.o 1, .o 1, .o 1] 0 (fun φ5 => [(13, .agg #[.int .i64 1, .string ⟨#[]⟩, .string ⟨#[65, 110, 110]⟩])]) (fun φ5 => [((φ1 0), .cells #[.slice none 0 0] 26), ((φ4 0), .cells #[.int .i64 1, .string ⟨#[]⟩, .string ⟨#[65, 110, 110]⟩] 39)]) (fun φ5 => [(φ4 0), (φ4 0), (φ4 0)]) s trivial (fun φ5 => by kernel_rfl) ?_
  intro φ5 w5 s
  refine call_rule (some 14) s (right_c hN hT) (by kernel_rfl) ?_
  intro v6 I6 w6 le6 h6 s
  replace h0 := FSl.mono le6 h0
  replace hN := NmT.mono le6 hN
  replace hT := u8_mono le6 hT
  obtain rfl := h6
  refine ops_rule (C := []) [((φ1 0), .cells #[.slice none 0 0] 26), ((φ4 0), .cells #[.int .i64 1, .string ⟨#[]⟩, .string ⟨#[65, 110, 110]⟩] 39)] [] 1 [] 0 (fun φ7 => [(6, .int .i64 0)]) (fun φ7 => [((φ1 0), .cells #[.slice none 0 0] 26), ((φ4 0), .cells #[.int .i64 1, .string ⟨#[]⟩, .string ⟨#[65, 110, 110]⟩] 39)]) (fun φ7 => []) s trivial (fun φ7 => by kernel_rfl) ?_
  intro φ7 w7 s
  refine ops_done (by kernel_rfl) ?_
  refine wp_seq ?_
  refine region_rule ?_
  refine ops_rule (C := []) [((φ1 0), .cells #[.slice none 0 0] 26), ((φ4 0), .cells #[.int .i64 1, .string ⟨#[]⟩, .string ⟨#[65, 110, 110]⟩] 39)] [] 2 [] 0 (fun φ8 => [(16, .bool false), (15, .int .i64 0)]) (fun φ8 => [((φ1 0), .cells #[.slice none 0 0] 26), ((φ4 0), .cells #[.int .i64 1, .string ⟨#[]⟩, .string ⟨#[65, 110, 110]⟩] 39)]) (fun φ8 => []) s trivial (fun φ8 => by kernel_rfl) ?_
  intro φ8 w8 s
  refine ops_done (by kernel_rfl) ?_
  refine cond_false_rule (b := false) (by kernel_rfl) rfl ?_
  refine wp_skip ?_
  refine region_rule ?_
  refine ops_rule (C := []) [((φ1 0), .cells #[.slice none 0 0] 26), ((φ4 0), .cells #[.int .i64 1, .string ⟨#[]⟩, .string ⟨#[65, 110, 110]⟩] 39)] [] 2 [] 0 (fun φ9 => [(9, .int .i64 1), (19, .int .i64 1)]) (fun φ9 => [((φ1 0), .cells #[.slice none 0 0] 26), ((φ4 0), .cells #[.int .i64 1, .string ⟨#[]⟩, .string ⟨#[65, 110, 110]⟩] 39)]) (fun φ9 => []) s trivial (fun φ9 => by kernel_rfl) ?_
  intro φ9 w9 s
  refine ops_done (by kernel_rfl) ?_
  refine rounds_step (n := 0) ?_
  refine wp_seq ?_
  refine region_rule ?_
  refine ops_rule (C := []) [((φ1 0), .cells #[.slice none 0 0] 26), ((φ4 0), .cells #[.int .i64 1, .string ⟨#[]⟩, .string ⟨#[65, 110, 110]⟩] 39)] [] 1 [] 0 (fun φ10 => [(10, .bool false)]) (fun φ10 => [((φ1 0), .cells #[.slice none 0 0] 26), ((φ4 0), .cells #[.int .i64 1, .string ⟨#[]⟩, .string ⟨#[65, 110, 110]⟩] 39)]) (fun φ10 => []) s trivial (fun φ10 => by kernel_rfl) ?_
  intro φ10 w10 s
  refine ops_done (by kernel_rfl) ?_
  refine wp_seq ?_
  refine cond_false_rule (b := false) (by kernel_rfl) rfl ?_
  refine wp_exit ?_
  refine wp_seq ?_
  refine region_rule ?_
  refine ops_rule (C := []) [((φ1 0), .cells #[.slice none 0 0] 26), ((φ4 0), .cells #[.int .i64 1, .string ⟨#[]⟩, .string ⟨#[65, 110, 110]⟩] 39)] [] 1 [] 0 (fun φ11 => [(20, .slice a0 1 c0)]) (fun φ11 => [((φ1 0), .cells #[.slice none 0 0] 26), ((φ4 0), .cells #[.int .i64 1, .string ⟨#[]⟩, .string ⟨#[65, 110, 110]⟩] 39)]) (fun φ11 => []) s trivial (fun φ11 => by kernel_rfl) ?_
  intro φ11 w11 s
  refine call_rule (some 21) s (Yof_c h0) (by kernel_rfl) ?_
  intro v12 I12 w12 le12 h12 s
  replace h0 := FSl.mono le12 h0
  replace hN := NmT.mono le12 hN
  replace hT := u8_mono le12 hT
  obtain ⟨a12, c12, rfl, h12_0⟩ := h12
  refine ops_rule (C := []) [((φ1 0), .cells #[.slice none 0 0] 26), ((φ4 0), .cells #[.int .i64 1, .string ⟨#[]⟩, .string ⟨#[65, 110, 110]⟩] 39)] [] 4 [.o 0] 0 (fun φ13 => [(3, .int .i64 0), (23, .int .i64 0), (22, .agg #[.slice a12 1 c12])]) (fun φ13 => [((φ1 0), .cells #[.slice a12 1 c12] 26), ((φ4 0), .cells #[.int .i64 1, .string ⟨#[]⟩, .string ⟨#[65, 110, 110]⟩] 39)]) (fun φ13 => [(φ1 0)]) s trivial (fun φ13 => by kernel_rfl) ?_
  intro φ13 w13 s
  refine ops_done (by kernel_rfl) ?_
  refine wp_ret ?_
  refine ret_rule (C := []) [((φ1 0), .cells #[.slice a12 1 c12] 26), ((φ4 0), .cells #[.int .i64 1, .string ⟨#[]⟩, .string ⟨#[65, 110, 110]⟩] 39)] [] (.tuple #[.agg #[.slice a12 1 c12], .int .i64 0]) [.o 0] [(φ1 0)] s trivial (by kernel_rfl) ?_
  exact ⟨_, _, _, rfl, s, ⟨_, _, rfl, h12_0⟩⟩

end Go.Proofs.YtcpmjogeafhpnaaDoor
/- The example. -/
set_option linter.all false
set_option maxRecDepth 100000
namespace Go.Proofs.YtcpmjogeafhpnaaDoor
open Go.RowKit Go.Sep
attribute [local irreducible] Go.wpList Go.Code.wp

theorem enc_ann : ([] ++ encL [x0]) = ([1, 1, 0, 3, 65, 110, 110] : List UInt8) := by decide +kernel
theorem okx0 : okL [x0] := fun i hi => by
  have : i = 0 := by simp only [List.length_cons, List.length_nil] at hi; omega
  subst this
  exact ⟨by decide, by decide, by decide, by decide⟩

theorem put1_c {I : IM} {a0 : Option Addr} {c0 : Nat} (h0 : FSl I [x0] (.slice a0 1 c0)) : Fun Tryd.prog 82 #[.slice none 0 0, .slice a0 1 c0] I (fun v J => ∃ a c, v = .slice a 7 c ∧ BSl J ([1, 1, 0, 3, 65, 110, 110] : List UInt8) (.slice a 7 c)) := by
  have h := putFields_c (l := []) (L := [x0]) (a := none) (c := 0) (bsl_nil I) (by decide) h0 (by decide) okx0
  rw [enc_ann] at h
  exact h
set_option maxHeartbeats 1000000 in
theorem putCard_c {I : IM} {a0 : Option Addr} {c0 : Nat} (h0 : FSl I [x0] (.slice a0 1 c0)) : Fun Tryd.prog 50 #[.slice none 0 0, .agg #[.slice a0 1 c0]] I (fun v J => ∃ a c, v = .slice a 7 c ∧ BSl J ([1, 1, 0, 3, 65, 110, 110] : List UInt8) (.slice a 7 c)) := by
  refine enter_rule 9 [(0, .slice none 0 0), (1, .agg #[.slice a0 1 c0])] Tryd.func50 rfl (by kernel_rfl) ?_
  intro w s
  refine wp_seq ?_
  refine region_rule ?_
  refine ops_rule (C := []) [] [] 2 [] 1 (fun φ1 => [(4, .slice none 0 0), (3, .pointer (some ⟨(φ1 0), 0, none⟩))]) (fun φ1 => [((φ1 0), .cells #[.slice a0 1 c0] 26)]) (fun φ1 => []) s trivial (fun φ1 => by kernel_rfl) ?_
  intro φ1 w1 s
  refine ops_done (by kernel_rfl) ?_
  refine wp_seq ?_
  refine region_rule ?_
  refine ops_rule (C := []) [((φ1 0), .cells #[.slice a0 1 c0] 26)] [] 2 [.o 0] 0 (fun φ2 => [(6, .agg #[.slice a0 1 c0]), (5, .slice none 0 0)]) (fun φ2 => [((φ1 0), .cells #[.slice a0 1 c0] 26)]) (fun φ2 => [(φ1 0)]) s trivial (fun φ2 => by kernel_rfl) ?_
  intro φ2 w2 s
  refine call_rule (some 7) s (fieldsF1_c h0) (by kernel_rfl) ?_
  intro v3 I3 w3 le3 h3 s
  replace h0 := FSl.mono le3 h0
  obtain ⟨a3, c3, rfl, h3_0⟩ := h3
  refine call_rule (some 8) s (put1_c h3_0) (by kernel_rfl) ?_
  intro v4 I4 w4 le4 h4 s
  replace h0 := FSl.mono le4 h0
  replace h3_0 := FSl.mono le4 h3_0
  obtain ⟨a4, c4, rfl, h4_0⟩ := h4
  refine ops_rule (C := []) [((φ1 0), .cells #[.slice a0 1 c0] 26)] [] 1 [] 0 (fun φ5 => [(4, .slice a4 7 c4)]) (fun φ5 => [((φ1 0), .cells #[.slice a0 1 c0] 26)]) (fun φ5 => []) s trivial (fun φ5 => by kernel_rfl) ?_
  intro φ5 w5 s
  refine ops_done (by kernel_rfl) ?_
  refine wp_ret ?_
  refine ret_rule (C := []) [((φ1 0), .cells #[.slice a0 1 c0] 26)] [] (.slice a4 7 c4) [] [] s trivial (by kernel_rfl) ?_
  exact ⟨_, _, _, rfl, s, ⟨_, _, rfl, h4_0⟩⟩

set_option maxHeartbeats 1000000 in
theorem card_c {I : IM} {a0 : Option Addr} {c0 : Nat} (h0 : FSl I [x0] (.slice a0 1 c0)) : Fun Tryd.prog 42 #[.agg #[.slice a0 1 c0]] I (fun v J => ∃ a c, v = .slice a 7 c ∧ BSl J ([1, 1, 0, 3, 65, 110, 110] : List UInt8) (.slice a 7 c)) := by
  refine enter_rule 5 [(0, .agg #[.slice a0 1 c0])] Tryd.func42 rfl (by kernel_rfl) ?_
  intro w s
  refine wp_seq ?_
  refine region_rule ?_
  refine ops_rule (C := []) [] [] 2 [] 1 (fun φ1 => [(2, .slice none 0 0), (1, .pointer (some ⟨(φ1 0), 0, none⟩))]) (fun φ1 => [((φ1 0), .cells #[.slice a0 1 c0] 26)]) (fun φ1 => []) s trivial (fun φ1 => by kernel_rfl) ?_
  intro φ1 w1 s
  refine ops_done (by kernel_rfl) ?_
  refine wp_seq ?_
  refine region_rule ?_
  refine ops_rule (C := []) [((φ1 0), .cells #[.slice a0 1 c0] 26)] [] 1 [.o 0] 0 (fun φ2 => [(3, .agg #[.slice a0 1 c0])]) (fun φ2 => [((φ1 0), .cells #[.slice a0 1 c0] 26)]) (fun φ2 => [(φ1 0)]) s trivial (fun φ2 => by kernel_rfl) ?_
  intro φ2 w2 s
  refine call_rule (some 4) s (putCard_c h0) (by kernel_rfl) ?_
  intro v3 I3 w3 le3 h3 s
  replace h0 := FSl.mono le3 h0
  obtain ⟨a3, c3, rfl, h3_0⟩ := h3
  refine ops_rule (C := []) [((φ1 0), .cells #[.slice a0 1 c0] 26)] [] 1 [] 0 (fun φ4 => [(2, .slice a3 7 c3)]) (fun φ4 => [((φ1 0), .cells #[.slice a0 1 c0] 26)]) (fun φ4 => []) s trivial (fun φ4 => by kernel_rfl) ?_
  intro φ4 w4 s
  refine ops_done (by kernel_rfl) ?_
  refine wp_ret ?_
  refine ret_rule (C := []) [((φ1 0), .cells #[.slice a0 1 c0] 26)] [] (.slice a3 7 c3) [] [] s trivial (by kernel_rfl) ?_
  exact ⟨_, _, _, rfl, s, ⟨_, _, rfl, h3_0⟩⟩

set_option maxHeartbeats 2000000 in
theorem awakeP_c {I : IM} (hN : NmT I) (hT : Tx.U8 I) : Fun Tryd.prog 37 #[] I (fun v J => v = .bool true) := by
  refine enter_rule 13 [] Tryd.func37 rfl (by kernel_rfl) ?_
  intro w s
  refine wp_seq ?_
  refine region_rule ?_
  refine ops_rule (C := []) [] [] 1 [] 0 (fun φ1 => [(0, .bool false)]) (fun φ1 => []) (fun φ1 => []) s trivial (fun φ1 => by kernel_rfl) ?_
  intro φ1 w1 s
  refine ops_done (by kernel_rfl) ?_
  refine wp_seq ?_
  refine region_rule ?_
  refine ops_rule (C := []) [] [] 2 [] 1 (fun φ2 => [(5, .slice (some ⟨(φ2 0), 0, none⟩) 1 1), (4, .agg #[.int .i64 1, .string ⟨#[]⟩, .string ⟨#[65, 110, 110]⟩])]) (fun φ2 => [((φ2 0), .cells #[.int .i64 1, .string ⟨#[]⟩, .string ⟨#[65, 110, 110]⟩] 39)]) (fun φ2 => []) s trivial (fun φ2 => by kernel_rfl) ?_
  intro φ2 w2 s
  obtain ⟨I3, le3, hk3, s⟩ := s.freezeAt 0 (φ2 0) (.cells #[.int .i64 1, .string ⟨#[]⟩, .string ⟨#[65, 110, 110]⟩] 39) [] (by kernel_rfl) (by kernel_rfl)
  replace hN := NmT.mono le3 hN
  replace hT := u8_mono le3 hT
  have hf4 := fsl_rb hk3
  refine call_rule (some 6) s (Ymake_c hf4 hN hT) (by kernel_rfl) ?_
  intro v5 I5 w5 le5 h5 s
  replace hN := NmT.mono le5 hN
  replace hT := u8_mono le5 hT
  replace hf4 := FSl.mono le5 hf4
  replace hk3 := le5 _ _ hk3
  obtain ⟨a5, c5, rfl, h5_0⟩ := h5
  refine ops_rule (C := []) [] [] 6 [.o 0] 1 (fun φ6 => [(2, .int .i64 0), (1, .pointer (some ⟨(φ6 0), 0, none⟩)), (8, .int .i64 0), (7, .agg #[.slice a5 1 c5]), (3, .tuple #[.agg #[.slice a5 1 c5], .int .i64 0])]) (fun φ6 => [((φ6 0), .cells #[.slice a5 1 c5] 26)]) (fun φ6 => [(φ6 0)]) s trivial (fun φ6 => by kernel_rfl) ?_
  intro φ6 w6 s
  refine ops_done (by kernel_rfl) ?_
  refine wp_seq ?_
  refine region_rule ?_
  refine ops_rule (C := []) [((φ6 0), .cells #[.slice a5 1 c5] 26)] [] 1 [.o 0] 0 (fun φ7 => [(9, .agg #[.slice a5 1 c5])]) (fun φ7 => [((φ6 0), .cells #[.slice a5 1 c5] 26)]) (fun φ7 => [(φ6 0)]) s trivial (fun φ7 => by kernel_rfl) ?_
  intro φ7 w7 s
  refine call_rule (some 10) s (card_c h5_0) (by kernel_rfl) ?_
  intro v8 I8 w8 le8 h8 s
  replace hN := NmT.mono le8 hN
  replace hT := u8_mono le8 hT
  replace hf4 := FSl.mono le8 hf4
  replace h5_0 := FSl.mono le8 h5_0
  replace hk3 := le8 _ _ hk3
  obtain ⟨a8, c8, rfl, h8_0⟩ := h8
  refine ops_rule (C := []) [((φ6 0), .cells #[.slice a5 1 c5] 26)] [] 1 [] 1 (fun φ9 => [(11, .slice (some ⟨(φ9 0), 0, none⟩) 7 7)]) (fun φ9 => [((φ6 0), .cells #[.slice a5 1 c5] 26), ((φ9 0), .cells #[.int .u8 1, .int .u8 1, .int .u8 0, .int .u8 3, .int .u8 65, .int .u8 110, .int .u8 110] 5)]) (fun φ9 => []) s trivial (fun φ9 => by kernel_rfl) ?_
  intro φ9 w9 s
  obtain ⟨I10, le10, hk10, s⟩ := s.freezeAt 1 (φ9 0) (.cells #[.int .u8 1, .int .u8 1, .int .u8 0, .int .u8 3, .int .u8 65, .int .u8 110, .int .u8 110] 5) [((φ6 0), .cells #[.slice a5 1 c5] 26)] (by kernel_rfl) (by kernel_rfl)
  replace hN := NmT.mono le10 hN
  replace hT := u8_mono le10 hT
  replace hf4 := FSl.mono le10 hf4
  replace h5_0 := FSl.mono le10 h5_0
  replace h8_0 := BSl.mono le10 h8_0
  replace hk3 := le10 _ _ hk3
  refine call_rule (some 12) s (sameR_c (l := ([1, 1, 0, 3, 65, 110, 110] : List UInt8)) h8_0 (bsl_lit (l := ([1, 1, 0, 3, 65, 110, 110] : List UInt8)) hk10 (by kernel_rfl) rfl) (by decide)) (by kernel_rfl) ?_
  intro v11 I11 w11 le11 h11 s
  replace hN := NmT.mono le11 hN
  replace hT := u8_mono le11 hT
  replace hf4 := FSl.mono le11 hf4
  replace h5_0 := FSl.mono le11 h5_0
  replace h8_0 := BSl.mono le11 h8_0
  replace hk3 := le11 _ _ hk3
  replace hk10 := le11 _ _ hk10
  obtain rfl := h11
  refine ops_rule (C := []) [((φ6 0), .cells #[.slice a5 1 c5] 26)] [] 1 [] 0 (fun φ12 => [(0, .bool true)]) (fun φ12 => [((φ6 0), .cells #[.slice a5 1 c5] 26)]) (fun φ12 => []) s trivial (fun φ12 => by kernel_rfl) ?_
  intro φ12 w12 s
  refine ops_done (by kernel_rfl) ?_
  refine wp_ret ?_
  refine ret_rule (C := []) [((φ6 0), .cells #[.slice a5 1 c5] 26)] [] (.bool true) [] [] s trivial (by kernel_rfl) ?_
  exact ⟨_, _, _, rfl, s, rfl⟩

end Go.Proofs.YtcpmjogeafhpnaaDoor
/- What is written of a card is read again. -/
set_option linter.all false
set_option maxRecDepth 100000
namespace Go.Proofs.YtcpmjogeafhpnaaDoor
open Go.RowKit Go.Sep
theorem num_small {n : Nat} {rest : List UInt8} (h : n < 128) : numN (encF 9 n ++ rest) = n ∧ numK (encF 9 n ++ rest) = 1 := by
  rw [encF_stop h]
  have hb : (UInt8.ofNat (n % 256)).toNat = n := by rw [UInt8.toNat_ofNat']; omega
  have hl : Lead ([UInt8.ofNat (n % 256)] ++ rest) 0 := ⟨by omega, by simp, fun j hj => by omega, .inr (.inr (by show (UInt8.ofNat (n % 256)).toNat < 128; rw [hb]; exact h))⟩
  have hn : ¬ badN ([UInt8.ofNat (n % 256)] ++ rest) 0 := by
    unfold badN
    rintro (q | q | q | q)
    · simp at q
    · omega
    · omega
    · omega
  obtain ⟨h1, h2⟩ := num_good hl hn
  refine ⟨h1.trans ?_, h2⟩
  show (UInt8.ofNat (n % 256)).toNat % 128 + 128 * 0 = n
  rw [hb]; omega
theorem by_fwd {b : UInt8} {rest : List UInt8} : byV ([b] ++ rest) 0 = b.toNat ∧ byD ([b] ++ rest) 0 = 1 ∧ byE ([b] ++ rest) 0 = 0 := by
  unfold byV byD byE; simp
end Go.Proofs.YtcpmjogeafhpnaaDoor
/- What is written of a patch is read again. -/
set_option linter.all false
set_option maxRecDepth 100000
namespace Go.Proofs.YtcpmjogeafhpnaaDoor
open Go.RowKit Go.Sep
theorem encF_two {n : Nat} (h : ¬ n < 128) (h2 : n < 16384) : encF 9 n = [UInt8.ofNat (n % 128 + 128), UInt8.ofNat (n / 128 % 256)] := by
  rw [encF_go h, encF_stop (by omega)]
/-- a number of at most two bytes is read again -/
theorem num_fwd {n : Nat} {rest : List UInt8} (h : n < 16384) : numN (encF 9 n ++ rest) = n ∧ numK (encF 9 n ++ rest) = (encF 9 n).length := by
  by_cases h1 : n < 128
  · obtain ⟨a, b⟩ := num_small (rest := rest) h1
    refine ⟨a, b.trans ?_⟩
    rw [encF_stop h1]; rfl
  · rw [encF_two h1 h]
    have hb0 : (UInt8.ofNat (n % 128 + 128)).toNat = n % 128 + 128 := by rw [UInt8.toNat_ofNat']; omega
    have hb1 : (UInt8.ofNat (n / 128 % 256)).toNat = n / 128 := by rw [UInt8.toNat_ofNat']; omega
    have hl : Lead ([UInt8.ofNat (n % 128 + 128), UInt8.ofNat (n / 128 % 256)] ++ rest) 1 := ⟨by omega, by simp, fun j hj => by
      have : j = 0 := by omega
      subst this
      show 128 ≤ (UInt8.ofNat (n % 128 + 128)).toNat
      omega, .inr (.inr (by show (UInt8.ofNat (n / 128 % 256)).toNat < 128; omega))⟩
    have hn : ¬ badN ([UInt8.ofNat (n % 128 + 128), UInt8.ofNat (n / 128 % 256)] ++ rest) 1 := by
      unfold badN
      rintro (q | q | q | q)
      · simp at q
      · omega
      · have := q.2
        have e : ([UInt8.ofNat (n % 128 + 128), UInt8.ofNat (n / 128 % 256)] ++ rest).getD 1 0 = UInt8.ofNat (n / 128 % 256) := rfl
        rw [e, hb1] at this; omega
      · omega
    obtain ⟨g1, g2⟩ := num_good hl hn
    refine ⟨g1.trans ?_, g2⟩
    show (UInt8.ofNat (n % 128 + 128)).toNat % 128 + 128 * ((UInt8.ofNat (n / 128 % 256)).toNat % 128 + 128 * 0) = n
    rw [hb0, hb1]; omega
theorem te_fwdP {s rest : List UInt8} {z : Nat} (h : s.length ≤ z) (hz : z < 16384) : teV ((encF 9 s.length ++ s) ++ rest) 0 ((z : Nat) : Int) = s ∧ teD ((encF 9 s.length ++ s) ++ rest) 0 ((z : Nat) : Int) = (encF 9 s.length ++ s).length ∧ teE ((encF 9 s.length ++ s) ++ rest) 0 ((z : Nat) : Int) = 0 := by
  obtain ⟨n1, n2⟩ := num_fwd (n := s.length) (rest := s ++ rest) (by omega)
  have hk := (encF_len 9 s.length).1
  rw [List.append_assoc]
  have hl : (encF 9 s.length ++ (s ++ rest)).length = (encF 9 s.length).length + (s.length + rest.length) := by rw [List.length_append, List.length_append]
  have ho : okT (encF 9 s.length ++ (s ++ rest)) 0 ((z : Nat) : Int) := ⟨rfl, by rw [n2]; omega, by rw [n1]; omega, by rw [n1, n2, hl]; omega⟩
  refine ⟨(if_pos ho).trans ?_, (if_pos ho).trans (by rw [n1, n2, List.length_append]), ?_⟩
  · rw [n1, n2, List.drop_left' rfl, List.take_left' rfl]
  · unfold teE
    rw [if_pos rfl, n1, n2, if_neg (by omega), if_neg (by omega), if_neg (by rw [hl]; omega)]
theorem fd_fwdP {x : Fe} {rest : List UInt8} (h : okFe x) : fdG (encFe x ++ rest) 0 255 255 = ⟨x.k.toNat, x.a, x.v, (encFe x).length, 0⟩ ∧ (encFe x ++ rest).drop (encFe x).length = rest := by
  obtain ⟨hk0, hk1, ha, hv⟩ := h
  refine ⟨?_, List.drop_left' rfl⟩
  have e : encFe x ++ rest = [UInt8.ofNat x.k.toNat] ++ ((encF 9 x.a.length ++ x.a) ++ ((encF 9 x.v.length ++ x.v) ++ rest)) := by
    unfold encFe; simp only [List.append_assoc]
  have el : (encFe x).length = 1 + (encF 9 x.a.length ++ x.a).length + (encF 9 x.v.length ++ x.v).length := by
    unfold encFe; simp only [List.length_append, List.length_cons, List.length_nil]
  obtain ⟨b1, b2, b3⟩ := by_fwd (b := UInt8.ofNat x.k.toNat) (rest := (encF 9 x.a.length ++ x.a) ++ ((encF 9 x.v.length ++ x.v) ++ rest))
  obtain ⟨a1, a2, a3⟩ := te_fwdP (s := x.a) (rest := (encF 9 x.v.length ++ x.v) ++ rest) (z := 255) ha (by decide)
  obtain ⟨v1, v2, v3⟩ := te_fwdP (s := x.v) (rest := rest) (z := 255) hv (by decide)
  have hd : ([UInt8.ofNat x.k.toNat] ++ ((encF 9 x.a.length ++ x.a) ++ ((encF 9 x.v.length ++ x.v) ++ rest))).drop 1 = (encF 9 x.a.length ++ x.a) ++ ((encF 9 x.v.length ++ x.v) ++ rest) := rfl
  have hb : (UInt8.ofNat x.k.toNat).toNat = x.k.toNat := by rw [UInt8.toNat_ofNat']; omega
  rw [el, e]
  unfold fdG
  rw [b1, b2, b3, hd, a1, a2, a3, List.drop_left' rfl, v1, v2, v3, hb]
theorem okL_mem {L : List Fe} (h : okL L) : ∀ x ∈ L, okFe x := fun x hx => by
  obtain ⟨i, hi, he⟩ := List.getElem_of_mem hx
  have := h i hi
  simpa [hi, he] using this
theorem pF_fwd : ∀ (L : List Fe) (rest : List UInt8), (∀ x ∈ L, okFe x) → pF L.length (L.flatMap encFe ++ rest) 0 = (L, rest, 0)
  | [], rest, _ => rfl
  | x :: L, rest, h => by
    have hx := h x (by simp)
    rw [List.flatMap_cons, List.append_assoc]
    obtain ⟨f1, f2⟩ := fd_fwdP (x := x) (rest := L.flatMap encFe ++ rest) hx
    have ek : ((x.k.toNat : Nat) : Int) = x.k := by have := hx.1; omega
    show (_ :: _, _) = _
    rw [f1]
    dsimp only
    rw [f2, pF_fwd L rest (fun y hy => h y (by simp [hy])), ek]
/-- fields that were written are read again, whatever stands behind -/
theorem gfP_fwd {A : List Fe} {rest : List UInt8} (hA : okL A) (hl : A.length ≤ 255) : gfP (encL A ++ rest) 0 = (A, rest, 0) := by
  have e : encL A ++ rest = encF 9 A.length ++ (A.flatMap encFe ++ rest) := by unfold encL; rw [List.append_assoc]
  obtain ⟨n1, n2⟩ := num_fwd (n := A.length) (rest := A.flatMap encFe ++ rest) (by omega)
  have hk := (encF_len 9 A.length).1
  rw [e]
  have v1 : nuV (encF 9 A.length ++ (A.flatMap encFe ++ rest)) 0 = A.length := (if_pos rfl).trans n1
  have v2 : nuD (encF 9 A.length ++ (A.flatMap encFe ++ rest)) 0 = (encF 9 A.length).length := (if_pos rfl).trans n2
  have v3 : nuE (encF 9 A.length ++ (A.flatMap encFe ++ rest)) 0 = 0 := if_neg (by rw [n2]; omega)
  have c := co_small (l := encF 9 A.length ++ (A.flatMap encFe ++ rest)) (e := 0) (by rw [v1]; omega)
  unfold gfP
  rw [c, v1, v2, v3, List.drop_left' rfl, pF_fwd A rest (okL_mem hA)]
theorem pK_fwd : ∀ (K : List Nat) (rest : List UInt8), (∀ k ∈ K, k ≤ 255) → pK K.length (K.map UInt8.ofNat ++ rest) 0 = (K, rest, 0)
  | [], rest, _ => rfl
  | k :: K, rest, h => by
    have hk := h k (by simp)
    obtain ⟨b1, b2, b3⟩ := by_fwd (b := UInt8.ofNat k) (rest := K.map UInt8.ofNat ++ rest)
    have hb : (UInt8.ofNat k).toNat = k := by rw [UInt8.toNat_ofNat']; omega
    have e : (k :: K).map UInt8.ofNat ++ rest = [UInt8.ofNat k] ++ (K.map UInt8.ofNat ++ rest) := rfl
    rw [e]
    show (_ :: _, _) = _
    rw [b1, b2, b3, show ([UInt8.ofNat k] ++ (K.map UInt8.ofNat ++ rest)).drop 1 = K.map UInt8.ofNat ++ rest from rfl, pK_fwd K rest (fun j hj => h j (by simp [hj])), hb]
theorem gkP_fwd {K : List Nat} {rest : List UInt8} (hK : ∀ k ∈ K, k ≤ 255) (hl : K.length ≤ 255) : gkP ((encF 9 K.length ++ K.map UInt8.ofNat) ++ rest) 0 = (K, rest, 0) := by
  rw [List.append_assoc]
  obtain ⟨n1, n2⟩ := num_fwd (n := K.length) (rest := K.map UInt8.ofNat ++ rest) (by omega)
  have hk := (encF_len 9 K.length).1
  have v1 : nuV (encF 9 K.length ++ (K.map UInt8.ofNat ++ rest)) 0 = K.length := (if_pos rfl).trans n1
  have v2 : nuD (encF 9 K.length ++ (K.map UInt8.ofNat ++ rest)) 0 = (encF 9 K.length).length := (if_pos rfl).trans n2
  have v3 : nuE (encF 9 K.length ++ (K.map UInt8.ofNat ++ rest)) 0 = 0 := if_neg (by rw [n2]; omega)
  have c := co_small (l := encF 9 K.length ++ (K.map UInt8.ofNat ++ rest)) (e := 0) (by rw [v1]; omega)
  unfold gkP
  rw [c, v1, v2, v3, List.drop_left' rfl, pK_fwd K rest hK]
/-- a patch that was written is read again -/
theorem rp_fwd {A D : List Fe} {K : List Nat} (hA : okL A) (hD : okL D) (hK : ∀ k ∈ K, k ≤ 255) (lA : A.length ≤ 255) (lD : D.length ≤ 255) (lK : K.length ≤ 255) : rpT (encP A D K) = (A, D, K, 0) := by
  have e : encP A D K = encL A ++ (encL D ++ ((encF 9 K.length ++ K.map UInt8.ofNat) ++ [])) := by unfold encP; rw [List.append_nil, List.append_assoc]
  unfold rpT
  rw [e, gfP_fwd hA lA]
  dsimp only
  rw [gfP_fwd hD lD]
  dsimp only
  rw [gkP_fwd hK lK]
  rfl
end Go.Proofs.YtcpmjogeafhpnaaDoor
