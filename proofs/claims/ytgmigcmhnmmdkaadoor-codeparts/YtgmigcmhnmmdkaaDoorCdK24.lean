/- The document reads events. -/
import Derived.Test.YtgmigcmhnmmdkaaDoorCdM21
set_option linter.all false
set_option maxRecDepth 100000
namespace Go.Proofs.YtgmigcmhnmmdkaaDoor
open Go.RowKit Go.Sep
attribute [local irreducible] Go.wpList Go.Code.wp

theorem lf0 : (Ev.E.leaf 0).top = 0 ∧ (Ev.E.leaf 0).base = 0 ∧ (Ev.E.leaf 0).isLeaf = true := ⟨rfl, rfl, rfl⟩
def sndN : Nat → Code → Code
  | 0, c => c
  | n + 1, .seq _ y => sndN n y
  | _ + 1, c => c
theorem join_rule {P : Program} {Q : Exit → Act → World → Prop} {N : Nat} {ev : Ev} {c : Code} {w : World} (X : Ev) (hX : X.map (fun e => lookE ev e.1) = X.map (·.2)) (k : c.wp P Q (ActOf N (X ++ ev)) w) : c.wp P Q (ActOf N ev) w := by rw [ActOf_known hX]; exact k
theorem tail_enter {P : Program} {Q : Exit → Act → World → Prop} {a : Act} {b : Option Code} {c' c : Code} {w : World} (h : b = some c') (hc : b = some c) (k : c'.wp P Q a w) : c.wp P Q a w := by
  rw [h] at hc; cases hc; exact k

set_option maxHeartbeats 8000000 in
theorem refEvent_tail {I J : IM} {B B2 : List Bool} {a a2 : Option Addr} {c e n2 c2 y e2 kn nb d0 : Nat} {Lb Rb last : Bool} {g : List Bool → Rd Ev.E} (hg : OkE g) {f : Nat} (hgd : GdE f g) {deep : Nat} (hdp : deep ≤ 16) (hd16 : deep ≠ 16) (ih : deep ≠ 16 → ∀ {J : IM} {a : Option Addr} {n c y e : Nat} {B : List Bool}, BoS J B (.slice a n c) → B.length ≤ 1000000 → e = 0 → FunM Tryd.prog 15 #[.pointer (some ⟨y, 0, none⟩), .int .i64 ((deep + 1 : Nat) : Int)] J [(y, .cells #[.slice a n c, .int .i64 ((e : Nat) : Int)] 40)] (fun v J H' => ∃ b' : OB, H' = [b'] ∧ b'.1 = y ∧ ∃ (k : Nat) (T : Ev.E) (R E D : Nat) (B' : List Bool) (a' : Option Addr) (n' c' : Nat), v = .tuple #[.pointer (some ⟨k, 0, none⟩), .int .i64 ((R : Nat) : Int)] ∧ b' = (y, .cells #[.slice a' n' c', .int .i64 ((E : Nat) : Int)] 40) ∧ Ev.RE J T k ∧ BoS J B' (.slice a' n' c') ∧ g B = ⟨T, R, D, E⟩ ∧ B.drop D = B')) {ev : Ev} {w w2 : World} (s : St w I (List.map (fun x => x.1) ([(y, .cells #[.slice a B.length c, .int .i64 ((e : Nat) : Int)] 40)] : List OB)) J w2 ([(y, .cells #[.slice a2 n2 c2, .int .i64 ((e2 : Nat) : Int)] 40)] ++ [])) (hb2 : BoS J B2 (.slice a2 n2 c2)) (hn2 : B2.length ≤ 1000000) (he2 : e2 = 0) (hkn : Ev.RE J (Ev.E.leaf 0) kn) (hnb : nb ≤ 1048576) (hLR : (Lb || Rb) = true) (hsp : ∀ T R D E, tlD g Lb Rb nb B2 = ⟨T, R, D, E⟩ → evD g last B = ⟨T, R, d0 + D, E⟩) (hdr : B.drop d0 = B2) {c0 : Code} (hc0 : Option.map (sndN 11) Tryd.f15.body = some c0) :
  c0.wp Tryd.prog (bodyPost Tryd.prog Tryd.f15 (Post w I (List.map (fun x => x.1) ([(y, .cells #[.slice a B.length c, .int .i64 ((e : Nat) : Int)] 40)] : List OB)) (fun v J H' => ∃ b' : OB, H' = [b'] ∧ b'.1 = y ∧ ∃ (k : Nat) (T : Ev.E) (R E D : Nat) (B' : List Bool) (a' : Option Addr) (n' c' : Nat), v = .tuple #[.pointer (some ⟨k, 0, none⟩), .int .i64 ((R : Nat) : Int)] ∧ b' = (y, .cells #[.slice a' n' c', .int .i64 ((E : Nat) : Int)] 40) ∧ Ev.RE J T k ∧ BoS J B' (.slice a' n' c') ∧ evD g last B = ⟨T, R, D, E⟩ ∧ B.drop D = B'))) (ActOf 170 ([(0, .pointer (some ⟨y, 0, none⟩)), (1, .int .i64 ((deep : Nat) : Int)), (6, .pointer (some ⟨kn, 0, none⟩)), (11, .bool Lb), (12, .bool Rb), (13, .int .u64 ((nb : Nat) : Int))] ++ ev)) w2 := by
 have hc16 : decide (deep = 16) = false := decide_eq_false hd16
 refine tail_enter rfl hc0 ?_
 refine seqR ?_
 refine oKD _ [] 4 [] 0 (fun φ1 => [(18, pB kn), (17, pB kn), (83, pB kn), (82, pB kn)]) (fun φ1 => []) s (fun φ1 => by kernel_rfl) (by kernel_rfl) ?_
 intro φ1 w1 s
 refine seqR ?_
 refine oKD _ [] 1 [] 0 (fun φ2 => [(19, .int .i64 0)]) (fun φ2 => []) s (fun φ2 => by kernel_rfl) (by kernel_rfl) ?_
 intro φ2 w2 s
 refine wp_seq ?_
 refine seqR ?_
 refine oKD _ [] 1 [] 0 (fun φ3 => [(84, .bool Lb)]) (fun φ3 => []) s (fun φ3 => by kernel_rfl) (by kernel_rfl) ?_
 intro φ3 w3 s
 rcases Bool.eq_false_or_eq_true (Lb) with hc4 | hc4
 ·
  rw [hc4]
  refine cond_true_rule (b := true) (by kernel_rfl) rfl ?_
  refine seqR ?_
  refine oK _ [] 3 [] 0 (fun φ5 => [(88, .int .i64 (IntKind.wrap .i64 (((deep : Nat) : Int) + ((1 : Nat) : Int)))), (87, .int .i64 deep), (86, pB y)]) (fun φ5 => []) s (fun φ5 => by kernel_rfl) ?_
  intro φ5 w5 s
  rw [nat_addI (a := deep) (b := 1) (by  have hq0 := of_decide_eq_false hc16; omega)]
  refine callB_rule (b := (y, .cells #[.slice a2 n2 c2, .int .i64 e2] 40)) (F := []) (Hr := []) (some 89) 0 s (by kernel_rfl) (by kernel_rfl) ((ih (of_decide_eq_false hc16)) hb2 hn2 he2) (by kernel_rfl) ?_
  rintro v6 I6 w6 b6 le6 - h6 s
  replace hb2 := BoS.mono le6 hb2
  replace hkn := Ev.RE.mono le6 hkn
  obtain ⟨k6, T6, R6, E6, D6, B6, a6, n6, c6, rfl, rfl, h6_0, h6_1, h6_2, h6_3⟩ := h6
  refine oKD _ [] 5 [] 0 (fun φ7 => [(19, .int .i64 R6), (17, pB k6), (91, .int .i64 R6), (90, pB k6), (85, .tuple #[pB k6, .int .i64 R6])]) (fun φ7 => []) s (fun φ7 => by kernel_rfl) (by kernel_rfl) ?_
  intro φ7 w7 s
  refine seqR ?_
  refine oK _ [] 2 [] 0 (fun φ8 => [(93, .bool (((R6 : Nat) : Int) != ((0 : Nat) : Int))), (92, .int .i64 R6)]) (fun φ8 => []) s (fun φ8 => by kernel_rfl) ?_
  intro φ8 w8 s
  rw [nat_neq (a := R6) (b := 0)]
  refine ops_done (by kernel_rfl) ?_
  rcases Bool.eq_false_or_eq_true (decide (R6 ≠ 0)) with hc9 | hc9
  ·
   rw [hc9]
   refine cond_true_rule (b := true) (by kernel_rfl) rfl ?_
   refine seqR ?_
   refine oKD _ [] 4 [] 0 (fun φ10 => [(5, .int .i64 R6), (4, pB kn), (95, .int .i64 R6), (94, pB kn)]) (fun φ10 => []) s (fun φ10 => by kernel_rfl) (by kernel_rfl) ?_
   intro φ10 w10 s
   refine wp_ret ?_
   refine ret_rule (C := []) _ [] (.tuple #[pB kn, .int .i64 R6]) [] [] s trivial (by kernel_rfl) ?_
   replace s := s.drop (List.Sublist.append (List.Sublist.cons₂ _ List.Sublist.slnil) (List.Sublist.refl []))
   have ev : hvG g (.leaf 0) Lb Rb B2 = ⟨T6, Ev.E.leaf 0, R6, D6, E6⟩ := by unfold hvG hR hL; simp [-List.drop_drop, Nat.add_assoc, h6_2, h6_3, of_decide_eq_false hc16, hc4, of_decide_eq_true hc9]
   have e9 : tlD g Lb Rb nb B2 = ⟨(Ev.E.leaf 0), R6, D6, E6⟩ := by rw [tlD_at ev]; simp [badE, lf0, h6_2, h6_3, of_decide_eq_false hc16, hc4, of_decide_eq_true hc9]
   exact ⟨_, _, _, rfl, s, ⟨_, rfl, rfl, _, (Ev.E.leaf 0), _, _, _, _, _, _, _, rfl, rfl, hkn, h6_1, hsp _ _ _ _ e9, (by rw [← List.drop_drop, hdr]; exact (by simp only [← List.drop_drop, h6_3]))⟩⟩
  ·
   rw [hc9]
   refine cond_false_rule (b := false) (by kernel_rfl) rfl ?_
   refine wp_skip ?_
   refine wp_seq ?_
   refine seqR ?_
   refine oKD _ [] 1 [] 0 (fun φ11 => [(96, .bool Rb)]) (fun φ11 => []) s (fun φ11 => by kernel_rfl) (by kernel_rfl) ?_
   intro φ11 w11 s
   rcases Bool.eq_false_or_eq_true (Rb) with hc12 | hc12
   ·
    rw [hc12]
    refine cond_true_rule (b := true) (by kernel_rfl) rfl ?_
    refine seqR ?_
    refine oK _ [] 3 [] 0 (fun φ13 => [(100, .int .i64 (IntKind.wrap .i64 (((deep : Nat) : Int) + ((1 : Nat) : Int)))), (99, .int .i64 deep), (98, pB y)]) (fun φ13 => []) s (fun φ13 => by kernel_rfl) ?_
    intro φ13 w13 s
    rw [nat_addI (a := deep) (b := 1) (by  have hq0 := of_decide_eq_false hc16; have hq2 := of_decide_eq_false hc9; omega)]
    refine callB_rule (b := (y, .cells #[.slice a6 n6 c6, .int .i64 E6] 40)) (F := []) (Hr := []) (some 101) 0 s (by kernel_rfl) (by kernel_rfl) ((ih (of_decide_eq_false hc16)) h6_1 (dlB h6_3 hn2) (by have q9 := hg.e B2; rw [h6_2] at q9; exact q9 (Decidable.not_not.1 (of_decide_eq_false hc9)))) (by kernel_rfl) ?_
    rintro v14 I14 w14 b14 le14 - h14 s
    replace hb2 := BoS.mono le14 hb2
    replace hkn := Ev.RE.mono le14 hkn
    replace h6_0 := Ev.RE.mono le14 h6_0
    replace h6_1 := BoS.mono le14 h6_1
    obtain ⟨k14, T14, R14, E14, D14, B14, a14, n14, c14, rfl, rfl, h14_0, h14_1, h14_2, h14_3⟩ := h14
    refine oKD _ [] 5 [] 0 (fun φ15 => [(19, .int .i64 R14), (18, pB k14), (103, .int .i64 R14), (102, pB k14), (97, .tuple #[pB k14, .int .i64 R14])]) (fun φ15 => []) s (fun φ15 => by kernel_rfl) (by kernel_rfl) ?_
    intro φ15 w15 s
    refine seqR ?_
    refine oK _ [] 2 [] 0 (fun φ16 => [(105, .bool (((R14 : Nat) : Int) != ((0 : Nat) : Int))), (104, .int .i64 R14)]) (fun φ16 => []) s (fun φ16 => by kernel_rfl) ?_
    intro φ16 w16 s
    rw [nat_neq (a := R14) (b := 0)]
    refine ops_done (by kernel_rfl) ?_
    rcases Bool.eq_false_or_eq_true (decide (R14 ≠ 0)) with hc17 | hc17
    ·
     rw [hc17]
     refine cond_true_rule (b := true) (by kernel_rfl) rfl ?_
     refine seqR ?_
     refine oKD _ [] 4 [] 0 (fun φ18 => [(5, .int .i64 R14), (4, pB kn), (107, .int .i64 R14), (106, pB kn)]) (fun φ18 => []) s (fun φ18 => by kernel_rfl) (by kernel_rfl) ?_
     intro φ18 w18 s
     refine wp_ret ?_
     refine ret_rule (C := []) _ [] (.tuple #[pB kn, .int .i64 R14]) [] [] s trivial (by kernel_rfl) ?_
     replace s := s.drop (List.Sublist.append (List.Sublist.cons₂ _ List.Sublist.slnil) (List.Sublist.refl []))
     have ev : hvG g (.leaf 0) Lb Rb B2 = ⟨T6, T14, R14, D6 + D14, E14⟩ := by unfold hvG hR hL; simp [-List.drop_drop, Nat.add_assoc, h6_2, h6_3, h14_2, h14_3, of_decide_eq_false hc16, hc4, Decidable.not_not.1 (of_decide_eq_false hc9), hc12, of_decide_eq_true hc17]
     have e9 : tlD g Lb Rb nb B2 = ⟨(Ev.E.leaf 0), R14, D6 + D14, E14⟩ := by rw [tlD_at ev]; simp [badE, lf0, h6_2, h6_3, h14_2, h14_3, of_decide_eq_false hc16, hc4, Decidable.not_not.1 (of_decide_eq_false hc9), hc12, of_decide_eq_true hc17]
     exact ⟨_, _, _, rfl, s, ⟨_, rfl, rfl, _, (Ev.E.leaf 0), _, _, _, _, _, _, _, rfl, rfl, hkn, h14_1, hsp _ _ _ _ e9, (by rw [← List.drop_drop, hdr]; exact (by simp only [← List.drop_drop, h6_3, h14_3]))⟩⟩
    ·
     rw [hc17]
     refine cond_false_rule (b := false) (by kernel_rfl) rfl ?_
     refine wp_skip ?_
     refine wp_seq ?_
     refine wp_seq ?_
     rcases Bool.eq_false_or_eq_true (decide (T6.top = 0)) with hc19 | hc19
     ·
      refine draw_rule (C := []) ⟨(fun φ20 xs20 => [.look 0 [] [], .look 0 [] [], .look 0 [] [], .call 44 #[pB k6], .look 0 [] [], .look 0 [] [], .skip, .skip, .skip, .skip, .skip, .look 0 [] [], .look 0 [] [], .skip, .skip, .skip, .skip, .skip, .skip, .skip, .skip, .skip, .skip, .skip, .skip, .look 0 [] [], .look 0 [] [], .skip, .skip, .skip, .skip, .skip, .skip, .skip, .skip, .skip, .skip, .skip, .skip, .skip, .skip, .skip, .skip, .skip, .skip, .skip, .skip, .skip, .skip, .skip, .look 0 [] []]), (fun φ20 xs20 => [.bool true, .bool true, pB k6, .bool true, .bool true, .bool true, undef, undef, undef, undef, undef, .bool true, .bool true, undef, undef, undef, undef, undef, undef, undef, undef, undef, undef, undef, undef, .bool true, .bool true, undef, undef, undef, undef, undef, undef, undef, undef, undef, undef, undef, undef, undef, undef, undef, undef, undef, undef, undef, undef, undef, undef, undef, .bool true]), (fun φ20 xs20 => [[(y, .cells #[.slice a14 n14 c14, .int .i64 E14] 40)]]), (fun φ20 xs20 => [[default, default, default, default, default, default, default, default, default, default, default, default, default, default, default, default, default, default, default, default, default, default, default, default, default, default, default, default, default, default, default, default, default, default, default, default, default, default, default, default, default, default, default, default, default, default, default, default, default, default, default]]), [], [1, 1, 1, 3, 1, 1, 0, 0, 0, 0, 0, 1, 1, 0, 0, 0, 0, 0, 0, 0, 0, 0, 0, 0, 0, 1, 1, 0, 0, 0, 0, 0, 0, 0, 0, 0, 0, 0, 0, 0, 0, 0, 0, 0, 0, 0, 0, 0, 0, 0, 1]⟩ (fun j => ([MP.any] : List MP).getD j MP.any) [3] [] [] (fun φ20 xs20 => []) (fun φ20 xs20 => [(108, .bool true), (109, .bool true), (110, pB k6), (111, .bool true), (112, .bool true), (113, .bool true), (114, undef), (115, undef), (116, undef), (117, undef), (118, undef), (119, .bool true), (120, .bool true), (121, undef), (122, undef), (123, undef), (124, undef), (125, undef), (126, undef), (127, undef), (128, undef), (129, undef), (130, undef), (131, undef), (132, undef), (133, .bool true), (134, .bool true), (135, undef), (136, undef), (137, undef), (138, undef), (139, undef), (140, undef), (141, undef), (142, undef), (143, undef), (144, undef), (145, undef), (146, undef), (147, undef), (148, undef), (149, undef), (150, undef), (151, undef), (152, undef), (153, undef), (154, undef), (155, undef), (156, undef), (157, undef), (158, .bool true)]) (fun φ20 xs20 => [(y, .cells #[.slice a14 n14 c14, .int .i64 E14] 40)]) s trivial (by kernel_rfl) (by kernel_rfl) (fun _ _ => by kernel_rfl) (fun _ _ => by kernel_rfl) ⟨fun _ _ => by kernel_rfl, fun _ _ => by kernel_rfl, fun _ _ => by kernel_rfl, fun _ _ => by kernel_rfl⟩ (fun _ _ _ => by kernel_rfl) (fun _ _ => by kernel_rfl) (fun _ _ => by kernel_rfl) (fun _ _ => by kernel_rfl) (fun _ _ => by kernel_rfl) (fun _ _ => by kernel_rfl) trivial trivial (by kernel_rfl) ⟨?c20_3, trivial⟩ ?k20
      case c20_3 =>
       refine kcast (A := ∀ (φ20 : Nat → Nat) (xs20 : Xs) (J3_20 : IM), I14.Le J3_20 → Fun Tryd.prog 44 #[pB k6] J3_20 (fun v J' => ∃ x : UX, v = .bool true ∧ (True))) (by kernel_rfl) ?_
       intro φ20 xs20 J3_20 leJ
       have h6_0 := Ev.RE.mono leJ h6_0
       exact Fun.mono (refZero_c h6_0 (by have q9 := (hgd B2).2; rw [h6_2] at q9; exact q9)) (fun v J' _ h => ⟨UX.d, h.trans (congrArg Value.bool hc19), trivial⟩)
      case k20 =>
       rintro φ20 xs20 I20 w20 le20 s _
       replace hb2 := BoS.mono le20 hb2
       replace hkn := Ev.RE.mono le20 hkn
       replace h6_0 := Ev.RE.mono le20 h6_0
       replace h6_1 := BoS.mono le20 h6_1
       replace h14_0 := Ev.RE.mono le20 h14_0
       replace h14_1 := BoS.mono le20 h14_1
       refine cond_true_rule (b := true) (by kernel_rfl) rfl ?_
       refine seqR ?_
       refine oKD [(y, .cells #[.slice a14 n14 c14, .int .i64 E14] 40)] [] 3 [] 0 (fun φ21 => [(5, .int .i64 6), (4, pB kn), (159, pB kn)]) (fun φ21 => []) s (fun φ21 => by kernel_rfl) (by kernel_rfl) ?_
       intro φ21 w21 s
       refine wp_ret ?_
       refine ret_rule (C := []) _ [] (.tuple #[pB kn, .int .i64 6]) [] [] s trivial (by kernel_rfl) ?_
       replace s := s.drop (List.Sublist.append (List.Sublist.cons₂ _ List.Sublist.slnil) (List.Sublist.refl []))
       have ev : hvG g (.leaf 0) Lb Rb B2 = ⟨T6, T14, 0, D6 + D14, E14⟩ := by unfold hvG hR hL; simp [-List.drop_drop, Nat.add_assoc, h6_2, h6_3, h14_2, h14_3, of_decide_eq_false hc16, hc4, Decidable.not_not.1 (of_decide_eq_false hc9), hc12, Decidable.not_not.1 (of_decide_eq_false hc17), of_decide_eq_true hc19]
       have e9 : tlD g Lb Rb nb B2 = ⟨(Ev.E.leaf 0), 6, D6 + D14, E14⟩ := by rw [tlD_at ev]; simp [badE, lf0, h6_2, h6_3, h14_2, h14_3, of_decide_eq_false hc16, hc4, Decidable.not_not.1 (of_decide_eq_false hc9), hc12, Decidable.not_not.1 (of_decide_eq_false hc17), of_decide_eq_true hc19]
       exact ⟨_, _, _, rfl, s, ⟨_, rfl, rfl, _, (Ev.E.leaf 0), _, _, _, _, _, _, _, rfl, rfl, hkn, h14_1, hsp _ _ _ _ e9, (by rw [← List.drop_drop, hdr]; exact (by simp only [← List.drop_drop, h6_3, h14_3]))⟩⟩
     ·
      rcases Bool.eq_false_or_eq_true (decide (T14.top = 0)) with hc22 | hc22
      ·
       refine draw_rule (C := []) ⟨(fun φ23 xs23 => [.look 0 [] [], .look 0 [] [], .look 0 [] [], .call 44 #[pB k6], .look 0 [] [], .look 0 [] [], .look 0 [] [], .look 0 [] [], .look 0 [] [], .call 44 #[pB k14], .look 0 [] [], .look 0 [] [], .look 0 [] [], .skip, .skip, .skip, .skip, .skip, .skip, .skip, .skip, .skip, .skip, .skip, .skip, .look 0 [] [], .look 0 [] [], .skip, .skip, .skip, .skip, .skip, .skip, .skip, .skip, .skip, .skip, .skip, .skip, .skip, .skip, .skip, .skip, .skip, .skip, .skip, .skip, .skip, .skip, .skip, .look 0 [] []]), (fun φ23 xs23 => [.bool true, .bool true, pB k6, .bool false, .bool false, .bool false, .bool true, .bool true, pB k14, .bool true, .bool true, .bool true, .bool true, undef, undef, undef, undef, undef, undef, undef, undef, undef, undef, undef, undef, .bool true, .bool true, undef, undef, undef, undef, undef, undef, undef, undef, undef, undef, undef, undef, undef, undef, undef, undef, undef, undef, undef, undef, undef, undef, undef, .bool true]), (fun φ23 xs23 => [[(y, .cells #[.slice a14 n14 c14, .int .i64 E14] 40)]]), (fun φ23 xs23 => [[default, default, default, default, default, default, default, default, default, default, default, default, default, default, default, default, default, default, default, default, default, default, default, default, default, default, default, default, default, default, default, default, default, default, default, default, default, default, default, default, default, default, default, default, default, default, default, default, default, default, default]]), [], [1, 1, 1, 3, 1, 1, 1, 1, 1, 3, 1, 1, 1, 0, 0, 0, 0, 0, 0, 0, 0, 0, 0, 0, 0, 1, 1, 0, 0, 0, 0, 0, 0, 0, 0, 0, 0, 0, 0, 0, 0, 0, 0, 0, 0, 0, 0, 0, 0, 0, 1]⟩ (fun j => ([MP.any] : List MP).getD j MP.any) [3, 9] [] [] (fun φ23 xs23 => []) (fun φ23 xs23 => [(108, .bool true), (109, .bool true), (110, pB k6), (111, .bool false), (112, .bool false), (113, .bool false), (114, .bool true), (115, .bool true), (116, pB k14), (117, .bool true), (118, .bool true), (119, .bool true), (120, .bool true), (121, undef), (122, undef), (123, undef), (124, undef), (125, undef), (126, undef), (127, undef), (128, undef), (129, undef), (130, undef), (131, undef), (132, undef), (133, .bool true), (134, .bool true), (135, undef), (136, undef), (137, undef), (138, undef), (139, undef), (140, undef), (141, undef), (142, undef), (143, undef), (144, undef), (145, undef), (146, undef), (147, undef), (148, undef), (149, undef), (150, undef), (151, undef), (152, undef), (153, undef), (154, undef), (155, undef), (156, undef), (157, undef), (158, .bool true)]) (fun φ23 xs23 => [(y, .cells #[.slice a14 n14 c14, .int .i64 E14] 40)]) s trivial (by kernel_rfl) (by kernel_rfl) (fun _ _ => by kernel_rfl) (fun _ _ => by kernel_rfl) ⟨fun _ _ => by kernel_rfl, fun _ _ => by kernel_rfl, fun _ _ => by kernel_rfl, fun _ _ => by kernel_rfl⟩ (fun _ _ _ => by kernel_rfl) (fun _ _ => by kernel_rfl) (fun _ _ => by kernel_rfl) (fun _ _ => by kernel_rfl) (fun _ _ => by kernel_rfl) (fun _ _ => by kernel_rfl) trivial trivial (by kernel_rfl) ⟨?c23_3, ?c23_9, trivial⟩ ?k23
       case c23_3 =>
        refine kcast (A := ∀ (φ23 : Nat → Nat) (xs23 : Xs) (J3_23 : IM), I14.Le J3_23 → Fun Tryd.prog 44 #[pB k6] J3_23 (fun v J' => ∃ x : UX, v = .bool false ∧ (True))) (by kernel_rfl) ?_
        intro φ23 xs23 J3_23 leJ
        have h6_0 := Ev.RE.mono leJ h6_0
        exact Fun.mono (refZero_c h6_0 (by have q9 := (hgd B2).2; rw [h6_2] at q9; exact q9)) (fun v J' _ h => ⟨UX.d, h.trans (congrArg Value.bool hc19), trivial⟩)
       case c23_9 =>
        refine kcast (A := ∀ (φ23 : Nat → Nat) (xs23 : Xs) (J9_23 : IM), I14.Le J9_23 → (True) → Fun Tryd.prog 44 #[pB k14] J9_23 (fun v J' => ∃ x : UX, v = .bool true ∧ (True))) (by kernel_rfl) ?_
        intro φ23 xs23 J9_23 leJ
        rintro _
        have h14_0 := Ev.RE.mono leJ h14_0
        exact Fun.mono (refZero_c h14_0 (by have q9 := (hgd B6).2; rw [h14_2] at q9; exact q9)) (fun v J' _ h => ⟨UX.d, h.trans (congrArg Value.bool hc22), trivial⟩)
       case k23 =>
        rintro φ23 xs23 I23 w23 le23 s _ _
        replace hb2 := BoS.mono le23 hb2
        replace hkn := Ev.RE.mono le23 hkn
        replace h6_0 := Ev.RE.mono le23 h6_0
        replace h6_1 := BoS.mono le23 h6_1
        replace h14_0 := Ev.RE.mono le23 h14_0
        replace h14_1 := BoS.mono le23 h14_1
        refine cond_true_rule (b := true) (by kernel_rfl) rfl ?_
        refine seqR ?_
        refine oKD [(y, .cells #[.slice a14 n14 c14, .int .i64 E14] 40)] [] 3 [] 0 (fun φ24 => [(5, .int .i64 6), (4, pB kn), (159, pB kn)]) (fun φ24 => []) s (fun φ24 => by kernel_rfl) (by kernel_rfl) ?_
        intro φ24 w24 s
        refine wp_ret ?_
        refine ret_rule (C := []) _ [] (.tuple #[pB kn, .int .i64 6]) [] [] s trivial (by kernel_rfl) ?_
        replace s := s.drop (List.Sublist.append (List.Sublist.cons₂ _ List.Sublist.slnil) (List.Sublist.refl []))
        have ev : hvG g (.leaf 0) Lb Rb B2 = ⟨T6, T14, 0, D6 + D14, E14⟩ := by unfold hvG hR hL; simp [-List.drop_drop, Nat.add_assoc, h6_2, h6_3, h14_2, h14_3, of_decide_eq_false hc16, hc4, Decidable.not_not.1 (of_decide_eq_false hc9), hc12, Decidable.not_not.1 (of_decide_eq_false hc17), of_decide_eq_false hc19, of_decide_eq_true hc22]
        have e9 : tlD g Lb Rb nb B2 = ⟨(Ev.E.leaf 0), 6, D6 + D14, E14⟩ := by rw [tlD_at ev]; simp [badE, lf0, h6_2, h6_3, h14_2, h14_3, of_decide_eq_false hc16, hc4, Decidable.not_not.1 (of_decide_eq_false hc9), hc12, Decidable.not_not.1 (of_decide_eq_false hc17), of_decide_eq_false hc19, of_decide_eq_true hc22]
        exact ⟨_, _, _, rfl, s, ⟨_, rfl, rfl, _, (Ev.E.leaf 0), _, _, _, _, _, _, _, rfl, rfl, hkn, h14_1, hsp _ _ _ _ e9, (by rw [← List.drop_drop, hdr]; exact (by simp only [← List.drop_drop, h6_3, h14_3]))⟩⟩
      ·
       rcases Bool.eq_false_or_eq_true (decide (0 < T6.base)) with hc26 | hc26
       ·
        rcases Bool.eq_false_or_eq_true (decide (0 < T14.base)) with hc29 | hc29
        ·
         obtain ⟨pl30, pr30, hq30, hp30⟩ := RE.peekL h6_0
         obtain ⟨pl31, pr31, hq31, hp31⟩ := RE.peekL h14_0
         refine draw_rule (C := [(k6, .cells #[.int .u64 T6.base, .pointer pl30, .pointer pr30] 85), (k14, .cells #[.int .u64 T14.base, .pointer pl31, .pointer pr31] 85)]) ⟨(fun φ30 xs30 => [.look 0 [] [], .look 0 [] [], .look 0 [] [], .call 44 #[pB k6], .look 0 [] [], .look 0 [] [], .look 0 [] [], .look 0 [] [], .look 0 [] [], .call 44 #[pB k14], .look 0 [] [], .look 0 [] [], .look 0 [] [], .look 0 [] [], .look 0 [] [], .look 0 [] [], .look 0 [.c 0] [k6], .sub 0 [] [] (.bool (decide (((T6.base : Nat) : Int) > ((0 : Nat) : Int)))), .look 0 [] [], .look 0 [] [], .look 0 [] [], .look 0 [] [], .look 0 [.c 1] [k14], .sub 0 [] [] (.bool (decide (((T14.base : Nat) : Int) > ((0 : Nat) : Int)))), .look 0 [] [], .look 0 [] [], .look 0 [] [], .skip, .skip, .skip, .skip, .skip, .skip, .skip, .skip, .skip, .skip, .skip, .skip, .skip, .skip, .skip, .skip, .skip, .skip, .skip, .skip, .skip, .skip, .skip, .look 0 [] []]), (fun φ30 xs30 => [.bool true, .bool true, pB k6, .bool false, .bool false, .bool false, .bool true, .bool true, pB k14, .bool false, .bool false, .bool false, .bool false, pB k6, pB k6, pB k6, .int .u64 T6.base, .bool true, .bool true, pB k14, pB k14, pB k14, .int .u64 T14.base, .bool true, .bool true, .bool true, .bool true, undef, undef, undef, undef, undef, undef, undef, undef, undef, undef, undef, undef, undef, undef, undef, undef, undef, undef, undef, undef, undef, undef, undef, .bool true]), (fun φ30 xs30 => [[(y, .cells #[.slice a14 n14 c14, .int .i64 E14] 40)]]), (fun φ30 xs30 => [[default, default, default, default, default, default, default, default, default, default, default, default, default, default, default, default, default, default, default, default, default, default, default, default, default, default, default, default, default, default, default, default, default, default, default, default, default, default, default, default, default, default, default, default, default, default, default, default, default, default, default]]), [], [1, 1, 1, 3, 1, 1, 1, 1, 1, 3, 1, 1, 1, 1, 1, 1, 1, 5, 1, 1, 1, 1, 1, 5, 1, 1, 1, 0, 0, 0, 0, 0, 0, 0, 0, 0, 0, 0, 0, 0, 0, 0, 0, 0, 0, 0, 0, 0, 0, 0, 1]⟩ (fun j => ([MP.any] : List MP).getD j MP.any) [3, 9] [17, 23] [] (fun φ30 xs30 => []) (fun φ30 xs30 => [(108, .bool true), (109, .bool true), (110, pB k6), (111, .bool false), (112, .bool false), (113, .bool false), (114, .bool true), (115, .bool true), (116, pB k14), (117, .bool false), (118, .bool false), (119, .bool false), (120, .bool false), (121, pB k6), (122, pB k6), (123, pB k6), (124, .int .u64 T6.base), (125, .bool true), (126, .bool true), (127, pB k14), (128, pB k14), (129, pB k14), (130, .int .u64 T14.base), (131, .bool true), (132, .bool true), (133, .bool true), (134, .bool true), (135, undef), (136, undef), (137, undef), (138, undef), (139, undef), (140, undef), (141, undef), (142, undef), (143, undef), (144, undef), (145, undef), (146, undef), (147, undef), (148, undef), (149, undef), (150, undef), (151, undef), (152, undef), (153, undef), (154, undef), (155, undef), (156, undef), (157, undef), (158, .bool true)]) (fun φ30 xs30 => [(y, .cells #[.slice a14 n14 c14, .int .i64 E14] 40)]) s ⟨hp30, ⟨hp31, trivial⟩⟩ (by kernel_rfl) (by kernel_rfl) (fun _ _ => by kernel_rfl) (fun _ _ => by kernel_rfl) ⟨fun _ _ => by kernel_rfl, fun _ _ => by kernel_rfl, fun _ _ => by kernel_rfl, fun _ _ => by kernel_rfl⟩ (fun _ _ _ => by kernel_rfl) (fun _ _ => by kernel_rfl) (fun _ _ => by kernel_rfl) (fun _ _ => by kernel_rfl) (fun _ _ => by kernel_rfl) (fun _ _ => by kernel_rfl) ⟨kcast (A := ∀ (φ30 : Nat → Nat) (xs30 : Xs), (.bool (decide (((T6.base : Nat) : Int) > ((0 : Nat) : Int))) : Value) = .bool true) (by kernel_rfl) (fun φ30 xs30 => congrArg Value.bool ((nat_gtr (a := T6.base) (b := 0)).trans (hc26))), ⟨kcast (A := ∀ (φ30 : Nat → Nat) (xs30 : Xs), (.bool (decide (((T14.base : Nat) : Int) > ((0 : Nat) : Int))) : Value) = .bool true) (by kernel_rfl) (fun φ30 xs30 => congrArg Value.bool ((nat_gtr (a := T14.base) (b := 0)).trans (hc29))), trivial⟩⟩ trivial (by kernel_rfl) ⟨?c30_3, ?c30_9, trivial⟩ ?k30
         case c30_3 =>
          refine kcast (A := ∀ (φ30 : Nat → Nat) (xs30 : Xs) (J3_30 : IM), I14.Le J3_30 → Fun Tryd.prog 44 #[pB k6] J3_30 (fun v J' => ∃ x : UX, v = .bool false ∧ (True))) (by kernel_rfl) ?_
          intro φ30 xs30 J3_30 leJ
          have h6_0 := Ev.RE.mono leJ h6_0
          exact Fun.mono (refZero_c h6_0 (by have q9 := (hgd B2).2; rw [h6_2] at q9; exact q9)) (fun v J' _ h => ⟨UX.d, h.trans (congrArg Value.bool hc19), trivial⟩)
         case c30_9 =>
          refine kcast (A := ∀ (φ30 : Nat → Nat) (xs30 : Xs) (J9_30 : IM), I14.Le J9_30 → (True) → Fun Tryd.prog 44 #[pB k14] J9_30 (fun v J' => ∃ x : UX, v = .bool false ∧ (True))) (by kernel_rfl) ?_
          intro φ30 xs30 J9_30 leJ
          rintro _
          have h14_0 := Ev.RE.mono leJ h14_0
          exact Fun.mono (refZero_c h14_0 (by have q9 := (hgd B6).2; rw [h14_2] at q9; exact q9)) (fun v J' _ h => ⟨UX.d, h.trans (congrArg Value.bool hc22), trivial⟩)
         case k30 =>
          rintro φ30 xs30 I30 w30 le30 s _ _
          replace hb2 := BoS.mono le30 hb2
          replace hkn := Ev.RE.mono le30 hkn
          replace h6_0 := Ev.RE.mono le30 h6_0
          replace h6_1 := BoS.mono le30 h6_1
          replace h14_0 := Ev.RE.mono le30 h14_0
          replace h14_1 := BoS.mono le30 h14_1
          refine cond_true_rule (b := true) (by kernel_rfl) rfl ?_
          refine seqR ?_
          refine oKD [(y, .cells #[.slice a14 n14 c14, .int .i64 E14] 40)] [] 3 [] 0 (fun φ33 => [(5, .int .i64 6), (4, pB kn), (159, pB kn)]) (fun φ33 => []) s (fun φ33 => by kernel_rfl) (by kernel_rfl) ?_
          intro φ33 w33 s
          refine wp_ret ?_
          refine ret_rule (C := []) _ [] (.tuple #[pB kn, .int .i64 6]) [] [] s trivial (by kernel_rfl) ?_
          replace s := s.drop (List.Sublist.append (List.Sublist.cons₂ _ List.Sublist.slnil) (List.Sublist.refl []))
          have ev : hvG g (.leaf 0) Lb Rb B2 = ⟨T6, T14, 0, D6 + D14, E14⟩ := by unfold hvG hR hL; simp [-List.drop_drop, Nat.add_assoc, h6_2, h6_3, h14_2, h14_3, of_decide_eq_false hc16, hc4, Decidable.not_not.1 (of_decide_eq_false hc9), hc12, Decidable.not_not.1 (of_decide_eq_false hc17), of_decide_eq_false hc19, of_decide_eq_false hc22, of_decide_eq_true hc26, of_decide_eq_true hc29]
          have e9 : tlD g Lb Rb nb B2 = ⟨(Ev.E.leaf 0), 6, D6 + D14, E14⟩ := by rw [tlD_at ev]; simp [badE, lf0, h6_2, h6_3, h14_2, h14_3, of_decide_eq_false hc16, hc4, Decidable.not_not.1 (of_decide_eq_false hc9), hc12, Decidable.not_not.1 (of_decide_eq_false hc17), of_decide_eq_false hc19, of_decide_eq_false hc22, of_decide_eq_true hc26, of_decide_eq_true hc29]
          exact ⟨_, _, _, rfl, s, ⟨_, rfl, rfl, _, (Ev.E.leaf 0), _, _, _, _, _, _, _, rfl, rfl, hkn, h14_1, hsp _ _ _ _ e9, (by rw [← List.drop_drop, hdr]; exact (by simp only [← List.drop_drop, h6_3, h14_3]))⟩⟩
        ·
         rcases Bool.eq_false_or_eq_true (T6.isLeaf) with hc36 | hc36
         ·
          rcases Bool.eq_false_or_eq_true (T14.isLeaf) with hc39 | hc39
          ·
           exact absurd (leaf_top hc39) (by have q1 := of_decide_eq_false hc22; have q2 := of_decide_eq_false hc29; omega)
          ·
           obtain ⟨pl40, pr40, hq40, hp40⟩ := RE.peekL h6_0
           obtain ⟨pl41, pr41, hq41, hp41⟩ := RE.peekL h14_0
           refine draw_rule (C := [(k6, .cells #[.int .u64 T6.base, .pointer pl40, .pointer pr40] 85), (k14, .cells #[.int .u64 T14.base, .pointer pl41, .pointer pr41] 85)]) ⟨(fun φ40 xs40 => [.look 0 [] [], .look 0 [] [], .look 0 [] [], .call 44 #[pB k6], .look 0 [] [], .look 0 [] [], .look 0 [] [], .look 0 [] [], .look 0 [] [], .call 44 #[pB k14], .look 0 [] [], .look 0 [] [], .look 0 [] [], .look 0 [] [], .look 0 [] [], .look 0 [] [], .look 0 [.c 0] [k6], .sub 0 [] [] (.bool (decide (((T6.base : Nat) : Int) > ((0 : Nat) : Int)))), .look 0 [] [], .look 0 [] [], .look 0 [] [], .look 0 [] [], .look 0 [.c 1] [k14], .sub 0 [] [] (.bool (decide (((T14.base : Nat) : Int) > ((0 : Nat) : Int)))), .look 0 [] [], .look 0 [] [], .look 0 [] [], .look 0 [] [], .look 0 [] [], .look 0 [] [], .look 0 [.c 0] [k6], .ran (binOp .eql 47 (.pointer pl40) (.pointer none)), .look 0 [] [], .look 0 [] [], .look 0 [] [], .look 0 [] [], .look 0 [.c 1] [k14], .ran (binOp .eql 47 (.pointer pl41) (.pointer none)), .look 0 [] [], .look 0 [] [], .skip, .skip, .skip, .skip, .skip, .skip, .skip, .skip, .skip, .look 0 [] [], .look 0 [] []]), (fun φ40 xs40 => [.bool true, .bool true, pB k6, .bool false, .bool false, .bool false, .bool true, .bool true, pB k14, .bool false, .bool false, .bool false, .bool false, pB k6, pB k6, pB k6, .int .u64 T6.base, .bool true, .bool true, pB k14, pB k14, pB k14, .int .u64 T14.base, .bool false, .bool false, .bool false, .bool false, pB k6, pB k6, .pointer (some ⟨k6, 1, none⟩), .pointer pl40, .bool true, .bool true, pB k14, pB k14, .pointer (some ⟨k14, 1, none⟩), .pointer pl41, .bool false, .bool false, .bool false, undef, undef, undef, undef, undef, undef, undef, undef, undef, .bool false, .bool false]), (fun φ40 xs40 => [[(y, .cells #[.slice a14 n14 c14, .int .i64 E14] 40)]]), (fun φ40 xs40 => [[default, default, default, default, default, default, default, default, default, default, default, default, default, default, default, default, default, default, default, default, default, default, default, default, default, default, default, default, default, default, default, default, default, default, default, default, default, default, default, default, default, default, default, default, default, default, default, default, default, default, default]]), [], [1, 1, 1, 3, 1, 1, 1, 1, 1, 3, 1, 1, 1, 1, 1, 1, 1, 5, 1, 1, 1, 1, 1, 5, 1, 1, 1, 1, 1, 1, 1, 6, 1, 1, 1, 1, 1, 6, 1, 1, 0, 0, 0, 0, 0, 0, 0, 0, 0, 1, 1]⟩ (fun j => ([MP.any] : List MP).getD j MP.any) [3, 9] [17, 23] [31, 37] (fun φ40 xs40 => []) (fun φ40 xs40 => [(108, .bool true), (109, .bool true), (110, pB k6), (111, .bool false), (112, .bool false), (113, .bool false), (114, .bool true), (115, .bool true), (116, pB k14), (117, .bool false), (118, .bool false), (119, .bool false), (120, .bool false), (121, pB k6), (122, pB k6), (123, pB k6), (124, .int .u64 T6.base), (125, .bool true), (126, .bool true), (127, pB k14), (128, pB k14), (129, pB k14), (130, .int .u64 T14.base), (131, .bool false), (132, .bool false), (133, .bool false), (134, .bool false), (135, pB k6), (136, pB k6), (137, .pointer (some ⟨k6, 1, none⟩)), (138, .pointer pl40), (139, .bool true), (140, .bool true), (141, pB k14), (142, pB k14), (143, .pointer (some ⟨k14, 1, none⟩)), (144, .pointer pl41), (145, .bool false), (146, .bool false), (147, .bool false), (148, undef), (149, undef), (150, undef), (151, undef), (152, undef), (153, undef), (154, undef), (155, undef), (156, undef), (157, .bool false), (158, .bool false)]) (fun φ40 xs40 => [(y, .cells #[.slice a14 n14 c14, .int .i64 E14] 40)]) s ⟨hp40, ⟨hp41, trivial⟩⟩ (by kernel_rfl) (by kernel_rfl) (fun _ _ => by kernel_rfl) (fun _ _ => by kernel_rfl) ⟨fun _ _ => by kernel_rfl, fun _ _ => by kernel_rfl, fun _ _ => by kernel_rfl, fun _ _ => by kernel_rfl⟩ (fun _ _ _ => by kernel_rfl) (fun _ _ => by kernel_rfl) (fun _ _ => by kernel_rfl) (fun _ _ => by kernel_rfl) (fun _ _ => by kernel_rfl) (fun _ _ => by kernel_rfl) ⟨kcast (A := ∀ (φ40 : Nat → Nat) (xs40 : Xs), (.bool (decide (((T6.base : Nat) : Int) > ((0 : Nat) : Int))) : Value) = .bool true) (by kernel_rfl) (fun φ40 xs40 => congrArg Value.bool ((nat_gtr (a := T6.base) (b := 0)).trans (hc26))), ⟨kcast (A := ∀ (φ40 : Nat → Nat) (xs40 : Xs), (.bool (decide (((T14.base : Nat) : Int) > ((0 : Nat) : Int))) : Value) = .bool false) (by kernel_rfl) (fun φ40 xs40 => congrArg Value.bool ((nat_gtr (a := T14.base) (b := 0)).trans (hc29))), trivial⟩⟩ ⟨kcast (A := ∀ (φ40 : Nat → Nat) (xs40 : Xs) (J : IM) (w : World), I14.Le J → J.Sub w → ((binOp .eql 47 (.pointer pl40) (.pointer none)) : Sem Value).run Tryd.prog w = .ok (.bool true) w) (by kernel_rfl) (fun φ40 xs40 J w hJ hS => (((run_nilE hq40) : ((binOp .eql 47 (.pointer pl40) (.pointer none)) : Sem Value).run Tryd.prog w = .ok (.bool T6.isLeaf) w).trans (congrArg (fun q => Result.ok (Value.bool q) w) hc36))), ⟨kcast (A := ∀ (φ40 : Nat → Nat) (xs40 : Xs) (J : IM) (w : World), I14.Le J → J.Sub w → ((binOp .eql 47 (.pointer pl41) (.pointer none)) : Sem Value).run Tryd.prog w = .ok (.bool false) w) (by kernel_rfl) (fun φ40 xs40 J w hJ hS => (((run_nilE hq41) : ((binOp .eql 47 (.pointer pl41) (.pointer none)) : Sem Value).run Tryd.prog w = .ok (.bool T14.isLeaf) w).trans (congrArg (fun q => Result.ok (Value.bool q) w) hc39))), trivial⟩⟩ (by kernel_rfl) ⟨?c40_3, ?c40_9, trivial⟩ ?k40
           case c40_3 =>
            refine kcast (A := ∀ (φ40 : Nat → Nat) (xs40 : Xs) (J3_40 : IM), I14.Le J3_40 → Fun Tryd.prog 44 #[pB k6] J3_40 (fun v J' => ∃ x : UX, v = .bool false ∧ (True))) (by kernel_rfl) ?_
            intro φ40 xs40 J3_40 leJ
            have h6_0 := Ev.RE.mono leJ h6_0
            exact Fun.mono (refZero_c h6_0 (by have q9 := (hgd B2).2; rw [h6_2] at q9; exact q9)) (fun v J' _ h => ⟨UX.d, h.trans (congrArg Value.bool hc19), trivial⟩)
           case c40_9 =>
            refine kcast (A := ∀ (φ40 : Nat → Nat) (xs40 : Xs) (J9_40 : IM), I14.Le J9_40 → (True) → Fun Tryd.prog 44 #[pB k14] J9_40 (fun v J' => ∃ x : UX, v = .bool false ∧ (True))) (by kernel_rfl) ?_
            intro φ40 xs40 J9_40 leJ
            rintro _
            have h14_0 := Ev.RE.mono leJ h14_0
            exact Fun.mono (refZero_c h14_0 (by have q9 := (hgd B6).2; rw [h14_2] at q9; exact q9)) (fun v J' _ h => ⟨UX.d, h.trans (congrArg Value.bool hc22), trivial⟩)
           case k40 =>
            rintro φ40 xs40 I40 w40 le40 s _ _
            replace hb2 := BoS.mono le40 hb2
            replace hkn := Ev.RE.mono le40 hkn
            replace h6_0 := Ev.RE.mono le40 h6_0
            replace h6_1 := BoS.mono le40 h6_1
            replace h14_0 := Ev.RE.mono le40 h14_0
            replace h14_1 := BoS.mono le40 h14_1
            refine cond_false_rule (b := false) (by kernel_rfl) rfl ?_
            refine wp_skip ?_
            refine seqR ?_
            refine oAD [(y, .cells #[.slice a14 n14 c14, .int .i64 E14] 40)] [] 6 [] 1 (fun φ43 => [(20, pB (φ43 0)), (164, pB (φ43 0)), (163, .agg #[.int .u64 nb, pB k6, pB k14]), (162, pB k14), (161, pB k6), (160, .int .u64 nb)]) (fun φ43 => [(y, .cells #[.slice a14 n14 c14, .int .i64 E14] 40), (φ43 0, .cells #[.int .u64 nb, pB k6, pB k14] 85)]) (fun φ43 => []) s (fun φ43 => by kernel_rfl) (by kernel_rfl) ?_
            intro φ43 w43 s
            refine wp_seq ?_
            refine seqR ?_
            refine oK _ [] 1 [] 0 (fun φ44 => [(165, pB (φ43 0))]) (fun φ44 => []) s (fun φ44 => by kernel_rfl) ?_
            intro φ44 w44 s
            obtain ⟨I45, le45, hk45, s⟩ := s.freezeAt 1 (φ43 0) (.cells #[.int .u64 ((nb : Nat) : Int), .pointer (some ⟨k6, 0, none⟩), .pointer (some ⟨k14, 0, none⟩)] 85) [(y, .cells #[.slice a14 n14 c14, .int .i64 ((E14 : Nat) : Int)] 40)] (by kernel_rfl) (by kernel_rfl)
            replace hb2 := BoS.mono le45 hb2
            replace hkn := Ev.RE.mono le45 hkn
            replace h6_0 := Ev.RE.mono le45 h6_0
            replace h6_1 := BoS.mono le45 h6_1
            replace h14_0 := Ev.RE.mono le45 h14_0
            replace h14_1 := BoS.mono le45 h14_1
            have hre46 : Ev.RE I45 (.node nb T6 T14) (φ43 0) := ⟨_, _, hk45, h6_0, h14_0⟩
            refine call_rule (some 166) s (rmaxN_c (n := nb) (l := T6) (r := T14) hre46 (by have := hnb; have : T6.top ≤ 1048576 := (by have q9 := hg.t B2; rw [h6_2] at q9; exact q9); have : T14.top ≤ 1048576 := (by have q9 := hg.t B6; rw [h14_2] at q9; exact q9); have : (Ev.E.leaf 0).top = 0 := rfl; omega)) (by kernel_rfl) ?_
            intro v47 I47 w47 le47 h47 s
            replace hb2 := BoS.mono le47 hb2
            replace hkn := Ev.RE.mono le47 hkn
            replace h6_0 := Ev.RE.mono le47 h6_0
            replace h6_1 := BoS.mono le47 h6_1
            replace h14_0 := Ev.RE.mono le47 h14_0
            replace h14_1 := BoS.mono le47 h14_1
            replace hre46 := Ev.RE.mono le47 hre46
            obtain rfl := h47
            refine oK [(y, .cells #[.slice a14 n14 c14, .int .i64 E14] 40)] [] 1 [] 0 (fun φ48 => [(167, .bool (decide (((nb + max T6.top T14.top : Nat) : Int) > ((1048576 : Nat) : Int))))]) (fun φ48 => []) s (fun φ48 => by kernel_rfl) ?_
            intro φ48 w48 s
            rw [nat_gtr (a := (nb + max T6.top T14.top)) (b := 1048576)]
            refine ops_done (by kernel_rfl) ?_
            rcases Bool.eq_false_or_eq_true (decide (1048576 < (nb + max T6.top T14.top))) with hc49 | hc49
            ·
             rw [hc49]
             refine cond_true_rule (b := true) (by kernel_rfl) rfl ?_
             refine seqR ?_
             refine oKD _ [] 3 [] 0 (fun φ50 => [(5, .int .i64 4), (4, pB kn), (168, pB kn)]) (fun φ50 => []) s (fun φ50 => by kernel_rfl) (by kernel_rfl) ?_
             intro φ50 w50 s
             refine wp_ret ?_
             refine ret_rule (C := []) _ [] (.tuple #[pB kn, .int .i64 4]) [] [] s trivial (by kernel_rfl) ?_
             replace s := s.drop (List.Sublist.append (List.Sublist.cons₂ _ List.Sublist.slnil) (List.Sublist.refl []))
             have ev : hvG g (.leaf 0) Lb Rb B2 = ⟨T6, T14, 0, D6 + D14, E14⟩ := by unfold hvG hR hL; simp [-List.drop_drop, Nat.add_assoc, h6_2, h6_3, h14_2, h14_3, of_decide_eq_false hc16, hc4, Decidable.not_not.1 (of_decide_eq_false hc9), hc12, Decidable.not_not.1 (of_decide_eq_false hc17), of_decide_eq_false hc19, of_decide_eq_false hc22, of_decide_eq_true hc26, of_decide_eq_false hc29, hc36, hc39, of_decide_eq_true hc49]
             have hm9 := of_decide_eq_true hc49
             (try simp only [lf0.1, Nat.max_zero, Nat.zero_max] at hm9)
             have e9 : tlD g Lb Rb nb B2 = ⟨(Ev.E.leaf 0), 4, D6 + D14, E14⟩ := by rw [tlD_at ev]; simp [badE, lf0, h6_2, h6_3, h14_2, h14_3, of_decide_eq_false hc16, hc4, Decidable.not_not.1 (of_decide_eq_false hc9), hc12, Decidable.not_not.1 (of_decide_eq_false hc17), of_decide_eq_false hc19, of_decide_eq_false hc22, of_decide_eq_true hc26, of_decide_eq_false hc29, hc36, hc39, of_decide_eq_true hc49, hm9]
             exact ⟨_, _, _, rfl, s, ⟨_, rfl, rfl, _, (Ev.E.leaf 0), _, _, _, _, _, _, _, rfl, rfl, hkn, h14_1, hsp _ _ _ _ e9, (by rw [← List.drop_drop, hdr]; exact (by simp only [← List.drop_drop, h6_3, h14_3]))⟩⟩
            ·
             rw [hc49]
             refine cond_false_rule (b := false) (by kernel_rfl) rfl ?_
             refine wp_skip ?_
             refine seqR ?_
             refine oKD _ [] 3 [] 0 (fun φ51 => [(5, .int .i64 0), (4, pB (φ43 0)), (169, pB (φ43 0))]) (fun φ51 => []) s (fun φ51 => by kernel_rfl) (by kernel_rfl) ?_
             intro φ51 w51 s
             refine wp_ret ?_
             refine ret_rule (C := []) _ [] (.tuple #[pB (φ43 0), .int .i64 0]) [] [] s trivial (by kernel_rfl) ?_
             replace s := s.drop (List.Sublist.append (List.Sublist.cons₂ _ List.Sublist.slnil) (List.Sublist.refl []))
             have ev : hvG g (.leaf 0) Lb Rb B2 = ⟨T6, T14, 0, D6 + D14, E14⟩ := by unfold hvG hR hL; simp [-List.drop_drop, Nat.add_assoc, h6_2, h6_3, h14_2, h14_3, of_decide_eq_false hc16, hc4, Decidable.not_not.1 (of_decide_eq_false hc9), hc12, Decidable.not_not.1 (of_decide_eq_false hc17), of_decide_eq_false hc19, of_decide_eq_false hc22, of_decide_eq_true hc26, of_decide_eq_false hc29, hc36, hc39, of_decide_eq_false hc49]
             have hm9 := of_decide_eq_false hc49
             (try simp only [lf0.1, Nat.max_zero, Nat.zero_max] at hm9)
             have e9 : tlD g Lb Rb nb B2 = ⟨(Ev.E.node nb T6 T14), 0, D6 + D14, E14⟩ := by rw [tlD_at ev]; simp [badE, lf0, h6_2, h6_3, h14_2, h14_3, of_decide_eq_false hc16, hc4, Decidable.not_not.1 (of_decide_eq_false hc9), hc12, Decidable.not_not.1 (of_decide_eq_false hc17), of_decide_eq_false hc19, of_decide_eq_false hc22, of_decide_eq_true hc26, of_decide_eq_false hc29, hc36, hc39, of_decide_eq_false hc49, hm9]
             exact ⟨_, _, _, rfl, s, ⟨_, rfl, rfl, _, (Ev.E.node nb T6 T14), _, _, _, _, _, _, _, rfl, rfl, hre46, h14_1, hsp _ _ _ _ e9, (by rw [← List.drop_drop, hdr]; exact (by simp only [← List.drop_drop, h6_3, h14_3]))⟩⟩
         ·
          obtain ⟨pl52, pr52, hq52, hp52⟩ := RE.peekL h6_0
          obtain ⟨pl53, pr53, hq53, hp53⟩ := RE.peekL h14_0
          refine draw_rule (C := [(k6, .cells #[.int .u64 T6.base, .pointer pl52, .pointer pr52] 85), (k14, .cells #[.int .u64 T14.base, .pointer pl53, .pointer pr53] 85)]) ⟨(fun φ52 xs52 => [.look 0 [] [], .look 0 [] [], .look 0 [] [], .call 44 #[pB k6], .look 0 [] [], .look 0 [] [], .look 0 [] [], .look 0 [] [], .look 0 [] [], .call 44 #[pB k14], .look 0 [] [], .look 0 [] [], .look 0 [] [], .look 0 [] [], .look 0 [] [], .look 0 [] [], .look 0 [.c 0] [k6], .sub 0 [] [] (.bool (decide (((T6.base : Nat) : Int) > ((0 : Nat) : Int)))), .look 0 [] [], .look 0 [] [], .look 0 [] [], .look 0 [] [], .look 0 [.c 1] [k14], .sub 0 [] [] (.bool (decide (((T14.base : Nat) : Int) > ((0 : Nat) : Int)))), .look 0 [] [], .look 0 [] [], .look 0 [] [], .look 0 [] [], .look 0 [] [], .look 0 [] [], .look 0 [.c 0] [k6], .ran (binOp .eql 47 (.pointer pl52) (.pointer none)), .look 0 [] [], .skip, .skip, .skip, .skip, .skip, .look 0 [] [], .look 0 [] [], .skip, .skip, .skip, .skip, .skip, .skip, .skip, .skip, .skip, .look 0 [] [], .look 0 [] []]), (fun φ52 xs52 => [.bool true, .bool true, pB k6, .bool false, .bool false, .bool false, .bool true, .bool true, pB k14, .bool false, .bool false, .bool false, .bool false, pB k6, pB k6, pB k6, .int .u64 T6.base, .bool true, .bool true, pB k14, pB k14, pB k14, .int .u64 T14.base, .bool false, .bool false, .bool false, .bool false, pB k6, pB k6, .pointer (some ⟨k6, 1, none⟩), .pointer pl52, .bool false, .bool false, undef, undef, undef, undef, undef, .bool false, .bool false, undef, undef, undef, undef, undef, undef, undef, undef, undef, .bool false, .bool false]), (fun φ52 xs52 => [[(y, .cells #[.slice a14 n14 c14, .int .i64 E14] 40)]]), (fun φ52 xs52 => [[default, default, default, default, default, default, default, default, default, default, default, default, default, default, default, default, default, default, default, default, default, default, default, default, default, default, default, default, default, default, default, default, default, default, default, default, default, default, default, default, default, default, default, default, default, default, default, default, default, default, default]]), [], [1, 1, 1, 3, 1, 1, 1, 1, 1, 3, 1, 1, 1, 1, 1, 1, 1, 5, 1, 1, 1, 1, 1, 5, 1, 1, 1, 1, 1, 1, 1, 6, 1, 0, 0, 0, 0, 0, 1, 1, 0, 0, 0, 0, 0, 0, 0, 0, 0, 1, 1]⟩ (fun j => ([MP.any] : List MP).getD j MP.any) [3, 9] [17, 23] [31] (fun φ52 xs52 => []) (fun φ52 xs52 => [(108, .bool true), (109, .bool true), (110, pB k6), (111, .bool false), (112, .bool false), (113, .bool false), (114, .bool true), (115, .bool true), (116, pB k14), (117, .bool false), (118, .bool false), (119, .bool false), (120, .bool false), (121, pB k6), (122, pB k6), (123, pB k6), (124, .int .u64 T6.base), (125, .bool true), (126, .bool true), (127, pB k14), (128, pB k14), (129, pB k14), (130, .int .u64 T14.base), (131, .bool false), (132, .bool false), (133, .bool false), (134, .bool false), (135, pB k6), (136, pB k6), (137, .pointer (some ⟨k6, 1, none⟩)), (138, .pointer pl52), (139, .bool false), (140, .bool false), (141, undef), (142, undef), (143, undef), (144, undef), (145, undef), (146, .bool false), (147, .bool false), (148, undef), (149, undef), (150, undef), (151, undef), (152, undef), (153, undef), (154, undef), (155, undef), (156, undef), (157, .bool false), (158, .bool false)]) (fun φ52 xs52 => [(y, .cells #[.slice a14 n14 c14, .int .i64 E14] 40)]) s ⟨hp52, ⟨hp53, trivial⟩⟩ (by kernel_rfl) (by kernel_rfl) (fun _ _ => by kernel_rfl) (fun _ _ => by kernel_rfl) ⟨fun _ _ => by kernel_rfl, fun _ _ => by kernel_rfl, fun _ _ => by kernel_rfl, fun _ _ => by kernel_rfl⟩ (fun _ _ _ => by kernel_rfl) (fun _ _ => by kernel_rfl) (fun _ _ => by kernel_rfl) (fun _ _ => by kernel_rfl) (fun _ _ => by kernel_rfl) (fun _ _ => by kernel_rfl) ⟨kcast (A := ∀ (φ52 : Nat → Nat) (xs52 : Xs), (.bool (decide (((T6.base : Nat) : Int) > ((0 : Nat) : Int))) : Value) = .bool true) (by kernel_rfl) (fun φ52 xs52 => congrArg Value.bool ((nat_gtr (a := T6.base) (b := 0)).trans (hc26))), ⟨kcast (A := ∀ (φ52 : Nat → Nat) (xs52 : Xs), (.bool (decide (((T14.base : Nat) : Int) > ((0 : Nat) : Int))) : Value) = .bool false) (by kernel_rfl) (fun φ52 xs52 => congrArg Value.bool ((nat_gtr (a := T14.base) (b := 0)).trans (hc29))), trivial⟩⟩ ⟨kcast (A := ∀ (φ52 : Nat → Nat) (xs52 : Xs) (J : IM) (w : World), I14.Le J → J.Sub w → ((binOp .eql 47 (.pointer pl52) (.pointer none)) : Sem Value).run Tryd.prog w = .ok (.bool false) w) (by kernel_rfl) (fun φ52 xs52 J w hJ hS => (((run_nilE hq52) : ((binOp .eql 47 (.pointer pl52) (.pointer none)) : Sem Value).run Tryd.prog w = .ok (.bool T6.isLeaf) w).trans (congrArg (fun q => Result.ok (Value.bool q) w) hc36))), trivial⟩ (by kernel_rfl) ⟨?c52_3, ?c52_9, trivial⟩ ?k52
          case c52_3 =>
           refine kcast (A := ∀ (φ52 : Nat → Nat) (xs52 : Xs) (J3_52 : IM), I14.Le J3_52 → Fun Tryd.prog 44 #[pB k6] J3_52 (fun v J' => ∃ x : UX, v = .bool false ∧ (True))) (by kernel_rfl) ?_
           intro φ52 xs52 J3_52 leJ
           have h6_0 := Ev.RE.mono leJ h6_0
           exact Fun.mono (refZero_c h6_0 (by have q9 := (hgd B2).2; rw [h6_2] at q9; exact q9)) (fun v J' _ h => ⟨UX.d, h.trans (congrArg Value.bool hc19), trivial⟩)
          case c52_9 =>
           refine kcast (A := ∀ (φ52 : Nat → Nat) (xs52 : Xs) (J9_52 : IM), I14.Le J9_52 → (True) → Fun Tryd.prog 44 #[pB k14] J9_52 (fun v J' => ∃ x : UX, v = .bool false ∧ (True))) (by kernel_rfl) ?_
           intro φ52 xs52 J9_52 leJ
           rintro _
           have h14_0 := Ev.RE.mono leJ h14_0
           exact Fun.mono (refZero_c h14_0 (by have q9 := (hgd B6).2; rw [h14_2] at q9; exact q9)) (fun v J' _ h => ⟨UX.d, h.trans (congrArg Value.bool hc22), trivial⟩)
          case k52 =>
           rintro φ52 xs52 I52 w52 le52 s _ _
           replace hb2 := BoS.mono le52 hb2
           replace hkn := Ev.RE.mono le52 hkn
           replace h6_0 := Ev.RE.mono le52 h6_0
           replace h6_1 := BoS.mono le52 h6_1
           replace h14_0 := Ev.RE.mono le52 h14_0
           replace h14_1 := BoS.mono le52 h14_1
           refine cond_false_rule (b := false) (by kernel_rfl) rfl ?_
           refine wp_skip ?_
           refine seqR ?_
           refine oAD [(y, .cells #[.slice a14 n14 c14, .int .i64 E14] 40)] [] 6 [] 1 (fun φ55 => [(20, pB (φ55 0)), (164, pB (φ55 0)), (163, .agg #[.int .u64 nb, pB k6, pB k14]), (162, pB k14), (161, pB k6), (160, .int .u64 nb)]) (fun φ55 => [(y, .cells #[.slice a14 n14 c14, .int .i64 E14] 40), (φ55 0, .cells #[.int .u64 nb, pB k6, pB k14] 85)]) (fun φ55 => []) s (fun φ55 => by kernel_rfl) (by kernel_rfl) ?_
           intro φ55 w55 s
           refine wp_seq ?_
           refine seqR ?_
           refine oK _ [] 1 [] 0 (fun φ56 => [(165, pB (φ55 0))]) (fun φ56 => []) s (fun φ56 => by kernel_rfl) ?_
           intro φ56 w56 s
           obtain ⟨I57, le57, hk57, s⟩ := s.freezeAt 1 (φ55 0) (.cells #[.int .u64 ((nb : Nat) : Int), .pointer (some ⟨k6, 0, none⟩), .pointer (some ⟨k14, 0, none⟩)] 85) [(y, .cells #[.slice a14 n14 c14, .int .i64 ((E14 : Nat) : Int)] 40)] (by kernel_rfl) (by kernel_rfl)
           replace hb2 := BoS.mono le57 hb2
           replace hkn := Ev.RE.mono le57 hkn
           replace h6_0 := Ev.RE.mono le57 h6_0
           replace h6_1 := BoS.mono le57 h6_1
           replace h14_0 := Ev.RE.mono le57 h14_0
           replace h14_1 := BoS.mono le57 h14_1
           have hre58 : Ev.RE I57 (.node nb T6 T14) (φ55 0) := ⟨_, _, hk57, h6_0, h14_0⟩
           refine call_rule (some 166) s (rmaxN_c (n := nb) (l := T6) (r := T14) hre58 (by have := hnb; have : T6.top ≤ 1048576 := (by have q9 := hg.t B2; rw [h6_2] at q9; exact q9); have : T14.top ≤ 1048576 := (by have q9 := hg.t B6; rw [h14_2] at q9; exact q9); have : (Ev.E.leaf 0).top = 0 := rfl; omega)) (by kernel_rfl) ?_
           intro v59 I59 w59 le59 h59 s
           replace hb2 := BoS.mono le59 hb2
           replace hkn := Ev.RE.mono le59 hkn
           replace h6_0 := Ev.RE.mono le59 h6_0
           replace h6_1 := BoS.mono le59 h6_1
           replace h14_0 := Ev.RE.mono le59 h14_0
           replace h14_1 := BoS.mono le59 h14_1
           replace hre58 := Ev.RE.mono le59 hre58
           obtain rfl := h59
           refine oK [(y, .cells #[.slice a14 n14 c14, .int .i64 E14] 40)] [] 1 [] 0 (fun φ60 => [(167, .bool (decide (((nb + max T6.top T14.top : Nat) : Int) > ((1048576 : Nat) : Int))))]) (fun φ60 => []) s (fun φ60 => by kernel_rfl) ?_
           intro φ60 w60 s
           rw [nat_gtr (a := (nb + max T6.top T14.top)) (b := 1048576)]
           refine ops_done (by kernel_rfl) ?_
           rcases Bool.eq_false_or_eq_true (decide (1048576 < (nb + max T6.top T14.top))) with hc61 | hc61
           ·
            rw [hc61]
            refine cond_true_rule (b := true) (by kernel_rfl) rfl ?_
            refine seqR ?_
            refine oKD _ [] 3 [] 0 (fun φ62 => [(5, .int .i64 4), (4, pB kn), (168, pB kn)]) (fun φ62 => []) s (fun φ62 => by kernel_rfl) (by kernel_rfl) ?_
            intro φ62 w62 s
            refine wp_ret ?_
            refine ret_rule (C := []) _ [] (.tuple #[pB kn, .int .i64 4]) [] [] s trivial (by kernel_rfl) ?_
            replace s := s.drop (List.Sublist.append (List.Sublist.cons₂ _ List.Sublist.slnil) (List.Sublist.refl []))
            have ev : hvG g (.leaf 0) Lb Rb B2 = ⟨T6, T14, 0, D6 + D14, E14⟩ := by unfold hvG hR hL; simp [-List.drop_drop, Nat.add_assoc, h6_2, h6_3, h14_2, h14_3, of_decide_eq_false hc16, hc4, Decidable.not_not.1 (of_decide_eq_false hc9), hc12, Decidable.not_not.1 (of_decide_eq_false hc17), of_decide_eq_false hc19, of_decide_eq_false hc22, of_decide_eq_true hc26, of_decide_eq_false hc29, hc36, of_decide_eq_true hc61]
            have hm9 := of_decide_eq_true hc61
            (try simp only [lf0.1, Nat.max_zero, Nat.zero_max] at hm9)
            have e9 : tlD g Lb Rb nb B2 = ⟨(Ev.E.leaf 0), 4, D6 + D14, E14⟩ := by rw [tlD_at ev]; simp [badE, lf0, h6_2, h6_3, h14_2, h14_3, of_decide_eq_false hc16, hc4, Decidable.not_not.1 (of_decide_eq_false hc9), hc12, Decidable.not_not.1 (of_decide_eq_false hc17), of_decide_eq_false hc19, of_decide_eq_false hc22, of_decide_eq_true hc26, of_decide_eq_false hc29, hc36, of_decide_eq_true hc61, hm9]
            exact ⟨_, _, _, rfl, s, ⟨_, rfl, rfl, _, (Ev.E.leaf 0), _, _, _, _, _, _, _, rfl, rfl, hkn, h14_1, hsp _ _ _ _ e9, (by rw [← List.drop_drop, hdr]; exact (by simp only [← List.drop_drop, h6_3, h14_3]))⟩⟩
           ·
            rw [hc61]
            refine cond_false_rule (b := false) (by kernel_rfl) rfl ?_
            refine wp_skip ?_
            refine seqR ?_
            refine oKD _ [] 3 [] 0 (fun φ63 => [(5, .int .i64 0), (4, pB (φ55 0)), (169, pB (φ55 0))]) (fun φ63 => []) s (fun φ63 => by kernel_rfl) (by kernel_rfl) ?_
            intro φ63 w63 s
            refine wp_ret ?_
            refine ret_rule (C := []) _ [] (.tuple #[pB (φ55 0), .int .i64 0]) [] [] s trivial (by kernel_rfl) ?_
            replace s := s.drop (List.Sublist.append (List.Sublist.cons₂ _ List.Sublist.slnil) (List.Sublist.refl []))
            have ev : hvG g (.leaf 0) Lb Rb B2 = ⟨T6, T14, 0, D6 + D14, E14⟩ := by unfold hvG hR hL; simp [-List.drop_drop, Nat.add_assoc, h6_2, h6_3, h14_2, h14_3, of_decide_eq_false hc16, hc4, Decidable.not_not.1 (of_decide_eq_false hc9), hc12, Decidable.not_not.1 (of_decide_eq_false hc17), of_decide_eq_false hc19, of_decide_eq_false hc22, of_decide_eq_true hc26, of_decide_eq_false hc29, hc36, of_decide_eq_false hc61]
            have hm9 := of_decide_eq_false hc61
            (try simp only [lf0.1, Nat.max_zero, Nat.zero_max] at hm9)
            have e9 : tlD g Lb Rb nb B2 = ⟨(Ev.E.node nb T6 T14), 0, D6 + D14, E14⟩ := by rw [tlD_at ev]; simp [badE, lf0, h6_2, h6_3, h14_2, h14_3, of_decide_eq_false hc16, hc4, Decidable.not_not.1 (of_decide_eq_false hc9), hc12, Decidable.not_not.1 (of_decide_eq_false hc17), of_decide_eq_false hc19, of_decide_eq_false hc22, of_decide_eq_true hc26, of_decide_eq_false hc29, hc36, of_decide_eq_false hc61, hm9]
            exact ⟨_, _, _, rfl, s, ⟨_, rfl, rfl, _, (Ev.E.node nb T6 T14), _, _, _, _, _, _, _, rfl, rfl, hre58, h14_1, hsp _ _ _ _ e9, (by rw [← List.drop_drop, hdr]; exact (by simp only [← List.drop_drop, h6_3, h14_3]))⟩⟩
       ·
        rcases Bool.eq_false_or_eq_true (T6.isLeaf) with hc65 | hc65
        ·
         exact absurd (leaf_top hc65) (by have q1 := of_decide_eq_false hc19; have q2 := of_decide_eq_false hc26; omega)
        ·
         obtain ⟨pl66, pr66, hq66, hp66⟩ := RE.peekL h6_0
         refine draw_rule (C := [(k6, .cells #[.int .u64 T6.base, .pointer pl66, .pointer pr66] 85)]) ⟨(fun φ66 xs66 => [.look 0 [] [], .look 0 [] [], .look 0 [] [], .call 44 #[pB k6], .look 0 [] [], .look 0 [] [], .look 0 [] [], .look 0 [] [], .look 0 [] [], .call 44 #[pB k14], .look 0 [] [], .look 0 [] [], .look 0 [] [], .look 0 [] [], .look 0 [] [], .look 0 [] [], .look 0 [.c 0] [k6], .sub 0 [] [] (.bool (decide (((T6.base : Nat) : Int) > ((0 : Nat) : Int)))), .look 0 [] [], .skip, .skip, .skip, .skip, .skip, .look 0 [] [], .look 0 [] [], .look 0 [] [], .look 0 [] [], .look 0 [] [], .look 0 [] [], .look 0 [.c 0] [k6], .ran (binOp .eql 47 (.pointer pl66) (.pointer none)), .look 0 [] [], .skip, .skip, .skip, .skip, .skip, .look 0 [] [], .look 0 [] [], .skip, .skip, .skip, .skip, .skip, .skip, .skip, .skip, .skip, .look 0 [] [], .look 0 [] []]), (fun φ66 xs66 => [.bool true, .bool true, pB k6, .bool false, .bool false, .bool false, .bool true, .bool true, pB k14, .bool false, .bool false, .bool false, .bool false, pB k6, pB k6, pB k6, .int .u64 T6.base, .bool false, .bool false, undef, undef, undef, undef, undef, .bool false, .bool false, .bool false, pB k6, pB k6, .pointer (some ⟨k6, 1, none⟩), .pointer pl66, .bool false, .bool false, undef, undef, undef, undef, undef, .bool false, .bool false, undef, undef, undef, undef, undef, undef, undef, undef, undef, .bool false, .bool false]), (fun φ66 xs66 => [[(y, .cells #[.slice a14 n14 c14, .int .i64 E14] 40)]]), (fun φ66 xs66 => [[default, default, default, default, default, default, default, default, default, default, default, default, default, default, default, default, default, default, default, default, default, default, default, default, default, default, default, default, default, default, default, default, default, default, default, default, default, default, default, default, default, default, default, default, default, default, default, default, default, default, default]]), [], [1, 1, 1, 3, 1, 1, 1, 1, 1, 3, 1, 1, 1, 1, 1, 1, 1, 5, 1, 0, 0, 0, 0, 0, 1, 1, 1, 1, 1, 1, 1, 6, 1, 0, 0, 0, 0, 0, 1, 1, 0, 0, 0, 0, 0, 0, 0, 0, 0, 1, 1]⟩ (fun j => ([MP.any] : List MP).getD j MP.any) [3, 9] [17] [31] (fun φ66 xs66 => []) (fun φ66 xs66 => [(108, .bool true), (109, .bool true), (110, pB k6), (111, .bool false), (112, .bool false), (113, .bool false), (114, .bool true), (115, .bool true), (116, pB k14), (117, .bool false), (118, .bool false), (119, .bool false), (120, .bool false), (121, pB k6), (122, pB k6), (123, pB k6), (124, .int .u64 T6.base), (125, .bool false), (126, .bool false), (127, undef), (128, undef), (129, undef), (130, undef), (131, undef), (132, .bool false), (133, .bool false), (134, .bool false), (135, pB k6), (136, pB k6), (137, .pointer (some ⟨k6, 1, none⟩)), (138, .pointer pl66), (139, .bool false), (140, .bool false), (141, undef), (142, undef), (143, undef), (144, undef), (145, undef), (146, .bool false), (147, .bool false), (148, undef), (149, undef), (150, undef), (151, undef), (152, undef), (153, undef), (154, undef), (155, undef), (156, undef), (157, .bool false), (158, .bool false)]) (fun φ66 xs66 => [(y, .cells #[.slice a14 n14 c14, .int .i64 E14] 40)]) s ⟨hp66, trivial⟩ (by kernel_rfl) (by kernel_rfl) (fun _ _ => by kernel_rfl) (fun _ _ => by kernel_rfl) ⟨fun _ _ => by kernel_rfl, fun _ _ => by kernel_rfl, fun _ _ => by kernel_rfl, fun _ _ => by kernel_rfl⟩ (fun _ _ _ => by kernel_rfl) (fun _ _ => by kernel_rfl) (fun _ _ => by kernel_rfl) (fun _ _ => by kernel_rfl) (fun _ _ => by kernel_rfl) (fun _ _ => by kernel_rfl) ⟨kcast (A := ∀ (φ66 : Nat → Nat) (xs66 : Xs), (.bool (decide (((T6.base : Nat) : Int) > ((0 : Nat) : Int))) : Value) = .bool false) (by kernel_rfl) (fun φ66 xs66 => congrArg Value.bool ((nat_gtr (a := T6.base) (b := 0)).trans (hc26))), trivial⟩ ⟨kcast (A := ∀ (φ66 : Nat → Nat) (xs66 : Xs) (J : IM) (w : World), I14.Le J → J.Sub w → ((binOp .eql 47 (.pointer pl66) (.pointer none)) : Sem Value).run Tryd.prog w = .ok (.bool false) w) (by kernel_rfl) (fun φ66 xs66 J w hJ hS => (((run_nilE hq66) : ((binOp .eql 47 (.pointer pl66) (.pointer none)) : Sem Value).run Tryd.prog w = .ok (.bool T6.isLeaf) w).trans (congrArg (fun q => Result.ok (Value.bool q) w) hc65))), trivial⟩ (by kernel_rfl) ⟨?c66_3, ?c66_9, trivial⟩ ?k66
         case c66_3 =>
          refine kcast (A := ∀ (φ66 : Nat → Nat) (xs66 : Xs) (J3_66 : IM), I14.Le J3_66 → Fun Tryd.prog 44 #[pB k6] J3_66 (fun v J' => ∃ x : UX, v = .bool false ∧ (True))) (by kernel_rfl) ?_
          intro φ66 xs66 J3_66 leJ
          have h6_0 := Ev.RE.mono leJ h6_0
          exact Fun.mono (refZero_c h6_0 (by have q9 := (hgd B2).2; rw [h6_2] at q9; exact q9)) (fun v J' _ h => ⟨UX.d, h.trans (congrArg Value.bool hc19), trivial⟩)
         case c66_9 =>
          refine kcast (A := ∀ (φ66 : Nat → Nat) (xs66 : Xs) (J9_66 : IM), I14.Le J9_66 → (True) → Fun Tryd.prog 44 #[pB k14] J9_66 (fun v J' => ∃ x : UX, v = .bool false ∧ (True))) (by kernel_rfl) ?_
          intro φ66 xs66 J9_66 leJ
          rintro _
          have h14_0 := Ev.RE.mono leJ h14_0
          exact Fun.mono (refZero_c h14_0 (by have q9 := (hgd B6).2; rw [h14_2] at q9; exact q9)) (fun v J' _ h => ⟨UX.d, h.trans (congrArg Value.bool hc22), trivial⟩)
         case k66 =>
          rintro φ66 xs66 I66 w66 le66 s _ _
          replace hb2 := BoS.mono le66 hb2
          replace hkn := Ev.RE.mono le66 hkn
          replace h6_0 := Ev.RE.mono le66 h6_0
          replace h6_1 := BoS.mono le66 h6_1
          replace h14_0 := Ev.RE.mono le66 h14_0
          replace h14_1 := BoS.mono le66 h14_1
          refine cond_false_rule (b := false) (by kernel_rfl) rfl ?_
          refine wp_skip ?_
          refine seqR ?_
          refine oAD [(y, .cells #[.slice a14 n14 c14, .int .i64 E14] 40)] [] 6 [] 1 (fun φ68 => [(20, pB (φ68 0)), (164, pB (φ68 0)), (163, .agg #[.int .u64 nb, pB k6, pB k14]), (162, pB k14), (161, pB k6), (160, .int .u64 nb)]) (fun φ68 => [(y, .cells #[.slice a14 n14 c14, .int .i64 E14] 40), (φ68 0, .cells #[.int .u64 nb, pB k6, pB k14] 85)]) (fun φ68 => []) s (fun φ68 => by kernel_rfl) (by kernel_rfl) ?_
          intro φ68 w68 s
          refine wp_seq ?_
          refine seqR ?_
          refine oK _ [] 1 [] 0 (fun φ69 => [(165, pB (φ68 0))]) (fun φ69 => []) s (fun φ69 => by kernel_rfl) ?_
          intro φ69 w69 s
          obtain ⟨I70, le70, hk70, s⟩ := s.freezeAt 1 (φ68 0) (.cells #[.int .u64 ((nb : Nat) : Int), .pointer (some ⟨k6, 0, none⟩), .pointer (some ⟨k14, 0, none⟩)] 85) [(y, .cells #[.slice a14 n14 c14, .int .i64 ((E14 : Nat) : Int)] 40)] (by kernel_rfl) (by kernel_rfl)
          replace hb2 := BoS.mono le70 hb2
          replace hkn := Ev.RE.mono le70 hkn
          replace h6_0 := Ev.RE.mono le70 h6_0
          replace h6_1 := BoS.mono le70 h6_1
          replace h14_0 := Ev.RE.mono le70 h14_0
          replace h14_1 := BoS.mono le70 h14_1
          have hre71 : Ev.RE I70 (.node nb T6 T14) (φ68 0) := ⟨_, _, hk70, h6_0, h14_0⟩
          refine call_rule (some 166) s (rmaxN_c (n := nb) (l := T6) (r := T14) hre71 (by have := hnb; have : T6.top ≤ 1048576 := (by have q9 := hg.t B2; rw [h6_2] at q9; exact q9); have : T14.top ≤ 1048576 := (by have q9 := hg.t B6; rw [h14_2] at q9; exact q9); have : (Ev.E.leaf 0).top = 0 := rfl; omega)) (by kernel_rfl) ?_
          intro v72 I72 w72 le72 h72 s
          replace hb2 := BoS.mono le72 hb2
          replace hkn := Ev.RE.mono le72 hkn
          replace h6_0 := Ev.RE.mono le72 h6_0
          replace h6_1 := BoS.mono le72 h6_1
          replace h14_1 := BoS.mono le72 h14_1
          replace hre71 := Ev.RE.mono le72 hre71
          obtain rfl := h72
          refine oK [(y, .cells #[.slice a14 n14 c14, .int .i64 E14] 40)] [] 1 [] 0 (fun φ73 => [(167, .bool (decide (((nb + max T6.top T14.top : Nat) : Int) > ((1048576 : Nat) : Int))))]) (fun φ73 => []) s (fun φ73 => by kernel_rfl) ?_
          intro φ73 w73 s
          rw [nat_gtr (a := (nb + max T6.top T14.top)) (b := 1048576)]
          refine ops_done (by kernel_rfl) ?_
          rcases Bool.eq_false_or_eq_true (decide (1048576 < (nb + max T6.top T14.top))) with hc74 | hc74
          ·
           rw [hc74]
           refine cond_true_rule (b := true) (by kernel_rfl) rfl ?_
           refine seqR ?_
           refine oKD _ [] 3 [] 0 (fun φ75 => [(5, .int .i64 4), (4, pB kn), (168, pB kn)]) (fun φ75 => []) s (fun φ75 => by kernel_rfl) (by kernel_rfl) ?_
           intro φ75 w75 s
           refine wp_ret ?_
           refine ret_rule (C := []) _ [] (.tuple #[pB kn, .int .i64 4]) [] [] s trivial (by kernel_rfl) ?_
           replace s := s.drop (List.Sublist.append (List.Sublist.cons₂ _ List.Sublist.slnil) (List.Sublist.refl []))
           have ev : hvG g (.leaf 0) Lb Rb B2 = ⟨T6, T14, 0, D6 + D14, E14⟩ := by unfold hvG hR hL; simp [-List.drop_drop, Nat.add_assoc, h6_2, h6_3, h14_2, h14_3, of_decide_eq_false hc16, hc4, Decidable.not_not.1 (of_decide_eq_false hc9), hc12, Decidable.not_not.1 (of_decide_eq_false hc17), of_decide_eq_false hc19, of_decide_eq_false hc22, of_decide_eq_false hc26, hc65, of_decide_eq_true hc74]
           have hm9 := of_decide_eq_true hc74
           (try simp only [lf0.1, Nat.max_zero, Nat.zero_max] at hm9)
           have e9 : tlD g Lb Rb nb B2 = ⟨(Ev.E.leaf 0), 4, D6 + D14, E14⟩ := by rw [tlD_at ev]; simp [badE, lf0, h6_2, h6_3, h14_2, h14_3, of_decide_eq_false hc16, hc4, Decidable.not_not.1 (of_decide_eq_false hc9), hc12, Decidable.not_not.1 (of_decide_eq_false hc17), of_decide_eq_false hc19, of_decide_eq_false hc22, of_decide_eq_false hc26, hc65, of_decide_eq_true hc74, hm9]
           exact ⟨_, _, _, rfl, s, ⟨_, rfl, rfl, _, (Ev.E.leaf 0), _, _, _, _, _, _, _, rfl, rfl, hkn, h14_1, hsp _ _ _ _ e9, (by rw [← List.drop_drop, hdr]; exact (by simp only [← List.drop_drop, h6_3, h14_3]))⟩⟩
          ·
           rw [hc74]
           refine cond_false_rule (b := false) (by kernel_rfl) rfl ?_
           refine wp_skip ?_
           refine seqR ?_
           refine oKD _ [] 3 [] 0 (fun φ76 => [(5, .int .i64 0), (4, pB (φ68 0)), (169, pB (φ68 0))]) (fun φ76 => []) s (fun φ76 => by kernel_rfl) (by kernel_rfl) ?_
           intro φ76 w76 s
           refine wp_ret ?_
           refine ret_rule (C := []) _ [] (.tuple #[pB (φ68 0), .int .i64 0]) [] [] s trivial (by kernel_rfl) ?_
           replace s := s.drop (List.Sublist.append (List.Sublist.cons₂ _ List.Sublist.slnil) (List.Sublist.refl []))
           have ev : hvG g (.leaf 0) Lb Rb B2 = ⟨T6, T14, 0, D6 + D14, E14⟩ := by unfold hvG hR hL; simp [-List.drop_drop, Nat.add_assoc, h6_2, h6_3, h14_2, h14_3, of_decide_eq_false hc16, hc4, Decidable.not_not.1 (of_decide_eq_false hc9), hc12, Decidable.not_not.1 (of_decide_eq_false hc17), of_decide_eq_false hc19, of_decide_eq_false hc22, of_decide_eq_false hc26, hc65, of_decide_eq_false hc74]
           have hm9 := of_decide_eq_false hc74
           (try simp only [lf0.1, Nat.max_zero, Nat.zero_max] at hm9)
           have e9 : tlD g Lb Rb nb B2 = ⟨(Ev.E.node nb T6 T14), 0, D6 + D14, E14⟩ := by rw [tlD_at ev]; simp [badE, lf0, h6_2, h6_3, h14_2, h14_3, of_decide_eq_false hc16, hc4, Decidable.not_not.1 (of_decide_eq_false hc9), hc12, Decidable.not_not.1 (of_decide_eq_false hc17), of_decide_eq_false hc19, of_decide_eq_false hc22, of_decide_eq_false hc26, hc65, of_decide_eq_false hc74, hm9]
           exact ⟨_, _, _, rfl, s, ⟨_, rfl, rfl, _, (Ev.E.node nb T6 T14), _, _, _, _, _, _, _, rfl, rfl, hre71, h14_1, hsp _ _ _ _ e9, (by rw [← List.drop_drop, hdr]; exact (by simp only [← List.drop_drop, h6_3, h14_3]))⟩⟩
   ·
    rw [hc12]
    refine cond_false_rule (b := false) (by kernel_rfl) rfl ?_
    refine wp_skip ?_
    refine wp_seq ?_
    refine wp_seq ?_
    rcases Bool.eq_false_or_eq_true (decide (T6.top = 0)) with hc77 | hc77
    ·
     refine draw_rule (C := []) ⟨(fun φ78 xs78 => [.look 0 [] [], .look 0 [] [], .look 0 [] [], .call 44 #[pB k6], .look 0 [] [], .look 0 [] [], .skip, .skip, .skip, .skip, .skip, .look 0 [] [], .look 0 [] [], .skip, .skip, .skip, .skip, .skip, .skip, .skip, .skip, .skip, .skip, .skip, .skip, .look 0 [] [], .look 0 [] [], .skip, .skip, .skip, .skip, .skip, .skip, .skip, .skip, .skip, .skip, .skip, .skip, .skip, .skip, .skip, .skip, .skip, .skip, .skip, .skip, .skip, .skip, .skip, .look 0 [] []]), (fun φ78 xs78 => [.bool true, .bool true, pB k6, .bool true, .bool true, .bool true, undef, undef, undef, undef, undef, .bool true, .bool true, undef, undef, undef, undef, undef, undef, undef, undef, undef, undef, undef, undef, .bool true, .bool true, undef, undef, undef, undef, undef, undef, undef, undef, undef, undef, undef, undef, undef, undef, undef, undef, undef, undef, undef, undef, undef, undef, undef, .bool true]), (fun φ78 xs78 => [[(y, .cells #[.slice a6 n6 c6, .int .i64 E6] 40)]]), (fun φ78 xs78 => [[default, default, default, default, default, default, default, default, default, default, default, default, default, default, default, default, default, default, default, default, default, default, default, default, default, default, default, default, default, default, default, default, default, default, default, default, default, default, default, default, default, default, default, default, default, default, default, default, default, default, default]]), [], [1, 1, 1, 3, 1, 1, 0, 0, 0, 0, 0, 1, 1, 0, 0, 0, 0, 0, 0, 0, 0, 0, 0, 0, 0, 1, 1, 0, 0, 0, 0, 0, 0, 0, 0, 0, 0, 0, 0, 0, 0, 0, 0, 0, 0, 0, 0, 0, 0, 0, 1]⟩ (fun j => ([MP.any] : List MP).getD j MP.any) [3] [] [] (fun φ78 xs78 => []) (fun φ78 xs78 => [(108, .bool true), (109, .bool true), (110, pB k6), (111, .bool true), (112, .bool true), (113, .bool true), (114, undef), (115, undef), (116, undef), (117, undef), (118, undef), (119, .bool true), (120, .bool true), (121, undef), (122, undef), (123, undef), (124, undef), (125, undef), (126, undef), (127, undef), (128, undef), (129, undef), (130, undef), (131, undef), (132, undef), (133, .bool true), (134, .bool true), (135, undef), (136, undef), (137, undef), (138, undef), (139, undef), (140, undef), (141, undef), (142, undef), (143, undef), (144, undef), (145, undef), (146, undef), (147, undef), (148, undef), (149, undef), (150, undef), (151, undef), (152, undef), (153, undef), (154, undef), (155, undef), (156, undef), (157, undef), (158, .bool true)]) (fun φ78 xs78 => [(y, .cells #[.slice a6 n6 c6, .int .i64 E6] 40)]) s trivial (by kernel_rfl) (by kernel_rfl) (fun _ _ => by kernel_rfl) (fun _ _ => by kernel_rfl) ⟨fun _ _ => by kernel_rfl, fun _ _ => by kernel_rfl, fun _ _ => by kernel_rfl, fun _ _ => by kernel_rfl⟩ (fun _ _ _ => by kernel_rfl) (fun _ _ => by kernel_rfl) (fun _ _ => by kernel_rfl) (fun _ _ => by kernel_rfl) (fun _ _ => by kernel_rfl) (fun _ _ => by kernel_rfl) trivial trivial (by kernel_rfl) ⟨?c78_3, trivial⟩ ?k78
     case c78_3 =>
      refine kcast (A := ∀ (φ78 : Nat → Nat) (xs78 : Xs) (J3_78 : IM), I6.Le J3_78 → Fun Tryd.prog 44 #[pB k6] J3_78 (fun v J' => ∃ x : UX, v = .bool true ∧ (True))) (by kernel_rfl) ?_
      intro φ78 xs78 J3_78 leJ
      have h6_0 := Ev.RE.mono leJ h6_0
      exact Fun.mono (refZero_c h6_0 (by have q9 := (hgd B2).2; rw [h6_2] at q9; exact q9)) (fun v J' _ h => ⟨UX.d, h.trans (congrArg Value.bool hc77), trivial⟩)
     case k78 =>
      rintro φ78 xs78 I78 w78 le78 s _
      replace hb2 := BoS.mono le78 hb2
      replace hkn := Ev.RE.mono le78 hkn
      replace h6_0 := Ev.RE.mono le78 h6_0
      replace h6_1 := BoS.mono le78 h6_1
      refine cond_true_rule (b := true) (by kernel_rfl) rfl ?_
      refine seqR ?_
      refine oKD [(y, .cells #[.slice a6 n6 c6, .int .i64 E6] 40)] [] 3 [] 0 (fun φ79 => [(5, .int .i64 6), (4, pB kn), (159, pB kn)]) (fun φ79 => []) s (fun φ79 => by kernel_rfl) (by kernel_rfl) ?_
      intro φ79 w79 s
      refine wp_ret ?_
      refine ret_rule (C := []) _ [] (.tuple #[pB kn, .int .i64 6]) [] [] s trivial (by kernel_rfl) ?_
      replace s := s.drop (List.Sublist.append (List.Sublist.cons₂ _ List.Sublist.slnil) (List.Sublist.refl []))
      have ev : hvG g (.leaf 0) Lb Rb B2 = ⟨T6, Ev.E.leaf 0, 0, D6, E6⟩ := by unfold hvG hR hL; simp [-List.drop_drop, Nat.add_assoc, h6_2, h6_3, of_decide_eq_false hc16, hc4, Decidable.not_not.1 (of_decide_eq_false hc9), hc12, of_decide_eq_true hc77]
      have e9 : tlD g Lb Rb nb B2 = ⟨(Ev.E.leaf 0), 6, D6, E6⟩ := by rw [tlD_at ev]; simp [badE, lf0, h6_2, h6_3, of_decide_eq_false hc16, hc4, Decidable.not_not.1 (of_decide_eq_false hc9), hc12, of_decide_eq_true hc77]
      exact ⟨_, _, _, rfl, s, ⟨_, rfl, rfl, _, (Ev.E.leaf 0), _, _, _, _, _, _, _, rfl, rfl, hkn, h6_1, hsp _ _ _ _ e9, (by rw [← List.drop_drop, hdr]; exact (by simp only [← List.drop_drop, h6_3]))⟩⟩
    ·
     rcases Bool.eq_false_or_eq_true (decide (0 < T6.base)) with hc81 | hc81
     ·
      rcases Bool.eq_false_or_eq_true (T6.isLeaf) with hc84 | hc84
      ·
       obtain ⟨pl85, pr85, hq85, hp85⟩ := RE.peekL h6_0
       have hp86 : I6 kn = some (.cells #[.int .u64 0, .pointer none, .pointer none] 85) := hkn
       refine draw_rule (C := [(k6, .cells #[.int .u64 T6.base, .pointer pl85, .pointer pr85] 85), (kn, .cells #[.int .u64 0, .pointer none, .pointer none] 85)]) ⟨(fun φ85 xs85 => [.look 0 [] [], .look 0 [] [], .look 0 [] [], .call 44 #[pB k6], .look 0 [] [], .look 0 [] [], .look 0 [] [], .look 0 [] [], .skip, .skip, .look 0 [] [], .look 0 [] [], .look 0 [] [], .look 0 [] [], .look 0 [] [], .look 0 [] [], .look 0 [.c 0] [k6], .sub 0 [] [] (.bool (decide (((T6.base : Nat) : Int) > ((0 : Nat) : Int)))), .look 0 [] [], .look 0 [] [], .look 0 [] [], .look 0 [] [], .look 0 [.c 1] [kn], .look 0 [] [], .look 0 [] [], .look 0 [] [], .look 0 [] [], .look 0 [] [], .look 0 [] [], .look 0 [] [], .look 0 [.c 0] [k6], .ran (binOp .eql 47 (.pointer pl85) (.pointer none)), .look 0 [] [], .look 0 [] [], .look 0 [] [], .look 0 [] [], .look 0 [.c 1] [kn], .look 0 [] [], .look 0 [] [], .look 0 [] [], .look 0 [] [], .look 0 [] [], .look 0 [] [], .look 0 [.c 0] [k6], .look 0 [] [], .look 0 [] [], .look 0 [] [], .look 0 [.c 1] [kn], .sub 0 [] [] (.bool (((T6.base : Nat) : Int) == ((0 : Nat) : Int))), .look 0 [] [], .look 0 [] []]), (fun φ85 xs85 => [.bool true, .bool true, pB k6, .bool false, .bool false, .bool false, .bool false, .bool false, undef, undef, .bool false, .bool false, .bool false, pB k6, pB k6, pB k6, .int .u64 T6.base, .bool true, .bool true, pB kn, pB kn, pB kn, .int .u64 0, .bool false, .bool false, .bool false, .bool false, pB k6, pB k6, .pointer (some ⟨k6, 1, none⟩), .pointer pl85, .bool true, .bool true, pB kn, pB kn, .pointer (some ⟨kn, 1, none⟩), .pointer none, .bool true, .bool true, .bool true, pB k6, pB k6, pB k6, .int .u64 T6.base, pB kn, pB kn, pB kn, .int .u64 0, .bool (decide (T6.base = 0)), .bool (decide (T6.base = 0)), .bool (decide (T6.base = 0))]), (fun φ85 xs85 => [[(y, .cells #[.slice a6 n6 c6, .int .i64 E6] 40)]]), (fun φ85 xs85 => [[default, default, default, default, default, default, default, default, default, default, default, default, default, default, default, default, default, default, default, default, default, default, default, default, default, default, default, default, default, default, default, default, default, default, default, default, default, default, default, default, default, default, default, default, default, default, default, default, default, default, default]]), [], [1, 1, 1, 3, 1, 1, 1, 1, 0, 0, 1, 1, 1, 1, 1, 1, 1, 5, 1, 1, 1, 1, 1, 1, 1, 1, 1, 1, 1, 1, 1, 6, 1, 1, 1, 1, 1, 1, 1, 1, 1, 1, 1, 1, 1, 1, 1, 1, 5, 1, 1]⟩ (fun j => ([MP.any] : List MP).getD j MP.any) [3] [17, 48] [31] (fun φ85 xs85 => []) (fun φ85 xs85 => [(108, .bool true), (109, .bool true), (110, pB k6), (111, .bool false), (112, .bool false), (113, .bool false), (114, .bool false), (115, .bool false), (116, undef), (117, undef), (118, .bool false), (119, .bool false), (120, .bool false), (121, pB k6), (122, pB k6), (123, pB k6), (124, .int .u64 T6.base), (125, .bool true), (126, .bool true), (127, pB kn), (128, pB kn), (129, pB kn), (130, .int .u64 0), (131, .bool false), (132, .bool false), (133, .bool false), (134, .bool false), (135, pB k6), (136, pB k6), (137, .pointer (some ⟨k6, 1, none⟩)), (138, .pointer pl85), (139, .bool true), (140, .bool true), (141, pB kn), (142, pB kn), (143, .pointer (some ⟨kn, 1, none⟩)), (144, .pointer none), (145, .bool true), (146, .bool true), (147, .bool true), (148, pB k6), (149, pB k6), (150, pB k6), (151, .int .u64 T6.base), (152, pB kn), (153, pB kn), (154, pB kn), (155, .int .u64 0), (156, .bool (decide (T6.base = 0))), (157, .bool (decide (T6.base = 0))), (158, .bool (decide (T6.base = 0)))]) (fun φ85 xs85 => [(y, .cells #[.slice a6 n6 c6, .int .i64 E6] 40)]) s ⟨hp85, ⟨hp86, trivial⟩⟩ (by kernel_rfl) (by kernel_rfl) (fun _ _ => by kernel_rfl) (fun _ _ => by kernel_rfl) ⟨fun _ _ => by kernel_rfl, fun _ _ => by kernel_rfl, fun _ _ => by kernel_rfl, fun _ _ => by kernel_rfl⟩ (fun _ _ _ => by kernel_rfl) (fun _ _ => by kernel_rfl) (fun _ _ => by kernel_rfl) (fun _ _ => by kernel_rfl) (fun _ _ => by kernel_rfl) (fun _ _ => by kernel_rfl) ⟨kcast (A := ∀ (φ85 : Nat → Nat) (xs85 : Xs), (.bool (decide (((T6.base : Nat) : Int) > ((0 : Nat) : Int))) : Value) = .bool true) (by kernel_rfl) (fun φ85 xs85 => congrArg Value.bool ((nat_gtr (a := T6.base) (b := 0)).trans (hc81))), ⟨kcast (A := ∀ (φ85 : Nat → Nat) (xs85 : Xs), (.bool (((T6.base : Nat) : Int) == ((0 : Nat) : Int)) : Value) = .bool (decide (T6.base = 0))) (by kernel_rfl) (fun φ85 xs85 => congrArg Value.bool ((nat_eql (a := T6.base) (b := 0)))), trivial⟩⟩ ⟨kcast (A := ∀ (φ85 : Nat → Nat) (xs85 : Xs) (J : IM) (w : World), I6.Le J → J.Sub w → ((binOp .eql 47 (.pointer pl85) (.pointer none)) : Sem Value).run Tryd.prog w = .ok (.bool true) w) (by kernel_rfl) (fun φ85 xs85 J w hJ hS => (((run_nilE hq85) : ((binOp .eql 47 (.pointer pl85) (.pointer none)) : Sem Value).run Tryd.prog w = .ok (.bool T6.isLeaf) w).trans (congrArg (fun q => Result.ok (Value.bool q) w) hc84))), trivial⟩ (by kernel_rfl) ⟨?c85_3, trivial⟩ ?k85
       case c85_3 =>
        refine kcast (A := ∀ (φ85 : Nat → Nat) (xs85 : Xs) (J3_85 : IM), I6.Le J3_85 → Fun Tryd.prog 44 #[pB k6] J3_85 (fun v J' => ∃ x : UX, v = .bool false ∧ (True))) (by kernel_rfl) ?_
        intro φ85 xs85 J3_85 leJ
        have h6_0 := Ev.RE.mono leJ h6_0
        exact Fun.mono (refZero_c h6_0 (by have q9 := (hgd B2).2; rw [h6_2] at q9; exact q9)) (fun v J' _ h => ⟨UX.d, h.trans (congrArg Value.bool hc77), trivial⟩)
       case k85 =>
        rintro φ85 xs85 I85 w85 le85 s _
        replace hb2 := BoS.mono le85 hb2
        replace hkn := Ev.RE.mono le85 hkn
        replace h6_0 := Ev.RE.mono le85 h6_0
        replace h6_1 := BoS.mono le85 h6_1
        rcases Bool.eq_false_or_eq_true (decide (T6.base = 0)) with hc88 | hc88
        ·
         exact absurd (of_decide_eq_true hc88) (by have q1 := of_decide_eq_true hc81; omega)
        ·
         rw [hc88]
         refine cond_false_rule (b := false) (by kernel_rfl) rfl ?_
         refine wp_skip ?_
         refine seqR ?_
         refine oAD [(y, .cells #[.slice a6 n6 c6, .int .i64 E6] 40)] [] 6 [] 1 (fun φ89 => [(20, pB (φ89 0)), (164, pB (φ89 0)), (163, .agg #[.int .u64 nb, pB k6, pB kn]), (162, pB kn), (161, pB k6), (160, .int .u64 nb)]) (fun φ89 => [(y, .cells #[.slice a6 n6 c6, .int .i64 E6] 40), (φ89 0, .cells #[.int .u64 nb, pB k6, pB kn] 85)]) (fun φ89 => []) s (fun φ89 => by kernel_rfl) (by kernel_rfl) ?_
         intro φ89 w89 s
         refine wp_seq ?_
         refine seqR ?_
         refine oK _ [] 1 [] 0 (fun φ90 => [(165, pB (φ89 0))]) (fun φ90 => []) s (fun φ90 => by kernel_rfl) ?_
         intro φ90 w90 s
         obtain ⟨I91, le91, hk91, s⟩ := s.freezeAt 1 (φ89 0) (.cells #[.int .u64 ((nb : Nat) : Int), .pointer (some ⟨k6, 0, none⟩), .pointer (some ⟨kn, 0, none⟩)] 85) [(y, .cells #[.slice a6 n6 c6, .int .i64 ((E6 : Nat) : Int)] 40)] (by kernel_rfl) (by kernel_rfl)
         replace hb2 := BoS.mono le91 hb2
         replace hkn := Ev.RE.mono le91 hkn
         replace h6_0 := Ev.RE.mono le91 h6_0
         replace h6_1 := BoS.mono le91 h6_1
         have hre92 : Ev.RE I91 (.node nb T6 (Ev.E.leaf 0)) (φ89 0) := ⟨_, _, hk91, h6_0, hkn⟩
         refine call_rule (some 166) s (rmaxN_c (n := nb) (l := T6) (r := (Ev.E.leaf 0)) hre92 (by have := hnb; have : T6.top ≤ 1048576 := (by have q9 := hg.t B2; rw [h6_2] at q9; exact q9); have : (Ev.E.leaf 0).top = 0 := rfl; omega)) (by kernel_rfl) ?_
         intro v93 I93 w93 le93 h93 s
         replace hb2 := BoS.mono le93 hb2
         replace hkn := Ev.RE.mono le93 hkn
         replace h6_0 := Ev.RE.mono le93 h6_0
         replace h6_1 := BoS.mono le93 h6_1
         replace hre92 := Ev.RE.mono le93 hre92
         obtain rfl := h93
         refine oK [(y, .cells #[.slice a6 n6 c6, .int .i64 E6] 40)] [] 1 [] 0 (fun φ94 => [(167, .bool (decide (((nb + max T6.top (Ev.E.leaf 0).top : Nat) : Int) > ((1048576 : Nat) : Int))))]) (fun φ94 => []) s (fun φ94 => by kernel_rfl) ?_
         intro φ94 w94 s
         rw [nat_gtr (a := (nb + max T6.top (Ev.E.leaf 0).top)) (b := 1048576)]
         refine ops_done (by kernel_rfl) ?_
         rcases Bool.eq_false_or_eq_true (decide (1048576 < (nb + max T6.top (Ev.E.leaf 0).top))) with hc95 | hc95
         ·
          rw [hc95]
          refine cond_true_rule (b := true) (by kernel_rfl) rfl ?_
          refine seqR ?_
          refine oKD _ [] 3 [] 0 (fun φ96 => [(5, .int .i64 4), (4, pB kn), (168, pB kn)]) (fun φ96 => []) s (fun φ96 => by kernel_rfl) (by kernel_rfl) ?_
          intro φ96 w96 s
          refine wp_ret ?_
          refine ret_rule (C := []) _ [] (.tuple #[pB kn, .int .i64 4]) [] [] s trivial (by kernel_rfl) ?_
          replace s := s.drop (List.Sublist.append (List.Sublist.cons₂ _ List.Sublist.slnil) (List.Sublist.refl []))
          have ev : hvG g (.leaf 0) Lb Rb B2 = ⟨T6, Ev.E.leaf 0, 0, D6, E6⟩ := by unfold hvG hR hL; simp [-List.drop_drop, Nat.add_assoc, h6_2, h6_3, of_decide_eq_false hc16, hc4, Decidable.not_not.1 (of_decide_eq_false hc9), hc12, of_decide_eq_false hc77, of_decide_eq_true hc81, hc84, of_decide_eq_false hc88, of_decide_eq_true hc95]
          have hm9 := of_decide_eq_true hc95
          (try simp only [lf0.1, Nat.max_zero, Nat.zero_max] at hm9)
          have e9 : tlD g Lb Rb nb B2 = ⟨(Ev.E.leaf 0), 4, D6, E6⟩ := by rw [tlD_at ev]; simp [badE, lf0, h6_2, h6_3, of_decide_eq_false hc16, hc4, Decidable.not_not.1 (of_decide_eq_false hc9), hc12, of_decide_eq_false hc77, of_decide_eq_true hc81, hc84, of_decide_eq_false hc88, of_decide_eq_true hc95, hm9]
          exact ⟨_, _, _, rfl, s, ⟨_, rfl, rfl, _, (Ev.E.leaf 0), _, _, _, _, _, _, _, rfl, rfl, hkn, h6_1, hsp _ _ _ _ e9, (by rw [← List.drop_drop, hdr]; exact (by simp only [← List.drop_drop, h6_3]))⟩⟩
         ·
          rw [hc95]
          refine cond_false_rule (b := false) (by kernel_rfl) rfl ?_
          refine wp_skip ?_
          refine seqR ?_
          refine oKD _ [] 3 [] 0 (fun φ97 => [(5, .int .i64 0), (4, pB (φ89 0)), (169, pB (φ89 0))]) (fun φ97 => []) s (fun φ97 => by kernel_rfl) (by kernel_rfl) ?_
          intro φ97 w97 s
          refine wp_ret ?_
          refine ret_rule (C := []) _ [] (.tuple #[pB (φ89 0), .int .i64 0]) [] [] s trivial (by kernel_rfl) ?_
          replace s := s.drop (List.Sublist.append (List.Sublist.cons₂ _ List.Sublist.slnil) (List.Sublist.refl []))
          have ev : hvG g (.leaf 0) Lb Rb B2 = ⟨T6, Ev.E.leaf 0, 0, D6, E6⟩ := by unfold hvG hR hL; simp [-List.drop_drop, Nat.add_assoc, h6_2, h6_3, of_decide_eq_false hc16, hc4, Decidable.not_not.1 (of_decide_eq_false hc9), hc12, of_decide_eq_false hc77, of_decide_eq_true hc81, hc84, of_decide_eq_false hc88, of_decide_eq_false hc95]
          have hm9 := of_decide_eq_false hc95
          (try simp only [lf0.1, Nat.max_zero, Nat.zero_max] at hm9)
          have e9 : tlD g Lb Rb nb B2 = ⟨(Ev.E.node nb T6 (Ev.E.leaf 0)), 0, D6, E6⟩ := by rw [tlD_at ev]; simp [badE, lf0, h6_2, h6_3, of_decide_eq_false hc16, hc4, Decidable.not_not.1 (of_decide_eq_false hc9), hc12, of_decide_eq_false hc77, of_decide_eq_true hc81, hc84, of_decide_eq_false hc88, of_decide_eq_false hc95, hm9]
          exact ⟨_, _, _, rfl, s, ⟨_, rfl, rfl, _, (Ev.E.node nb T6 (Ev.E.leaf 0)), _, _, _, _, _, _, _, rfl, rfl, hre92, h6_1, hsp _ _ _ _ e9, (by rw [← List.drop_drop, hdr]; exact (by simp only [← List.drop_drop, h6_3]))⟩⟩
      ·
       obtain ⟨pl98, pr98, hq98, hp98⟩ := RE.peekL h6_0
       have hp99 : I6 kn = some (.cells #[.int .u64 0, .pointer none, .pointer none] 85) := hkn
       refine draw_rule (C := [(k6, .cells #[.int .u64 T6.base, .pointer pl98, .pointer pr98] 85), (kn, .cells #[.int .u64 0, .pointer none, .pointer none] 85)]) ⟨(fun φ98 xs98 => [.look 0 [] [], .look 0 [] [], .look 0 [] [], .call 44 #[pB k6], .look 0 [] [], .look 0 [] [], .look 0 [] [], .look 0 [] [], .skip, .skip, .look 0 [] [], .look 0 [] [], .look 0 [] [], .look 0 [] [], .look 0 [] [], .look 0 [] [], .look 0 [.c 0] [k6], .sub 0 [] [] (.bool (decide (((T6.base : Nat) : Int) > ((0 : Nat) : Int)))), .look 0 [] [], .look 0 [] [], .look 0 [] [], .look 0 [] [], .look 0 [.c 1] [kn], .look 0 [] [], .look 0 [] [], .look 0 [] [], .look 0 [] [], .look 0 [] [], .look 0 [] [], .look 0 [] [], .look 0 [.c 0] [k6], .ran (binOp .eql 47 (.pointer pl98) (.pointer none)), .look 0 [] [], .skip, .skip, .skip, .skip, .skip, .look 0 [] [], .look 0 [] [], .skip, .skip, .skip, .skip, .skip, .skip, .skip, .skip, .skip, .look 0 [] [], .look 0 [] []]), (fun φ98 xs98 => [.bool true, .bool true, pB k6, .bool false, .bool false, .bool false, .bool false, .bool false, undef, undef, .bool false, .bool false, .bool false, pB k6, pB k6, pB k6, .int .u64 T6.base, .bool true, .bool true, pB kn, pB kn, pB kn, .int .u64 0, .bool false, .bool false, .bool false, .bool false, pB k6, pB k6, .pointer (some ⟨k6, 1, none⟩), .pointer pl98, .bool false, .bool false, undef, undef, undef, undef, undef, .bool false, .bool false, undef, undef, undef, undef, undef, undef, undef, undef, undef, .bool false, .bool false]), (fun φ98 xs98 => [[(y, .cells #[.slice a6 n6 c6, .int .i64 E6] 40)]]), (fun φ98 xs98 => [[default, default, default, default, default, default, default, default, default, default, default, default, default, default, default, default, default, default, default, default, default, default, default, default, default, default, default, default, default, default, default, default, default, default, default, default, default, default, default, default, default, default, default, default, default, default, default, default, default, default, default]]), [], [1, 1, 1, 3, 1, 1, 1, 1, 0, 0, 1, 1, 1, 1, 1, 1, 1, 5, 1, 1, 1, 1, 1, 1, 1, 1, 1, 1, 1, 1, 1, 6, 1, 0, 0, 0, 0, 0, 1, 1, 0, 0, 0, 0, 0, 0, 0, 0, 0, 1, 1]⟩ (fun j => ([MP.any] : List MP).getD j MP.any) [3] [17] [31] (fun φ98 xs98 => []) (fun φ98 xs98 => [(108, .bool true), (109, .bool true), (110, pB k6), (111, .bool false), (112, .bool false), (113, .bool false), (114, .bool false), (115, .bool false), (116, undef), (117, undef), (118, .bool false), (119, .bool false), (120, .bool false), (121, pB k6), (122, pB k6), (123, pB k6), (124, .int .u64 T6.base), (125, .bool true), (126, .bool true), (127, pB kn), (128, pB kn), (129, pB kn), (130, .int .u64 0), (131, .bool false), (132, .bool false), (133, .bool false), (134, .bool false), (135, pB k6), (136, pB k6), (137, .pointer (some ⟨k6, 1, none⟩)), (138, .pointer pl98), (139, .bool false), (140, .bool false), (141, undef), (142, undef), (143, undef), (144, undef), (145, undef), (146, .bool false), (147, .bool false), (148, undef), (149, undef), (150, undef), (151, undef), (152, undef), (153, undef), (154, undef), (155, undef), (156, undef), (157, .bool false), (158, .bool false)]) (fun φ98 xs98 => [(y, .cells #[.slice a6 n6 c6, .int .i64 E6] 40)]) s ⟨hp98, ⟨hp99, trivial⟩⟩ (by kernel_rfl) (by kernel_rfl) (fun _ _ => by kernel_rfl) (fun _ _ => by kernel_rfl) ⟨fun _ _ => by kernel_rfl, fun _ _ => by kernel_rfl, fun _ _ => by kernel_rfl, fun _ _ => by kernel_rfl⟩ (fun _ _ _ => by kernel_rfl) (fun _ _ => by kernel_rfl) (fun _ _ => by kernel_rfl) (fun _ _ => by kernel_rfl) (fun _ _ => by kernel_rfl) (fun _ _ => by kernel_rfl) ⟨kcast (A := ∀ (φ98 : Nat → Nat) (xs98 : Xs), (.bool (decide (((T6.base : Nat) : Int) > ((0 : Nat) : Int))) : Value) = .bool true) (by kernel_rfl) (fun φ98 xs98 => congrArg Value.bool ((nat_gtr (a := T6.base) (b := 0)).trans (hc81))), trivial⟩ ⟨kcast (A := ∀ (φ98 : Nat → Nat) (xs98 : Xs) (J : IM) (w : World), I6.Le J → J.Sub w → ((binOp .eql 47 (.pointer pl98) (.pointer none)) : Sem Value).run Tryd.prog w = .ok (.bool false) w) (by kernel_rfl) (fun φ98 xs98 J w hJ hS => (((run_nilE hq98) : ((binOp .eql 47 (.pointer pl98) (.pointer none)) : Sem Value).run Tryd.prog w = .ok (.bool T6.isLeaf) w).trans (congrArg (fun q => Result.ok (Value.bool q) w) hc84))), trivial⟩ (by kernel_rfl) ⟨?c98_3, trivial⟩ ?k98
       case c98_3 =>
        refine kcast (A := ∀ (φ98 : Nat → Nat) (xs98 : Xs) (J3_98 : IM), I6.Le J3_98 → Fun Tryd.prog 44 #[pB k6] J3_98 (fun v J' => ∃ x : UX, v = .bool false ∧ (True))) (by kernel_rfl) ?_
        intro φ98 xs98 J3_98 leJ
        have h6_0 := Ev.RE.mono leJ h6_0
        exact Fun.mono (refZero_c h6_0 (by have q9 := (hgd B2).2; rw [h6_2] at q9; exact q9)) (fun v J' _ h => ⟨UX.d, h.trans (congrArg Value.bool hc77), trivial⟩)
       case k98 =>
        rintro φ98 xs98 I98 w98 le98 s _
        replace hb2 := BoS.mono le98 hb2
        replace hkn := Ev.RE.mono le98 hkn
        replace h6_0 := Ev.RE.mono le98 h6_0
        replace h6_1 := BoS.mono le98 h6_1
        refine cond_false_rule (b := false) (by kernel_rfl) rfl ?_
        refine wp_skip ?_
        refine seqR ?_
        refine oAD [(y, .cells #[.slice a6 n6 c6, .int .i64 E6] 40)] [] 6 [] 1 (fun φ101 => [(20, pB (φ101 0)), (164, pB (φ101 0)), (163, .agg #[.int .u64 nb, pB k6, pB kn]), (162, pB kn), (161, pB k6), (160, .int .u64 nb)]) (fun φ101 => [(y, .cells #[.slice a6 n6 c6, .int .i64 E6] 40), (φ101 0, .cells #[.int .u64 nb, pB k6, pB kn] 85)]) (fun φ101 => []) s (fun φ101 => by kernel_rfl) (by kernel_rfl) ?_
        intro φ101 w101 s
        refine wp_seq ?_
        refine seqR ?_
        refine oK _ [] 1 [] 0 (fun φ102 => [(165, pB (φ101 0))]) (fun φ102 => []) s (fun φ102 => by kernel_rfl) ?_
        intro φ102 w102 s
        obtain ⟨I103, le103, hk103, s⟩ := s.freezeAt 1 (φ101 0) (.cells #[.int .u64 ((nb : Nat) : Int), .pointer (some ⟨k6, 0, none⟩), .pointer (some ⟨kn, 0, none⟩)] 85) [(y, .cells #[.slice a6 n6 c6, .int .i64 ((E6 : Nat) : Int)] 40)] (by kernel_rfl) (by kernel_rfl)
        replace hb2 := BoS.mono le103 hb2
        replace hkn := Ev.RE.mono le103 hkn
        replace h6_0 := Ev.RE.mono le103 h6_0
        replace h6_1 := BoS.mono le103 h6_1
        have hre104 : Ev.RE I103 (.node nb T6 (Ev.E.leaf 0)) (φ101 0) := ⟨_, _, hk103, h6_0, hkn⟩
        refine call_rule (some 166) s (rmaxN_c (n := nb) (l := T6) (r := (Ev.E.leaf 0)) hre104 (by have := hnb; have : T6.top ≤ 1048576 := (by have q9 := hg.t B2; rw [h6_2] at q9; exact q9); have : (Ev.E.leaf 0).top = 0 := rfl; omega)) (by kernel_rfl) ?_
        intro v105 I105 w105 le105 h105 s
        replace hb2 := BoS.mono le105 hb2
        replace hkn := Ev.RE.mono le105 hkn
        replace h6_0 := Ev.RE.mono le105 h6_0
        replace h6_1 := BoS.mono le105 h6_1
        replace hre104 := Ev.RE.mono le105 hre104
        obtain rfl := h105
        refine oK [(y, .cells #[.slice a6 n6 c6, .int .i64 E6] 40)] [] 1 [] 0 (fun φ106 => [(167, .bool (decide (((nb + max T6.top (Ev.E.leaf 0).top : Nat) : Int) > ((1048576 : Nat) : Int))))]) (fun φ106 => []) s (fun φ106 => by kernel_rfl) ?_
        intro φ106 w106 s
        rw [nat_gtr (a := (nb + max T6.top (Ev.E.leaf 0).top)) (b := 1048576)]
        refine ops_done (by kernel_rfl) ?_
        rcases Bool.eq_false_or_eq_true (decide (1048576 < (nb + max T6.top (Ev.E.leaf 0).top))) with hc107 | hc107
        ·
         rw [hc107]
         refine cond_true_rule (b := true) (by kernel_rfl) rfl ?_
         refine seqR ?_
         refine oKD _ [] 3 [] 0 (fun φ108 => [(5, .int .i64 4), (4, pB kn), (168, pB kn)]) (fun φ108 => []) s (fun φ108 => by kernel_rfl) (by kernel_rfl) ?_
         intro φ108 w108 s
         refine wp_ret ?_
         refine ret_rule (C := []) _ [] (.tuple #[pB kn, .int .i64 4]) [] [] s trivial (by kernel_rfl) ?_
         replace s := s.drop (List.Sublist.append (List.Sublist.cons₂ _ List.Sublist.slnil) (List.Sublist.refl []))
         have ev : hvG g (.leaf 0) Lb Rb B2 = ⟨T6, Ev.E.leaf 0, 0, D6, E6⟩ := by unfold hvG hR hL; simp [-List.drop_drop, Nat.add_assoc, h6_2, h6_3, of_decide_eq_false hc16, hc4, Decidable.not_not.1 (of_decide_eq_false hc9), hc12, of_decide_eq_false hc77, of_decide_eq_true hc81, hc84, of_decide_eq_true hc107]
         have hm9 := of_decide_eq_true hc107
         (try simp only [lf0.1, Nat.max_zero, Nat.zero_max] at hm9)
         have e9 : tlD g Lb Rb nb B2 = ⟨(Ev.E.leaf 0), 4, D6, E6⟩ := by rw [tlD_at ev]; simp [badE, lf0, h6_2, h6_3, of_decide_eq_false hc16, hc4, Decidable.not_not.1 (of_decide_eq_false hc9), hc12, of_decide_eq_false hc77, of_decide_eq_true hc81, hc84, of_decide_eq_true hc107, hm9]
         exact ⟨_, _, _, rfl, s, ⟨_, rfl, rfl, _, (Ev.E.leaf 0), _, _, _, _, _, _, _, rfl, rfl, hkn, h6_1, hsp _ _ _ _ e9, (by rw [← List.drop_drop, hdr]; exact (by simp only [← List.drop_drop, h6_3]))⟩⟩
        ·
         rw [hc107]
         refine cond_false_rule (b := false) (by kernel_rfl) rfl ?_
         refine wp_skip ?_
         refine seqR ?_
         refine oKD _ [] 3 [] 0 (fun φ109 => [(5, .int .i64 0), (4, pB (φ101 0)), (169, pB (φ101 0))]) (fun φ109 => []) s (fun φ109 => by kernel_rfl) (by kernel_rfl) ?_
         intro φ109 w109 s
         refine wp_ret ?_
         refine ret_rule (C := []) _ [] (.tuple #[pB (φ101 0), .int .i64 0]) [] [] s trivial (by kernel_rfl) ?_
         replace s := s.drop (List.Sublist.append (List.Sublist.cons₂ _ List.Sublist.slnil) (List.Sublist.refl []))
         have ev : hvG g (.leaf 0) Lb Rb B2 = ⟨T6, Ev.E.leaf 0, 0, D6, E6⟩ := by unfold hvG hR hL; simp [-List.drop_drop, Nat.add_assoc, h6_2, h6_3, of_decide_eq_false hc16, hc4, Decidable.not_not.1 (of_decide_eq_false hc9), hc12, of_decide_eq_false hc77, of_decide_eq_true hc81, hc84, of_decide_eq_false hc107]
         have hm9 := of_decide_eq_false hc107
         (try simp only [lf0.1, Nat.max_zero, Nat.zero_max] at hm9)
         have e9 : tlD g Lb Rb nb B2 = ⟨(Ev.E.node nb T6 (Ev.E.leaf 0)), 0, D6, E6⟩ := by rw [tlD_at ev]; simp [badE, lf0, h6_2, h6_3, of_decide_eq_false hc16, hc4, Decidable.not_not.1 (of_decide_eq_false hc9), hc12, of_decide_eq_false hc77, of_decide_eq_true hc81, hc84, of_decide_eq_false hc107, hm9]
         exact ⟨_, _, _, rfl, s, ⟨_, rfl, rfl, _, (Ev.E.node nb T6 (Ev.E.leaf 0)), _, _, _, _, _, _, _, rfl, rfl, hre104, h6_1, hsp _ _ _ _ e9, (by rw [← List.drop_drop, hdr]; exact (by simp only [← List.drop_drop, h6_3]))⟩⟩
     ·
      rcases Bool.eq_false_or_eq_true (T6.isLeaf) with hc111 | hc111
      ·
       exact absurd (leaf_top hc111) (by have q1 := of_decide_eq_false hc77; have q2 := of_decide_eq_false hc81; omega)
      ·
       obtain ⟨pl112, pr112, hq112, hp112⟩ := RE.peekL h6_0
       refine draw_rule (C := [(k6, .cells #[.int .u64 T6.base, .pointer pl112, .pointer pr112] 85)]) ⟨(fun φ112 xs112 => [.look 0 [] [], .look 0 [] [], .look 0 [] [], .call 44 #[pB k6], .look 0 [] [], .look 0 [] [], .look 0 [] [], .look 0 [] [], .skip, .skip, .look 0 [] [], .look 0 [] [], .look 0 [] [], .look 0 [] [], .look 0 [] [], .look 0 [] [], .look 0 [.c 0] [k6], .sub 0 [] [] (.bool (decide (((T6.base : Nat) : Int) > ((0 : Nat) : Int)))), .look 0 [] [], .skip, .skip, .skip, .skip, .skip, .look 0 [] [], .look 0 [] [], .look 0 [] [], .look 0 [] [], .look 0 [] [], .look 0 [] [], .look 0 [.c 0] [k6], .ran (binOp .eql 47 (.pointer pl112) (.pointer none)), .look 0 [] [], .skip, .skip, .skip, .skip, .skip, .look 0 [] [], .look 0 [] [], .skip, .skip, .skip, .skip, .skip, .skip, .skip, .skip, .skip, .look 0 [] [], .look 0 [] []]), (fun φ112 xs112 => [.bool true, .bool true, pB k6, .bool false, .bool false, .bool false, .bool false, .bool false, undef, undef, .bool false, .bool false, .bool false, pB k6, pB k6, pB k6, .int .u64 T6.base, .bool false, .bool false, undef, undef, undef, undef, undef, .bool false, .bool false, .bool false, pB k6, pB k6, .pointer (some ⟨k6, 1, none⟩), .pointer pl112, .bool false, .bool false, undef, undef, undef, undef, undef, .bool false, .bool false, undef, undef, undef, undef, undef, undef, undef, undef, undef, .bool false, .bool false]), (fun φ112 xs112 => [[(y, .cells #[.slice a6 n6 c6, .int .i64 E6] 40)]]), (fun φ112 xs112 => [[default, default, default, default, default, default, default, default, default, default, default, default, default, default, default, default, default, default, default, default, default, default, default, default, default, default, default, default, default, default, default, default, default, default, default, default, default, default, default, default, default, default, default, default, default, default, default, default, default, default, default]]), [], [1, 1, 1, 3, 1, 1, 1, 1, 0, 0, 1, 1, 1, 1, 1, 1, 1, 5, 1, 0, 0, 0, 0, 0, 1, 1, 1, 1, 1, 1, 1, 6, 1, 0, 0, 0, 0, 0, 1, 1, 0, 0, 0, 0, 0, 0, 0, 0, 0, 1, 1]⟩ (fun j => ([MP.any] : List MP).getD j MP.any) [3] [17] [31] (fun φ112 xs112 => []) (fun φ112 xs112 => [(108, .bool true), (109, .bool true), (110, pB k6), (111, .bool false), (112, .bool false), (113, .bool false), (114, .bool false), (115, .bool false), (116, undef), (117, undef), (118, .bool false), (119, .bool false), (120, .bool false), (121, pB k6), (122, pB k6), (123, pB k6), (124, .int .u64 T6.base), (125, .bool false), (126, .bool false), (127, undef), (128, undef), (129, undef), (130, undef), (131, undef), (132, .bool false), (133, .bool false), (134, .bool false), (135, pB k6), (136, pB k6), (137, .pointer (some ⟨k6, 1, none⟩)), (138, .pointer pl112), (139, .bool false), (140, .bool false), (141, undef), (142, undef), (143, undef), (144, undef), (145, undef), (146, .bool false), (147, .bool false), (148, undef), (149, undef), (150, undef), (151, undef), (152, undef), (153, undef), (154, undef), (155, undef), (156, undef), (157, .bool false), (158, .bool false)]) (fun φ112 xs112 => [(y, .cells #[.slice a6 n6 c6, .int .i64 E6] 40)]) s ⟨hp112, trivial⟩ (by kernel_rfl) (by kernel_rfl) (fun _ _ => by kernel_rfl) (fun _ _ => by kernel_rfl) ⟨fun _ _ => by kernel_rfl, fun _ _ => by kernel_rfl, fun _ _ => by kernel_rfl, fun _ _ => by kernel_rfl⟩ (fun _ _ _ => by kernel_rfl) (fun _ _ => by kernel_rfl) (fun _ _ => by kernel_rfl) (fun _ _ => by kernel_rfl) (fun _ _ => by kernel_rfl) (fun _ _ => by kernel_rfl) ⟨kcast (A := ∀ (φ112 : Nat → Nat) (xs112 : Xs), (.bool (decide (((T6.base : Nat) : Int) > ((0 : Nat) : Int))) : Value) = .bool false) (by kernel_rfl) (fun φ112 xs112 => congrArg Value.bool ((nat_gtr (a := T6.base) (b := 0)).trans (hc81))), trivial⟩ ⟨kcast (A := ∀ (φ112 : Nat → Nat) (xs112 : Xs) (J : IM) (w : World), I6.Le J → J.Sub w → ((binOp .eql 47 (.pointer pl112) (.pointer none)) : Sem Value).run Tryd.prog w = .ok (.bool false) w) (by kernel_rfl) (fun φ112 xs112 J w hJ hS => (((run_nilE hq112) : ((binOp .eql 47 (.pointer pl112) (.pointer none)) : Sem Value).run Tryd.prog w = .ok (.bool T6.isLeaf) w).trans (congrArg (fun q => Result.ok (Value.bool q) w) hc111))), trivial⟩ (by kernel_rfl) ⟨?c112_3, trivial⟩ ?k112
       case c112_3 =>
        refine kcast (A := ∀ (φ112 : Nat → Nat) (xs112 : Xs) (J3_112 : IM), I6.Le J3_112 → Fun Tryd.prog 44 #[pB k6] J3_112 (fun v J' => ∃ x : UX, v = .bool false ∧ (True))) (by kernel_rfl) ?_
        intro φ112 xs112 J3_112 leJ
        have h6_0 := Ev.RE.mono leJ h6_0
        exact Fun.mono (refZero_c h6_0 (by have q9 := (hgd B2).2; rw [h6_2] at q9; exact q9)) (fun v J' _ h => ⟨UX.d, h.trans (congrArg Value.bool hc77), trivial⟩)
       case k112 =>
        rintro φ112 xs112 I112 w112 le112 s _
        replace hb2 := BoS.mono le112 hb2
        replace hkn := Ev.RE.mono le112 hkn
        replace h6_0 := Ev.RE.mono le112 h6_0
        replace h6_1 := BoS.mono le112 h6_1
        refine cond_false_rule (b := false) (by kernel_rfl) rfl ?_
        refine wp_skip ?_
        refine seqR ?_
        refine oAD [(y, .cells #[.slice a6 n6 c6, .int .i64 E6] 40)] [] 6 [] 1 (fun φ114 => [(20, pB (φ114 0)), (164, pB (φ114 0)), (163, .agg #[.int .u64 nb, pB k6, pB kn]), (162, pB kn), (161, pB k6), (160, .int .u64 nb)]) (fun φ114 => [(y, .cells #[.slice a6 n6 c6, .int .i64 E6] 40), (φ114 0, .cells #[.int .u64 nb, pB k6, pB kn] 85)]) (fun φ114 => []) s (fun φ114 => by kernel_rfl) (by kernel_rfl) ?_
        intro φ114 w114 s
        refine wp_seq ?_
        refine seqR ?_
        refine oK _ [] 1 [] 0 (fun φ115 => [(165, pB (φ114 0))]) (fun φ115 => []) s (fun φ115 => by kernel_rfl) ?_
        intro φ115 w115 s
        obtain ⟨I116, le116, hk116, s⟩ := s.freezeAt 1 (φ114 0) (.cells #[.int .u64 ((nb : Nat) : Int), .pointer (some ⟨k6, 0, none⟩), .pointer (some ⟨kn, 0, none⟩)] 85) [(y, .cells #[.slice a6 n6 c6, .int .i64 ((E6 : Nat) : Int)] 40)] (by kernel_rfl) (by kernel_rfl)
        replace hb2 := BoS.mono le116 hb2
        replace hkn := Ev.RE.mono le116 hkn
        replace h6_0 := Ev.RE.mono le116 h6_0
        replace h6_1 := BoS.mono le116 h6_1
        have hre117 : Ev.RE I116 (.node nb T6 (Ev.E.leaf 0)) (φ114 0) := ⟨_, _, hk116, h6_0, hkn⟩
        refine call_rule (some 166) s (rmaxN_c (n := nb) (l := T6) (r := (Ev.E.leaf 0)) hre117 (by have := hnb; have : T6.top ≤ 1048576 := (by have q9 := hg.t B2; rw [h6_2] at q9; exact q9); have : (Ev.E.leaf 0).top = 0 := rfl; omega)) (by kernel_rfl) ?_
        intro v118 I118 w118 le118 h118 s
        replace hb2 := BoS.mono le118 hb2
        replace hkn := Ev.RE.mono le118 hkn
        replace h6_1 := BoS.mono le118 h6_1
        replace hre117 := Ev.RE.mono le118 hre117
        obtain rfl := h118
        refine oK [(y, .cells #[.slice a6 n6 c6, .int .i64 E6] 40)] [] 1 [] 0 (fun φ119 => [(167, .bool (decide (((nb + max T6.top (Ev.E.leaf 0).top : Nat) : Int) > ((1048576 : Nat) : Int))))]) (fun φ119 => []) s (fun φ119 => by kernel_rfl) ?_
        intro φ119 w119 s
        rw [nat_gtr (a := (nb + max T6.top (Ev.E.leaf 0).top)) (b := 1048576)]
        refine ops_done (by kernel_rfl) ?_
        rcases Bool.eq_false_or_eq_true (decide (1048576 < (nb + max T6.top (Ev.E.leaf 0).top))) with hc120 | hc120
        ·
         rw [hc120]
         refine cond_true_rule (b := true) (by kernel_rfl) rfl ?_
         refine seqR ?_
         refine oKD _ [] 3 [] 0 (fun φ121 => [(5, .int .i64 4), (4, pB kn), (168, pB kn)]) (fun φ121 => []) s (fun φ121 => by kernel_rfl) (by kernel_rfl) ?_
         intro φ121 w121 s
         refine wp_ret ?_
         refine ret_rule (C := []) _ [] (.tuple #[pB kn, .int .i64 4]) [] [] s trivial (by kernel_rfl) ?_
         replace s := s.drop (List.Sublist.append (List.Sublist.cons₂ _ List.Sublist.slnil) (List.Sublist.refl []))
         have ev : hvG g (.leaf 0) Lb Rb B2 = ⟨T6, Ev.E.leaf 0, 0, D6, E6⟩ := by unfold hvG hR hL; simp [-List.drop_drop, Nat.add_assoc, h6_2, h6_3, of_decide_eq_false hc16, hc4, Decidable.not_not.1 (of_decide_eq_false hc9), hc12, of_decide_eq_false hc77, of_decide_eq_false hc81, hc111, of_decide_eq_true hc120]
         have hm9 := of_decide_eq_true hc120
         (try simp only [lf0.1, Nat.max_zero, Nat.zero_max] at hm9)
         have e9 : tlD g Lb Rb nb B2 = ⟨(Ev.E.leaf 0), 4, D6, E6⟩ := by rw [tlD_at ev]; simp [badE, lf0, h6_2, h6_3, of_decide_eq_false hc16, hc4, Decidable.not_not.1 (of_decide_eq_false hc9), hc12, of_decide_eq_false hc77, of_decide_eq_false hc81, hc111, of_decide_eq_true hc120, hm9]
         exact ⟨_, _, _, rfl, s, ⟨_, rfl, rfl, _, (Ev.E.leaf 0), _, _, _, _, _, _, _, rfl, rfl, hkn, h6_1, hsp _ _ _ _ e9, (by rw [← List.drop_drop, hdr]; exact (by simp only [← List.drop_drop, h6_3]))⟩⟩
        ·
         rw [hc120]
         refine cond_false_rule (b := false) (by kernel_rfl) rfl ?_
         refine wp_skip ?_
         refine seqR ?_
         refine oKD _ [] 3 [] 0 (fun φ122 => [(5, .int .i64 0), (4, pB (φ114 0)), (169, pB (φ114 0))]) (fun φ122 => []) s (fun φ122 => by kernel_rfl) (by kernel_rfl) ?_
         intro φ122 w122 s
         refine wp_ret ?_
         refine ret_rule (C := []) _ [] (.tuple #[pB (φ114 0), .int .i64 0]) [] [] s trivial (by kernel_rfl) ?_
         replace s := s.drop (List.Sublist.append (List.Sublist.cons₂ _ List.Sublist.slnil) (List.Sublist.refl []))
         have ev : hvG g (.leaf 0) Lb Rb B2 = ⟨T6, Ev.E.leaf 0, 0, D6, E6⟩ := by unfold hvG hR hL; simp [-List.drop_drop, Nat.add_assoc, h6_2, h6_3, of_decide_eq_false hc16, hc4, Decidable.not_not.1 (of_decide_eq_false hc9), hc12, of_decide_eq_false hc77, of_decide_eq_false hc81, hc111, of_decide_eq_false hc120]
         have hm9 := of_decide_eq_false hc120
         (try simp only [lf0.1, Nat.max_zero, Nat.zero_max] at hm9)
         have e9 : tlD g Lb Rb nb B2 = ⟨(Ev.E.node nb T6 (Ev.E.leaf 0)), 0, D6, E6⟩ := by rw [tlD_at ev]; simp [badE, lf0, h6_2, h6_3, of_decide_eq_false hc16, hc4, Decidable.not_not.1 (of_decide_eq_false hc9), hc12, of_decide_eq_false hc77, of_decide_eq_false hc81, hc111, of_decide_eq_false hc120, hm9]
         exact ⟨_, _, _, rfl, s, ⟨_, rfl, rfl, _, (Ev.E.node nb T6 (Ev.E.leaf 0)), _, _, _, _, _, _, _, rfl, rfl, hre117, h6_1, hsp _ _ _ _ e9, (by rw [← List.drop_drop, hdr]; exact (by simp only [← List.drop_drop, h6_3]))⟩⟩
 ·
  rw [hc4]
  refine cond_false_rule (b := false) (by kernel_rfl) rfl ?_
  refine wp_skip ?_
  refine wp_seq ?_
  refine seqR ?_
  refine oKD _ [] 1 [] 0 (fun φ123 => [(96, .bool Rb)]) (fun φ123 => []) s (fun φ123 => by kernel_rfl) (by kernel_rfl) ?_
  intro φ123 w123 s
  rcases Bool.eq_false_or_eq_true (Rb) with hc124 | hc124
  ·
   rw [hc124]
   refine cond_true_rule (b := true) (by kernel_rfl) rfl ?_
   refine seqR ?_
   refine oK _ [] 3 [] 0 (fun φ125 => [(100, .int .i64 (IntKind.wrap .i64 (((deep : Nat) : Int) + ((1 : Nat) : Int)))), (99, .int .i64 deep), (98, pB y)]) (fun φ125 => []) s (fun φ125 => by kernel_rfl) ?_
   intro φ125 w125 s
   rw [nat_addI (a := deep) (b := 1) (by  have hq0 := of_decide_eq_false hc16; omega)]
   refine callB_rule (b := (y, .cells #[.slice a2 n2 c2, .int .i64 e2] 40)) (F := []) (Hr := []) (some 101) 0 s (by kernel_rfl) (by kernel_rfl) ((ih (of_decide_eq_false hc16)) hb2 hn2 he2) (by kernel_rfl) ?_
   rintro v126 I126 w126 b126 le126 - h126 s
   replace hkn := Ev.RE.mono le126 hkn
   obtain ⟨k126, T126, R126, E126, D126, B126, a126, n126, c126, rfl, rfl, h126_0, h126_1, h126_2, h126_3⟩ := h126
   refine oKD _ [] 5 [] 0 (fun φ127 => [(19, .int .i64 R126), (18, pB k126), (103, .int .i64 R126), (102, pB k126), (97, .tuple #[pB k126, .int .i64 R126])]) (fun φ127 => []) s (fun φ127 => by kernel_rfl) (by kernel_rfl) ?_
   intro φ127 w127 s
   refine seqR ?_
   refine oK _ [] 2 [] 0 (fun φ128 => [(105, .bool (((R126 : Nat) : Int) != ((0 : Nat) : Int))), (104, .int .i64 R126)]) (fun φ128 => []) s (fun φ128 => by kernel_rfl) ?_
   intro φ128 w128 s
   rw [nat_neq (a := R126) (b := 0)]
   refine ops_done (by kernel_rfl) ?_
   rcases Bool.eq_false_or_eq_true (decide (R126 ≠ 0)) with hc129 | hc129
   ·
    rw [hc129]
    refine cond_true_rule (b := true) (by kernel_rfl) rfl ?_
    refine seqR ?_
    refine oKD _ [] 4 [] 0 (fun φ130 => [(5, .int .i64 R126), (4, pB kn), (107, .int .i64 R126), (106, pB kn)]) (fun φ130 => []) s (fun φ130 => by kernel_rfl) (by kernel_rfl) ?_
    intro φ130 w130 s
    refine wp_ret ?_
    refine ret_rule (C := []) _ [] (.tuple #[pB kn, .int .i64 R126]) [] [] s trivial (by kernel_rfl) ?_
    replace s := s.drop (List.Sublist.append (List.Sublist.cons₂ _ List.Sublist.slnil) (List.Sublist.refl []))
    have ev : hvG g (.leaf 0) Lb Rb B2 = ⟨Ev.E.leaf 0, T126, R126, D126, E126⟩ := by unfold hvG hR hL; simp [-List.drop_drop, Nat.add_assoc, h126_2, h126_3, of_decide_eq_false hc16, hc4, hc124, of_decide_eq_true hc129]
    have e9 : tlD g Lb Rb nb B2 = ⟨(Ev.E.leaf 0), R126, D126, E126⟩ := by rw [tlD_at ev]; simp [badE, lf0, h126_2, h126_3, of_decide_eq_false hc16, hc4, hc124, of_decide_eq_true hc129]
    exact ⟨_, _, _, rfl, s, ⟨_, rfl, rfl, _, (Ev.E.leaf 0), _, _, _, _, _, _, _, rfl, rfl, hkn, h126_1, hsp _ _ _ _ e9, (by rw [← List.drop_drop, hdr]; exact (by simp only [← List.drop_drop, h126_3]))⟩⟩
   ·
    rw [hc129]
    refine cond_false_rule (b := false) (by kernel_rfl) rfl ?_
    refine wp_skip ?_
    refine wp_seq ?_
    refine wp_seq ?_
    rcases Bool.eq_false_or_eq_true (decide (T126.top = 0)) with hc131 | hc131
    ·
     refine draw_rule (C := []) ⟨(fun φ132 xs132 => [.look 0 [] [], .look 0 [] [], .skip, .skip, .look 0 [] [], .look 0 [] [], .look 0 [] [], .look 0 [] [], .look 0 [] [], .call 44 #[pB k126], .look 0 [] [], .look 0 [] [], .look 0 [] [], .skip, .skip, .skip, .skip, .skip, .skip, .skip, .skip, .skip, .skip, .skip, .skip, .look 0 [] [], .look 0 [] [], .skip, .skip, .skip, .skip, .skip, .skip, .skip, .skip, .skip, .skip, .skip, .skip, .skip, .skip, .skip, .skip, .skip, .skip, .skip, .skip, .skip, .skip, .skip, .look 0 [] []]), (fun φ132 xs132 => [.bool false, .bool false, undef, undef, .bool false, .bool false, .bool true, .bool true, pB k126, .bool true, .bool true, .bool true, .bool true, undef, undef, undef, undef, undef, undef, undef, undef, undef, undef, undef, undef, .bool true, .bool true, undef, undef, undef, undef, undef, undef, undef, undef, undef, undef, undef, undef, undef, undef, undef, undef, undef, undef, undef, undef, undef, undef, undef, .bool true]), (fun φ132 xs132 => [[(y, .cells #[.slice a126 n126 c126, .int .i64 E126] 40)]]), (fun φ132 xs132 => [[default, default, default, default, default, default, default, default, default, default, default, default, default, default, default, default, default, default, default, default, default, default, default, default, default, default, default, default, default, default, default, default, default, default, default, default, default, default, default, default, default, default, default, default, default, default, default, default, default, default, default]]), [], [1, 1, 0, 0, 1, 1, 1, 1, 1, 3, 1, 1, 1, 0, 0, 0, 0, 0, 0, 0, 0, 0, 0, 0, 0, 1, 1, 0, 0, 0, 0, 0, 0, 0, 0, 0, 0, 0, 0, 0, 0, 0, 0, 0, 0, 0, 0, 0, 0, 0, 1]⟩ (fun j => ([MP.any] : List MP).getD j MP.any) [9] [] [] (fun φ132 xs132 => []) (fun φ132 xs132 => [(108, .bool false), (109, .bool false), (110, undef), (111, undef), (112, .bool false), (113, .bool false), (114, .bool true), (115, .bool true), (116, pB k126), (117, .bool true), (118, .bool true), (119, .bool true), (120, .bool true), (121, undef), (122, undef), (123, undef), (124, undef), (125, undef), (126, undef), (127, undef), (128, undef), (129, undef), (130, undef), (131, undef), (132, undef), (133, .bool true), (134, .bool true), (135, undef), (136, undef), (137, undef), (138, undef), (139, undef), (140, undef), (141, undef), (142, undef), (143, undef), (144, undef), (145, undef), (146, undef), (147, undef), (148, undef), (149, undef), (150, undef), (151, undef), (152, undef), (153, undef), (154, undef), (155, undef), (156, undef), (157, undef), (158, .bool true)]) (fun φ132 xs132 => [(y, .cells #[.slice a126 n126 c126, .int .i64 E126] 40)]) s trivial (by kernel_rfl) (by kernel_rfl) (fun _ _ => by kernel_rfl) (fun _ _ => by kernel_rfl) ⟨fun _ _ => by kernel_rfl, fun _ _ => by kernel_rfl, fun _ _ => by kernel_rfl, fun _ _ => by kernel_rfl⟩ (fun _ _ _ => by kernel_rfl) (fun _ _ => by kernel_rfl) (fun _ _ => by kernel_rfl) (fun _ _ => by kernel_rfl) (fun _ _ => by kernel_rfl) (fun _ _ => by kernel_rfl) trivial trivial (by kernel_rfl) ⟨?c132_9, trivial⟩ ?k132
     case c132_9 =>
      refine kcast (A := ∀ (φ132 : Nat → Nat) (xs132 : Xs) (J9_132 : IM), I126.Le J9_132 → Fun Tryd.prog 44 #[pB k126] J9_132 (fun v J' => ∃ x : UX, v = .bool true ∧ (True))) (by kernel_rfl) ?_
      intro φ132 xs132 J9_132 leJ
      have h126_0 := Ev.RE.mono leJ h126_0
      exact Fun.mono (refZero_c h126_0 (by have q9 := (hgd B2).2; rw [h126_2] at q9; exact q9)) (fun v J' _ h => ⟨UX.d, h.trans (congrArg Value.bool hc131), trivial⟩)
     case k132 =>
      rintro φ132 xs132 I132 w132 le132 s _
      replace hkn := Ev.RE.mono le132 hkn
      replace h126_0 := Ev.RE.mono le132 h126_0
      replace h126_1 := BoS.mono le132 h126_1
      refine cond_true_rule (b := true) (by kernel_rfl) rfl ?_
      refine seqR ?_
      refine oKD [(y, .cells #[.slice a126 n126 c126, .int .i64 E126] 40)] [] 3 [] 0 (fun φ133 => [(5, .int .i64 6), (4, pB kn), (159, pB kn)]) (fun φ133 => []) s (fun φ133 => by kernel_rfl) (by kernel_rfl) ?_
      intro φ133 w133 s
      refine wp_ret ?_
      refine ret_rule (C := []) _ [] (.tuple #[pB kn, .int .i64 6]) [] [] s trivial (by kernel_rfl) ?_
      replace s := s.drop (List.Sublist.append (List.Sublist.cons₂ _ List.Sublist.slnil) (List.Sublist.refl []))
      have ev : hvG g (.leaf 0) Lb Rb B2 = ⟨Ev.E.leaf 0, T126, 0, D126, E126⟩ := by unfold hvG hR hL; simp [-List.drop_drop, Nat.add_assoc, h126_2, h126_3, of_decide_eq_false hc16, hc4, hc124, Decidable.not_not.1 (of_decide_eq_false hc129), of_decide_eq_true hc131]
      have e9 : tlD g Lb Rb nb B2 = ⟨(Ev.E.leaf 0), 6, D126, E126⟩ := by rw [tlD_at ev]; simp [badE, lf0, h126_2, h126_3, of_decide_eq_false hc16, hc4, hc124, Decidable.not_not.1 (of_decide_eq_false hc129), of_decide_eq_true hc131]
      exact ⟨_, _, _, rfl, s, ⟨_, rfl, rfl, _, (Ev.E.leaf 0), _, _, _, _, _, _, _, rfl, rfl, hkn, h126_1, hsp _ _ _ _ e9, (by rw [← List.drop_drop, hdr]; exact (by simp only [← List.drop_drop, h126_3]))⟩⟩
    ·
     rcases Bool.eq_false_or_eq_true (T126.isLeaf) with hc136 | hc136
     ·
      have hp137 : I126 kn = some (.cells #[.int .u64 0, .pointer none, .pointer none] 85) := hkn
      obtain ⟨pl138, pr138, hq138, hp138⟩ := RE.peekL h126_0
      refine draw_rule (C := [(kn, .cells #[.int .u64 0, .pointer none, .pointer none] 85), (k126, .cells #[.int .u64 T126.base, .pointer pl138, .pointer pr138] 85)]) ⟨(fun φ137 xs137 => [.look 0 [] [], .look 0 [] [], .skip, .skip, .look 0 [] [], .look 0 [] [], .look 0 [] [], .look 0 [] [], .look 0 [] [], .call 44 #[pB k126], .look 0 [] [], .look 0 [] [], .look 0 [] [], .look 0 [] [], .look 0 [] [], .look 0 [] [], .look 0 [.c 0] [kn], .look 0 [] [], .look 0 [] [], .skip, .skip, .skip, .skip, .skip, .look 0 [] [], .look 0 [] [], .look 0 [] [], .look 0 [] [], .look 0 [] [], .look 0 [] [], .look 0 [.c 0] [kn], .look 0 [] [], .look 0 [] [], .look 0 [] [], .look 0 [] [], .look 0 [] [], .look 0 [.c 1] [k126], .ran (binOp .eql 47 (.pointer pl138) (.pointer none)), .look 0 [] [], .look 0 [] [], .look 0 [] [], .look 0 [] [], .look 0 [] [], .look 0 [.c 0] [kn], .look 0 [] [], .look 0 [] [], .look 0 [] [], .look 0 [.c 1] [k126], .sub 0 [] [] (.bool (((0 : Nat) : Int) == ((T126.base : Nat) : Int))), .look 0 [] [], .look 0 [] []]), (fun φ137 xs137 => [.bool false, .bool false, undef, undef, .bool false, .bool false, .bool true, .bool true, pB k126, .bool false, .bool false, .bool false, .bool false, pB kn, pB kn, pB kn, .int .u64 0, .bool false, .bool false, undef, undef, undef, undef, undef, .bool false, .bool false, .bool false, pB kn, pB kn, .pointer (some ⟨kn, 1, none⟩), .pointer none, .bool true, .bool true, pB k126, pB k126, .pointer (some ⟨k126, 1, none⟩), .pointer pl138, .bool true, .bool true, .bool true, pB kn, pB kn, pB kn, .int .u64 0, pB k126, pB k126, pB k126, .int .u64 T126.base, .bool (decide (0 = T126.base)), .bool (decide (0 = T126.base)), .bool (decide (0 = T126.base))]), (fun φ137 xs137 => [[(y, .cells #[.slice a126 n126 c126, .int .i64 E126] 40)]]), (fun φ137 xs137 => [[default, default, default, default, default, default, default, default, default, default, default, default, default, default, default, default, default, default, default, default, default, default, default, default, default, default, default, default, default, default, default, default, default, default, default, default, default, default, default, default, default, default, default, default, default, default, default, default, default, default, default]]), [], [1, 1, 0, 0, 1, 1, 1, 1, 1, 3, 1, 1, 1, 1, 1, 1, 1, 1, 1, 0, 0, 0, 0, 0, 1, 1, 1, 1, 1, 1, 1, 1, 1, 1, 1, 1, 1, 6, 1, 1, 1, 1, 1, 1, 1, 1, 1, 1, 5, 1, 1]⟩ (fun j => ([MP.any] : List MP).getD j MP.any) [9] [48] [37] (fun φ137 xs137 => []) (fun φ137 xs137 => [(108, .bool false), (109, .bool false), (110, undef), (111, undef), (112, .bool false), (113, .bool false), (114, .bool true), (115, .bool true), (116, pB k126), (117, .bool false), (118, .bool false), (119, .bool false), (120, .bool false), (121, pB kn), (122, pB kn), (123, pB kn), (124, .int .u64 0), (125, .bool false), (126, .bool false), (127, undef), (128, undef), (129, undef), (130, undef), (131, undef), (132, .bool false), (133, .bool false), (134, .bool false), (135, pB kn), (136, pB kn), (137, .pointer (some ⟨kn, 1, none⟩)), (138, .pointer none), (139, .bool true), (140, .bool true), (141, pB k126), (142, pB k126), (143, .pointer (some ⟨k126, 1, none⟩)), (144, .pointer pl138), (145, .bool true), (146, .bool true), (147, .bool true), (148, pB kn), (149, pB kn), (150, pB kn), (151, .int .u64 0), (152, pB k126), (153, pB k126), (154, pB k126), (155, .int .u64 T126.base), (156, .bool (decide (0 = T126.base))), (157, .bool (decide (0 = T126.base))), (158, .bool (decide (0 = T126.base)))]) (fun φ137 xs137 => [(y, .cells #[.slice a126 n126 c126, .int .i64 E126] 40)]) s ⟨hp137, ⟨hp138, trivial⟩⟩ (by kernel_rfl) (by kernel_rfl) (fun _ _ => by kernel_rfl) (fun _ _ => by kernel_rfl) ⟨fun _ _ => by kernel_rfl, fun _ _ => by kernel_rfl, fun _ _ => by kernel_rfl, fun _ _ => by kernel_rfl⟩ (fun _ _ _ => by kernel_rfl) (fun _ _ => by kernel_rfl) (fun _ _ => by kernel_rfl) (fun _ _ => by kernel_rfl) (fun _ _ => by kernel_rfl) (fun _ _ => by kernel_rfl) ⟨kcast (A := ∀ (φ137 : Nat → Nat) (xs137 : Xs), (.bool (((0 : Nat) : Int) == ((T126.base : Nat) : Int)) : Value) = .bool (decide (0 = T126.base))) (by kernel_rfl) (fun φ137 xs137 => congrArg Value.bool ((nat_eql (a := 0) (b := T126.base)))), trivial⟩ ⟨kcast (A := ∀ (φ137 : Nat → Nat) (xs137 : Xs) (J : IM) (w : World), I126.Le J → J.Sub w → ((binOp .eql 47 (.pointer pl138) (.pointer none)) : Sem Value).run Tryd.prog w = .ok (.bool true) w) (by kernel_rfl) (fun φ137 xs137 J w hJ hS => (((run_nilE hq138) : ((binOp .eql 47 (.pointer pl138) (.pointer none)) : Sem Value).run Tryd.prog w = .ok (.bool T126.isLeaf) w).trans (congrArg (fun q => Result.ok (Value.bool q) w) hc136))), trivial⟩ (by kernel_rfl) ⟨?c137_9, trivial⟩ ?k137
      case c137_9 =>
       refine kcast (A := ∀ (φ137 : Nat → Nat) (xs137 : Xs) (J9_137 : IM), I126.Le J9_137 → Fun Tryd.prog 44 #[pB k126] J9_137 (fun v J' => ∃ x : UX, v = .bool false ∧ (True))) (by kernel_rfl) ?_
       intro φ137 xs137 J9_137 leJ
       have h126_0 := Ev.RE.mono leJ h126_0
       exact Fun.mono (refZero_c h126_0 (by have q9 := (hgd B2).2; rw [h126_2] at q9; exact q9)) (fun v J' _ h => ⟨UX.d, h.trans (congrArg Value.bool hc131), trivial⟩)
      case k137 =>
       rintro φ137 xs137 I137 w137 le137 s _
       replace hkn := Ev.RE.mono le137 hkn
       replace h126_0 := Ev.RE.mono le137 h126_0
       replace h126_1 := BoS.mono le137 h126_1
       rcases Bool.eq_false_or_eq_true (decide (0 = T126.base)) with hc140 | hc140
       ·
        rw [hc140]
        refine cond_true_rule (b := true) (by kernel_rfl) rfl ?_
        refine seqR ?_
        refine oKD [(y, .cells #[.slice a126 n126 c126, .int .i64 E126] 40)] [] 3 [] 0 (fun φ141 => [(5, .int .i64 6), (4, pB kn), (159, pB kn)]) (fun φ141 => []) s (fun φ141 => by kernel_rfl) (by kernel_rfl) ?_
        intro φ141 w141 s
        refine wp_ret ?_
        refine ret_rule (C := []) _ [] (.tuple #[pB kn, .int .i64 6]) [] [] s trivial (by kernel_rfl) ?_
        replace s := s.drop (List.Sublist.append (List.Sublist.cons₂ _ List.Sublist.slnil) (List.Sublist.refl []))
        have ev : hvG g (.leaf 0) Lb Rb B2 = ⟨Ev.E.leaf 0, T126, 0, D126, E126⟩ := by unfold hvG hR hL; simp [-List.drop_drop, Nat.add_assoc, h126_2, h126_3, of_decide_eq_false hc16, hc4, hc124, Decidable.not_not.1 (of_decide_eq_false hc129), of_decide_eq_false hc131, hc136, (of_decide_eq_true hc140).symm]
        have e9 : tlD g Lb Rb nb B2 = ⟨(Ev.E.leaf 0), 6, D126, E126⟩ := by rw [tlD_at ev]; simp [badE, lf0, h126_2, h126_3, of_decide_eq_false hc16, hc4, hc124, Decidable.not_not.1 (of_decide_eq_false hc129), of_decide_eq_false hc131, hc136, (of_decide_eq_true hc140).symm]
        exact ⟨_, _, _, rfl, s, ⟨_, rfl, rfl, _, (Ev.E.leaf 0), _, _, _, _, _, _, _, rfl, rfl, hkn, h126_1, hsp _ _ _ _ e9, (by rw [← List.drop_drop, hdr]; exact (by simp only [← List.drop_drop, h126_3]))⟩⟩
       ·
        rw [hc140]
        refine cond_false_rule (b := false) (by kernel_rfl) rfl ?_
        refine wp_skip ?_
        refine seqR ?_
        refine oAD [(y, .cells #[.slice a126 n126 c126, .int .i64 E126] 40)] [] 6 [] 1 (fun φ142 => [(20, pB (φ142 0)), (164, pB (φ142 0)), (163, .agg #[.int .u64 nb, pB kn, pB k126]), (162, pB k126), (161, pB kn), (160, .int .u64 nb)]) (fun φ142 => [(y, .cells #[.slice a126 n126 c126, .int .i64 E126] 40), (φ142 0, .cells #[.int .u64 nb, pB kn, pB k126] 85)]) (fun φ142 => []) s (fun φ142 => by kernel_rfl) (by kernel_rfl) ?_
        intro φ142 w142 s
        refine wp_seq ?_
        refine seqR ?_
        refine oK _ [] 1 [] 0 (fun φ143 => [(165, pB (φ142 0))]) (fun φ143 => []) s (fun φ143 => by kernel_rfl) ?_
        intro φ143 w143 s
        obtain ⟨I144, le144, hk144, s⟩ := s.freezeAt 1 (φ142 0) (.cells #[.int .u64 ((nb : Nat) : Int), .pointer (some ⟨kn, 0, none⟩), .pointer (some ⟨k126, 0, none⟩)] 85) [(y, .cells #[.slice a126 n126 c126, .int .i64 ((E126 : Nat) : Int)] 40)] (by kernel_rfl) (by kernel_rfl)
        replace hkn := Ev.RE.mono le144 hkn
        replace h126_0 := Ev.RE.mono le144 h126_0
        replace h126_1 := BoS.mono le144 h126_1
        have hre145 : Ev.RE I144 (.node nb (Ev.E.leaf 0) T126) (φ142 0) := ⟨_, _, hk144, hkn, h126_0⟩
        refine call_rule (some 166) s (rmaxN_c (n := nb) (l := (Ev.E.leaf 0)) (r := T126) hre145 (by have := hnb; have : T126.top ≤ 1048576 := (by have q9 := hg.t B2; rw [h126_2] at q9; exact q9); have : (Ev.E.leaf 0).top = 0 := rfl; omega)) (by kernel_rfl) ?_
        intro v146 I146 w146 le146 h146 s
        replace hkn := Ev.RE.mono le146 hkn
        replace h126_0 := Ev.RE.mono le146 h126_0
        replace h126_1 := BoS.mono le146 h126_1
        replace hre145 := Ev.RE.mono le146 hre145
        obtain rfl := h146
        refine oK [(y, .cells #[.slice a126 n126 c126, .int .i64 E126] 40)] [] 1 [] 0 (fun φ147 => [(167, .bool (decide (((nb + max (Ev.E.leaf 0).top T126.top : Nat) : Int) > ((1048576 : Nat) : Int))))]) (fun φ147 => []) s (fun φ147 => by kernel_rfl) ?_
        intro φ147 w147 s
        rw [nat_gtr (a := (nb + max (Ev.E.leaf 0).top T126.top)) (b := 1048576)]
        refine ops_done (by kernel_rfl) ?_
        rcases Bool.eq_false_or_eq_true (decide (1048576 < (nb + max (Ev.E.leaf 0).top T126.top))) with hc148 | hc148
        ·
         rw [hc148]
         refine cond_true_rule (b := true) (by kernel_rfl) rfl ?_
         refine seqR ?_
         refine oKD _ [] 3 [] 0 (fun φ149 => [(5, .int .i64 4), (4, pB kn), (168, pB kn)]) (fun φ149 => []) s (fun φ149 => by kernel_rfl) (by kernel_rfl) ?_
         intro φ149 w149 s
         refine wp_ret ?_
         refine ret_rule (C := []) _ [] (.tuple #[pB kn, .int .i64 4]) [] [] s trivial (by kernel_rfl) ?_
         replace s := s.drop (List.Sublist.append (List.Sublist.cons₂ _ List.Sublist.slnil) (List.Sublist.refl []))
         have ev : hvG g (.leaf 0) Lb Rb B2 = ⟨Ev.E.leaf 0, T126, 0, D126, E126⟩ := by unfold hvG hR hL; simp [-List.drop_drop, Nat.add_assoc, h126_2, h126_3, of_decide_eq_false hc16, hc4, hc124, Decidable.not_not.1 (of_decide_eq_false hc129), of_decide_eq_false hc131, hc136, of_decide_eq_false hc140, Ne.symm (of_decide_eq_false hc140), of_decide_eq_true hc148]
         have hm9 := of_decide_eq_true hc148
         (try simp only [lf0.1, Nat.max_zero, Nat.zero_max] at hm9)
         have e9 : tlD g Lb Rb nb B2 = ⟨(Ev.E.leaf 0), 4, D126, E126⟩ := by rw [tlD_at ev]; simp [badE, lf0, h126_2, h126_3, of_decide_eq_false hc16, hc4, hc124, Decidable.not_not.1 (of_decide_eq_false hc129), of_decide_eq_false hc131, hc136, of_decide_eq_false hc140, Ne.symm (of_decide_eq_false hc140), of_decide_eq_true hc148, hm9]
         exact ⟨_, _, _, rfl, s, ⟨_, rfl, rfl, _, (Ev.E.leaf 0), _, _, _, _, _, _, _, rfl, rfl, hkn, h126_1, hsp _ _ _ _ e9, (by rw [← List.drop_drop, hdr]; exact (by simp only [← List.drop_drop, h126_3]))⟩⟩
        ·
         rw [hc148]
         refine cond_false_rule (b := false) (by kernel_rfl) rfl ?_
         refine wp_skip ?_
         refine seqR ?_
         refine oKD _ [] 3 [] 0 (fun φ150 => [(5, .int .i64 0), (4, pB (φ142 0)), (169, pB (φ142 0))]) (fun φ150 => []) s (fun φ150 => by kernel_rfl) (by kernel_rfl) ?_
         intro φ150 w150 s
         refine wp_ret ?_
         refine ret_rule (C := []) _ [] (.tuple #[pB (φ142 0), .int .i64 0]) [] [] s trivial (by kernel_rfl) ?_
         replace s := s.drop (List.Sublist.append (List.Sublist.cons₂ _ List.Sublist.slnil) (List.Sublist.refl []))
         have ev : hvG g (.leaf 0) Lb Rb B2 = ⟨Ev.E.leaf 0, T126, 0, D126, E126⟩ := by unfold hvG hR hL; simp [-List.drop_drop, Nat.add_assoc, h126_2, h126_3, of_decide_eq_false hc16, hc4, hc124, Decidable.not_not.1 (of_decide_eq_false hc129), of_decide_eq_false hc131, hc136, of_decide_eq_false hc140, Ne.symm (of_decide_eq_false hc140), of_decide_eq_false hc148]
         have hm9 := of_decide_eq_false hc148
         (try simp only [lf0.1, Nat.max_zero, Nat.zero_max] at hm9)
         have e9 : tlD g Lb Rb nb B2 = ⟨(Ev.E.node nb (Ev.E.leaf 0) T126), 0, D126, E126⟩ := by rw [tlD_at ev]; simp [badE, lf0, h126_2, h126_3, of_decide_eq_false hc16, hc4, hc124, Decidable.not_not.1 (of_decide_eq_false hc129), of_decide_eq_false hc131, hc136, of_decide_eq_false hc140, Ne.symm (of_decide_eq_false hc140), of_decide_eq_false hc148, hm9]
         exact ⟨_, _, _, rfl, s, ⟨_, rfl, rfl, _, (Ev.E.node nb (Ev.E.leaf 0) T126), _, _, _, _, _, _, _, rfl, rfl, hre145, h126_1, hsp _ _ _ _ e9, (by rw [← List.drop_drop, hdr]; exact (by simp only [← List.drop_drop, h126_3]))⟩⟩
     ·
      have hp151 : I126 kn = some (.cells #[.int .u64 0, .pointer none, .pointer none] 85) := hkn
      obtain ⟨pl152, pr152, hq152, hp152⟩ := RE.peekL h126_0
      refine draw_rule (C := [(kn, .cells #[.int .u64 0, .pointer none, .pointer none] 85), (k126, .cells #[.int .u64 T126.base, .pointer pl152, .pointer pr152] 85)]) ⟨(fun φ151 xs151 => [.look 0 [] [], .look 0 [] [], .skip, .skip, .look 0 [] [], .look 0 [] [], .look 0 [] [], .look 0 [] [], .look 0 [] [], .call 44 #[pB k126], .look 0 [] [], .look 0 [] [], .look 0 [] [], .look 0 [] [], .look 0 [] [], .look 0 [] [], .look 0 [.c 0] [kn], .look 0 [] [], .look 0 [] [], .skip, .skip, .skip, .skip, .skip, .look 0 [] [], .look 0 [] [], .look 0 [] [], .look 0 [] [], .look 0 [] [], .look 0 [] [], .look 0 [.c 0] [kn], .look 0 [] [], .look 0 [] [], .look 0 [] [], .look 0 [] [], .look 0 [] [], .look 0 [.c 1] [k126], .ran (binOp .eql 47 (.pointer pl152) (.pointer none)), .look 0 [] [], .look 0 [] [], .skip, .skip, .skip, .skip, .skip, .skip, .skip, .skip, .skip, .look 0 [] [], .look 0 [] []]), (fun φ151 xs151 => [.bool false, .bool false, undef, undef, .bool false, .bool false, .bool true, .bool true, pB k126, .bool false, .bool false, .bool false, .bool false, pB kn, pB kn, pB kn, .int .u64 0, .bool false, .bool false, undef, undef, undef, undef, undef, .bool false, .bool false, .bool false, pB kn, pB kn, .pointer (some ⟨kn, 1, none⟩), .pointer none, .bool true, .bool true, pB k126, pB k126, .pointer (some ⟨k126, 1, none⟩), .pointer pl152, .bool false, .bool false, .bool false, undef, undef, undef, undef, undef, undef, undef, undef, undef, .bool false, .bool false]), (fun φ151 xs151 => [[(y, .cells #[.slice a126 n126 c126, .int .i64 E126] 40)]]), (fun φ151 xs151 => [[default, default, default, default, default, default, default, default, default, default, default, default, default, default, default, default, default, default, default, default, default, default, default, default, default, default, default, default, default, default, default, default, default, default, default, default, default, default, default, default, default, default, default, default, default, default, default, default, default, default, default]]), [], [1, 1, 0, 0, 1, 1, 1, 1, 1, 3, 1, 1, 1, 1, 1, 1, 1, 1, 1, 0, 0, 0, 0, 0, 1, 1, 1, 1, 1, 1, 1, 1, 1, 1, 1, 1, 1, 6, 1, 1, 0, 0, 0, 0, 0, 0, 0, 0, 0, 1, 1]⟩ (fun j => ([MP.any] : List MP).getD j MP.any) [9] [] [37] (fun φ151 xs151 => []) (fun φ151 xs151 => [(108, .bool false), (109, .bool false), (110, undef), (111, undef), (112, .bool false), (113, .bool false), (114, .bool true), (115, .bool true), (116, pB k126), (117, .bool false), (118, .bool false), (119, .bool false), (120, .bool false), (121, pB kn), (122, pB kn), (123, pB kn), (124, .int .u64 0), (125, .bool false), (126, .bool false), (127, undef), (128, undef), (129, undef), (130, undef), (131, undef), (132, .bool false), (133, .bool false), (134, .bool false), (135, pB kn), (136, pB kn), (137, .pointer (some ⟨kn, 1, none⟩)), (138, .pointer none), (139, .bool true), (140, .bool true), (141, pB k126), (142, pB k126), (143, .pointer (some ⟨k126, 1, none⟩)), (144, .pointer pl152), (145, .bool false), (146, .bool false), (147, .bool false), (148, undef), (149, undef), (150, undef), (151, undef), (152, undef), (153, undef), (154, undef), (155, undef), (156, undef), (157, .bool false), (158, .bool false)]) (fun φ151 xs151 => [(y, .cells #[.slice a126 n126 c126, .int .i64 E126] 40)]) s ⟨hp151, ⟨hp152, trivial⟩⟩ (by kernel_rfl) (by kernel_rfl) (fun _ _ => by kernel_rfl) (fun _ _ => by kernel_rfl) ⟨fun _ _ => by kernel_rfl, fun _ _ => by kernel_rfl, fun _ _ => by kernel_rfl, fun _ _ => by kernel_rfl⟩ (fun _ _ _ => by kernel_rfl) (fun _ _ => by kernel_rfl) (fun _ _ => by kernel_rfl) (fun _ _ => by kernel_rfl) (fun _ _ => by kernel_rfl) (fun _ _ => by kernel_rfl) trivial ⟨kcast (A := ∀ (φ151 : Nat → Nat) (xs151 : Xs) (J : IM) (w : World), I126.Le J → J.Sub w → ((binOp .eql 47 (.pointer pl152) (.pointer none)) : Sem Value).run Tryd.prog w = .ok (.bool false) w) (by kernel_rfl) (fun φ151 xs151 J w hJ hS => (((run_nilE hq152) : ((binOp .eql 47 (.pointer pl152) (.pointer none)) : Sem Value).run Tryd.prog w = .ok (.bool T126.isLeaf) w).trans (congrArg (fun q => Result.ok (Value.bool q) w) hc136))), trivial⟩ (by kernel_rfl) ⟨?c151_9, trivial⟩ ?k151
      case c151_9 =>
       refine kcast (A := ∀ (φ151 : Nat → Nat) (xs151 : Xs) (J9_151 : IM), I126.Le J9_151 → Fun Tryd.prog 44 #[pB k126] J9_151 (fun v J' => ∃ x : UX, v = .bool false ∧ (True))) (by kernel_rfl) ?_
       intro φ151 xs151 J9_151 leJ
       have h126_0 := Ev.RE.mono leJ h126_0
       exact Fun.mono (refZero_c h126_0 (by have q9 := (hgd B2).2; rw [h126_2] at q9; exact q9)) (fun v J' _ h => ⟨UX.d, h.trans (congrArg Value.bool hc131), trivial⟩)
      case k151 =>
       rintro φ151 xs151 I151 w151 le151 s _
       replace hkn := Ev.RE.mono le151 hkn
       replace h126_0 := Ev.RE.mono le151 h126_0
       replace h126_1 := BoS.mono le151 h126_1
       refine cond_false_rule (b := false) (by kernel_rfl) rfl ?_
       refine wp_skip ?_
       refine seqR ?_
       refine oAD [(y, .cells #[.slice a126 n126 c126, .int .i64 E126] 40)] [] 6 [] 1 (fun φ154 => [(20, pB (φ154 0)), (164, pB (φ154 0)), (163, .agg #[.int .u64 nb, pB kn, pB k126]), (162, pB k126), (161, pB kn), (160, .int .u64 nb)]) (fun φ154 => [(y, .cells #[.slice a126 n126 c126, .int .i64 E126] 40), (φ154 0, .cells #[.int .u64 nb, pB kn, pB k126] 85)]) (fun φ154 => []) s (fun φ154 => by kernel_rfl) (by kernel_rfl) ?_
       intro φ154 w154 s
       refine wp_seq ?_
       refine seqR ?_
       refine oK _ [] 1 [] 0 (fun φ155 => [(165, pB (φ154 0))]) (fun φ155 => []) s (fun φ155 => by kernel_rfl) ?_
       intro φ155 w155 s
       obtain ⟨I156, le156, hk156, s⟩ := s.freezeAt 1 (φ154 0) (.cells #[.int .u64 ((nb : Nat) : Int), .pointer (some ⟨kn, 0, none⟩), .pointer (some ⟨k126, 0, none⟩)] 85) [(y, .cells #[.slice a126 n126 c126, .int .i64 ((E126 : Nat) : Int)] 40)] (by kernel_rfl) (by kernel_rfl)
       replace hkn := Ev.RE.mono le156 hkn
       replace h126_0 := Ev.RE.mono le156 h126_0
       replace h126_1 := BoS.mono le156 h126_1
       have hre157 : Ev.RE I156 (.node nb (Ev.E.leaf 0) T126) (φ154 0) := ⟨_, _, hk156, hkn, h126_0⟩
       refine call_rule (some 166) s (rmaxN_c (n := nb) (l := (Ev.E.leaf 0)) (r := T126) hre157 (by have := hnb; have : T126.top ≤ 1048576 := (by have q9 := hg.t B2; rw [h126_2] at q9; exact q9); have : (Ev.E.leaf 0).top = 0 := rfl; omega)) (by kernel_rfl) ?_
       intro v158 I158 w158 le158 h158 s
       replace hkn := Ev.RE.mono le158 hkn
       replace h126_1 := BoS.mono le158 h126_1
       replace hre157 := Ev.RE.mono le158 hre157
       obtain rfl := h158
       refine oK [(y, .cells #[.slice a126 n126 c126, .int .i64 E126] 40)] [] 1 [] 0 (fun φ159 => [(167, .bool (decide (((nb + max (Ev.E.leaf 0).top T126.top : Nat) : Int) > ((1048576 : Nat) : Int))))]) (fun φ159 => []) s (fun φ159 => by kernel_rfl) ?_
       intro φ159 w159 s
       rw [nat_gtr (a := (nb + max (Ev.E.leaf 0).top T126.top)) (b := 1048576)]
       refine ops_done (by kernel_rfl) ?_
       rcases Bool.eq_false_or_eq_true (decide (1048576 < (nb + max (Ev.E.leaf 0).top T126.top))) with hc160 | hc160
       ·
        rw [hc160]
        refine cond_true_rule (b := true) (by kernel_rfl) rfl ?_
        refine seqR ?_
        refine oKD _ [] 3 [] 0 (fun φ161 => [(5, .int .i64 4), (4, pB kn), (168, pB kn)]) (fun φ161 => []) s (fun φ161 => by kernel_rfl) (by kernel_rfl) ?_
        intro φ161 w161 s
        refine wp_ret ?_
        refine ret_rule (C := []) _ [] (.tuple #[pB kn, .int .i64 4]) [] [] s trivial (by kernel_rfl) ?_
        replace s := s.drop (List.Sublist.append (List.Sublist.cons₂ _ List.Sublist.slnil) (List.Sublist.refl []))
        have ev : hvG g (.leaf 0) Lb Rb B2 = ⟨Ev.E.leaf 0, T126, 0, D126, E126⟩ := by unfold hvG hR hL; simp [-List.drop_drop, Nat.add_assoc, h126_2, h126_3, of_decide_eq_false hc16, hc4, hc124, Decidable.not_not.1 (of_decide_eq_false hc129), of_decide_eq_false hc131, hc136, of_decide_eq_true hc160]
        have hm9 := of_decide_eq_true hc160
        (try simp only [lf0.1, Nat.max_zero, Nat.zero_max] at hm9)
        have e9 : tlD g Lb Rb nb B2 = ⟨(Ev.E.leaf 0), 4, D126, E126⟩ := by rw [tlD_at ev]; simp [badE, lf0, h126_2, h126_3, of_decide_eq_false hc16, hc4, hc124, Decidable.not_not.1 (of_decide_eq_false hc129), of_decide_eq_false hc131, hc136, of_decide_eq_true hc160, hm9]
        exact ⟨_, _, _, rfl, s, ⟨_, rfl, rfl, _, (Ev.E.leaf 0), _, _, _, _, _, _, _, rfl, rfl, hkn, h126_1, hsp _ _ _ _ e9, (by rw [← List.drop_drop, hdr]; exact (by simp only [← List.drop_drop, h126_3]))⟩⟩
       ·
        rw [hc160]
        refine cond_false_rule (b := false) (by kernel_rfl) rfl ?_
        refine wp_skip ?_
        refine seqR ?_
        refine oKD _ [] 3 [] 0 (fun φ162 => [(5, .int .i64 0), (4, pB (φ154 0)), (169, pB (φ154 0))]) (fun φ162 => []) s (fun φ162 => by kernel_rfl) (by kernel_rfl) ?_
        intro φ162 w162 s
        refine wp_ret ?_
        refine ret_rule (C := []) _ [] (.tuple #[pB (φ154 0), .int .i64 0]) [] [] s trivial (by kernel_rfl) ?_
        replace s := s.drop (List.Sublist.append (List.Sublist.cons₂ _ List.Sublist.slnil) (List.Sublist.refl []))
        have ev : hvG g (.leaf 0) Lb Rb B2 = ⟨Ev.E.leaf 0, T126, 0, D126, E126⟩ := by unfold hvG hR hL; simp [-List.drop_drop, Nat.add_assoc, h126_2, h126_3, of_decide_eq_false hc16, hc4, hc124, Decidable.not_not.1 (of_decide_eq_false hc129), of_decide_eq_false hc131, hc136, of_decide_eq_false hc160]
        have hm9 := of_decide_eq_false hc160
        (try simp only [lf0.1, Nat.max_zero, Nat.zero_max] at hm9)
        have e9 : tlD g Lb Rb nb B2 = ⟨(Ev.E.node nb (Ev.E.leaf 0) T126), 0, D126, E126⟩ := by rw [tlD_at ev]; simp [badE, lf0, h126_2, h126_3, of_decide_eq_false hc16, hc4, hc124, Decidable.not_not.1 (of_decide_eq_false hc129), of_decide_eq_false hc131, hc136, of_decide_eq_false hc160, hm9]
        exact ⟨_, _, _, rfl, s, ⟨_, rfl, rfl, _, (Ev.E.node nb (Ev.E.leaf 0) T126), _, _, _, _, _, _, _, rfl, rfl, hre157, h126_1, hsp _ _ _ _ e9, (by rw [← List.drop_drop, hdr]; exact (by simp only [← List.drop_drop, h126_3]))⟩⟩
  ·
   exact absurd hLR (by rw [hc4, hc124]; decide)

set_option maxHeartbeats 8000000 in
theorem refEvent_step {I : IM} {B : List Bool} {a : Option Addr} {n c y e : Nat} (hb : BoS I B (.slice a n c)) (hn9 : B.length ≤ 1000000) (he : e = 0) {g : List Bool → Rd Ev.E} (hg : OkE g) {f : Nat} (hgd : GdE f g) {deep : Nat} (hdp : deep ≤ 16) {last : Bool} (hlast : last = decide (deep = 16)) (ih : deep ≠ 16 → ∀ {J : IM} {a : Option Addr} {n c y e : Nat} {B : List Bool}, BoS J B (.slice a n c) → B.length ≤ 1000000 → e = 0 → FunM Tryd.prog 15 #[.pointer (some ⟨y, 0, none⟩), .int .i64 ((deep + 1 : Nat) : Int)] J [(y, .cells #[.slice a n c, .int .i64 ((e : Nat) : Int)] 40)] (fun v J H' => ∃ b' : OB, H' = [b'] ∧ b'.1 = y ∧ ∃ (k : Nat) (T : Ev.E) (R E D : Nat) (B' : List Bool) (a' : Option Addr) (n' c' : Nat), v = .tuple #[.pointer (some ⟨k, 0, none⟩), .int .i64 ((R : Nat) : Int)] ∧ b' = (y, .cells #[.slice a' n' c', .int .i64 ((E : Nat) : Int)] 40) ∧ Ev.RE J T k ∧ BoS J B' (.slice a' n' c') ∧ g B = ⟨T, R, D, E⟩ ∧ B.drop D = B')) : FunM Tryd.prog 15 #[.pointer (some ⟨y, 0, none⟩), .int .i64 ((deep : Nat) : Int)] I [(y, .cells #[.slice a n c, .int .i64 ((e : Nat) : Int)] 40)] (fun v J H' => ∃ b' : OB, H' = [b'] ∧ b'.1 = y ∧ ∃ (k : Nat) (T : Ev.E) (R E D : Nat) (B' : List Bool) (a' : Option Addr) (n' c' : Nat), v = .tuple #[.pointer (some ⟨k, 0, none⟩), .int .i64 ((R : Nat) : Int)] ∧ b' = (y, .cells #[.slice a' n' c', .int .i64 ((E : Nat) : Int)] 40) ∧ Ev.RE J T k ∧ BoS J B' (.slice a' n' c') ∧ evD g last B = ⟨T, R, D, E⟩ ∧ B.drop D = B') := by
 obtain ⟨rfl, -⟩ := hb.cap
 refine enterM_rule 170 [(0, pB y), (1, .int .i64 deep)] Tryd.func15 rfl (by kernel_rfl) ?_
 intro w s
 refine seqR ?_
 refine oKD [(y, .cells #[.slice a B.length c, .int .i64 e] 40)] [] 2 [] 0 (fun φ1 => [(5, .int .i64 0), (4, .pointer none)]) (fun φ1 => []) s (fun φ1 => by kernel_rfl) (by kernel_rfl) ?_
 intro φ1 w1 s
 refine seqR ?_
 refine call_rule (some 21) s (rleaf_c (n := 0)) (by kernel_rfl) ?_
 intro v2 I2 w2 le2 h2 s
 replace hb := BoS.mono le2 hb
 obtain ⟨k2, rfl, h2_0⟩ := h2
 refine oKD _ [] 1 [] 0 (fun φ3 => [(6, pB k2)]) (fun φ3 => []) s (fun φ3 => by kernel_rfl) (by kernel_rfl) ?_
 intro φ3 w3 s
 refine seqR ?_
 refine oK _ [] 1 [] 0 (fun φ4 => [(22, pB y)]) (fun φ4 => []) s (fun φ4 => by kernel_rfl) ?_
 intro φ4 w4 s
 refine callB_rule (b := (y, .cells #[.slice a B.length c, .int .i64 e] 40)) (F := []) (Hr := []) (some 23) 0 s (by kernel_rfl) (by kernel_rfl) (refGetV0_c (k := 1) (y := y) (e := e) hb hn9 he (by decide)) (by kernel_rfl) ?_
 rintro v5 I5 w5 b5 le5 - h5 s
 replace h2_0 := Ev.RE.mono le5 h2_0
 obtain ⟨V5, E5, D5, B5, a5, n5, c5, rfl, rfl, h5_0, h5_1, h5_2, h5_3, h5_4⟩ := h5
 refine oKD _ [] 1 [] 0 (fun φ6 => [(7, .int .u64 V5)]) (fun φ6 => []) s (fun φ6 => by kernel_rfl) (by kernel_rfl) ?_
 intro φ6 w6 s
 refine wp_seq ?_
 refine seqR ?_
 refine oK _ [] 5 [.o 0] 0 (fun φ7 => [(28, .bool (((E5 : Nat) : Int) != ((0 : Nat) : Int))), (27, .int .i64 E5), (26, .pointer (some ⟨y, 1, none⟩)), (25, pB y), (24, pB y)]) (fun φ7 => [y]) s (fun φ7 => by kernel_rfl) ?_
 intro φ7 w7 s
 rw [nat_neq (a := E5) (b := 0)]
 refine ops_done (by kernel_rfl) ?_
 rcases Bool.eq_false_or_eq_true (decide (E5 ≠ 0)) with hc8 | hc8
 ·
  rw [hc8]
  refine cond_true_rule (b := true) (by kernel_rfl) rfl ?_
  refine seqR ?_
  refine oKD _ [] 3 [] 0 (fun φ9 => [(5, .int .i64 6), (4, pB k2), (29, pB k2)]) (fun φ9 => []) s (fun φ9 => by kernel_rfl) (by kernel_rfl) ?_
  intro φ9 w9 s
  refine wp_ret ?_
  refine ret_rule (C := []) _ [] (.tuple #[pB k2, .int .i64 6]) [] [] s trivial (by kernel_rfl) ?_
  replace s := s.drop (List.Sublist.append (List.Sublist.cons₂ _ List.Sublist.slnil) (List.Sublist.refl []))
  have e9 : evD g last B = ⟨(Ev.E.leaf 0), 6, D5, E5⟩ := by unfold evD; simp [-List.drop_drop, Nat.add_assoc, hlast, h5_1, h5_2, h5_3, h5_4, of_decide_eq_true hc8]
  exact ⟨_, _, _, rfl, s, ⟨_, rfl, rfl, _, (Ev.E.leaf 0), _, _, _, _, _, _, _, rfl, rfl, h2_0, h5_0, e9, (by simp only [← List.drop_drop, h5_4])⟩⟩
 ·
  rw [hc8]
  refine cond_false_rule (b := false) (by kernel_rfl) rfl ?_
  refine wp_skip ?_
  refine wp_seq ?_
  refine seqR ?_
  refine oK _ [] 2 [] 0 (fun φ10 => [(31, .bool (((V5 : Nat) : Int) == ((1 : Nat) : Int))), (30, .int .u64 V5)]) (fun φ10 => []) s (fun φ10 => by kernel_rfl) ?_
  intro φ10 w10 s
  rw [nat_eql (a := V5) (b := 1)]
  refine ops_done (by kernel_rfl) ?_
  rcases Bool.eq_false_or_eq_true (decide (V5 = 1)) with hc11 | hc11
  ·
   rw [hc11]
   refine cond_true_rule (b := true) (by kernel_rfl) rfl ?_
   refine seqR ?_
   refine oK _ [] 1 [] 0 (fun φ12 => [(33, pB y)]) (fun φ12 => []) s (fun φ12 => by kernel_rfl) ?_
   intro φ12 w12 s
   refine callB_rule (b := (y, .cells #[.slice a5 n5 c5, .int .i64 E5] 40)) (F := []) (Hr := []) (some 34) 0 s (by kernel_rfl) (by kernel_rfl) (refNumber0_c (y := y) h5_0 (dlB h5_4 hn9) (Decidable.not_not.1 (of_decide_eq_false hc8))) (by kernel_rfl) ?_
   rintro v13 I13 w13 b13 le13 - h13 s
   replace h2_0 := Ev.RE.mono le13 h2_0
   replace h5_0 := BoS.mono le13 h5_0
   obtain ⟨N13, R13, E13, D13, B13, a13, n13, c13, rfl, rfl, h13_0, h13_1, h13_2⟩ := h13
   refine oKD _ [] 5 [] 0 (fun φ14 => [(9, .int .i64 R13), (8, .int .u64 N13), (36, .int .i64 R13), (35, .int .u64 N13), (32, .tuple #[.int .u64 N13, .int .i64 R13])]) (fun φ14 => []) s (fun φ14 => by kernel_rfl) (by kernel_rfl) ?_
   intro φ14 w14 s
   refine wp_seq ?_
   refine seqR ?_
   refine oK _ [] 2 [] 0 (fun φ15 => [(38, .bool (((R13 : Nat) : Int) != ((0 : Nat) : Int))), (37, .int .i64 R13)]) (fun φ15 => []) s (fun φ15 => by kernel_rfl) ?_
   intro φ15 w15 s
   rw [nat_neq (a := R13) (b := 0)]
   refine ops_done (by kernel_rfl) ?_
   rcases Bool.eq_false_or_eq_true (decide (R13 ≠ 0)) with hc16 | hc16
   ·
    rw [hc16]
    refine cond_true_rule (b := true) (by kernel_rfl) rfl ?_
    refine seqR ?_
    refine oKD _ [] 4 [] 0 (fun φ17 => [(5, .int .i64 R13), (4, pB k2), (40, .int .i64 R13), (39, pB k2)]) (fun φ17 => []) s (fun φ17 => by kernel_rfl) (by kernel_rfl) ?_
    intro φ17 w17 s
    refine wp_ret ?_
    refine ret_rule (C := []) _ [] (.tuple #[pB k2, .int .i64 R13]) [] [] s trivial (by kernel_rfl) ?_
    replace s := s.drop (List.Sublist.append (List.Sublist.cons₂ _ List.Sublist.slnil) (List.Sublist.refl []))
    have e9 : evD g last B = ⟨(Ev.E.leaf 0), R13, D5 + D13, E13⟩ := by unfold evD; simp [-List.drop_drop, Nat.add_assoc, hlast, h5_1, h5_2, h5_3, h5_4, h13_1, h13_2, Decidable.not_not.1 (of_decide_eq_false hc8), of_decide_eq_true hc11, of_decide_eq_true hc16]
    exact ⟨_, _, _, rfl, s, ⟨_, rfl, rfl, _, (Ev.E.leaf 0), _, _, _, _, _, _, _, rfl, rfl, h2_0, h13_0, e9, (by simp only [← List.drop_drop, h5_4, h13_2])⟩⟩
   ·
    rw [hc16]
    refine cond_false_rule (b := false) (by kernel_rfl) rfl ?_
    refine wp_skip ?_
    refine seqR ?_
    refine oK _ [] 1 [] 0 (fun φ18 => [(41, .int .u64 N13)]) (fun φ18 => []) s (fun φ18 => by kernel_rfl) ?_
    intro φ18 w18 s
    refine call_rule (some 42) s (rleaf_c (n := N13)) (by kernel_rfl) ?_
    intro v19 I19 w19 le19 h19 s
    replace h2_0 := Ev.RE.mono le19 h2_0
    replace h5_0 := BoS.mono le19 h5_0
    replace h13_0 := BoS.mono le19 h13_0
    obtain ⟨k19, rfl, h19_0⟩ := h19
    refine oKD _ [] 2 [] 0 (fun φ20 => [(5, .int .i64 0), (4, pB k19)]) (fun φ20 => []) s (fun φ20 => by kernel_rfl) (by kernel_rfl) ?_
    intro φ20 w20 s
    refine wp_ret ?_
    refine ret_rule (C := []) _ [] (.tuple #[pB k19, .int .i64 0]) [] [] s trivial (by kernel_rfl) ?_
    replace s := s.drop (List.Sublist.append (List.Sublist.cons₂ _ List.Sublist.slnil) (List.Sublist.refl []))
    have e9 : evD g last B = ⟨(Ev.E.leaf N13), 0, D5 + D13, E13⟩ := by unfold evD; simp [-List.drop_drop, Nat.add_assoc, hlast, h5_1, h5_2, h5_3, h5_4, h13_1, h13_2, Decidable.not_not.1 (of_decide_eq_false hc8), of_decide_eq_true hc11, Decidable.not_not.1 (of_decide_eq_false hc16)]
    exact ⟨_, _, _, rfl, s, ⟨_, rfl, rfl, _, (Ev.E.leaf N13), _, _, _, _, _, _, _, rfl, rfl, h19_0, h13_0, e9, (by simp only [← List.drop_drop, h5_4, h13_2])⟩⟩
  ·
   rw [hc11]
   refine cond_false_rule (b := false) (by kernel_rfl) rfl ?_
   refine wp_skip ?_
   refine wp_seq ?_
   refine seqR ?_
   refine oK _ [] 2 [] 0 (fun φ21 => [(44, .bool (((deep : Nat) : Int) == ((16 : Nat) : Int))), (43, .int .i64 deep)]) (fun φ21 => []) s (fun φ21 => by kernel_rfl) ?_
   intro φ21 w21 s
   rw [nat_eql (a := deep) (b := 16)]
   refine ops_done (by kernel_rfl) ?_
   rcases Bool.eq_false_or_eq_true (decide (deep = 16)) with hc22 | hc22
   ·
    rw [hc22]
    refine cond_true_rule (b := true) (by kernel_rfl) rfl ?_
    refine seqR ?_
    refine oKD _ [] 3 [] 0 (fun φ23 => [(5, .int .i64 3), (4, pB k2), (45, pB k2)]) (fun φ23 => []) s (fun φ23 => by kernel_rfl) (by kernel_rfl) ?_
    intro φ23 w23 s
    refine wp_ret ?_
    refine ret_rule (C := []) _ [] (.tuple #[pB k2, .int .i64 3]) [] [] s trivial (by kernel_rfl) ?_
    replace s := s.drop (List.Sublist.append (List.Sublist.cons₂ _ List.Sublist.slnil) (List.Sublist.refl []))
    have e9 : evD g last B = ⟨(Ev.E.leaf 0), 3, D5, E5⟩ := by unfold evD; simp [-List.drop_drop, Nat.add_assoc, hlast, h5_1, h5_2, h5_3, h5_4, Decidable.not_not.1 (of_decide_eq_false hc8), of_decide_eq_false hc11, of_decide_eq_true hc22]
    exact ⟨_, _, _, rfl, s, ⟨_, rfl, rfl, _, (Ev.E.leaf 0), _, _, _, _, _, _, _, rfl, rfl, h2_0, h5_0, e9, (by simp only [← List.drop_drop, h5_4])⟩⟩
   ·
    rw [hc22]
    refine cond_false_rule (b := false) (by kernel_rfl) rfl ?_
    refine wp_skip ?_
    refine seqR ?_
    refine oK _ [] 1 [] 0 (fun φ24 => [(46, pB y)]) (fun φ24 => []) s (fun φ24 => by kernel_rfl) ?_
    intro φ24 w24 s
    refine callB_rule (b := (y, .cells #[.slice a5 n5 c5, .int .i64 E5] 40)) (F := []) (Hr := []) (some 47) 0 s (by kernel_rfl) (by kernel_rfl) (refGetV0_c (k := 2) (y := y) (e := E5) h5_0 (dlB h5_4 hn9) (Decidable.not_not.1 (of_decide_eq_false hc8)) (by decide)) (by kernel_rfl) ?_
    rintro v25 I25 w25 b25 le25 - h25 s
    replace h2_0 := Ev.RE.mono le25 h2_0
    obtain ⟨V25, E25, D25, B25, a25, n25, c25, rfl, rfl, h25_0, h25_1, h25_2, h25_3, h25_4⟩ := h25
    refine oKD _ [] 1 [] 0 (fun φ26 => [(10, .int .u64 V25)]) (fun φ26 => []) s (fun φ26 => by kernel_rfl) (by kernel_rfl) ?_
    intro φ26 w26 s
    refine seqR ?_
    refine oK _ [] 6 [] 0 (fun φ27 => [(12, .bool (((V25 : Nat) : Int) != ((1 : Nat) : Int))), (11, .bool (((V25 : Nat) : Int) != ((0 : Nat) : Int))), (51, .bool (((V25 : Nat) : Int) != ((1 : Nat) : Int))), (50, .int .u64 V25), (49, .bool (((V25 : Nat) : Int) != ((0 : Nat) : Int))), (48, .int .u64 V25)]) (fun φ27 => []) s (fun φ27 => by kernel_rfl) ?_
    intro φ27 w27 s
    rw [nat_neq (a := V25) (b := 0)]
    rw [nat_neq (a := V25) (b := 1)]
    refine ops_done (by kernel_rfl) ?_
    refine seqR ?_
    refine oKD _ [] 1 [] 0 (fun φ28 => [(13, .int .u64 0)]) (fun φ28 => []) s (fun φ28 => by kernel_rfl) (by kernel_rfl) ?_
    intro φ28 w28 s
    refine wp_seq ?_
    refine seqR ?_
    refine oK _ [] 2 [] 0 (fun φ29 => [(53, .bool (((V25 : Nat) : Int) == ((3 : Nat) : Int))), (52, .int .u64 V25)]) (fun φ29 => []) s (fun φ29 => by kernel_rfl) ?_
    intro φ29 w29 s
    rw [nat_eql (a := V25) (b := 3)]
    refine ops_done (by kernel_rfl) ?_
    rcases Bool.eq_false_or_eq_true (decide (V25 = 3)) with hc30 | hc30
    ·
     rw [hc30]
     refine cond_true_rule (b := true) (by kernel_rfl) rfl ?_
     refine wp_seq ?_
     refine seqR ?_
     refine oK _ [] 1 [] 0 (fun φ31 => [(54, pB y)]) (fun φ31 => []) s (fun φ31 => by kernel_rfl) ?_
     intro φ31 w31 s
     refine callB_rule (b := (y, .cells #[.slice a25 n25 c25, .int .i64 E25] 40)) (F := []) (Hr := []) (some 55) 0 s (by kernel_rfl) (by kernel_rfl) (refGetV0_c (k := 1) (y := y) (e := E25) h25_0 (dlB h25_4 (dlB h5_4 hn9)) ((h25_2).symm.trans (gE_of_gV (by rw [h25_1, of_decide_eq_true hc30]; decide))) (by decide)) (by kernel_rfl) ?_
     rintro v32 I32 w32 b32 le32 - h32 s
     replace h2_0 := Ev.RE.mono le32 h2_0
     replace h25_0 := BoS.mono le32 h25_0
     obtain ⟨V32, E32, D32, B32, a32, n32, c32, rfl, rfl, h32_0, h32_1, h32_2, h32_3, h32_4⟩ := h32
     refine oK _ [] 1 [] 0 (fun φ33 => [(56, .bool (((V32 : Nat) : Int) == ((0 : Nat) : Int)))]) (fun φ33 => []) s (fun φ33 => by kernel_rfl) ?_
     intro φ33 w33 s
     rw [nat_eql (a := V32) (b := 0)]
     refine ops_done (by kernel_rfl) ?_
     rcases Bool.eq_false_or_eq_true (decide (V32 = 0)) with hc34 | hc34
     ·
      rw [hc34]
      refine cond_true_rule (b := true) (by kernel_rfl) rfl ?_
      refine seqR ?_
      refine oK _ [] 1 [] 0 (fun φ35 => [(57, pB y)]) (fun φ35 => []) s (fun φ35 => by kernel_rfl) ?_
      intro φ35 w35 s
      refine callB_rule (b := (y, .cells #[.slice a32 n32 c32, .int .i64 E32] 40)) (F := []) (Hr := []) (some 58) 0 s (by kernel_rfl) (by kernel_rfl) (refGetV_c (k := 1) (y := y) (e := E32) h32_0 (dlB h32_4 (dlB h25_4 (dlB h5_4 hn9))) (by decide)) (by kernel_rfl) ?_
      rintro v36 I36 w36 b36 le36 - h36 s
      replace h2_0 := Ev.RE.mono le36 h2_0
      replace h25_0 := BoS.mono le36 h25_0
      replace h32_0 := BoS.mono le36 h32_0
      obtain ⟨V36, E36, D36, B36, a36, n36, c36, rfl, rfl, h36_0, h36_1, h36_2, h36_3, h36_4⟩ := h36
      refine oKD _ [] 1 [] 0 (fun φ37 => [(14, .int .u64 V36)]) (fun φ37 => []) s (fun φ37 => by kernel_rfl) (by kernel_rfl) ?_
      intro φ37 w37 s
      refine region_rule ?_
      refine oK _ [] 6 [] 0 (fun φ38 => [(12, .bool (((V36 : Nat) : Int) == ((0 : Nat) : Int))), (11, .bool (((V36 : Nat) : Int) == ((1 : Nat) : Int))), (62, .bool (((V36 : Nat) : Int) == ((0 : Nat) : Int))), (61, .int .u64 V36), (60, .bool (((V36 : Nat) : Int) == ((1 : Nat) : Int))), (59, .int .u64 V36)]) (fun φ38 => []) s (fun φ38 => by kernel_rfl) ?_
      intro φ38 w38 s
      rw [nat_eql (a := V36) (b := 1)]
      rw [nat_eql (a := V36) (b := 0)]
      refine ops_done (by kernel_rfl) ?_
      refine seqR ?_
      refine oK _ [] 1 [] 0 (fun φ39 => [(64, pB y)]) (fun φ39 => []) s (fun φ39 => by kernel_rfl) ?_
      intro φ39 w39 s
      refine callB_rule (b := (y, .cells #[.slice a36 n36 c36, .int .i64 E36] 40)) (F := []) (Hr := []) (some 65) 0 s (by kernel_rfl) (by kernel_rfl) (refNumber_c (y := y) (e := E36) h36_0 (dlB h36_4 (dlB h32_4 (dlB h25_4 (dlB h5_4 hn9))))) (by kernel_rfl) ?_
      rintro v40 I40 w40 b40 le40 - h40 s
      replace h2_0 := Ev.RE.mono le40 h2_0
      replace h25_0 := BoS.mono le40 h25_0
      replace h32_0 := BoS.mono le40 h32_0
      obtain ⟨N40, R40, E40, D40, B40, a40, n40, c40, rfl, rfl, h40_0, h40_1, h40_2⟩ := h40
      refine oKD _ [] 5 [] 0 (fun φ41 => [(16, .int .i64 R40), (15, .int .u64 N40), (67, .int .i64 R40), (66, .int .u64 N40), (63, .tuple #[.int .u64 N40, .int .i64 R40])]) (fun φ41 => []) s (fun φ41 => by kernel_rfl) (by kernel_rfl) ?_
      intro φ41 w41 s
      refine wp_seq ?_
      refine seqR ?_
      refine oK _ [] 2 [] 0 (fun φ42 => [(69, .bool (((R40 : Nat) : Int) != ((0 : Nat) : Int))), (68, .int .i64 R40)]) (fun φ42 => []) s (fun φ42 => by kernel_rfl) ?_
      intro φ42 w42 s
      rw [nat_neq (a := R40) (b := 0)]
      refine ops_done (by kernel_rfl) ?_
      rcases Bool.eq_false_or_eq_true (decide (R40 ≠ 0)) with hc43 | hc43
      ·
       rw [hc43]
       refine cond_true_rule (b := true) (by kernel_rfl) rfl ?_
       refine seqR ?_
       refine oKD _ [] 4 [] 0 (fun φ44 => [(5, .int .i64 R40), (4, pB k2), (71, .int .i64 R40), (70, pB k2)]) (fun φ44 => []) s (fun φ44 => by kernel_rfl) (by kernel_rfl) ?_
       intro φ44 w44 s
       refine wp_ret ?_
       refine ret_rule (C := []) _ [] (.tuple #[pB k2, .int .i64 R40]) [] [] s trivial (by kernel_rfl) ?_
       replace s := s.drop (List.Sublist.append (List.Sublist.cons₂ _ List.Sublist.slnil) (List.Sublist.refl []))
       have hz9 : E25 = 0 := h25_2.symm.trans (gE_of_gV (by rw [h25_1, of_decide_eq_true hc30]; decide))
       have eh : hdG B5 = ⟨V36, N40, R40, D25 + D32 + D36 + D40, E40⟩ := by unfold hdG hdF; simp [-List.drop_drop, Nat.add_assoc, hlast, h5_1, h5_2, h5_3, h5_4, h25_1, h25_2, h25_3, h25_4, h32_1, h32_2, h32_3, h32_4, h36_1, h36_2, h36_3, h36_4, h40_1, h40_2, Decidable.not_not.1 (of_decide_eq_false hc8), of_decide_eq_false hc11, of_decide_eq_false hc22, of_decide_eq_true hc30, of_decide_eq_true hc34, of_decide_eq_true hc43, hz9]
       have e8 := ndD_no (g := g) eh (by simp [h5_1, h5_2, h5_3, h5_4, h25_1, h25_2, h25_3, h25_4, h32_1, h32_2, h32_3, h32_4, h36_1, h36_2, h36_3, h36_4, h40_1, h40_2, Decidable.not_not.1 (of_decide_eq_false hc8), of_decide_eq_false hc11, of_decide_eq_false hc22, of_decide_eq_true hc30, of_decide_eq_true hc34, of_decide_eq_true hc43, hz9])
       have e9 : evD g last B = ⟨(Ev.E.leaf 0), R40, D5 + D25 + D32 + D36 + D40, E40⟩ := by unfold evD; simp [-List.drop_drop, Nat.add_assoc, hlast, e8, h5_1, h5_2, h5_3, h5_4, h25_1, h25_2, h25_3, h25_4, h32_1, h32_2, h32_3, h32_4, h36_1, h36_2, h36_3, h36_4, h40_1, h40_2, Decidable.not_not.1 (of_decide_eq_false hc8), of_decide_eq_false hc11, of_decide_eq_false hc22, of_decide_eq_true hc30, of_decide_eq_true hc34, of_decide_eq_true hc43, hz9]
       exact ⟨_, _, _, rfl, s, ⟨_, rfl, rfl, _, (Ev.E.leaf 0), _, _, _, _, _, _, _, rfl, rfl, h2_0, h40_0, e9, (by simp only [← List.drop_drop, h5_4, h25_4, h32_4, h36_4, h40_2])⟩⟩
      ·
       rw [hc43]
       refine cond_false_rule (b := false) (by kernel_rfl) rfl ?_
       refine wp_skip ?_
       refine wp_seq ?_
       refine seqR ?_
       refine oK _ [] 2 [] 0 (fun φ45 => [(73, .bool (((N40 : Nat) : Int) == ((0 : Nat) : Int))), (72, .int .u64 N40)]) (fun φ45 => []) s (fun φ45 => by kernel_rfl) ?_
       intro φ45 w45 s
       rw [nat_eql (a := N40) (b := 0)]
       refine ops_done (by kernel_rfl) ?_
       rcases Bool.eq_false_or_eq_true (decide (N40 = 0)) with hc46 | hc46
       ·
        rw [hc46]
        refine cond_true_rule (b := true) (by kernel_rfl) rfl ?_
        refine seqR ?_
        refine oKD _ [] 3 [] 0 (fun φ47 => [(5, .int .i64 6), (4, pB k2), (74, pB k2)]) (fun φ47 => []) s (fun φ47 => by kernel_rfl) (by kernel_rfl) ?_
        intro φ47 w47 s
        refine wp_ret ?_
        refine ret_rule (C := []) _ [] (.tuple #[pB k2, .int .i64 6]) [] [] s trivial (by kernel_rfl) ?_
        replace s := s.drop (List.Sublist.append (List.Sublist.cons₂ _ List.Sublist.slnil) (List.Sublist.refl []))
        have hz9 : E25 = 0 := h25_2.symm.trans (gE_of_gV (by rw [h25_1, of_decide_eq_true hc30]; decide))
        have eh : hdG B5 = ⟨V36, N40, 6, D25 + D32 + D36 + D40, E40⟩ := by unfold hdG hdF; simp [-List.drop_drop, Nat.add_assoc, hlast, h5_1, h5_2, h5_3, h5_4, h25_1, h25_2, h25_3, h25_4, h32_1, h32_2, h32_3, h32_4, h36_1, h36_2, h36_3, h36_4, h40_1, h40_2, Decidable.not_not.1 (of_decide_eq_false hc8), of_decide_eq_false hc11, of_decide_eq_false hc22, of_decide_eq_true hc30, of_decide_eq_true hc34, Decidable.not_not.1 (of_decide_eq_false hc43), of_decide_eq_true hc46, hz9]
        have e8 := ndD_no (g := g) eh (by simp [h5_1, h5_2, h5_3, h5_4, h25_1, h25_2, h25_3, h25_4, h32_1, h32_2, h32_3, h32_4, h36_1, h36_2, h36_3, h36_4, h40_1, h40_2, Decidable.not_not.1 (of_decide_eq_false hc8), of_decide_eq_false hc11, of_decide_eq_false hc22, of_decide_eq_true hc30, of_decide_eq_true hc34, Decidable.not_not.1 (of_decide_eq_false hc43), of_decide_eq_true hc46, hz9])
        have e9 : evD g last B = ⟨(Ev.E.leaf 0), 6, D5 + D25 + D32 + D36 + D40, E40⟩ := by unfold evD; simp [-List.drop_drop, Nat.add_assoc, hlast, e8, h5_1, h5_2, h5_3, h5_4, h25_1, h25_2, h25_3, h25_4, h32_1, h32_2, h32_3, h32_4, h36_1, h36_2, h36_3, h36_4, h40_1, h40_2, Decidable.not_not.1 (of_decide_eq_false hc8), of_decide_eq_false hc11, of_decide_eq_false hc22, of_decide_eq_true hc30, of_decide_eq_true hc34, Decidable.not_not.1 (of_decide_eq_false hc43), of_decide_eq_true hc46, hz9]
        exact ⟨_, _, _, rfl, s, ⟨_, rfl, rfl, _, (Ev.E.leaf 0), _, _, _, _, _, _, _, rfl, rfl, h2_0, h40_0, e9, (by simp only [← List.drop_drop, h5_4, h25_4, h32_4, h36_4, h40_2])⟩⟩
       ·
        rw [hc46]
        refine cond_false_rule (b := false) (by kernel_rfl) rfl ?_
        refine wp_skip ?_
        refine region_rule ?_
        refine oKD _ [] 2 [] 0 (fun φ48 => [(13, .int .u64 N40), (75, .int .u64 N40)]) (fun φ48 => []) s (fun φ48 => by kernel_rfl) (by kernel_rfl) ?_
        intro φ48 w48 s
        refine wp_seq ?_
        refine seqR ?_
        refine oK _ [] 5 [.o 0] 0 (fun φ49 => [(80, .bool (((E40 : Nat) : Int) != ((0 : Nat) : Int))), (79, .int .i64 E40), (78, .pointer (some ⟨y, 1, none⟩)), (77, pB y), (76, pB y)]) (fun φ49 => [y]) s (fun φ49 => by kernel_rfl) ?_
        intro φ49 w49 s
        rw [nat_neq (a := E40) (b := 0)]
        refine ops_done (by kernel_rfl) ?_
        rcases Bool.eq_false_or_eq_true (decide (E40 ≠ 0)) with hc50 | hc50
        ·
         exact absurd (by have q9 := cn_e E36 B36; rw [h40_1] at q9; exact q9 (Decidable.not_not.1 (of_decide_eq_false hc43))) (of_decide_eq_true hc50)
        ·
         rw [hc50]
         refine cond_false_rule (b := false) (by kernel_rfl) rfl ?_
         refine wp_skip ?_
         have hz9 : E25 = 0 := h25_2.symm.trans (gE_of_gV (by rw [h25_1, of_decide_eq_true hc30]; decide))
         have eh : hdG B5 = ⟨V36, N40, 0, D25 + D32 + D36 + D40, E40⟩ := by unfold hdG hdF; simp [-List.drop_drop, Nat.add_assoc, hlast, h5_1, h5_2, h5_3, h5_4, h25_1, h25_2, h25_3, h25_4, h32_1, h32_2, h32_3, h32_4, h36_1, h36_2, h36_3, h36_4, h40_1, h40_2, Decidable.not_not.1 (of_decide_eq_false hc8), of_decide_eq_false hc11, of_decide_eq_false hc22, of_decide_eq_true hc30, of_decide_eq_true hc34, Decidable.not_not.1 (of_decide_eq_false hc43), of_decide_eq_false hc46, Decidable.not_not.1 (of_decide_eq_false hc50), hz9]
         have hL : decide (V36 = 1) = decide (V36 ≠ 0) := by have q7 := (by have q9 := gV_lt E32 B32 1; rw [h36_1] at q9; exact q9); have q6 : V36 = 0 ∨ V36 = 1 := (by omega); rcases q6 with q6 | q6 <;> simp [q6]
         have hR : decide (V36 = 0) = decide (V36 ≠ 1) := by have q7 := (by have q9 := gV_lt E32 B32 1; rw [h36_1] at q9; exact q9); have q6 : V36 = 0 ∨ V36 = 1 := (by omega); rcases q6 with q6 | q6 <;> simp [q6]
         have ed : B5.drop (D25 + D32 + D36 + D40) = B40 := (by simp only [← List.drop_drop, h5_4, h25_4, h32_4, h36_4, h40_2])
         refine join_rule [(0, pB y), (1, .int .i64 deep), (6, pB k2), (11, .bool (decide (V36 = 1))), (12, .bool (decide (V36 = 0))), (13, .int .u64 N40)] (by kernel_rfl) ?_
         refine refEvent_tail (B := B) (last := last) (Lb := decide (V36 = 1)) (Rb := decide (V36 = 0)) (nb := N40) (kn := k2) (e2 := E40) (d0 := D5 + D25 + D32 + D36 + D40) hg hgd hdp (of_decide_eq_false hc22) ih s h40_0 (dlB h40_2 (dlB h36_4 (dlB h32_4 (dlB h25_4 (dlB h5_4 hn9))))) ((Decidable.not_not.1 (of_decide_eq_false hc50))) h2_0 (by have : N40 ≤ 1048576 := (by have q9 := cn_le E36 B36; rw [h40_1] at q9; exact q9); omega) (by rw [hL, hR]; by_cases q5 : V36 = 0 <;> simp [q5]) (fun T R D E q => ?_) (by simp only [← List.drop_drop, h5_4, h25_4, h32_4, h36_4, h40_2]) (by kernel_rfl)
         have e8 := ndD_tl eh hL hR ed q
         unfold evD; simp [-List.drop_drop, Nat.add_assoc, hlast, e8, h5_1, h5_2, h5_3, h5_4, h25_1, h25_2, h25_3, h25_4, h32_1, h32_2, h32_3, h32_4, h36_1, h36_2, h36_3, h36_4, h40_1, h40_2, Decidable.not_not.1 (of_decide_eq_false hc8), of_decide_eq_false hc11, of_decide_eq_false hc22, of_decide_eq_true hc30, of_decide_eq_true hc34, Decidable.not_not.1 (of_decide_eq_false hc43), of_decide_eq_false hc46, Decidable.not_not.1 (of_decide_eq_false hc50), hz9]
     ·
      rw [hc34]
      refine cond_false_rule (b := false) (by kernel_rfl) rfl ?_
      refine wp_skip ?_
      refine seqR ?_
      refine oK _ [] 1 [] 0 (fun φ51 => [(64, pB y)]) (fun φ51 => []) s (fun φ51 => by kernel_rfl) ?_
      intro φ51 w51 s
      refine callB_rule (b := (y, .cells #[.slice a32 n32 c32, .int .i64 E32] 40)) (F := []) (Hr := []) (some 65) 0 s (by kernel_rfl) (by kernel_rfl) (refNumber_c (y := y) (e := E32) h32_0 (dlB h32_4 (dlB h25_4 (dlB h5_4 hn9)))) (by kernel_rfl) ?_
      rintro v52 I52 w52 b52 le52 - h52 s
      replace h2_0 := Ev.RE.mono le52 h2_0
      replace h25_0 := BoS.mono le52 h25_0
      obtain ⟨N52, R52, E52, D52, B52, a52, n52, c52, rfl, rfl, h52_0, h52_1, h52_2⟩ := h52
      refine oKD _ [] 5 [] 0 (fun φ53 => [(16, .int .i64 R52), (15, .int .u64 N52), (67, .int .i64 R52), (66, .int .u64 N52), (63, .tuple #[.int .u64 N52, .int .i64 R52])]) (fun φ53 => []) s (fun φ53 => by kernel_rfl) (by kernel_rfl) ?_
      intro φ53 w53 s
      refine wp_seq ?_
      refine seqR ?_
      refine oK _ [] 2 [] 0 (fun φ54 => [(69, .bool (((R52 : Nat) : Int) != ((0 : Nat) : Int))), (68, .int .i64 R52)]) (fun φ54 => []) s (fun φ54 => by kernel_rfl) ?_
      intro φ54 w54 s
      rw [nat_neq (a := R52) (b := 0)]
      refine ops_done (by kernel_rfl) ?_
      rcases Bool.eq_false_or_eq_true (decide (R52 ≠ 0)) with hc55 | hc55
      ·
       rw [hc55]
       refine cond_true_rule (b := true) (by kernel_rfl) rfl ?_
       refine seqR ?_
       refine oKD _ [] 4 [] 0 (fun φ56 => [(5, .int .i64 R52), (4, pB k2), (71, .int .i64 R52), (70, pB k2)]) (fun φ56 => []) s (fun φ56 => by kernel_rfl) (by kernel_rfl) ?_
       intro φ56 w56 s
       refine wp_ret ?_
       refine ret_rule (C := []) _ [] (.tuple #[pB k2, .int .i64 R52]) [] [] s trivial (by kernel_rfl) ?_
       replace s := s.drop (List.Sublist.append (List.Sublist.cons₂ _ List.Sublist.slnil) (List.Sublist.refl []))
       have hz9 : E25 = 0 := h25_2.symm.trans (gE_of_gV (by rw [h25_1, of_decide_eq_true hc30]; decide))
       have eh : hdG B5 = ⟨2, N52, R52, D25 + D32 + D52, E52⟩ := by unfold hdG hdF; simp [-List.drop_drop, Nat.add_assoc, hlast, h5_1, h5_2, h5_3, h5_4, h25_1, h25_2, h25_3, h25_4, h32_1, h32_2, h32_3, h32_4, h52_1, h52_2, Decidable.not_not.1 (of_decide_eq_false hc8), of_decide_eq_false hc11, of_decide_eq_false hc22, of_decide_eq_true hc30, of_decide_eq_false hc34, of_decide_eq_true hc55, hz9]
       have e8 := ndD_no (g := g) eh (by simp [h5_1, h5_2, h5_3, h5_4, h25_1, h25_2, h25_3, h25_4, h32_1, h32_2, h32_3, h32_4, h52_1, h52_2, Decidable.not_not.1 (of_decide_eq_false hc8), of_decide_eq_false hc11, of_decide_eq_false hc22, of_decide_eq_true hc30, of_decide_eq_false hc34, of_decide_eq_true hc55, hz9])
       have e9 : evD g last B = ⟨(Ev.E.leaf 0), R52, D5 + D25 + D32 + D52, E52⟩ := by unfold evD; simp [-List.drop_drop, Nat.add_assoc, hlast, e8, h5_1, h5_2, h5_3, h5_4, h25_1, h25_2, h25_3, h25_4, h32_1, h32_2, h32_3, h32_4, h52_1, h52_2, Decidable.not_not.1 (of_decide_eq_false hc8), of_decide_eq_false hc11, of_decide_eq_false hc22, of_decide_eq_true hc30, of_decide_eq_false hc34, of_decide_eq_true hc55, hz9]
       exact ⟨_, _, _, rfl, s, ⟨_, rfl, rfl, _, (Ev.E.leaf 0), _, _, _, _, _, _, _, rfl, rfl, h2_0, h52_0, e9, (by simp only [← List.drop_drop, h5_4, h25_4, h32_4, h52_2])⟩⟩
      ·
       rw [hc55]
       refine cond_false_rule (b := false) (by kernel_rfl) rfl ?_
       refine wp_skip ?_
       refine wp_seq ?_
       refine seqR ?_
       refine oK _ [] 2 [] 0 (fun φ57 => [(73, .bool (((N52 : Nat) : Int) == ((0 : Nat) : Int))), (72, .int .u64 N52)]) (fun φ57 => []) s (fun φ57 => by kernel_rfl) ?_
       intro φ57 w57 s
       rw [nat_eql (a := N52) (b := 0)]
       refine ops_done (by kernel_rfl) ?_
       rcases Bool.eq_false_or_eq_true (decide (N52 = 0)) with hc58 | hc58
       ·
        rw [hc58]
        refine cond_true_rule (b := true) (by kernel_rfl) rfl ?_
        refine seqR ?_
        refine oKD _ [] 3 [] 0 (fun φ59 => [(5, .int .i64 6), (4, pB k2), (74, pB k2)]) (fun φ59 => []) s (fun φ59 => by kernel_rfl) (by kernel_rfl) ?_
        intro φ59 w59 s
        refine wp_ret ?_
        refine ret_rule (C := []) _ [] (.tuple #[pB k2, .int .i64 6]) [] [] s trivial (by kernel_rfl) ?_
        replace s := s.drop (List.Sublist.append (List.Sublist.cons₂ _ List.Sublist.slnil) (List.Sublist.refl []))
        have hz9 : E25 = 0 := h25_2.symm.trans (gE_of_gV (by rw [h25_1, of_decide_eq_true hc30]; decide))
        have eh : hdG B5 = ⟨2, N52, 6, D25 + D32 + D52, E52⟩ := by unfold hdG hdF; simp [-List.drop_drop, Nat.add_assoc, hlast, h5_1, h5_2, h5_3, h5_4, h25_1, h25_2, h25_3, h25_4, h32_1, h32_2, h32_3, h32_4, h52_1, h52_2, Decidable.not_not.1 (of_decide_eq_false hc8), of_decide_eq_false hc11, of_decide_eq_false hc22, of_decide_eq_true hc30, of_decide_eq_false hc34, Decidable.not_not.1 (of_decide_eq_false hc55), of_decide_eq_true hc58, hz9]
        have e8 := ndD_no (g := g) eh (by simp [h5_1, h5_2, h5_3, h5_4, h25_1, h25_2, h25_3, h25_4, h32_1, h32_2, h32_3, h32_4, h52_1, h52_2, Decidable.not_not.1 (of_decide_eq_false hc8), of_decide_eq_false hc11, of_decide_eq_false hc22, of_decide_eq_true hc30, of_decide_eq_false hc34, Decidable.not_not.1 (of_decide_eq_false hc55), of_decide_eq_true hc58, hz9])
        have e9 : evD g last B = ⟨(Ev.E.leaf 0), 6, D5 + D25 + D32 + D52, E52⟩ := by unfold evD; simp [-List.drop_drop, Nat.add_assoc, hlast, e8, h5_1, h5_2, h5_3, h5_4, h25_1, h25_2, h25_3, h25_4, h32_1, h32_2, h32_3, h32_4, h52_1, h52_2, Decidable.not_not.1 (of_decide_eq_false hc8), of_decide_eq_false hc11, of_decide_eq_false hc22, of_decide_eq_true hc30, of_decide_eq_false hc34, Decidable.not_not.1 (of_decide_eq_false hc55), of_decide_eq_true hc58, hz9]
        exact ⟨_, _, _, rfl, s, ⟨_, rfl, rfl, _, (Ev.E.leaf 0), _, _, _, _, _, _, _, rfl, rfl, h2_0, h52_0, e9, (by simp only [← List.drop_drop, h5_4, h25_4, h32_4, h52_2])⟩⟩
       ·
        rw [hc58]
        refine cond_false_rule (b := false) (by kernel_rfl) rfl ?_
        refine wp_skip ?_
        refine region_rule ?_
        refine oKD _ [] 2 [] 0 (fun φ60 => [(13, .int .u64 N52), (75, .int .u64 N52)]) (fun φ60 => []) s (fun φ60 => by kernel_rfl) (by kernel_rfl) ?_
        intro φ60 w60 s
        refine wp_seq ?_
        refine seqR ?_
        refine oK _ [] 5 [.o 0] 0 (fun φ61 => [(80, .bool (((E52 : Nat) : Int) != ((0 : Nat) : Int))), (79, .int .i64 E52), (78, .pointer (some ⟨y, 1, none⟩)), (77, pB y), (76, pB y)]) (fun φ61 => [y]) s (fun φ61 => by kernel_rfl) ?_
        intro φ61 w61 s
        rw [nat_neq (a := E52) (b := 0)]
        refine ops_done (by kernel_rfl) ?_
        rcases Bool.eq_false_or_eq_true (decide (E52 ≠ 0)) with hc62 | hc62
        ·
         exact absurd (by have q9 := cn_e E32 B32; rw [h52_1] at q9; exact q9 (Decidable.not_not.1 (of_decide_eq_false hc55))) (of_decide_eq_true hc62)
        ·
         rw [hc62]
         refine cond_false_rule (b := false) (by kernel_rfl) rfl ?_
         refine wp_skip ?_
         have hz9 : E25 = 0 := h25_2.symm.trans (gE_of_gV (by rw [h25_1, of_decide_eq_true hc30]; decide))
         have eh : hdG B5 = ⟨2, N52, 0, D25 + D32 + D52, E52⟩ := by unfold hdG hdF; simp [-List.drop_drop, Nat.add_assoc, hlast, h5_1, h5_2, h5_3, h5_4, h25_1, h25_2, h25_3, h25_4, h32_1, h32_2, h32_3, h32_4, h52_1, h52_2, Decidable.not_not.1 (of_decide_eq_false hc8), of_decide_eq_false hc11, of_decide_eq_false hc22, of_decide_eq_true hc30, of_decide_eq_false hc34, Decidable.not_not.1 (of_decide_eq_false hc55), of_decide_eq_false hc58, Decidable.not_not.1 (of_decide_eq_false hc62), hz9]
         have hL : decide (V25 ≠ 0) = decide (2 ≠ 0) := by simp [h5_1, h5_2, h5_3, h5_4, h25_1, h25_2, h25_3, h25_4, h32_1, h32_2, h32_3, h32_4, h52_1, h52_2, Decidable.not_not.1 (of_decide_eq_false hc8), of_decide_eq_false hc11, of_decide_eq_false hc22, of_decide_eq_true hc30, of_decide_eq_false hc34, Decidable.not_not.1 (of_decide_eq_false hc55), of_decide_eq_false hc58, Decidable.not_not.1 (of_decide_eq_false hc62), hz9]
         have hR : decide (V25 ≠ 1) = decide (2 ≠ 1) := by simp [h5_1, h5_2, h5_3, h5_4, h25_1, h25_2, h25_3, h25_4, h32_1, h32_2, h32_3, h32_4, h52_1, h52_2, Decidable.not_not.1 (of_decide_eq_false hc8), of_decide_eq_false hc11, of_decide_eq_false hc22, of_decide_eq_true hc30, of_decide_eq_false hc34, Decidable.not_not.1 (of_decide_eq_false hc55), of_decide_eq_false hc58, Decidable.not_not.1 (of_decide_eq_false hc62), hz9]
         have ed : B5.drop (D25 + D32 + D52) = B52 := (by simp only [← List.drop_drop, h5_4, h25_4, h32_4, h52_2])
         refine join_rule [(0, pB y), (1, .int .i64 deep), (6, pB k2), (11, .bool (decide (V25 ≠ 0))), (12, .bool (decide (V25 ≠ 1))), (13, .int .u64 N52)] (by kernel_rfl) ?_
         refine refEvent_tail (B := B) (last := last) (Lb := decide (V25 ≠ 0)) (Rb := decide (V25 ≠ 1)) (nb := N52) (kn := k2) (e2 := E52) (d0 := D5 + D25 + D32 + D52) hg hgd hdp (of_decide_eq_false hc22) ih s h52_0 (dlB h52_2 (dlB h32_4 (dlB h25_4 (dlB h5_4 hn9)))) ((Decidable.not_not.1 (of_decide_eq_false hc62))) h2_0 (by have : N52 ≤ 1048576 := (by have q9 := cn_le E32 B32; rw [h52_1] at q9; exact q9); omega) (by rw [hL, hR]; by_cases q5 : 2 = 0 <;> simp [q5]) (fun T R D E q => ?_) (by simp only [← List.drop_drop, h5_4, h25_4, h32_4, h52_2]) (by kernel_rfl)
         have e8 := ndD_tl eh hL hR ed q
         unfold evD; simp [-List.drop_drop, Nat.add_assoc, hlast, e8, h5_1, h5_2, h5_3, h5_4, h25_1, h25_2, h25_3, h25_4, h32_1, h32_2, h32_3, h32_4, h52_1, h52_2, Decidable.not_not.1 (of_decide_eq_false hc8), of_decide_eq_false hc11, of_decide_eq_false hc22, of_decide_eq_true hc30, of_decide_eq_false hc34, Decidable.not_not.1 (of_decide_eq_false hc55), of_decide_eq_false hc58, Decidable.not_not.1 (of_decide_eq_false hc62), hz9]
    ·
     rw [hc30]
     refine cond_false_rule (b := false) (by kernel_rfl) rfl ?_
     refine wp_skip ?_
     refine wp_seq ?_
     refine seqR ?_
     refine oK _ [] 5 [.o 0] 0 (fun φ63 => [(80, .bool (((E25 : Nat) : Int) != ((0 : Nat) : Int))), (79, .int .i64 E25), (78, .pointer (some ⟨y, 1, none⟩)), (77, pB y), (76, pB y)]) (fun φ63 => [y]) s (fun φ63 => by kernel_rfl) ?_
     intro φ63 w63 s
     rw [nat_neq (a := E25) (b := 0)]
     refine ops_done (by kernel_rfl) ?_
     rcases Bool.eq_false_or_eq_true (decide (E25 ≠ 0)) with hc64 | hc64
     ·
      rw [hc64]
      refine cond_true_rule (b := true) (by kernel_rfl) rfl ?_
      refine seqR ?_
      refine oKD _ [] 3 [] 0 (fun φ65 => [(5, .int .i64 6), (4, pB k2), (81, pB k2)]) (fun φ65 => []) s (fun φ65 => by kernel_rfl) (by kernel_rfl) ?_
      intro φ65 w65 s
      refine wp_ret ?_
      refine ret_rule (C := []) _ [] (.tuple #[pB k2, .int .i64 6]) [] [] s trivial (by kernel_rfl) ?_
      replace s := s.drop (List.Sublist.append (List.Sublist.cons₂ _ List.Sublist.slnil) (List.Sublist.refl []))
      have eh : hdG B5 = ⟨0, 0, 6, D25, E25⟩ := by unfold hdG; simp [-List.drop_drop, Nat.add_assoc, hlast, h5_1, h5_2, h5_3, h5_4, h25_1, h25_2, h25_3, h25_4, Decidable.not_not.1 (of_decide_eq_false hc8), of_decide_eq_false hc11, of_decide_eq_false hc22, of_decide_eq_false hc30, of_decide_eq_true hc64]
      have e8 := ndD_no (g := g) eh (by simp [h5_1, h5_2, h5_3, h5_4, h25_1, h25_2, h25_3, h25_4, Decidable.not_not.1 (of_decide_eq_false hc8), of_decide_eq_false hc11, of_decide_eq_false hc22, of_decide_eq_false hc30, of_decide_eq_true hc64])
      have e9 : evD g last B = ⟨(Ev.E.leaf 0), 6, D5 + D25, E25⟩ := by unfold evD; simp [-List.drop_drop, Nat.add_assoc, hlast, e8, h5_1, h5_2, h5_3, h5_4, h25_1, h25_2, h25_3, h25_4, Decidable.not_not.1 (of_decide_eq_false hc8), of_decide_eq_false hc11, of_decide_eq_false hc22, of_decide_eq_false hc30, of_decide_eq_true hc64]
      exact ⟨_, _, _, rfl, s, ⟨_, rfl, rfl, _, (Ev.E.leaf 0), _, _, _, _, _, _, _, rfl, rfl, h2_0, h25_0, e9, (by simp only [← List.drop_drop, h5_4, h25_4])⟩⟩
     ·
      rw [hc64]
      refine cond_false_rule (b := false) (by kernel_rfl) rfl ?_
      refine wp_skip ?_
      have eh : hdG B5 = ⟨V25, 0, 0, D25, E25⟩ := by unfold hdG; simp [-List.drop_drop, Nat.add_assoc, hlast, h5_1, h5_2, h5_3, h5_4, h25_1, h25_2, h25_3, h25_4, Decidable.not_not.1 (of_decide_eq_false hc8), of_decide_eq_false hc11, of_decide_eq_false hc22, of_decide_eq_false hc30, Decidable.not_not.1 (of_decide_eq_false hc64)]
      have hL : decide (V25 ≠ 0) = decide (V25 ≠ 0) := by have q7 := (by have q9 := gV_lt 0 B5 2; rw [h25_1] at q9; exact q9); simp [h5_1, h5_2, h5_3, h5_4, h25_1, h25_2, h25_3, h25_4, Decidable.not_not.1 (of_decide_eq_false hc8), of_decide_eq_false hc11, of_decide_eq_false hc22, of_decide_eq_false hc30, Decidable.not_not.1 (of_decide_eq_false hc64)]
      have hR : decide (V25 ≠ 1) = decide (V25 ≠ 1) := by have q7 := (by have q9 := gV_lt 0 B5 2; rw [h25_1] at q9; exact q9); simp [h5_1, h5_2, h5_3, h5_4, h25_1, h25_2, h25_3, h25_4, Decidable.not_not.1 (of_decide_eq_false hc8), of_decide_eq_false hc11, of_decide_eq_false hc22, of_decide_eq_false hc30, Decidable.not_not.1 (of_decide_eq_false hc64)]
      have ed : B5.drop (D25) = B25 := (by simp only [← List.drop_drop, h5_4, h25_4])
      refine join_rule [(0, pB y), (1, .int .i64 deep), (6, pB k2), (11, .bool (decide (V25 ≠ 0))), (12, .bool (decide (V25 ≠ 1))), (13, .int .u64 0)] (by kernel_rfl) ?_
      refine refEvent_tail (B := B) (last := last) (Lb := decide (V25 ≠ 0)) (Rb := decide (V25 ≠ 1)) (nb := 0) (kn := k2) (e2 := E25) (d0 := D5 + D25) hg hgd hdp (of_decide_eq_false hc22) ih s h25_0 (dlB h25_4 (dlB h5_4 hn9)) ((Decidable.not_not.1 (of_decide_eq_false hc64))) h2_0 (Nat.zero_le _) (by rw [hL, hR]; by_cases q5 : V25 = 0 <;> simp [q5]) (fun T R D E q => ?_) (by simp only [← List.drop_drop, h5_4, h25_4]) (by kernel_rfl)
      have e8 := ndD_tl eh hL hR ed q
      unfold evD; simp [-List.drop_drop, Nat.add_assoc, hlast, e8, h5_1, h5_2, h5_3, h5_4, h25_1, h25_2, h25_3, h25_4, Decidable.not_not.1 (of_decide_eq_false hc8), of_decide_eq_false hc11, of_decide_eq_false hc22, of_decide_eq_false hc30, Decidable.not_not.1 (of_decide_eq_false hc64)]

theorem refGEv_c : ∀ (f : Nat) {I : IM} {B : List Bool} {a : Option Addr} {n c y e : Nat} (_ : BoS I B (.slice a n c)) (_ : B.length ≤ 1000000) (_ : e = 0) {deep : Nat} (_ : deep + f = 16), FunM Tryd.prog 15 #[.pointer (some ⟨y, 0, none⟩), .int .i64 ((deep : Nat) : Int)] I [(y, .cells #[.slice a n c, .int .i64 ((e : Nat) : Int)] 40)] (fun v J H' => ∃ b' : OB, H' = [b'] ∧ b'.1 = y ∧ ∃ (k : Nat) (T : Ev.E) (R E D : Nat) (B' : List Bool) (a' : Option Addr) (n' c' : Nat), v = .tuple #[.pointer (some ⟨k, 0, none⟩), .int .i64 ((R : Nat) : Int)] ∧ b' = (y, .cells #[.slice a' n' c', .int .i64 ((E : Nat) : Int)] 40) ∧ Ev.RE J T k ∧ BoS J B' (.slice a' n' c') ∧ evG f B = ⟨T, R, D, E⟩ ∧ B.drop D = B')
  | 0, _, B, _, _, _, y, _, hb, hn9, he, deep, hd => by
    have h := refEvent_step (y := y) (deep := deep) (last := true) (g := fun _ => ⟨.leaf 0, 0, 0, 0⟩) hb hn9 he okZE (f := 0) (fun _ => lf_gd _ _) (by omega) (decide_eq_true (by omega)).symm (fun q => absurd (show deep = 16 by omega) q)
    rw [← evN_D (f := 0) (fun _ => lf_gd _ _) (by decide)] at h
    exact h
  | f + 1, _, B, _, _, _, y, _, hb, hn9, he, deep, hd => by
    have h := refEvent_step (y := y) (deep := deep) (last := false) (g := evG f) hb hn9 he (evG_ok f) (f := f) (evG_gd f) (by omega) (decide_eq_false (by omega)).symm (fun _ {J} {a} {n} {c} {y} {e} {B} a1 a2 a3 => refGEv_c f a1 a2 a3 (by omega))
    rw [← evN_D (f := f) (evG_gd f) (by omega)] at h
    exact h

end Go.Proofs.YtgmigcmhnmmdkaaDoor
