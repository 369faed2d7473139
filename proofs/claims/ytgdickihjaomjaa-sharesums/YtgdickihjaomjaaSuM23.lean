/- share: sums -/
import Derived.Test.YtgdickihjaomjaaSuM22
import Derived.Test.YtgdickihjaomjaaSuM20
import Derived.OpenShut
set_option linter.all false
set_option maxRecDepth 100000
namespace Go.Proofs.Ytgdickihjaomjaa.Ev
open Go.RowKit Go.Sep
attribute [local irreducible] Go.wpList Go.Code.wp
theorem sumYes_c {I : IM} {A B : T} {ba bb : Bool} {pa pb : Option Addr} (hA : TRep I A ba pa) (hB : TRep I B bb pb) (hd1 : A.depth ≤ 8) (hd2 : B.depth ≤ 8) (h : disjT A B = true) : Fun Try.prog 26 #[idv ba pa, idv bb pb] I (fun v J => ∃ b p, v = .tuple #[idv b p, .int .i64 0] ∧ TRep J (unionT A B) b p) := by
  have e := sum_c hA hB (by omega) (by omega)
  rw [sumT, if_pos h] at e
  exact e
theorem sumNo_c {I : IM} {A B : T} {ba bb : Bool} {pa pb : Option Addr} (hA : TRep I A ba pa) (hB : TRep I B bb pb) (hd1 : A.depth ≤ 8) (hd2 : B.depth ≤ 8) (h : disjT A B = false) : Fun Try.prog 26 #[idv ba pa, idv bb pb] I (fun v J => ∃ b p, v = .tuple #[idv b p, .int .i64 5] ∧ TRep J T.zero b p) := by
  have e := sum_c hA hB (by omega) (by omega)
  rw [sumT, if_neg (by rw [h]; decide)] at e
  exact e
theorem commonS_c {I : IM} {A : T} {ba bb : Bool} {pa pb : Option Addr} (hA : TRep I A ba pa) (hB : TRep I A bb pb) (hd : A.depth ≤ 8) (hn : A.nf) : Fun Try.prog 17 #[idv ba pa, idv bb pb] I (fun v J => v = .complex .f64 (dF (widT A 16)) (dF (cntT A * 65536))) := by
  have e := common_c hA hB (by rw [both_self hn]; exact cntT_ok hd) (dle16 hd) (dle16 hd)
  rw [both_self hn] at e
  exact e
theorem commonO_c {I : IM} {A : T} {ba bb : Bool} {pa pb : Option Addr} (hA : TRep I A ba pa) (hB : TRep I T.one bb pb) (hd : A.depth ≤ 8) : Fun Try.prog 17 #[idv ba pa, idv bb pb] I (fun v J => v = .complex .f64 (dF (widT A 16)) (dF (cntT A * 65536))) := by
  have e := common_c hA hB (by rw [both_one_r]; exact cntT_ok hd) (dle16 hd) (by decide)
  rw [both_one_r] at e
  exact e
theorem commonZ_c {I : IM} {A : T} {ba bb : Bool} {pa pb : Option Addr} (hB : TRep I T.zero bb pb) (hA : TRep I A ba pa) (hd : A.depth ≤ 8) : Fun Try.prog 17 #[idv bb pb, idv ba pa] I (fun v J => v = .complex .f64 (dF 0) (dF 0)) := by
  have hc : cntT (bothT T.zero A) ≤ 100000 := Nat.zero_le _
  have e := common_c (A := T.zero) hB hA hc (by decide) (dle16 hd)
  rw [show bothT T.zero A = T.zero from rfl, show widT T.zero 16 = 0 from rfl, show cntT T.zero * 65536 = 0 from rfl] at e
  exact e

set_option maxHeartbeats 8000000 in
theorem shareSums_c {I : IM} {la lb : List UInt8} {va vb : Value} (hla : BSl I la va) (hlb : BSl I lb vb) : Fun Try.prog 7 #[va, vb] I (fun v J => v = .bool true) := by
  refine enter_rule 107 [(0, va), (1, vb)] Try.func7 rfl (by kernel_rfl) ?_
  intro w s
  refine wp_seq ?_
  refine region_rule ?_
  refine ops_rule (C := []) [] [] 1 [] 0 (fun φ1 => [(4, .bool false)]) (fun φ1 => []) (fun φ1 => []) s trivial (fun φ1 => by kernel_rfl) ?_
  intro φ1 w1 s
  refine ops_done (by kernel_rfl) ?_
  refine wp_seq ?_
  refine wp_seq ?_
  refine region_rule ?_
  refine call_rule (some 17) s (awakeS_c) (by kernel_rfl) ?_
  intro v2 I2 w2 le2 h2 s
  replace hla := BSl.mono le2 hla
  replace hlb := BSl.mono le2 hlb
  obtain rfl := h2
  refine ops_rule (C := []) [] [] 1 [] 0 (fun φ3 => [(18, .bool false)]) (fun φ3 => []) (fun φ3 => []) s trivial (fun φ3 => by kernel_rfl) ?_
  intro φ3 w3 s
  refine ops_done (by kernel_rfl) ?_
  refine cond_false_rule (b := false) (by kernel_rfl) rfl ?_
  refine wp_skip ?_
  refine wp_seq ?_
  refine region_rule ?_
  refine ops_rule (C := []) [] [] 1 [] 0 (fun φ4 => [(20, va)]) (fun φ4 => []) (fun φ4 => []) s trivial (fun φ4 => by kernel_rfl) ?_
  intro φ4 w4 s
  refine call_rule (some 21) s (madeI_c hla) (by kernel_rfl) ?_
  intro v5 I5 w5 le5 h5 s
  replace hla := BSl.mono le5 hla
  replace hlb := BSl.mono le5 hlb
  obtain ⟨b5, p5, k5, t5, rfl, h5_0, h5_1, h5_2⟩ := h5
  refine ops_rule (C := []) [] [] 6 [.o 0, .o 0] 1 (fun φ6 => [(6, .pointer (some ⟨k5, 0, none⟩)), (5, .pointer (some ⟨(φ6 0), 0, none⟩)), (23, .pointer (some ⟨k5, 0, none⟩)), (22, .agg #[.bool b5, .pointer p5]), (19, .tuple #[.agg #[.bool b5, .pointer p5], .pointer (some ⟨k5, 0, none⟩)])]) (fun φ6 => [((φ6 0), .cells #[.bool b5, .pointer p5] 26)]) (fun φ6 => [(φ6 0), (φ6 0)]) s trivial (fun φ6 => by kernel_rfl) ?_
  intro φ6 w6 s
  refine ops_done (by kernel_rfl) ?_
  refine wp_seq ?_
  refine region_rule ?_
  refine ops_rule (C := []) [((φ6 0), .cells #[.bool b5, .pointer p5] 26)] [] 1 [] 0 (fun φ7 => [(25, vb)]) (fun φ7 => [((φ6 0), .cells #[.bool b5, .pointer p5] 26)]) (fun φ7 => []) s trivial (fun φ7 => by kernel_rfl) ?_
  intro φ7 w7 s
  refine call_rule (some 26) s (madeI_c hlb) (by kernel_rfl) ?_
  intro v8 I8 w8 le8 h8 s
  replace hla := BSl.mono le8 hla
  replace hlb := BSl.mono le8 hlb
  replace h5_1 := TRep.mono le8 h5_1
  replace h5_2 := RT.mono le8 h5_2
  obtain ⟨b8, p8, k8, t8, rfl, h8_0, h8_1, h8_2⟩ := h8
  refine ops_rule (C := []) [((φ6 0), .cells #[.bool b5, .pointer p5] 26)] [] 6 [.o 1, .o 1] 1 (fun φ9 => [(8, .pointer (some ⟨k8, 0, none⟩)), (7, .pointer (some ⟨(φ9 0), 0, none⟩)), (28, .pointer (some ⟨k8, 0, none⟩)), (27, .agg #[.bool b8, .pointer p8]), (24, .tuple #[.agg #[.bool b8, .pointer p8], .pointer (some ⟨k8, 0, none⟩)])]) (fun φ9 => [((φ6 0), .cells #[.bool b5, .pointer p5] 26), ((φ9 0), .cells #[.bool b8, .pointer p8] 26)]) (fun φ9 => [(φ9 0), (φ9 0)]) s trivial (fun φ9 => by kernel_rfl) ?_
  intro φ9 w9 s
  refine ops_done (by kernel_rfl) ?_
  refine wp_seq ?_
  refine region_rule ?_
  refine ops_rule (C := []) [((φ6 0), .cells #[.bool b5, .pointer p5] 26), ((φ9 0), .cells #[.bool b8, .pointer p8] 26)] [] 2 [.o 0, .o 0, .o 1, .o 1] 0 (fun φ10 => [(31, .agg #[.bool b8, .pointer p8]), (30, .agg #[.bool b5, .pointer p5])]) (fun φ10 => [((φ6 0), .cells #[.bool b5, .pointer p5] 26), ((φ9 0), .cells #[.bool b8, .pointer p8] 26)]) (fun φ10 => [(φ6 0), (φ6 0), (φ9 0), (φ9 0)]) s trivial (fun φ10 => by kernel_rfl) ?_
  intro φ10 w10 s
  rcases Bool.eq_false_or_eq_true (disjT t5 t8) with hc11 | hc11
  ·
    refine call_rule (some 32) s (sumYes_c h5_1 h8_1 (d8 h5_0) (d8 h8_0) hc11) (by kernel_rfl) ?_
    intro v12 I12 w12 le12 h12 s
    replace hla := BSl.mono le12 hla
    replace hlb := BSl.mono le12 hlb
    replace h5_1 := TRep.mono le12 h5_1
    replace h5_2 := RT.mono le12 h5_2
    replace h8_1 := TRep.mono le12 h8_1
    replace h8_2 := RT.mono le12 h8_2
    obtain ⟨b12, p12, rfl, h12_0⟩ := h12
    refine ops_rule (C := []) [((φ6 0), .cells #[.bool b5, .pointer p5] 26), ((φ9 0), .cells #[.bool b8, .pointer p8] 26)] [] 6 [.o 2, .o 2] 1 (fun φ13 => [(10, .int .i64 0), (9, .pointer (some ⟨(φ13 0), 0, none⟩)), (34, .int .i64 0), (33, .agg #[.bool b12, .pointer p12]), (29, .tuple #[.agg #[.bool b12, .pointer p12], .int .i64 0])]) (fun φ13 => [((φ6 0), .cells #[.bool b5, .pointer p5] 26), ((φ9 0), .cells #[.bool b8, .pointer p8] 26), ((φ13 0), .cells #[.bool b12, .pointer p12] 26)]) (fun φ13 => [(φ13 0), (φ13 0)]) s trivial (fun φ13 => by kernel_rfl) ?_
    intro φ13 w13 s
    refine ops_done (by kernel_rfl) ?_
    refine wp_seq ?_
    refine wp_seq ?_
    refine draw_rule (C := []) ⟨(fun φ14 xs14 => [.look 0 [] [], .look 0 [] [], .look 0 [] [], .look 0 [.o 2, .o 2] [(φ13 0), (φ13 0)], .call 16 #[.agg #[.bool b12, .pointer p12]], .ran (Builtin.real_ #[35] 37 #[.complex .f64 (dF (widT (unionT t5 t8) 16)) (dF (cntT (unionT t5 t8) * 65536))]), .look 0 [.o 0, .o 0] [(φ6 0), (φ6 0)], .call 16 #[.agg #[.bool b5, .pointer p5]], .ran (Builtin.real_ #[35] 37 #[.complex .f64 (dF (widT t5 16)) (dF (cntT t5 * 65536))]), .look 0 [.o 1, .o 1] [(φ9 0), (φ9 0)], .call 16 #[.agg #[.bool b8, .pointer p8]], .ran (Builtin.real_ #[35] 37 #[.complex .f64 (dF (widT t8 16)) (dF (cntT t8 * 65536))]), .ran (binOp .add 37 (.float .f64 (dF (widT t5 16))) (.float .f64 (dF (widT t8 16)))), .ran (binOp .neq 37 (.float .f64 (dF (widT (unionT t5 t8) 16))) (.float .f64 (dF ((widT t5 16) + (widT t8 16))))), .look 0 [] []]), (fun φ14 xs14 => [.int .i64 0, .bool true, .bool true, .agg #[.bool b12, .pointer p12], .complex .f64 (dF (widT (unionT t5 t8) 16)) (dF (cntT (unionT t5 t8) * 65536)), .float .f64 (dF (widT (unionT t5 t8) 16)), .agg #[.bool b5, .pointer p5], .complex .f64 (dF (widT t5 16)) (dF (cntT t5 * 65536)), .float .f64 (dF (widT t5 16)), .agg #[.bool b8, .pointer p8], .complex .f64 (dF (widT t8 16)) (dF (cntT t8 * 65536)), .float .f64 (dF (widT t8 16)), .float .f64 (dF ((widT t5 16) + (widT t8 16))), .bool false, .bool false]), (fun φ14 xs14 => [[((φ6 0), .cells #[.bool b5, .pointer p5] 26), ((φ9 0), .cells #[.bool b8, .pointer p8] 26), ((φ13 0), .cells #[.bool b12, .pointer p12] 26)]]), (fun φ14 xs14 => [[default, default, default, default, default, default, default, default, default, default, default, default, default, default, default]]), [], [1, 1, 1, 1, 3, 6, 1, 3, 6, 1, 3, 6, 6, 6, 1]⟩ (fun j => ([MP.any, MP.any, MP.any, MP.any, MP.any, MP.any, MP.any, MP.any, MP.any, MP.any, MP.any, MP.any, MP.any, MP.any, MP.any] : List MP).getD j MP.any) [4, 7, 10] [] [5, 8, 11, 12, 13] (fun φ14 xs14 => []) (fun φ14 xs14 => [(35, .int .i64 0), (36, .bool true), (37, .bool true), (38, .agg #[.bool b12, .pointer p12]), (39, .complex .f64 (dF (widT (unionT t5 t8) 16)) (dF (cntT (unionT t5 t8) * 65536))), (40, .float .f64 (dF (widT (unionT t5 t8) 16))), (41, .agg #[.bool b5, .pointer p5]), (42, .complex .f64 (dF (widT t5 16)) (dF (cntT t5 * 65536))), (43, .float .f64 (dF (widT t5 16))), (44, .agg #[.bool b8, .pointer p8]), (45, .complex .f64 (dF (widT t8 16)) (dF (cntT t8 * 65536))), (46, .float .f64 (dF (widT t8 16))), (47, .float .f64 (dF ((widT t5 16) + (widT t8 16)))), (48, .bool false), (49, .bool false)]) (fun φ14 xs14 => [((φ6 0), .cells #[.bool b5, .pointer p5] 26), ((φ9 0), .cells #[.bool b8, .pointer p8] 26), ((φ13 0), .cells #[.bool b12, .pointer p12] 26)]) s trivial (by kernel_rfl) (by kernel_rfl) (fun _ _ => by kernel_rfl) (fun _ _ => by kernel_rfl) ⟨fun _ _ => by kernel_rfl, fun _ _ => by kernel_rfl, fun _ _ => by kernel_rfl, fun _ _ => by kernel_rfl⟩ (fun _ _ _ => by kernel_rfl) (fun _ _ => by kernel_rfl) (fun _ _ => by kernel_rfl) (fun _ _ => by kernel_rfl) (fun _ _ => by kernel_rfl) (fun _ _ => by kernel_rfl) trivial ⟨kcast (A := ∀ (φ14 : Nat → Nat) (xs14 : Xs) (J : IM) (w : World), I12.Le J → J.Sub w → ((Builtin.real_ #[35] 37 #[.complex .f64 (dF (widT (unionT t5 t8) 16)) (dF (cntT (unionT t5 t8) * 65536))]) : Sem Value).run Try.prog w = .ok (.float .f64 (dF (widT (unionT t5 t8) 16))) w) (by kernel_rfl) (fun φ14 xs14 J w hJ hS => (by kernel_rfl)), ⟨kcast (A := ∀ (φ14 : Nat → Nat) (xs14 : Xs) (J : IM) (w : World), I12.Le J → J.Sub w → ((Builtin.real_ #[35] 37 #[.complex .f64 (dF (widT t5 16)) (dF (cntT t5 * 65536))]) : Sem Value).run Try.prog w = .ok (.float .f64 (dF (widT t5 16))) w) (by kernel_rfl) (fun φ14 xs14 J w hJ hS => (by kernel_rfl)), ⟨kcast (A := ∀ (φ14 : Nat → Nat) (xs14 : Xs) (J : IM) (w : World), I12.Le J → J.Sub w → ((Builtin.real_ #[35] 37 #[.complex .f64 (dF (widT t8 16)) (dF (cntT t8 * 65536))]) : Sem Value).run Try.prog w = .ok (.float .f64 (dF (widT t8 16))) w) (by kernel_rfl) (fun φ14 xs14 J w hJ hS => (by kernel_rfl)), ⟨kcast (A := ∀ (φ14 : Nat → Nat) (xs14 : Xs) (J : IM) (w : World), I12.Le J → J.Sub w → ((binOp .add 37 (.float .f64 (dF (widT t5 16))) (.float .f64 (dF (widT t8 16)))) : Sem Value).run Try.prog w = .ok (.float .f64 (dF ((widT t5 16) + (widT t8 16)))) w) (by kernel_rfl) (fun φ14 xs14 J w hJ hS => run_addF (wsum_53 (d8 h5_0) (d8 h8_0))), ⟨kcast (A := ∀ (φ14 : Nat → Nat) (xs14 : Xs) (J : IM) (w : World), I12.Le J → J.Sub w → ((binOp .neq 37 (.float .f64 (dF (widT (unionT t5 t8) 16))) (.float .f64 (dF ((widT t5 16) + (widT t8 16))))) : Sem Value).run Try.prog w = .ok (.bool false) w) (by kernel_rfl) (fun φ14 xs14 J w hJ hS => run_neF2 (wid_53 (union_d8 (d8 h5_0) (d8 h8_0))) ((wid_union (dle16 (d8 h5_0)) (dle16 (d8 h8_0)) h5_0.1 h8_0.1 hc11).symm)), trivial⟩⟩⟩⟩⟩ (by kernel_rfl) ⟨?c14_4, ?c14_7, ?c14_10, trivial⟩ ?k14
    case c14_4 =>
      refine kcast (A := ∀ (φ14 : Nat → Nat) (xs14 : Xs) (J4_14 : IM), I12.Le J4_14 → Fun Try.prog 16 #[.agg #[.bool b12, .pointer p12]] J4_14 (fun v J' => ∃ x : UX, v = .complex .f64 (dF (widT (unionT t5 t8) 16)) (dF (cntT (unionT t5 t8) * 65536)) ∧ (True))) (by kernel_rfl) ?_
      intro φ14 xs14 J4_14 leJ
      have h12_0 := TRep.mono leJ h12_0
      exact Fun.mono (measure_c h12_0 (cntT_ok (union_d8 (d8 h5_0) (d8 h8_0))) (dle16 (union_d8 (d8 h5_0) (d8 h8_0)))) (fun v J' _ h => ⟨UX.d, h, trivial⟩)
    case c14_7 =>
      refine kcast (A := ∀ (φ14 : Nat → Nat) (xs14 : Xs) (J7_14 : IM), I12.Le J7_14 → (True) → Fun Try.prog 16 #[.agg #[.bool b5, .pointer p5]] J7_14 (fun v J' => ∃ x : UX, v = .complex .f64 (dF (widT t5 16)) (dF (cntT t5 * 65536)) ∧ (True))) (by kernel_rfl) ?_
      intro φ14 xs14 J7_14 leJ
      rintro _
      have h5_1 := TRep.mono leJ h5_1
      exact Fun.mono (measure_c h5_1 (cntT_ok (d8 h5_0)) (dle16 (d8 h5_0))) (fun v J' _ h => ⟨UX.d, h, trivial⟩)
    case c14_10 =>
      refine kcast (A := ∀ (φ14 : Nat → Nat) (xs14 : Xs) (J10_14 : IM), I12.Le J10_14 → (True) → (True) → Fun Try.prog 16 #[.agg #[.bool b8, .pointer p8]] J10_14 (fun v J' => ∃ x : UX, v = .complex .f64 (dF (widT t8 16)) (dF (cntT t8 * 65536)) ∧ (True))) (by kernel_rfl) ?_
      intro φ14 xs14 J10_14 leJ
      rintro _ _
      have h8_1 := TRep.mono leJ h8_1
      exact Fun.mono (measure_c h8_1 (cntT_ok (d8 h8_0)) (dle16 (d8 h8_0))) (fun v J' _ h => ⟨UX.d, h, trivial⟩)
    case k14 =>
      rintro φ14 xs14 I14 w14 le14 s _ _ _
      replace hla := BSl.mono le14 hla
      replace hlb := BSl.mono le14 hlb
      replace h5_1 := TRep.mono le14 h5_1
      replace h5_2 := RT.mono le14 h5_2
      replace h8_1 := TRep.mono le14 h8_1
      replace h8_2 := RT.mono le14 h8_2
      replace h12_0 := TRep.mono le14 h12_0
      refine cond_false_rule (b := false) (by kernel_rfl) rfl ?_
      refine wp_skip ?_
      refine wp_seq ?_
      refine region_rule ?_
      refine ops_rule (C := []) [((φ6 0), .cells #[.bool b5, .pointer p5] 26), ((φ9 0), .cells #[.bool b8, .pointer p8] 26), ((φ13 0), .cells #[.bool b12, .pointer p12] 26)] [] 2 [] 0 (fun φ15 => [(51, .pointer (some ⟨k8, 0, none⟩)), (50, .pointer (some ⟨k5, 0, none⟩))]) (fun φ15 => [((φ6 0), .cells #[.bool b5, .pointer p5] 26), ((φ9 0), .cells #[.bool b8, .pointer p8] 26), ((φ13 0), .cells #[.bool b12, .pointer p12] 26)]) (fun φ15 => []) s trivial (fun φ15 => by kernel_rfl) ?_
      intro φ15 w15 s
      refine call_rule (some 52) s (rboth_c t5 t8 h5_2 h8_2) (by kernel_rfl) ?_
      intro v16 I16 w16 le16 h16 s
      replace hla := BSl.mono le16 hla
      replace hlb := BSl.mono le16 hlb
      replace h5_1 := TRep.mono le16 h5_1
      replace h5_2 := RT.mono le16 h5_2
      replace h8_1 := TRep.mono le16 h8_1
      replace h8_2 := RT.mono le16 h8_2
      replace h12_0 := TRep.mono le16 h12_0
      obtain ⟨k16, rfl, h16_0⟩ := h16
      refine call_rule (some 53) s (rs0N_c (bothT t5 t8) h16_0 (cntT_ok (both_d8 (d8 h5_0) (d8 h8_0))) (dle16 (both_d8 (d8 h5_0) (d8 h8_0)))) (by kernel_rfl) ?_
      intro v17 I17 w17 le17 h17 s
      replace hla := BSl.mono le17 hla
      replace hlb := BSl.mono le17 hlb
      replace h5_1 := TRep.mono le17 h5_1
      replace h5_2 := RT.mono le17 h5_2
      replace h8_1 := TRep.mono le17 h8_1
      replace h8_2 := RT.mono le17 h8_2
      replace h12_0 := TRep.mono le17 h12_0
      replace h16_0 := RT.mono le17 h16_0
      obtain ⟨a17, c17, rfl, h17_0⟩ := h17
      refine call_rule (some 54) s (rwideT_c h17_0 (dle16 (both_d8 (d8 h5_0) (d8 h8_0))) (cntT_ok (both_d8 (d8 h5_0) (d8 h8_0)))) (by kernel_rfl) ?_
      intro v18 I18 w18 le18 h18 s
      replace hla := BSl.mono le18 hla
      replace hlb := BSl.mono le18 hlb
      replace h5_1 := TRep.mono le18 h5_1
      replace h5_2 := RT.mono le18 h5_2
      replace h8_1 := TRep.mono le18 h8_1
      replace h8_2 := RT.mono le18 h8_2
      replace h12_0 := TRep.mono le18 h12_0
      replace h16_0 := RT.mono le18 h16_0
      replace h17_0 := SpS.mono le18 h17_0
      obtain rfl := h18
      refine ops_rule (C := []) [((φ6 0), .cells #[.bool b5, .pointer p5] 26), ((φ9 0), .cells #[.bool b8, .pointer p8] 26), ((φ13 0), .cells #[.bool b12, .pointer p12] 26)] [] 1 [] 0 (fun φ19 => [(11, .int .u64 ((widT (bothT t5 t8) 16 : Nat) : Int))]) (fun φ19 => [((φ6 0), .cells #[.bool b5, .pointer p5] 26), ((φ9 0), .cells #[.bool b8, .pointer p8] 26), ((φ13 0), .cells #[.bool b12, .pointer p12] 26)]) (fun φ19 => []) s trivial (fun φ19 => by kernel_rfl) ?_
      intro φ19 w19 s
      refine ops_done (by kernel_rfl) ?_
      refine wp_seq ?_
      refine region_rule ?_
      refine ops_rule (C := []) [((φ6 0), .cells #[.bool b5, .pointer p5] 26), ((φ9 0), .cells #[.bool b8, .pointer p8] 26), ((φ13 0), .cells #[.bool b12, .pointer p12] 26)] [] 1 [.o 1, .o 1] 0 (fun φ20 => [(56, .agg #[.bool b8, .pointer p8])]) (fun φ20 => [((φ6 0), .cells #[.bool b5, .pointer p5] 26), ((φ9 0), .cells #[.bool b8, .pointer p8] 26), ((φ13 0), .cells #[.bool b12, .pointer p12] 26)]) (fun φ20 => [(φ9 0), (φ9 0)]) s trivial (fun φ20 => by kernel_rfl) ?_
      intro φ20 w20 s
      refine call_rule (some 57) s (splitOk_c h8_1 (d15 h8_0)) (by kernel_rfl) ?_
      intro v21 I21 w21 le21 h21 s
      replace hla := BSl.mono le21 hla
      replace hlb := BSl.mono le21 hlb
      replace h5_1 := TRep.mono le21 h5_1
      replace h5_2 := RT.mono le21 h5_2
      replace h8_1 := TRep.mono le21 h8_1
      replace h8_2 := RT.mono le21 h8_2
      replace h12_0 := TRep.mono le21 h12_0
      replace h16_0 := RT.mono le21 h16_0
      replace h17_0 := SpS.mono le21 h17_0
      obtain ⟨b21, p21, d21, q21, rfl, h21_0, h21_1⟩ := h21
      refine ops_rule (C := []) [((φ6 0), .cells #[.bool b5, .pointer p5] 26), ((φ9 0), .cells #[.bool b8, .pointer p8] 26), ((φ13 0), .cells #[.bool b12, .pointer p12] 26)] [] 9 [.o 3, .o 3, .o 4, .o 4] 2 (fun φ22 => [(14, .int .i64 0), (13, .pointer (some ⟨(φ22 1), 0, none⟩)), (12, .pointer (some ⟨(φ22 0), 0, none⟩)), (60, .int .i64 0), (59, .agg #[.bool d21, .pointer q21]), (58, .agg #[.bool b21, .pointer p21]), (55, .tuple #[.agg #[.bool b21, .pointer p21], .agg #[.bool d21, .pointer q21], .int .i64 0])]) (fun φ22 => [((φ6 0), .cells #[.bool b5, .pointer p5] 26), ((φ9 0), .cells #[.bool b8, .pointer p8] 26), ((φ13 0), .cells #[.bool b12, .pointer p12] 26), ((φ22 0), .cells #[.bool b21, .pointer p21] 26), ((φ22 1), .cells #[.bool d21, .pointer q21] 26)]) (fun φ22 => [(φ22 0), (φ22 0), (φ22 1), (φ22 1)]) s trivial (fun φ22 => by kernel_rfl) ?_
      intro φ22 w22 s
      refine ops_done (by kernel_rfl) ?_
      refine wp_seq ?_
      refine draw_rule (C := []) ⟨(fun φ23 xs23 => [.look 0 [.o 0, .o 0] [(φ6 0), (φ6 0)], .look 0 [.o 3, .o 3] [(φ22 0), (φ22 0)], .call 17 #[.agg #[.bool b5, .pointer p5], .agg #[.bool b21, .pointer p21]], .look 0 [.o 0, .o 0] [(φ6 0), (φ6 0)], .look 0 [.o 4, .o 4] [(φ22 1), (φ22 1)], .call 17 #[.agg #[.bool b5, .pointer p5], .agg #[.bool d21, .pointer q21]], .look 0 [] [], .look 0 [] []]), (fun φ23 xs23 => [.agg #[.bool b5, .pointer p5], .agg #[.bool b21, .pointer p21], .complex .f64 (dF (widT (bothT t5 (cutT t8).1) 16)) (dF (cntT (bothT t5 (cutT t8).1) * 65536)), .agg #[.bool b5, .pointer p5], .agg #[.bool d21, .pointer q21], .complex .f64 (dF (widT (bothT t5 (cutT t8).2) 16)) (dF (cntT (bothT t5 (cutT t8).2) * 65536)), .complex .f64 (dF (widT (bothT t5 (cutT t8).1) 16)) (dF (cntT (bothT t5 (cutT t8).1) * 65536)), .complex .f64 (dF (widT (bothT t5 (cutT t8).2) 16)) (dF (cntT (bothT t5 (cutT t8).2) * 65536))]), (fun φ23 xs23 => [[((φ6 0), .cells #[.bool b5, .pointer p5] 26), ((φ9 0), .cells #[.bool b8, .pointer p8] 26), ((φ13 0), .cells #[.bool b12, .pointer p12] 26), ((φ22 0), .cells #[.bool b21, .pointer p21] 26), ((φ22 1), .cells #[.bool d21, .pointer q21] 26)]]), (fun φ23 xs23 => [[default, default, default, default, default, default, default, default]]), [], [1, 1, 3, 1, 1, 3, 1, 1]⟩ (fun j => ([MP.any, MP.any, MP.any, MP.any, MP.any, MP.any, MP.any, MP.any] : List MP).getD j MP.any) [2, 5] [] [] (fun φ23 xs23 => []) (fun φ23 xs23 => [(61, .agg #[.bool b5, .pointer p5]), (62, .agg #[.bool b21, .pointer p21]), (63, .complex .f64 (dF (widT (bothT t5 (cutT t8).1) 16)) (dF (cntT (bothT t5 (cutT t8).1) * 65536))), (64, .agg #[.bool b5, .pointer p5]), (65, .agg #[.bool d21, .pointer q21]), (66, .complex .f64 (dF (widT (bothT t5 (cutT t8).2) 16)) (dF (cntT (bothT t5 (cutT t8).2) * 65536))), (15, .complex .f64 (dF (widT (bothT t5 (cutT t8).1) 16)) (dF (cntT (bothT t5 (cutT t8).1) * 65536))), (16, .complex .f64 (dF (widT (bothT t5 (cutT t8).2) 16)) (dF (cntT (bothT t5 (cutT t8).2) * 65536)))]) (fun φ23 xs23 => [((φ6 0), .cells #[.bool b5, .pointer p5] 26), ((φ9 0), .cells #[.bool b8, .pointer p8] 26), ((φ13 0), .cells #[.bool b12, .pointer p12] 26), ((φ22 0), .cells #[.bool b21, .pointer p21] 26), ((φ22 1), .cells #[.bool d21, .pointer q21] 26)]) s trivial (by kernel_rfl) (by kernel_rfl) (fun _ _ => by kernel_rfl) (fun _ _ => by kernel_rfl) ⟨fun _ _ => by kernel_rfl, fun _ _ => by kernel_rfl, fun _ _ => by kernel_rfl, fun _ _ => by kernel_rfl⟩ (fun _ _ _ => by kernel_rfl) (fun _ _ => by kernel_rfl) (fun _ _ => by kernel_rfl) (fun _ _ => by kernel_rfl) (fun _ _ => by kernel_rfl) (fun _ _ => by kernel_rfl) trivial trivial (by kernel_rfl) ⟨?c23_2, ?c23_5, trivial⟩ ?k23
      case c23_2 =>
        refine kcast (A := ∀ (φ23 : Nat → Nat) (xs23 : Xs) (J2_23 : IM), I21.Le J2_23 → Fun Try.prog 17 #[.agg #[.bool b5, .pointer p5], .agg #[.bool b21, .pointer p21]] J2_23 (fun v J' => ∃ x : UX, v = .complex .f64 (dF (widT (bothT t5 (cutT t8).1) 16)) (dF (cntT (bothT t5 (cutT t8).1) * 65536)) ∧ (True))) (by kernel_rfl) ?_
        intro φ23 xs23 J2_23 leJ
        have h5_1 := TRep.mono leJ h5_1
        have h21_0 := TRep.mono leJ h21_0
        exact Fun.mono (common_c h5_1 h21_0 (cntT_ok (both_d8 (d8 h5_0) (cut1_d8 h8_0))) (dle16 (d8 h5_0)) (dle16 (cut1_d8 h8_0))) (fun v J' _ h => ⟨UX.d, h, trivial⟩)
      case c23_5 =>
        refine kcast (A := ∀ (φ23 : Nat → Nat) (xs23 : Xs) (J5_23 : IM), I21.Le J5_23 → (True) → Fun Try.prog 17 #[.agg #[.bool b5, .pointer p5], .agg #[.bool d21, .pointer q21]] J5_23 (fun v J' => ∃ x : UX, v = .complex .f64 (dF (widT (bothT t5 (cutT t8).2) 16)) (dF (cntT (bothT t5 (cutT t8).2) * 65536)) ∧ (True))) (by kernel_rfl) ?_
        intro φ23 xs23 J5_23 leJ
        rintro _
        have h5_1 := TRep.mono leJ h5_1
        have h21_1 := TRep.mono leJ h21_1
        exact Fun.mono (common_c h5_1 h21_1 (cntT_ok (both_d8 (d8 h5_0) (cut2_d8 h8_0))) (dle16 (d8 h5_0)) (dle16 (cut2_d8 h8_0))) (fun v J' _ h => ⟨UX.d, h, trivial⟩)
      case k23 =>
        rintro φ23 xs23 I23 w23 le23 s _ _
        replace hla := BSl.mono le23 hla
        replace hlb := BSl.mono le23 hlb
        replace h5_1 := TRep.mono le23 h5_1
        replace h5_2 := RT.mono le23 h5_2
        replace h8_1 := TRep.mono le23 h8_1
        replace h8_2 := RT.mono le23 h8_2
        replace h12_0 := TRep.mono le23 h12_0
        replace h16_0 := RT.mono le23 h16_0
        replace h17_0 := SpS.mono le23 h17_0
        replace h21_0 := TRep.mono le23 h21_0
        replace h21_1 := TRep.mono le23 h21_1
        refine wp_seq ?_
        refine draw_rule (C := []) ⟨(fun φ24 xs24 => [.look 0 [.o 0, .o 0] [(φ6 0), (φ6 0)], .look 0 [.o 1, .o 1] [(φ9 0), (φ9 0)], .call 17 #[.agg #[.bool b5, .pointer p5], .agg #[.bool b8, .pointer p8]], .ran (Builtin.real_ #[35] 37 #[.complex .f64 (dF (widT (bothT t5 t8) 16)) (dF (cntT (bothT t5 t8) * 65536))]), .look 0 [] [], .call 12 #[.float .f64 (dF (widT (bothT t5 t8) 16)), .int .u64 ((widT (bothT t5 t8) 16 : Nat) : Int)], .look 0 [] [], .look 0 [] [], .ran (Builtin.real_ #[35] 37 #[.complex .f64 (dF (widT (bothT t5 (cutT t8).1) 16)) (dF (cntT (bothT t5 (cutT t8).1) * 65536))]), .look 0 [] [], .ran (Builtin.real_ #[35] 37 #[.complex .f64 (dF (widT (bothT t5 (cutT t8).2) 16)) (dF (cntT (bothT t5 (cutT t8).2) * 65536))]), .ran (binOp .add 37 (.float .f64 (dF (widT (bothT t5 (cutT t8).1) 16))) (.float .f64 (dF (widT (bothT t5 (cutT t8).2) 16)))), .look 0 [.o 0, .o 0] [(φ6 0), (φ6 0)], .look 0 [.o 1, .o 1] [(φ9 0), (φ9 0)], .call 17 #[.agg #[.bool b5, .pointer p5], .agg #[.bool b8, .pointer p8]], .ran (Builtin.real_ #[35] 37 #[.complex .f64 (dF (widT (bothT t5 t8) 16)) (dF (cntT (bothT t5 t8) * 65536))]), .ran (binOp .eql 37 (.float .f64 (dF ((widT (bothT t5 (cutT t8).1) 16) + (widT (bothT t5 (cutT t8).2) 16)))) (.float .f64 (dF (widT (bothT t5 t8) 16)))), .look 0 [] [], .look 0 [] [], .look 0 [.o 0, .o 0] [(φ6 0), (φ6 0)], .look 0 [.o 0, .o 0] [(φ6 0), (φ6 0)], .call 17 #[.agg #[.bool b5, .pointer p5], .agg #[.bool b5, .pointer p5]], .look 0 [.o 0, .o 0] [(φ6 0), (φ6 0)], .call 16 #[.agg #[.bool b5, .pointer p5]], .ran (binOp .eql 35 (.complex .f64 (dF (widT t5 16)) (dF (cntT t5 * 65536))) (.complex .f64 (dF (widT t5 16)) (dF (cntT t5 * 65536)))), .look 0 [] [], .look 0 [] [], .look 0 [.o 0, .o 0] [(φ6 0), (φ6 0)], .call 27 #[], .call 17 #[.agg #[.bool b5, .pointer p5], .agg #[.bool true, .pointer none]], .look 0 [.o 0, .o 0] [(φ6 0), (φ6 0)], .call 16 #[.agg #[.bool b5, .pointer p5]], .ran (binOp .eql 35 (.complex .f64 (dF (widT t5 16)) (dF (cntT t5 * 65536))) (.complex .f64 (dF (widT t5 16)) (dF (cntT t5 * 65536)))), .look 0 [] [], .look 0 [] [], .call 28 #[], .look 0 [.o 1, .o 1] [(φ9 0), (φ9 0)], .call 17 #[.agg #[.bool false, .pointer none], .agg #[.bool b8, .pointer p8]], .ran (binOp .eql 35 (.complex .f64 (dF 0) (dF 0)) (.complex .f64 0 0)), .look 0 [] [], .look 0 [] []]), (fun φ24 xs24 => [.agg #[.bool b5, .pointer p5], .agg #[.bool b8, .pointer p8], .complex .f64 (dF (widT (bothT t5 t8) 16)) (dF (cntT (bothT t5 t8) * 65536)), .float .f64 (dF (widT (bothT t5 t8) 16)), .int .u64 ((widT (bothT t5 t8) 16 : Nat) : Int), .bool true, .bool true, .complex .f64 (dF (widT (bothT t5 (cutT t8).1) 16)) (dF (cntT (bothT t5 (cutT t8).1) * 65536)), .float .f64 (dF (widT (bothT t5 (cutT t8).1) 16)), .complex .f64 (dF (widT (bothT t5 (cutT t8).2) 16)) (dF (cntT (bothT t5 (cutT t8).2) * 65536)), .float .f64 (dF (widT (bothT t5 (cutT t8).2) 16)), .float .f64 (dF ((widT (bothT t5 (cutT t8).1) 16) + (widT (bothT t5 (cutT t8).2) 16))), .agg #[.bool b5, .pointer p5], .agg #[.bool b8, .pointer p8], .complex .f64 (dF (widT (bothT t5 t8) 16)) (dF (cntT (bothT t5 t8) * 65536)), .float .f64 (dF (widT (bothT t5 t8) 16)), .bool true, .bool true, .bool true, .agg #[.bool b5, .pointer p5], .agg #[.bool b5, .pointer p5], .complex .f64 (dF (widT t5 16)) (dF (cntT t5 * 65536)), .agg #[.bool b5, .pointer p5], .complex .f64 (dF (widT t5 16)) (dF (cntT t5 * 65536)), .bool true, .bool true, .bool true, .agg #[.bool b5, .pointer p5], .agg #[.bool true, .pointer none], .complex .f64 (dF (widT t5 16)) (dF (cntT t5 * 65536)), .agg #[.bool b5, .pointer p5], .complex .f64 (dF (widT t5 16)) (dF (cntT t5 * 65536)), .bool true, .bool true, .bool true, .agg #[.bool false, .pointer none], .agg #[.bool b8, .pointer p8], .complex .f64 (dF 0) (dF 0), .bool true, .bool true, .bool true]), (fun φ24 xs24 => [[((φ6 0), .cells #[.bool b5, .pointer p5] 26), ((φ9 0), .cells #[.bool b8, .pointer p8] 26), ((φ13 0), .cells #[.bool b12, .pointer p12] 26), ((φ22 0), .cells #[.bool b21, .pointer p21] 26), ((φ22 1), .cells #[.bool d21, .pointer q21] 26)]]), (fun φ24 xs24 => [[default, default, default, default, default, default, default, default, default, default, default, default, default, default, default, default, default, default, default, default, default, default, default, default, default, default, default, default, default, default, default, default, default, default, default, default, default, default, default, default, default]]), [], [1, 1, 3, 6, 1, 3, 1, 1, 6, 1, 6, 6, 1, 1, 3, 6, 6, 1, 1, 1, 1, 3, 1, 3, 6, 1, 1, 1, 3, 3, 1, 3, 6, 1, 1, 3, 1, 3, 6, 1, 1]⟩ (fun j => ([MP.any, MP.any, MP.any, MP.any, MP.any, MP.any, MP.any, MP.any, MP.any, MP.any, MP.any, MP.any, MP.any, MP.any, MP.any, MP.any, MP.any, MP.any, MP.any, MP.any, MP.any, MP.any, MP.any, MP.any, MP.any, MP.any, MP.any, MP.any, MP.any, MP.any, MP.any, MP.any, MP.any, MP.any, MP.any, MP.any, MP.any, MP.any, MP.any, MP.any, MP.any] : List MP).getD j MP.any) [2, 5, 14, 21, 23, 28, 29, 31, 35, 37] [] [3, 8, 10, 11, 15, 16, 24, 32, 38] (fun φ24 xs24 => []) (fun φ24 xs24 => [(67, .agg #[.bool b5, .pointer p5]), (68, .agg #[.bool b8, .pointer p8]), (69, .complex .f64 (dF (widT (bothT t5 t8) 16)) (dF (cntT (bothT t5 t8) * 65536))), (70, .float .f64 (dF (widT (bothT t5 t8) 16))), (71, .int .u64 ((widT (bothT t5 t8) 16 : Nat) : Int)), (72, .bool true), (73, .bool true), (74, .complex .f64 (dF (widT (bothT t5 (cutT t8).1) 16)) (dF (cntT (bothT t5 (cutT t8).1) * 65536))), (75, .float .f64 (dF (widT (bothT t5 (cutT t8).1) 16))), (76, .complex .f64 (dF (widT (bothT t5 (cutT t8).2) 16)) (dF (cntT (bothT t5 (cutT t8).2) * 65536))), (77, .float .f64 (dF (widT (bothT t5 (cutT t8).2) 16))), (78, .float .f64 (dF ((widT (bothT t5 (cutT t8).1) 16) + (widT (bothT t5 (cutT t8).2) 16)))), (79, .agg #[.bool b5, .pointer p5]), (80, .agg #[.bool b8, .pointer p8]), (81, .complex .f64 (dF (widT (bothT t5 t8) 16)) (dF (cntT (bothT t5 t8) * 65536))), (82, .float .f64 (dF (widT (bothT t5 t8) 16))), (83, .bool true), (84, .bool true), (85, .bool true), (86, .agg #[.bool b5, .pointer p5]), (87, .agg #[.bool b5, .pointer p5]), (88, .complex .f64 (dF (widT t5 16)) (dF (cntT t5 * 65536))), (89, .agg #[.bool b5, .pointer p5]), (90, .complex .f64 (dF (widT t5 16)) (dF (cntT t5 * 65536))), (91, .bool true), (92, .bool true), (93, .bool true), (94, .agg #[.bool b5, .pointer p5]), (95, .agg #[.bool true, .pointer none]), (96, .complex .f64 (dF (widT t5 16)) (dF (cntT t5 * 65536))), (97, .agg #[.bool b5, .pointer p5]), (98, .complex .f64 (dF (widT t5 16)) (dF (cntT t5 * 65536))), (99, .bool true), (100, .bool true), (101, .bool true), (102, .agg #[.bool false, .pointer none]), (103, .agg #[.bool b8, .pointer p8]), (104, .complex .f64 (dF 0) (dF 0)), (105, .bool true), (106, .bool true), (4, .bool true)]) (fun φ24 xs24 => [((φ6 0), .cells #[.bool b5, .pointer p5] 26), ((φ9 0), .cells #[.bool b8, .pointer p8] 26), ((φ13 0), .cells #[.bool b12, .pointer p12] 26), ((φ22 0), .cells #[.bool b21, .pointer p21] 26), ((φ22 1), .cells #[.bool d21, .pointer q21] 26)]) s trivial (by kernel_rfl) (by kernel_rfl) (fun _ _ => by kernel_rfl) (fun _ _ => by kernel_rfl) ⟨fun _ _ => by kernel_rfl, fun _ _ => by kernel_rfl, fun _ _ => by kernel_rfl, fun _ _ => by kernel_rfl⟩ (fun _ _ _ => by kernel_rfl) (fun _ _ => by kernel_rfl) (fun _ _ => by kernel_rfl) (fun _ _ => by kernel_rfl) (fun _ _ => by kernel_rfl) (fun _ _ => by kernel_rfl) trivial ⟨kcast (A := ∀ (φ24 : Nat → Nat) (xs24 : Xs) (J : IM) (w : World), I23.Le J → J.Sub w → ((Builtin.real_ #[35] 37 #[.complex .f64 (dF (widT (bothT t5 t8) 16)) (dF (cntT (bothT t5 t8) * 65536))]) : Sem Value).run Try.prog w = .ok (.float .f64 (dF (widT (bothT t5 t8) 16))) w) (by kernel_rfl) (fun φ24 xs24 J w hJ hS => (by kernel_rfl)), ⟨kcast (A := ∀ (φ24 : Nat → Nat) (xs24 : Xs) (J : IM) (w : World), I23.Le J → J.Sub w → ((Builtin.real_ #[35] 37 #[.complex .f64 (dF (widT (bothT t5 (cutT t8).1) 16)) (dF (cntT (bothT t5 (cutT t8).1) * 65536))]) : Sem Value).run Try.prog w = .ok (.float .f64 (dF (widT (bothT t5 (cutT t8).1) 16))) w) (by kernel_rfl) (fun φ24 xs24 J w hJ hS => (by kernel_rfl)), ⟨kcast (A := ∀ (φ24 : Nat → Nat) (xs24 : Xs) (J : IM) (w : World), I23.Le J → J.Sub w → ((Builtin.real_ #[35] 37 #[.complex .f64 (dF (widT (bothT t5 (cutT t8).2) 16)) (dF (cntT (bothT t5 (cutT t8).2) * 65536))]) : Sem Value).run Try.prog w = .ok (.float .f64 (dF (widT (bothT t5 (cutT t8).2) 16))) w) (by kernel_rfl) (fun φ24 xs24 J w hJ hS => (by kernel_rfl)), ⟨kcast (A := ∀ (φ24 : Nat → Nat) (xs24 : Xs) (J : IM) (w : World), I23.Le J → J.Sub w → ((binOp .add 37 (.float .f64 (dF (widT (bothT t5 (cutT t8).1) 16))) (.float .f64 (dF (widT (bothT t5 (cutT t8).2) 16)))) : Sem Value).run Try.prog w = .ok (.float .f64 (dF ((widT (bothT t5 (cutT t8).1) 16) + (widT (bothT t5 (cutT t8).2) 16)))) w) (by kernel_rfl) (fun φ24 xs24 J w hJ hS => run_addF (wsum_53 (both_d8 (d8 h5_0) (cut1_d8 h8_0)) (both_d8 (d8 h5_0) (cut2_d8 h8_0)))), ⟨kcast (A := ∀ (φ24 : Nat → Nat) (xs24 : Xs) (J : IM) (w : World), I23.Le J → J.Sub w → ((Builtin.real_ #[35] 37 #[.complex .f64 (dF (widT (bothT t5 t8) 16)) (dF (cntT (bothT t5 t8) * 65536))]) : Sem Value).run Try.prog w = .ok (.float .f64 (dF (widT (bothT t5 t8) 16))) w) (by kernel_rfl) (fun φ24 xs24 J w hJ hS => (by kernel_rfl)), ⟨kcast (A := ∀ (φ24 : Nat → Nat) (xs24 : Xs) (J : IM) (w : World), I23.Le J → J.Sub w → ((binOp .eql 37 (.float .f64 (dF ((widT (bothT t5 (cutT t8).1) 16) + (widT (bothT t5 (cutT t8).2) 16)))) (.float .f64 (dF (widT (bothT t5 t8) 16)))) : Sem Value).run Try.prog w = .ok (.bool true) w) (by kernel_rfl) (fun φ24 xs24 J w hJ hS => run_eqF2 (wsum_53 (both_d8 (d8 h5_0) (cut1_d8 h8_0)) (both_d8 (d8 h5_0) (cut2_d8 h8_0))) (wid_both_cut (dle16 (d8 h5_0)) (d17 h8_0) h8_0.1)), ⟨kcast (A := ∀ (φ24 : Nat → Nat) (xs24 : Xs) (J : IM) (w : World), I23.Le J → J.Sub w → ((binOp .eql 35 (.complex .f64 (dF (widT t5 16)) (dF (cntT t5 * 65536))) (.complex .f64 (dF (widT t5 16)) (dF (cntT t5 * 65536)))) : Sem Value).run Try.prog w = .ok (.bool true) w) (by kernel_rfl) (fun φ24 xs24 J w hJ hS => run_eqC2 (wid_53 (d8 h5_0)) (cnt_53 (d8 h5_0))), ⟨kcast (A := ∀ (φ24 : Nat → Nat) (xs24 : Xs) (J : IM) (w : World), I23.Le J → J.Sub w → ((binOp .eql 35 (.complex .f64 (dF (widT t5 16)) (dF (cntT t5 * 65536))) (.complex .f64 (dF (widT t5 16)) (dF (cntT t5 * 65536)))) : Sem Value).run Try.prog w = .ok (.bool true) w) (by kernel_rfl) (fun φ24 xs24 J w hJ hS => run_eqC2 (wid_53 (d8 h5_0)) (cnt_53 (d8 h5_0))), ⟨kcast (A := ∀ (φ24 : Nat → Nat) (xs24 : Xs) (J : IM) (w : World), I23.Le J → J.Sub w → ((binOp .eql 35 (.complex .f64 (dF 0) (dF 0)) (.complex .f64 0 0)) : Sem Value).run Try.prog w = .ok (.bool true) w) (by kernel_rfl) (fun φ24 xs24 J w hJ hS => run_eqC0), trivial⟩⟩⟩⟩⟩⟩⟩⟩⟩ (by kernel_rfl) ⟨?c24_2, ?c24_5, ?c24_14, ?c24_21, ?c24_23, ?c24_28, ?c24_29, ?c24_31, ?c24_35, ?c24_37, trivial⟩ ?k24
        case c24_2 =>
          refine kcast (A := ∀ (φ24 : Nat → Nat) (xs24 : Xs) (J2_24 : IM), I23.Le J2_24 → Fun Try.prog 17 #[.agg #[.bool b5, .pointer p5], .agg #[.bool b8, .pointer p8]] J2_24 (fun v J' => ∃ x : UX, v = .complex .f64 (dF (widT (bothT t5 t8) 16)) (dF (cntT (bothT t5 t8) * 65536)) ∧ (True))) (by kernel_rfl) ?_
          intro φ24 xs24 J2_24 leJ
          have h5_1 := TRep.mono leJ h5_1
          have h8_1 := TRep.mono leJ h8_1
          exact Fun.mono (common_c h5_1 h8_1 (cntT_ok (both_d8 (d8 h5_0) (d8 h8_0))) (dle16 (d8 h5_0)) (dle16 (d8 h8_0))) (fun v J' _ h => ⟨UX.d, h, trivial⟩)
        case c24_5 =>
          refine kcast (A := ∀ (φ24 : Nat → Nat) (xs24 : Xs) (J5_24 : IM), I23.Le J5_24 → (True) → Fun Try.prog 12 #[.float .f64 (dF (widT (bothT t5 t8) 16)), .int .u64 ((widT (bothT t5 t8) 16 : Nat) : Int)] J5_24 (fun v J' => ∃ x : UX, v = .bool true ∧ (True))) (by kernel_rfl) ?_
          intro φ24 xs24 J5_24 leJ
          rintro _
          exact Fun.mono (is_c (n := widT (bothT t5 t8) 16) (wid_e8 (both_d8 (d8 h5_0) (d8 h8_0)))) (fun v J' _ h => ⟨UX.d, h, trivial⟩)
        case c24_14 =>
          refine kcast (A := ∀ (φ24 : Nat → Nat) (xs24 : Xs) (J14_24 : IM), I23.Le J14_24 → (True) → (True) → Fun Try.prog 17 #[.agg #[.bool b5, .pointer p5], .agg #[.bool b8, .pointer p8]] J14_24 (fun v J' => ∃ x : UX, v = .complex .f64 (dF (widT (bothT t5 t8) 16)) (dF (cntT (bothT t5 t8) * 65536)) ∧ (True))) (by kernel_rfl) ?_
          intro φ24 xs24 J14_24 leJ
          rintro _ _
          have h5_1 := TRep.mono leJ h5_1
          have h8_1 := TRep.mono leJ h8_1
          exact Fun.mono (common_c h5_1 h8_1 (cntT_ok (both_d8 (d8 h5_0) (d8 h8_0))) (dle16 (d8 h5_0)) (dle16 (d8 h8_0))) (fun v J' _ h => ⟨UX.d, h, trivial⟩)
        case c24_21 =>
          refine kcast (A := ∀ (φ24 : Nat → Nat) (xs24 : Xs) (J21_24 : IM), I23.Le J21_24 → (True) → (True) → (True) → Fun Try.prog 17 #[.agg #[.bool b5, .pointer p5], .agg #[.bool b5, .pointer p5]] J21_24 (fun v J' => ∃ x : UX, v = .complex .f64 (dF (widT t5 16)) (dF (cntT t5 * 65536)) ∧ (True))) (by kernel_rfl) ?_
          intro φ24 xs24 J21_24 leJ
          rintro _ _ _
          have h5_1 := TRep.mono leJ h5_1
          exact Fun.mono (commonS_c h5_1 h5_1 (d8 h5_0) h5_0.1) (fun v J' _ h => ⟨UX.d, h, trivial⟩)
        case c24_23 =>
          refine kcast (A := ∀ (φ24 : Nat → Nat) (xs24 : Xs) (J23_24 : IM), I23.Le J23_24 → (True) → (True) → (True) → (True) → Fun Try.prog 16 #[.agg #[.bool b5, .pointer p5]] J23_24 (fun v J' => ∃ x : UX, v = .complex .f64 (dF (widT t5 16)) (dF (cntT t5 * 65536)) ∧ (True))) (by kernel_rfl) ?_
          intro φ24 xs24 J23_24 leJ
          rintro _ _ _ _
          have h5_1 := TRep.mono leJ h5_1
          exact Fun.mono (measure_c h5_1 (cntT_ok (d8 h5_0)) (dle16 (d8 h5_0))) (fun v J' _ h => ⟨UX.d, h, trivial⟩)
        case c24_28 =>
          refine kcast (A := ∀ (φ24 : Nat → Nat) (xs24 : Xs) (J28_24 : IM), I23.Le J28_24 → (True) → (True) → (True) → (True) → (True) → Fun Try.prog 27 #[] J28_24 (fun v J' => ∃ x : UX, v = .agg #[.bool true, .pointer none] ∧ (True))) (by kernel_rfl) ?_
          intro φ24 xs24 J28_24 leJ
          rintro _ _ _ _ _
          exact Fun.mono (tone_c) (fun v J' _ h => ⟨UX.d, h, trivial⟩)
        case c24_29 =>
          refine kcast (A := ∀ (φ24 : Nat → Nat) (xs24 : Xs) (J29_24 : IM), I23.Le J29_24 → (True) → (True) → (True) → (True) → (True) → (True) → Fun Try.prog 17 #[.agg #[.bool b5, .pointer p5], .agg #[.bool true, .pointer none]] J29_24 (fun v J' => ∃ x : UX, v = .complex .f64 (dF (widT t5 16)) (dF (cntT t5 * 65536)) ∧ (True))) (by kernel_rfl) ?_
          intro φ24 xs24 J29_24 leJ
          rintro _ _ _ _ _ _
          have h5_1 := TRep.mono leJ h5_1
          exact Fun.mono (commonO_c h5_1 (TRep.o _) (d8 h5_0)) (fun v J' _ h => ⟨UX.d, h, trivial⟩)
        case c24_31 =>
          refine kcast (A := ∀ (φ24 : Nat → Nat) (xs24 : Xs) (J31_24 : IM), I23.Le J31_24 → (True) → (True) → (True) → (True) → (True) → (True) → (True) → Fun Try.prog 16 #[.agg #[.bool b5, .pointer p5]] J31_24 (fun v J' => ∃ x : UX, v = .complex .f64 (dF (widT t5 16)) (dF (cntT t5 * 65536)) ∧ (True))) (by kernel_rfl) ?_
          intro φ24 xs24 J31_24 leJ
          rintro _ _ _ _ _ _ _
          have h5_1 := TRep.mono leJ h5_1
          exact Fun.mono (measure_c h5_1 (cntT_ok (d8 h5_0)) (dle16 (d8 h5_0))) (fun v J' _ h => ⟨UX.d, h, trivial⟩)
        case c24_35 =>
          refine kcast (A := ∀ (φ24 : Nat → Nat) (xs24 : Xs) (J35_24 : IM), I23.Le J35_24 → (True) → (True) → (True) → (True) → (True) → (True) → (True) → (True) → Fun Try.prog 28 #[] J35_24 (fun v J' => ∃ x : UX, v = .agg #[.bool false, .pointer none] ∧ (True))) (by kernel_rfl) ?_
          intro φ24 xs24 J35_24 leJ
          rintro _ _ _ _ _ _ _ _
          exact Fun.mono (tzero_c) (fun v J' _ h => ⟨UX.d, h, trivial⟩)
        case c24_37 =>
          refine kcast (A := ∀ (φ24 : Nat → Nat) (xs24 : Xs) (J37_24 : IM), I23.Le J37_24 → (True) → (True) → (True) → (True) → (True) → (True) → (True) → (True) → (True) → Fun Try.prog 17 #[.agg #[.bool false, .pointer none], .agg #[.bool b8, .pointer p8]] J37_24 (fun v J' => ∃ x : UX, v = .complex .f64 (dF 0) (dF 0) ∧ (True))) (by kernel_rfl) ?_
          intro φ24 xs24 J37_24 leJ
          rintro _ _ _ _ _ _ _ _ _
          have h8_1 := TRep.mono leJ h8_1
          exact Fun.mono (commonZ_c (TRep.z _) h8_1 (d8 h8_0)) (fun v J' _ h => ⟨UX.d, h, trivial⟩)
        case k24 =>
          rintro φ24 xs24 I24 w24 le24 s _ _ _ _ _ _ _ _ _ _
          replace hla := BSl.mono le24 hla
          replace hlb := BSl.mono le24 hlb
          replace h5_1 := TRep.mono le24 h5_1
          replace h5_2 := RT.mono le24 h5_2
          replace h8_1 := TRep.mono le24 h8_1
          replace h8_2 := RT.mono le24 h8_2
          replace h12_0 := TRep.mono le24 h12_0
          replace h16_0 := RT.mono le24 h16_0
          replace h17_0 := SpS.mono le24 h17_0
          replace h21_0 := TRep.mono le24 h21_0
          replace h21_1 := TRep.mono le24 h21_1
          refine wp_ret ?_
          refine ret_rule (C := []) [((φ6 0), .cells #[.bool b5, .pointer p5] 26), ((φ9 0), .cells #[.bool b8, .pointer p8] 26), ((φ13 0), .cells #[.bool b12, .pointer p12] 26), ((φ22 0), .cells #[.bool b21, .pointer p21] 26), ((φ22 1), .cells #[.bool d21, .pointer q21] 26)] [] (.bool true) [] [] s trivial (by kernel_rfl) ?_
          exact ⟨_, _, _, rfl, s, rfl⟩
  ·
    refine call_rule (some 32) s (sumNo_c h5_1 h8_1 (d8 h5_0) (d8 h8_0) hc11) (by kernel_rfl) ?_
    intro v25 I25 w25 le25 h25 s
    replace hla := BSl.mono le25 hla
    replace hlb := BSl.mono le25 hlb
    replace h5_1 := TRep.mono le25 h5_1
    replace h5_2 := RT.mono le25 h5_2
    replace h8_1 := TRep.mono le25 h8_1
    replace h8_2 := RT.mono le25 h8_2
    obtain ⟨b25, p25, rfl, h25_0⟩ := h25
    refine ops_rule (C := []) [((φ6 0), .cells #[.bool b5, .pointer p5] 26), ((φ9 0), .cells #[.bool b8, .pointer p8] 26)] [] 6 [.o 2, .o 2] 1 (fun φ26 => [(10, .int .i64 5), (9, .pointer (some ⟨(φ26 0), 0, none⟩)), (34, .int .i64 5), (33, .agg #[.bool b25, .pointer p25]), (29, .tuple #[.agg #[.bool b25, .pointer p25], .int .i64 5])]) (fun φ26 => [((φ6 0), .cells #[.bool b5, .pointer p5] 26), ((φ9 0), .cells #[.bool b8, .pointer p8] 26), ((φ26 0), .cells #[.bool b25, .pointer p25] 26)]) (fun φ26 => [(φ26 0), (φ26 0)]) s trivial (fun φ26 => by kernel_rfl) ?_
    intro φ26 w26 s
    refine ops_done (by kernel_rfl) ?_
    refine wp_seq ?_
    refine wp_seq ?_
    refine draw_rule (C := []) ⟨(fun φ27 xs27 => [.look 0 [] [], .look 0 [] [], .look 0 [] [], .skip, .skip, .skip, .skip, .skip, .skip, .skip, .skip, .skip, .skip, .skip, .look 0 [] []]), (fun φ27 xs27 => [.int .i64 5, .bool false, .bool false, undef, undef, undef, undef, undef, undef, undef, undef, undef, undef, undef, .bool false]), (fun φ27 xs27 => [[((φ6 0), .cells #[.bool b5, .pointer p5] 26), ((φ9 0), .cells #[.bool b8, .pointer p8] 26), ((φ26 0), .cells #[.bool b25, .pointer p25] 26)]]), (fun φ27 xs27 => [[default, default, default, default, default, default, default, default, default, default, default, default, default, default, default]]), [], [1, 1, 1, 0, 0, 0, 0, 0, 0, 0, 0, 0, 0, 0, 1]⟩ (fun j => ([MP.any, MP.any, MP.any, MP.any, MP.any, MP.any, MP.any, MP.any, MP.any, MP.any, MP.any, MP.any, MP.any, MP.any, MP.any] : List MP).getD j MP.any) [] [] [] (fun φ27 xs27 => []) (fun φ27 xs27 => [(35, .int .i64 5), (36, .bool false), (37, .bool false), (38, undef), (39, undef), (40, undef), (41, undef), (42, undef), (43, undef), (44, undef), (45, undef), (46, undef), (47, undef), (48, undef), (49, .bool false)]) (fun φ27 xs27 => [((φ6 0), .cells #[.bool b5, .pointer p5] 26), ((φ9 0), .cells #[.bool b8, .pointer p8] 26), ((φ26 0), .cells #[.bool b25, .pointer p25] 26)]) s trivial (by kernel_rfl) (by kernel_rfl) (fun _ _ => by kernel_rfl) (fun _ _ => by kernel_rfl) ⟨fun _ _ => by kernel_rfl, fun _ _ => by kernel_rfl, fun _ _ => by kernel_rfl, fun _ _ => by kernel_rfl⟩ (fun _ _ _ => by kernel_rfl) (fun _ _ => by kernel_rfl) (fun _ _ => by kernel_rfl) (fun _ _ => by kernel_rfl) (fun _ _ => by kernel_rfl) (fun _ _ => by kernel_rfl) trivial trivial (by kernel_rfl) trivial ?k27
    case k27 =>
      rintro φ27 xs27 I27 w27 le27 s 
      replace hla := BSl.mono le27 hla
      replace hlb := BSl.mono le27 hlb
      replace h5_1 := TRep.mono le27 h5_1
      replace h5_2 := RT.mono le27 h5_2
      replace h8_1 := TRep.mono le27 h8_1
      replace h8_2 := RT.mono le27 h8_2
      replace h25_0 := TRep.mono le27 h25_0
      refine cond_false_rule (b := false) (by kernel_rfl) rfl ?_
      refine wp_skip ?_
      refine wp_seq ?_
      refine region_rule ?_
      refine ops_rule (C := []) [((φ6 0), .cells #[.bool b5, .pointer p5] 26), ((φ9 0), .cells #[.bool b8, .pointer p8] 26), ((φ26 0), .cells #[.bool b25, .pointer p25] 26)] [] 2 [] 0 (fun φ28 => [(51, .pointer (some ⟨k8, 0, none⟩)), (50, .pointer (some ⟨k5, 0, none⟩))]) (fun φ28 => [((φ6 0), .cells #[.bool b5, .pointer p5] 26), ((φ9 0), .cells #[.bool b8, .pointer p8] 26), ((φ26 0), .cells #[.bool b25, .pointer p25] 26)]) (fun φ28 => []) s trivial (fun φ28 => by kernel_rfl) ?_
      intro φ28 w28 s
      refine call_rule (some 52) s (rboth_c t5 t8 h5_2 h8_2) (by kernel_rfl) ?_
      intro v29 I29 w29 le29 h29 s
      replace hla := BSl.mono le29 hla
      replace hlb := BSl.mono le29 hlb
      replace h5_1 := TRep.mono le29 h5_1
      replace h5_2 := RT.mono le29 h5_2
      replace h8_1 := TRep.mono le29 h8_1
      replace h8_2 := RT.mono le29 h8_2
      replace h25_0 := TRep.mono le29 h25_0
      obtain ⟨k29, rfl, h29_0⟩ := h29
      refine call_rule (some 53) s (rs0N_c (bothT t5 t8) h29_0 (cntT_ok (both_d8 (d8 h5_0) (d8 h8_0))) (dle16 (both_d8 (d8 h5_0) (d8 h8_0)))) (by kernel_rfl) ?_
      intro v30 I30 w30 le30 h30 s
      replace hla := BSl.mono le30 hla
      replace hlb := BSl.mono le30 hlb
      replace h5_1 := TRep.mono le30 h5_1
      replace h5_2 := RT.mono le30 h5_2
      replace h8_1 := TRep.mono le30 h8_1
      replace h8_2 := RT.mono le30 h8_2
      replace h25_0 := TRep.mono le30 h25_0
      replace h29_0 := RT.mono le30 h29_0
      obtain ⟨a30, c30, rfl, h30_0⟩ := h30
      refine call_rule (some 54) s (rwideT_c h30_0 (dle16 (both_d8 (d8 h5_0) (d8 h8_0))) (cntT_ok (both_d8 (d8 h5_0) (d8 h8_0)))) (by kernel_rfl) ?_
      intro v31 I31 w31 le31 h31 s
      replace hla := BSl.mono le31 hla
      replace hlb := BSl.mono le31 hlb
      replace h5_1 := TRep.mono le31 h5_1
      replace h5_2 := RT.mono le31 h5_2
      replace h8_1 := TRep.mono le31 h8_1
      replace h8_2 := RT.mono le31 h8_2
      replace h25_0 := TRep.mono le31 h25_0
      replace h29_0 := RT.mono le31 h29_0
      replace h30_0 := SpS.mono le31 h30_0
      obtain rfl := h31
      refine ops_rule (C := []) [((φ6 0), .cells #[.bool b5, .pointer p5] 26), ((φ9 0), .cells #[.bool b8, .pointer p8] 26), ((φ26 0), .cells #[.bool b25, .pointer p25] 26)] [] 1 [] 0 (fun φ32 => [(11, .int .u64 ((widT (bothT t5 t8) 16 : Nat) : Int))]) (fun φ32 => [((φ6 0), .cells #[.bool b5, .pointer p5] 26), ((φ9 0), .cells #[.bool b8, .pointer p8] 26), ((φ26 0), .cells #[.bool b25, .pointer p25] 26)]) (fun φ32 => []) s trivial (fun φ32 => by kernel_rfl) ?_
      intro φ32 w32 s
      refine ops_done (by kernel_rfl) ?_
      refine wp_seq ?_
      refine region_rule ?_
      refine ops_rule (C := []) [((φ6 0), .cells #[.bool b5, .pointer p5] 26), ((φ9 0), .cells #[.bool b8, .pointer p8] 26), ((φ26 0), .cells #[.bool b25, .pointer p25] 26)] [] 1 [.o 1, .o 1] 0 (fun φ33 => [(56, .agg #[.bool b8, .pointer p8])]) (fun φ33 => [((φ6 0), .cells #[.bool b5, .pointer p5] 26), ((φ9 0), .cells #[.bool b8, .pointer p8] 26), ((φ26 0), .cells #[.bool b25, .pointer p25] 26)]) (fun φ33 => [(φ9 0), (φ9 0)]) s trivial (fun φ33 => by kernel_rfl) ?_
      intro φ33 w33 s
      refine call_rule (some 57) s (splitOk_c h8_1 (d15 h8_0)) (by kernel_rfl) ?_
      intro v34 I34 w34 le34 h34 s
      replace hla := BSl.mono le34 hla
      replace hlb := BSl.mono le34 hlb
      replace h5_1 := TRep.mono le34 h5_1
      replace h5_2 := RT.mono le34 h5_2
      replace h8_1 := TRep.mono le34 h8_1
      replace h8_2 := RT.mono le34 h8_2
      replace h25_0 := TRep.mono le34 h25_0
      replace h29_0 := RT.mono le34 h29_0
      replace h30_0 := SpS.mono le34 h30_0
      obtain ⟨b34, p34, d34, q34, rfl, h34_0, h34_1⟩ := h34
      refine ops_rule (C := []) [((φ6 0), .cells #[.bool b5, .pointer p5] 26), ((φ9 0), .cells #[.bool b8, .pointer p8] 26), ((φ26 0), .cells #[.bool b25, .pointer p25] 26)] [] 9 [.o 3, .o 3, .o 4, .o 4] 2 (fun φ35 => [(14, .int .i64 0), (13, .pointer (some ⟨(φ35 1), 0, none⟩)), (12, .pointer (some ⟨(φ35 0), 0, none⟩)), (60, .int .i64 0), (59, .agg #[.bool d34, .pointer q34]), (58, .agg #[.bool b34, .pointer p34]), (55, .tuple #[.agg #[.bool b34, .pointer p34], .agg #[.bool d34, .pointer q34], .int .i64 0])]) (fun φ35 => [((φ6 0), .cells #[.bool b5, .pointer p5] 26), ((φ9 0), .cells #[.bool b8, .pointer p8] 26), ((φ26 0), .cells #[.bool b25, .pointer p25] 26), ((φ35 0), .cells #[.bool b34, .pointer p34] 26), ((φ35 1), .cells #[.bool d34, .pointer q34] 26)]) (fun φ35 => [(φ35 0), (φ35 0), (φ35 1), (φ35 1)]) s trivial (fun φ35 => by kernel_rfl) ?_
      intro φ35 w35 s
      refine ops_done (by kernel_rfl) ?_
      refine wp_seq ?_
      refine draw_rule (C := []) ⟨(fun φ36 xs36 => [.look 0 [.o 0, .o 0] [(φ6 0), (φ6 0)], .look 0 [.o 3, .o 3] [(φ35 0), (φ35 0)], .call 17 #[.agg #[.bool b5, .pointer p5], .agg #[.bool b34, .pointer p34]], .look 0 [.o 0, .o 0] [(φ6 0), (φ6 0)], .look 0 [.o 4, .o 4] [(φ35 1), (φ35 1)], .call 17 #[.agg #[.bool b5, .pointer p5], .agg #[.bool d34, .pointer q34]], .look 0 [] [], .look 0 [] []]), (fun φ36 xs36 => [.agg #[.bool b5, .pointer p5], .agg #[.bool b34, .pointer p34], .complex .f64 (dF (widT (bothT t5 (cutT t8).1) 16)) (dF (cntT (bothT t5 (cutT t8).1) * 65536)), .agg #[.bool b5, .pointer p5], .agg #[.bool d34, .pointer q34], .complex .f64 (dF (widT (bothT t5 (cutT t8).2) 16)) (dF (cntT (bothT t5 (cutT t8).2) * 65536)), .complex .f64 (dF (widT (bothT t5 (cutT t8).1) 16)) (dF (cntT (bothT t5 (cutT t8).1) * 65536)), .complex .f64 (dF (widT (bothT t5 (cutT t8).2) 16)) (dF (cntT (bothT t5 (cutT t8).2) * 65536))]), (fun φ36 xs36 => [[((φ6 0), .cells #[.bool b5, .pointer p5] 26), ((φ9 0), .cells #[.bool b8, .pointer p8] 26), ((φ26 0), .cells #[.bool b25, .pointer p25] 26), ((φ35 0), .cells #[.bool b34, .pointer p34] 26), ((φ35 1), .cells #[.bool d34, .pointer q34] 26)]]), (fun φ36 xs36 => [[default, default, default, default, default, default, default, default]]), [], [1, 1, 3, 1, 1, 3, 1, 1]⟩ (fun j => ([MP.any, MP.any, MP.any, MP.any, MP.any, MP.any, MP.any, MP.any] : List MP).getD j MP.any) [2, 5] [] [] (fun φ36 xs36 => []) (fun φ36 xs36 => [(61, .agg #[.bool b5, .pointer p5]), (62, .agg #[.bool b34, .pointer p34]), (63, .complex .f64 (dF (widT (bothT t5 (cutT t8).1) 16)) (dF (cntT (bothT t5 (cutT t8).1) * 65536))), (64, .agg #[.bool b5, .pointer p5]), (65, .agg #[.bool d34, .pointer q34]), (66, .complex .f64 (dF (widT (bothT t5 (cutT t8).2) 16)) (dF (cntT (bothT t5 (cutT t8).2) * 65536))), (15, .complex .f64 (dF (widT (bothT t5 (cutT t8).1) 16)) (dF (cntT (bothT t5 (cutT t8).1) * 65536))), (16, .complex .f64 (dF (widT (bothT t5 (cutT t8).2) 16)) (dF (cntT (bothT t5 (cutT t8).2) * 65536)))]) (fun φ36 xs36 => [((φ6 0), .cells #[.bool b5, .pointer p5] 26), ((φ9 0), .cells #[.bool b8, .pointer p8] 26), ((φ26 0), .cells #[.bool b25, .pointer p25] 26), ((φ35 0), .cells #[.bool b34, .pointer p34] 26), ((φ35 1), .cells #[.bool d34, .pointer q34] 26)]) s trivial (by kernel_rfl) (by kernel_rfl) (fun _ _ => by kernel_rfl) (fun _ _ => by kernel_rfl) ⟨fun _ _ => by kernel_rfl, fun _ _ => by kernel_rfl, fun _ _ => by kernel_rfl, fun _ _ => by kernel_rfl⟩ (fun _ _ _ => by kernel_rfl) (fun _ _ => by kernel_rfl) (fun _ _ => by kernel_rfl) (fun _ _ => by kernel_rfl) (fun _ _ => by kernel_rfl) (fun _ _ => by kernel_rfl) trivial trivial (by kernel_rfl) ⟨?c36_2, ?c36_5, trivial⟩ ?k36
      case c36_2 =>
        refine kcast (A := ∀ (φ36 : Nat → Nat) (xs36 : Xs) (J2_36 : IM), I34.Le J2_36 → Fun Try.prog 17 #[.agg #[.bool b5, .pointer p5], .agg #[.bool b34, .pointer p34]] J2_36 (fun v J' => ∃ x : UX, v = .complex .f64 (dF (widT (bothT t5 (cutT t8).1) 16)) (dF (cntT (bothT t5 (cutT t8).1) * 65536)) ∧ (True))) (by kernel_rfl) ?_
        intro φ36 xs36 J2_36 leJ
        have h5_1 := TRep.mono leJ h5_1
        have h34_0 := TRep.mono leJ h34_0
        exact Fun.mono (common_c h5_1 h34_0 (cntT_ok (both_d8 (d8 h5_0) (cut1_d8 h8_0))) (dle16 (d8 h5_0)) (dle16 (cut1_d8 h8_0))) (fun v J' _ h => ⟨UX.d, h, trivial⟩)
      case c36_5 =>
        refine kcast (A := ∀ (φ36 : Nat → Nat) (xs36 : Xs) (J5_36 : IM), I34.Le J5_36 → (True) → Fun Try.prog 17 #[.agg #[.bool b5, .pointer p5], .agg #[.bool d34, .pointer q34]] J5_36 (fun v J' => ∃ x : UX, v = .complex .f64 (dF (widT (bothT t5 (cutT t8).2) 16)) (dF (cntT (bothT t5 (cutT t8).2) * 65536)) ∧ (True))) (by kernel_rfl) ?_
        intro φ36 xs36 J5_36 leJ
        rintro _
        have h5_1 := TRep.mono leJ h5_1
        have h34_1 := TRep.mono leJ h34_1
        exact Fun.mono (common_c h5_1 h34_1 (cntT_ok (both_d8 (d8 h5_0) (cut2_d8 h8_0))) (dle16 (d8 h5_0)) (dle16 (cut2_d8 h8_0))) (fun v J' _ h => ⟨UX.d, h, trivial⟩)
      case k36 =>
        rintro φ36 xs36 I36 w36 le36 s _ _
        replace hla := BSl.mono le36 hla
        replace hlb := BSl.mono le36 hlb
        replace h5_1 := TRep.mono le36 h5_1
        replace h5_2 := RT.mono le36 h5_2
        replace h8_1 := TRep.mono le36 h8_1
        replace h8_2 := RT.mono le36 h8_2
        replace h25_0 := TRep.mono le36 h25_0
        replace h29_0 := RT.mono le36 h29_0
        replace h30_0 := SpS.mono le36 h30_0
        replace h34_0 := TRep.mono le36 h34_0
        replace h34_1 := TRep.mono le36 h34_1
        refine wp_seq ?_
        refine draw_rule (C := []) ⟨(fun φ37 xs37 => [.look 0 [.o 0, .o 0] [(φ6 0), (φ6 0)], .look 0 [.o 1, .o 1] [(φ9 0), (φ9 0)], .call 17 #[.agg #[.bool b5, .pointer p5], .agg #[.bool b8, .pointer p8]], .ran (Builtin.real_ #[35] 37 #[.complex .f64 (dF (widT (bothT t5 t8) 16)) (dF (cntT (bothT t5 t8) * 65536))]), .look 0 [] [], .call 12 #[.float .f64 (dF (widT (bothT t5 t8) 16)), .int .u64 ((widT (bothT t5 t8) 16 : Nat) : Int)], .look 0 [] [], .look 0 [] [], .ran (Builtin.real_ #[35] 37 #[.complex .f64 (dF (widT (bothT t5 (cutT t8).1) 16)) (dF (cntT (bothT t5 (cutT t8).1) * 65536))]), .look 0 [] [], .ran (Builtin.real_ #[35] 37 #[.complex .f64 (dF (widT (bothT t5 (cutT t8).2) 16)) (dF (cntT (bothT t5 (cutT t8).2) * 65536))]), .ran (binOp .add 37 (.float .f64 (dF (widT (bothT t5 (cutT t8).1) 16))) (.float .f64 (dF (widT (bothT t5 (cutT t8).2) 16)))), .look 0 [.o 0, .o 0] [(φ6 0), (φ6 0)], .look 0 [.o 1, .o 1] [(φ9 0), (φ9 0)], .call 17 #[.agg #[.bool b5, .pointer p5], .agg #[.bool b8, .pointer p8]], .ran (Builtin.real_ #[35] 37 #[.complex .f64 (dF (widT (bothT t5 t8) 16)) (dF (cntT (bothT t5 t8) * 65536))]), .ran (binOp .eql 37 (.float .f64 (dF ((widT (bothT t5 (cutT t8).1) 16) + (widT (bothT t5 (cutT t8).2) 16)))) (.float .f64 (dF (widT (bothT t5 t8) 16)))), .look 0 [] [], .look 0 [] [], .look 0 [.o 0, .o 0] [(φ6 0), (φ6 0)], .look 0 [.o 0, .o 0] [(φ6 0), (φ6 0)], .call 17 #[.agg #[.bool b5, .pointer p5], .agg #[.bool b5, .pointer p5]], .look 0 [.o 0, .o 0] [(φ6 0), (φ6 0)], .call 16 #[.agg #[.bool b5, .pointer p5]], .ran (binOp .eql 35 (.complex .f64 (dF (widT t5 16)) (dF (cntT t5 * 65536))) (.complex .f64 (dF (widT t5 16)) (dF (cntT t5 * 65536)))), .look 0 [] [], .look 0 [] [], .look 0 [.o 0, .o 0] [(φ6 0), (φ6 0)], .call 27 #[], .call 17 #[.agg #[.bool b5, .pointer p5], .agg #[.bool true, .pointer none]], .look 0 [.o 0, .o 0] [(φ6 0), (φ6 0)], .call 16 #[.agg #[.bool b5, .pointer p5]], .ran (binOp .eql 35 (.complex .f64 (dF (widT t5 16)) (dF (cntT t5 * 65536))) (.complex .f64 (dF (widT t5 16)) (dF (cntT t5 * 65536)))), .look 0 [] [], .look 0 [] [], .call 28 #[], .look 0 [.o 1, .o 1] [(φ9 0), (φ9 0)], .call 17 #[.agg #[.bool false, .pointer none], .agg #[.bool b8, .pointer p8]], .ran (binOp .eql 35 (.complex .f64 (dF 0) (dF 0)) (.complex .f64 0 0)), .look 0 [] [], .look 0 [] []]), (fun φ37 xs37 => [.agg #[.bool b5, .pointer p5], .agg #[.bool b8, .pointer p8], .complex .f64 (dF (widT (bothT t5 t8) 16)) (dF (cntT (bothT t5 t8) * 65536)), .float .f64 (dF (widT (bothT t5 t8) 16)), .int .u64 ((widT (bothT t5 t8) 16 : Nat) : Int), .bool true, .bool true, .complex .f64 (dF (widT (bothT t5 (cutT t8).1) 16)) (dF (cntT (bothT t5 (cutT t8).1) * 65536)), .float .f64 (dF (widT (bothT t5 (cutT t8).1) 16)), .complex .f64 (dF (widT (bothT t5 (cutT t8).2) 16)) (dF (cntT (bothT t5 (cutT t8).2) * 65536)), .float .f64 (dF (widT (bothT t5 (cutT t8).2) 16)), .float .f64 (dF ((widT (bothT t5 (cutT t8).1) 16) + (widT (bothT t5 (cutT t8).2) 16))), .agg #[.bool b5, .pointer p5], .agg #[.bool b8, .pointer p8], .complex .f64 (dF (widT (bothT t5 t8) 16)) (dF (cntT (bothT t5 t8) * 65536)), .float .f64 (dF (widT (bothT t5 t8) 16)), .bool true, .bool true, .bool true, .agg #[.bool b5, .pointer p5], .agg #[.bool b5, .pointer p5], .complex .f64 (dF (widT t5 16)) (dF (cntT t5 * 65536)), .agg #[.bool b5, .pointer p5], .complex .f64 (dF (widT t5 16)) (dF (cntT t5 * 65536)), .bool true, .bool true, .bool true, .agg #[.bool b5, .pointer p5], .agg #[.bool true, .pointer none], .complex .f64 (dF (widT t5 16)) (dF (cntT t5 * 65536)), .agg #[.bool b5, .pointer p5], .complex .f64 (dF (widT t5 16)) (dF (cntT t5 * 65536)), .bool true, .bool true, .bool true, .agg #[.bool false, .pointer none], .agg #[.bool b8, .pointer p8], .complex .f64 (dF 0) (dF 0), .bool true, .bool true, .bool true]), (fun φ37 xs37 => [[((φ6 0), .cells #[.bool b5, .pointer p5] 26), ((φ9 0), .cells #[.bool b8, .pointer p8] 26), ((φ26 0), .cells #[.bool b25, .pointer p25] 26), ((φ35 0), .cells #[.bool b34, .pointer p34] 26), ((φ35 1), .cells #[.bool d34, .pointer q34] 26)]]), (fun φ37 xs37 => [[default, default, default, default, default, default, default, default, default, default, default, default, default, default, default, default, default, default, default, default, default, default, default, default, default, default, default, default, default, default, default, default, default, default, default, default, default, default, default, default, default]]), [], [1, 1, 3, 6, 1, 3, 1, 1, 6, 1, 6, 6, 1, 1, 3, 6, 6, 1, 1, 1, 1, 3, 1, 3, 6, 1, 1, 1, 3, 3, 1, 3, 6, 1, 1, 3, 1, 3, 6, 1, 1]⟩ (fun j => ([MP.any, MP.any, MP.any, MP.any, MP.any, MP.any, MP.any, MP.any, MP.any, MP.any, MP.any, MP.any, MP.any, MP.any, MP.any, MP.any, MP.any, MP.any, MP.any, MP.any, MP.any, MP.any, MP.any, MP.any, MP.any, MP.any, MP.any, MP.any, MP.any, MP.any, MP.any, MP.any, MP.any, MP.any, MP.any, MP.any, MP.any, MP.any, MP.any, MP.any, MP.any] : List MP).getD j MP.any) [2, 5, 14, 21, 23, 28, 29, 31, 35, 37] [] [3, 8, 10, 11, 15, 16, 24, 32, 38] (fun φ37 xs37 => []) (fun φ37 xs37 => [(67, .agg #[.bool b5, .pointer p5]), (68, .agg #[.bool b8, .pointer p8]), (69, .complex .f64 (dF (widT (bothT t5 t8) 16)) (dF (cntT (bothT t5 t8) * 65536))), (70, .float .f64 (dF (widT (bothT t5 t8) 16))), (71, .int .u64 ((widT (bothT t5 t8) 16 : Nat) : Int)), (72, .bool true), (73, .bool true), (74, .complex .f64 (dF (widT (bothT t5 (cutT t8).1) 16)) (dF (cntT (bothT t5 (cutT t8).1) * 65536))), (75, .float .f64 (dF (widT (bothT t5 (cutT t8).1) 16))), (76, .complex .f64 (dF (widT (bothT t5 (cutT t8).2) 16)) (dF (cntT (bothT t5 (cutT t8).2) * 65536))), (77, .float .f64 (dF (widT (bothT t5 (cutT t8).2) 16))), (78, .float .f64 (dF ((widT (bothT t5 (cutT t8).1) 16) + (widT (bothT t5 (cutT t8).2) 16)))), (79, .agg #[.bool b5, .pointer p5]), (80, .agg #[.bool b8, .pointer p8]), (81, .complex .f64 (dF (widT (bothT t5 t8) 16)) (dF (cntT (bothT t5 t8) * 65536))), (82, .float .f64 (dF (widT (bothT t5 t8) 16))), (83, .bool true), (84, .bool true), (85, .bool true), (86, .agg #[.bool b5, .pointer p5]), (87, .agg #[.bool b5, .pointer p5]), (88, .complex .f64 (dF (widT t5 16)) (dF (cntT t5 * 65536))), (89, .agg #[.bool b5, .pointer p5]), (90, .complex .f64 (dF (widT t5 16)) (dF (cntT t5 * 65536))), (91, .bool true), (92, .bool true), (93, .bool true), (94, .agg #[.bool b5, .pointer p5]), (95, .agg #[.bool true, .pointer none]), (96, .complex .f64 (dF (widT t5 16)) (dF (cntT t5 * 65536))), (97, .agg #[.bool b5, .pointer p5]), (98, .complex .f64 (dF (widT t5 16)) (dF (cntT t5 * 65536))), (99, .bool true), (100, .bool true), (101, .bool true), (102, .agg #[.bool false, .pointer none]), (103, .agg #[.bool b8, .pointer p8]), (104, .complex .f64 (dF 0) (dF 0)), (105, .bool true), (106, .bool true), (4, .bool true)]) (fun φ37 xs37 => [((φ6 0), .cells #[.bool b5, .pointer p5] 26), ((φ9 0), .cells #[.bool b8, .pointer p8] 26), ((φ26 0), .cells #[.bool b25, .pointer p25] 26), ((φ35 0), .cells #[.bool b34, .pointer p34] 26), ((φ35 1), .cells #[.bool d34, .pointer q34] 26)]) s trivial (by kernel_rfl) (by kernel_rfl) (fun _ _ => by kernel_rfl) (fun _ _ => by kernel_rfl) ⟨fun _ _ => by kernel_rfl, fun _ _ => by kernel_rfl, fun _ _ => by kernel_rfl, fun _ _ => by kernel_rfl⟩ (fun _ _ _ => by kernel_rfl) (fun _ _ => by kernel_rfl) (fun _ _ => by kernel_rfl) (fun _ _ => by kernel_rfl) (fun _ _ => by kernel_rfl) (fun _ _ => by kernel_rfl) trivial ⟨kcast (A := ∀ (φ37 : Nat → Nat) (xs37 : Xs) (J : IM) (w : World), I36.Le J → J.Sub w → ((Builtin.real_ #[35] 37 #[.complex .f64 (dF (widT (bothT t5 t8) 16)) (dF (cntT (bothT t5 t8) * 65536))]) : Sem Value).run Try.prog w = .ok (.float .f64 (dF (widT (bothT t5 t8) 16))) w) (by kernel_rfl) (fun φ37 xs37 J w hJ hS => (by kernel_rfl)), ⟨kcast (A := ∀ (φ37 : Nat → Nat) (xs37 : Xs) (J : IM) (w : World), I36.Le J → J.Sub w → ((Builtin.real_ #[35] 37 #[.complex .f64 (dF (widT (bothT t5 (cutT t8).1) 16)) (dF (cntT (bothT t5 (cutT t8).1) * 65536))]) : Sem Value).run Try.prog w = .ok (.float .f64 (dF (widT (bothT t5 (cutT t8).1) 16))) w) (by kernel_rfl) (fun φ37 xs37 J w hJ hS => (by kernel_rfl)), ⟨kcast (A := ∀ (φ37 : Nat → Nat) (xs37 : Xs) (J : IM) (w : World), I36.Le J → J.Sub w → ((Builtin.real_ #[35] 37 #[.complex .f64 (dF (widT (bothT t5 (cutT t8).2) 16)) (dF (cntT (bothT t5 (cutT t8).2) * 65536))]) : Sem Value).run Try.prog w = .ok (.float .f64 (dF (widT (bothT t5 (cutT t8).2) 16))) w) (by kernel_rfl) (fun φ37 xs37 J w hJ hS => (by kernel_rfl)), ⟨kcast (A := ∀ (φ37 : Nat → Nat) (xs37 : Xs) (J : IM) (w : World), I36.Le J → J.Sub w → ((binOp .add 37 (.float .f64 (dF (widT (bothT t5 (cutT t8).1) 16))) (.float .f64 (dF (widT (bothT t5 (cutT t8).2) 16)))) : Sem Value).run Try.prog w = .ok (.float .f64 (dF ((widT (bothT t5 (cutT t8).1) 16) + (widT (bothT t5 (cutT t8).2) 16)))) w) (by kernel_rfl) (fun φ37 xs37 J w hJ hS => run_addF (wsum_53 (both_d8 (d8 h5_0) (cut1_d8 h8_0)) (both_d8 (d8 h5_0) (cut2_d8 h8_0)))), ⟨kcast (A := ∀ (φ37 : Nat → Nat) (xs37 : Xs) (J : IM) (w : World), I36.Le J → J.Sub w → ((Builtin.real_ #[35] 37 #[.complex .f64 (dF (widT (bothT t5 t8) 16)) (dF (cntT (bothT t5 t8) * 65536))]) : Sem Value).run Try.prog w = .ok (.float .f64 (dF (widT (bothT t5 t8) 16))) w) (by kernel_rfl) (fun φ37 xs37 J w hJ hS => (by kernel_rfl)), ⟨kcast (A := ∀ (φ37 : Nat → Nat) (xs37 : Xs) (J : IM) (w : World), I36.Le J → J.Sub w → ((binOp .eql 37 (.float .f64 (dF ((widT (bothT t5 (cutT t8).1) 16) + (widT (bothT t5 (cutT t8).2) 16)))) (.float .f64 (dF (widT (bothT t5 t8) 16)))) : Sem Value).run Try.prog w = .ok (.bool true) w) (by kernel_rfl) (fun φ37 xs37 J w hJ hS => run_eqF2 (wsum_53 (both_d8 (d8 h5_0) (cut1_d8 h8_0)) (both_d8 (d8 h5_0) (cut2_d8 h8_0))) (wid_both_cut (dle16 (d8 h5_0)) (d17 h8_0) h8_0.1)), ⟨kcast (A := ∀ (φ37 : Nat → Nat) (xs37 : Xs) (J : IM) (w : World), I36.Le J → J.Sub w → ((binOp .eql 35 (.complex .f64 (dF (widT t5 16)) (dF (cntT t5 * 65536))) (.complex .f64 (dF (widT t5 16)) (dF (cntT t5 * 65536)))) : Sem Value).run Try.prog w = .ok (.bool true) w) (by kernel_rfl) (fun φ37 xs37 J w hJ hS => run_eqC2 (wid_53 (d8 h5_0)) (cnt_53 (d8 h5_0))), ⟨kcast (A := ∀ (φ37 : Nat → Nat) (xs37 : Xs) (J : IM) (w : World), I36.Le J → J.Sub w → ((binOp .eql 35 (.complex .f64 (dF (widT t5 16)) (dF (cntT t5 * 65536))) (.complex .f64 (dF (widT t5 16)) (dF (cntT t5 * 65536)))) : Sem Value).run Try.prog w = .ok (.bool true) w) (by kernel_rfl) (fun φ37 xs37 J w hJ hS => run_eqC2 (wid_53 (d8 h5_0)) (cnt_53 (d8 h5_0))), ⟨kcast (A := ∀ (φ37 : Nat → Nat) (xs37 : Xs) (J : IM) (w : World), I36.Le J → J.Sub w → ((binOp .eql 35 (.complex .f64 (dF 0) (dF 0)) (.complex .f64 0 0)) : Sem Value).run Try.prog w = .ok (.bool true) w) (by kernel_rfl) (fun φ37 xs37 J w hJ hS => run_eqC0), trivial⟩⟩⟩⟩⟩⟩⟩⟩⟩ (by kernel_rfl) ⟨?c37_2, ?c37_5, ?c37_14, ?c37_21, ?c37_23, ?c37_28, ?c37_29, ?c37_31, ?c37_35, ?c37_37, trivial⟩ ?k37
        case c37_2 =>
          refine kcast (A := ∀ (φ37 : Nat → Nat) (xs37 : Xs) (J2_37 : IM), I36.Le J2_37 → Fun Try.prog 17 #[.agg #[.bool b5, .pointer p5], .agg #[.bool b8, .pointer p8]] J2_37 (fun v J' => ∃ x : UX, v = .complex .f64 (dF (widT (bothT t5 t8) 16)) (dF (cntT (bothT t5 t8) * 65536)) ∧ (True))) (by kernel_rfl) ?_
          intro φ37 xs37 J2_37 leJ
          have h5_1 := TRep.mono leJ h5_1
          have h8_1 := TRep.mono leJ h8_1
          exact Fun.mono (common_c h5_1 h8_1 (cntT_ok (both_d8 (d8 h5_0) (d8 h8_0))) (dle16 (d8 h5_0)) (dle16 (d8 h8_0))) (fun v J' _ h => ⟨UX.d, h, trivial⟩)
        case c37_5 =>
          refine kcast (A := ∀ (φ37 : Nat → Nat) (xs37 : Xs) (J5_37 : IM), I36.Le J5_37 → (True) → Fun Try.prog 12 #[.float .f64 (dF (widT (bothT t5 t8) 16)), .int .u64 ((widT (bothT t5 t8) 16 : Nat) : Int)] J5_37 (fun v J' => ∃ x : UX, v = .bool true ∧ (True))) (by kernel_rfl) ?_
          intro φ37 xs37 J5_37 leJ
          rintro _
          exact Fun.mono (is_c (n := widT (bothT t5 t8) 16) (wid_e8 (both_d8 (d8 h5_0) (d8 h8_0)))) (fun v J' _ h => ⟨UX.d, h, trivial⟩)
        case c37_14 =>
          refine kcast (A := ∀ (φ37 : Nat → Nat) (xs37 : Xs) (J14_37 : IM), I36.Le J14_37 → (True) → (True) → Fun Try.prog 17 #[.agg #[.bool b5, .pointer p5], .agg #[.bool b8, .pointer p8]] J14_37 (fun v J' => ∃ x : UX, v = .complex .f64 (dF (widT (bothT t5 t8) 16)) (dF (cntT (bothT t5 t8) * 65536)) ∧ (True))) (by kernel_rfl) ?_
          intro φ37 xs37 J14_37 leJ
          rintro _ _
          have h5_1 := TRep.mono leJ h5_1
          have h8_1 := TRep.mono leJ h8_1
          exact Fun.mono (common_c h5_1 h8_1 (cntT_ok (both_d8 (d8 h5_0) (d8 h8_0))) (dle16 (d8 h5_0)) (dle16 (d8 h8_0))) (fun v J' _ h => ⟨UX.d, h, trivial⟩)
        case c37_21 =>
          refine kcast (A := ∀ (φ37 : Nat → Nat) (xs37 : Xs) (J21_37 : IM), I36.Le J21_37 → (True) → (True) → (True) → Fun Try.prog 17 #[.agg #[.bool b5, .pointer p5], .agg #[.bool b5, .pointer p5]] J21_37 (fun v J' => ∃ x : UX, v = .complex .f64 (dF (widT t5 16)) (dF (cntT t5 * 65536)) ∧ (True))) (by kernel_rfl) ?_
          intro φ37 xs37 J21_37 leJ
          rintro _ _ _
          have h5_1 := TRep.mono leJ h5_1
          exact Fun.mono (commonS_c h5_1 h5_1 (d8 h5_0) h5_0.1) (fun v J' _ h => ⟨UX.d, h, trivial⟩)
        case c37_23 =>
          refine kcast (A := ∀ (φ37 : Nat → Nat) (xs37 : Xs) (J23_37 : IM), I36.Le J23_37 → (True) → (True) → (True) → (True) → Fun Try.prog 16 #[.agg #[.bool b5, .pointer p5]] J23_37 (fun v J' => ∃ x : UX, v = .complex .f64 (dF (widT t5 16)) (dF (cntT t5 * 65536)) ∧ (True))) (by kernel_rfl) ?_
          intro φ37 xs37 J23_37 leJ
          rintro _ _ _ _
          have h5_1 := TRep.mono leJ h5_1
          exact Fun.mono (measure_c h5_1 (cntT_ok (d8 h5_0)) (dle16 (d8 h5_0))) (fun v J' _ h => ⟨UX.d, h, trivial⟩)
        case c37_28 =>
          refine kcast (A := ∀ (φ37 : Nat → Nat) (xs37 : Xs) (J28_37 : IM), I36.Le J28_37 → (True) → (True) → (True) → (True) → (True) → Fun Try.prog 27 #[] J28_37 (fun v J' => ∃ x : UX, v = .agg #[.bool true, .pointer none] ∧ (True))) (by kernel_rfl) ?_
          intro φ37 xs37 J28_37 leJ
          rintro _ _ _ _ _
          exact Fun.mono (tone_c) (fun v J' _ h => ⟨UX.d, h, trivial⟩)
        case c37_29 =>
          refine kcast (A := ∀ (φ37 : Nat → Nat) (xs37 : Xs) (J29_37 : IM), I36.Le J29_37 → (True) → (True) → (True) → (True) → (True) → (True) → Fun Try.prog 17 #[.agg #[.bool b5, .pointer p5], .agg #[.bool true, .pointer none]] J29_37 (fun v J' => ∃ x : UX, v = .complex .f64 (dF (widT t5 16)) (dF (cntT t5 * 65536)) ∧ (True))) (by kernel_rfl) ?_
          intro φ37 xs37 J29_37 leJ
          rintro _ _ _ _ _ _
          have h5_1 := TRep.mono leJ h5_1
          exact Fun.mono (commonO_c h5_1 (TRep.o _) (d8 h5_0)) (fun v J' _ h => ⟨UX.d, h, trivial⟩)
        case c37_31 =>
          refine kcast (A := ∀ (φ37 : Nat → Nat) (xs37 : Xs) (J31_37 : IM), I36.Le J31_37 → (True) → (True) → (True) → (True) → (True) → (True) → (True) → Fun Try.prog 16 #[.agg #[.bool b5, .pointer p5]] J31_37 (fun v J' => ∃ x : UX, v = .complex .f64 (dF (widT t5 16)) (dF (cntT t5 * 65536)) ∧ (True))) (by kernel_rfl) ?_
          intro φ37 xs37 J31_37 leJ
          rintro _ _ _ _ _ _ _
          have h5_1 := TRep.mono leJ h5_1
          exact Fun.mono (measure_c h5_1 (cntT_ok (d8 h5_0)) (dle16 (d8 h5_0))) (fun v J' _ h => ⟨UX.d, h, trivial⟩)
        case c37_35 =>
          refine kcast (A := ∀ (φ37 : Nat → Nat) (xs37 : Xs) (J35_37 : IM), I36.Le J35_37 → (True) → (True) → (True) → (True) → (True) → (True) → (True) → (True) → Fun Try.prog 28 #[] J35_37 (fun v J' => ∃ x : UX, v = .agg #[.bool false, .pointer none] ∧ (True))) (by kernel_rfl) ?_
          intro φ37 xs37 J35_37 leJ
          rintro _ _ _ _ _ _ _ _
          exact Fun.mono (tzero_c) (fun v J' _ h => ⟨UX.d, h, trivial⟩)
        case c37_37 =>
          refine kcast (A := ∀ (φ37 : Nat → Nat) (xs37 : Xs) (J37_37 : IM), I36.Le J37_37 → (True) → (True) → (True) → (True) → (True) → (True) → (True) → (True) → (True) → Fun Try.prog 17 #[.agg #[.bool false, .pointer none], .agg #[.bool b8, .pointer p8]] J37_37 (fun v J' => ∃ x : UX, v = .complex .f64 (dF 0) (dF 0) ∧ (True))) (by kernel_rfl) ?_
          intro φ37 xs37 J37_37 leJ
          rintro _ _ _ _ _ _ _ _ _
          have h8_1 := TRep.mono leJ h8_1
          exact Fun.mono (commonZ_c (TRep.z _) h8_1 (d8 h8_0)) (fun v J' _ h => ⟨UX.d, h, trivial⟩)
        case k37 =>
          rintro φ37 xs37 I37 w37 le37 s _ _ _ _ _ _ _ _ _ _
          replace hla := BSl.mono le37 hla
          replace hlb := BSl.mono le37 hlb
          replace h5_1 := TRep.mono le37 h5_1
          replace h5_2 := RT.mono le37 h5_2
          replace h8_1 := TRep.mono le37 h8_1
          replace h8_2 := RT.mono le37 h8_2
          replace h25_0 := TRep.mono le37 h25_0
          replace h29_0 := RT.mono le37 h29_0
          replace h30_0 := SpS.mono le37 h30_0
          replace h34_0 := TRep.mono le37 h34_0
          replace h34_1 := TRep.mono le37 h34_1
          refine wp_ret ?_
          refine ret_rule (C := []) [((φ6 0), .cells #[.bool b5, .pointer p5] 26), ((φ9 0), .cells #[.bool b8, .pointer p8] 26), ((φ26 0), .cells #[.bool b25, .pointer p25] 26), ((φ35 0), .cells #[.bool b34, .pointer p34] 26), ((φ35 1), .cells #[.bool d34, .pointer q34] 26)] [] (.bool true) [] [] s trivial (by kernel_rfl) ?_
          exact ⟨_, _, _, rfl, s, rfl⟩

end Go.Proofs.Ytgdickihjaomjaa.Ev
/- A slice of bytes that came in, as the contracts want it. -/
set_option linter.all false
namespace Go.Proofs.Ytgdickihjaomjaa.Ev
open Go.RowKit Go.Sep

theorem u8_nat {z : Int} (h : (Lit.int .u8 z).wf = true) : z = (((UInt8.ofNat z.toNat).toNat : Nat) : Int) := by
  have hb : 0 ≤ z ∧ z < 256 := by
    have := h; simp [Lit.wf, IntKind.min, IntKind.max, IntKind.signed, IntKind.bits] at this; omega
  rw [UInt8.toNat_ofNat']
  omega
theorem cell_block {w : World} {b o : Nat} {v : Value} (h : w.cell? ⟨b, o, none⟩ = some v) : ∃ cs T fr, w.heap[b]? = some (.cells cs T fr) ∧ cs[o]? = some v := by
  unfold World.cell? at h
  cases hb : w.heap[b]? with
  | none => simp [hb] at h
  | some ob =>
    cases ob <;> simp [hb] at h
    exact ⟨_, _, _, rfl, h⟩
theorem bslI_row {w : World} {a : Option Addr} {len cap : Nat} {zs : List Int}
    (h : (a = none ∧ len = 0 ∧ cap = 0 ∧ zs = []) ∨ ∃ x, a = some x ∧ len ≤ cap ∧ cap ≤ maxLen ∧ zs.length = cap ∧ (∀ i, i < zs.length → w.cell? (x.add i) = some (.int .u8 (zs.getD i 0))) ∧ ∀ n ∈ zs, (Lit.int .u8 n).wf = true) :
    ∃ l, BSl (fun k => w.heap[k]?) l (.slice a len cap) := by
  rcases h with ⟨rfl, rfl, rfl, rfl⟩ | ⟨x, rfl, hl, hm, hz, hc, hw⟩
  · exact ⟨[], bsl_nil _⟩
  · refine ⟨(zs.take len).map fun z => UInt8.ofNat z.toNat, some x, cap, by rw [List.length_map, List.length_take, Nat.min_eq_left (show len ≤ zs.length by omega)], by rw [List.length_map, List.length_take]; omega, fun j y hj => ?_⟩
    rw [List.getElem?_map, Option.map_eq_some_iff] at hj
    obtain ⟨z, hz1, rfl⟩ := hj
    rw [List.getElem?_take] at hz1
    split at hz1
    · have hjl : j < zs.length := (List.getElem?_eq_some_iff.1 hz1).1
      have h1 := hc j hjl
      have h2 : zs.getD j 0 = z := by simp [hz1]
      rw [h2] at h1
      obtain ⟨b, o, sp⟩ := x
      cases sp with
      | none =>
        have : (⟨b, o, none⟩ : Addr).add j = ⟨b, o + j, none⟩ := by unfold Addr.add; split <;> simp_all
        rw [this] at h1
        obtain ⟨cs, T, fr, e1, e2⟩ := cell_block h1
        refine ⟨b, o, cs, T, fr, rfl, e1, ?_⟩
        rw [← u8_nat (hw z (List.mem_of_getElem? hz1))]; exact e2
      | some sp =>
        exfalso
        have h0 := hc 0 (by omega)
        unfold World.cell? Addr.add at h0
        rw [if_pos rfl] at h0
        revert h0
        split <;> simp
    · cases hz1
end Go.Proofs.Ytgdickihjaomjaa.Ev
