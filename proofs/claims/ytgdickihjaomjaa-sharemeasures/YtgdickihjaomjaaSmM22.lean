/- share: how wide, made, is -/
import Derived.Test.YtgdickihjaomjaaSmM21
import Derived.Test.YtgdickihjaomjaaSmM20
import Derived.OpenShut
set_option linter.all false
set_option maxRecDepth 100000
namespace Go.Proofs.Ytgdickihjaomjaa.Ev
open Go.RowKit Go.Sep
attribute [local irreducible] Go.wpList Go.Code.wp
theorem run_wholeF34 {w : World} {n : Nat} (h : n * 65536 < 2 ^ 53) : (convert 34 37 (.int .u64 ((n : Nat) : Int))).run Try.prog w = .ok (.float .f64 (dF (n * 65536))) w := by
  rw [← whole_dF h]; kernel_rfl
theorem run_wholeF3 {w : World} {n : Nat} (h : n * 65536 < 2 ^ 53) : (convert 3 37 (.int .i64 ((n : Nat) : Int))).run Try.prog w = .ok (.float .f64 (dF (n * 65536))) w := by
  rw [← whole_dF h]; kernel_rfl
theorem run_eq64 {w : World} {z : Int} : (binOp .eql 34 (.int .u64 z) (.int .u64 z)).run Try.prog w = .ok (.bool true) w := by
  have h : (binOp .eql 34 (.int .u64 z) (.int .u64 z)).run Try.prog w = .ok (.bool (z == z)) w := by kernel_rfl
  rw [h, BEq.rfl]

set_option maxHeartbeats 1000000 in
theorem rwide_c {I : IM} {L : List (Nat × Nat)} {a0 : Option Addr} {c0 : Nat} (h : SpS I L (.slice a0 L.length c0)) (hW : sumW L ≤ 65536) (hL : L.length ≤ 100000) : Fun Try.prog 18 #[.slice a0 L.length c0] I (fun v J => v = .int .u64 ((sumW L : Nat) : Int)) := by
  refine enter_rule 18 [(0, .slice a0 L.length c0)] Try.func18 rfl (by kernel_rfl) ?_
  intro w s
  refine wp_seq ?_
  refine region_rule ?_
  refine ops_rule (C := []) [] [] 1 [] 0 (fun φ1 => [(2, .int .u64 0)]) (fun φ1 => []) (fun φ1 => []) s trivial (fun φ1 => by kernel_rfl) ?_
  intro φ1 w1 s
  refine ops_done (by kernel_rfl) ?_
  refine wp_seq ?_
  refine region_rule ?_
  refine ops_rule (C := []) [] [] 1 [] 0 (fun φ2 => [(3, .int .u64 0)]) (fun φ2 => []) (fun φ2 => []) s trivial (fun φ2 => by kernel_rfl) ?_
  intro φ2 w2 s
  refine ops_done (by kernel_rfl) ?_
  refine wp_seq ?_
  refine wp_seq ?_
  refine region_rule ?_
  refine ops_rule (C := []) [] [] 3 [] 0 (fun φ3 => [(8, .int .i64 0), (7, .int .i64 ((L.length : Nat) : Int)), (6, .slice a0 L.length c0)]) (fun φ3 => []) (fun φ3 => []) s trivial (fun φ3 => by kernel_rfl) ?_
  intro φ3 w3 s
  refine ops_done (by kernel_rfl) ?_
  refine wp_block ?_
  have hle5 := IM.Le.refl I
  refine loop_rule (fun (x : Nat × Nat) => [(0, .slice a0 L.length c0), (2, .int .u64 0), (6, .slice a0 L.length c0), (7, .int .i64 ((L.length : Nat) : Int)), (8, .int .i64 ((x.1 : Nat) : Int)), (3, .int .u64 ((x.2 : Nat) : Int))]) (fun (x : Nat × Nat) => []) (fun m (x : Nat × Nat) J => IM.Le I J ∧ x.1 + m = L.length ∧ x.2 = sumW (L.take x.1)) (L.length) (0, 0) s (by kernel_rfl) List.Sublist.slnil ⟨IM.Le.refl _, Nat.zero_add _, rfl⟩ ?_
  rintro m6 ⟨i6, a6⟩ I6 w6 ev6 s ⟨le6, hi6_0, hi6_1⟩
  try dsimp only at s hi6_0 hi6_1 ⊢
  replace h := SpS.mono le6 h
  replace hle5 := leMono le6 hle5
  have hs4 := sumW_take_le L i6
  have hg4 := sumW_getD_le L i6
  refine wp_seq ?_
  refine region_rule ?_
  refine ops_rule (C := []) [] [] 1 [] 0 (fun φ7 => [(9, .bool (decide (((i6 : Nat) : Int) < ((L.length : Nat) : Int))))]) (fun φ7 => []) (fun φ7 => []) s trivial (fun φ7 => by kernel_rfl) ?_
  intro φ7 w7 s
  rw [nat_lss (a := i6) (b := L.length)]
  refine ops_done (by kernel_rfl) ?_
  refine wp_seq ?_
  rcases Bool.eq_false_or_eq_true (decide (i6 < L.length)) with hc8 | hc8
  ·
    rw [hc8]
    refine cond_true_rule (b := true) (by kernel_rfl) rfl ?_
    refine wp_skip ?_
    refine wp_seq ?_
    refine wp_block ?_
    refine wp_seq ?_
    refine region_rule ?_
    refine sem_rule (Instr.indexAt 32 (.slice a0 L.length c0) (.int .i64 ((i6 : Nat) : Int))) (some 10) (.pointer (pAt a0 (i6 * 2))) (by kernel_rfl) (sps_idx h (by have hq0 := of_decide_eq_true hc8; have e1 := hi6_0; have e2 := hi6_1; have e4 := hs4; have e5 := hg4; omega)) ?_
    refine sem_rule (Instr.loadAt 39 (.pointer (pAt a0 (i6 * 2)))) (some 11) (.agg #[.int .u64 (((List.getD L i6 (0, 0)).1 : Nat) : Int), .int .u64 (((List.getD L i6 (0, 0)).2 : Nat) : Int)]) (by kernel_rfl) (sps_ld s.sub h (by have hq0 := of_decide_eq_true hc8; have e1 := hi6_0; have e2 := hi6_1; have e4 := hs4; have e5 := hg4; omega)) ?_
    refine ops_rule (C := []) [] [] 2 [.o 0, .o 0] 1 (fun φ9 => [(5, .pointer (some ⟨(φ9 0), 0, none⟩))]) (fun φ9 => [((φ9 0), .cells #[.int .u64 (((List.getD L i6 (0, 0)).1 : Nat) : Int), .int .u64 (((List.getD L i6 (0, 0)).2 : Nat) : Int)] 39)]) (fun φ9 => [(φ9 0), (φ9 0)]) s trivial (fun φ9 => by kernel_rfl) ?_
    intro φ9 w9 s
    refine ops_done (by kernel_rfl) ?_
    refine region_rule ?_
    refine ops_rule (C := []) [((φ9 0), .cells #[.int .u64 (((List.getD L i6 (0, 0)).1 : Nat) : Int), .int .u64 (((List.getD L i6 (0, 0)).2 : Nat) : Int)] 39)] [] 3 [.o 0] 0 (fun φ10 => [(14, .int .u64 (((List.getD L i6 (0, 0)).2 : Nat) : Int)), (13, .pointer (some ⟨(φ9 0), 1, none⟩)), (12, .int .u64 ((a6 : Nat) : Int))]) (fun φ10 => [((φ9 0), .cells #[.int .u64 (((List.getD L i6 (0, 0)).1 : Nat) : Int), .int .u64 (((List.getD L i6 (0, 0)).2 : Nat) : Int)] 39)]) (fun φ10 => [(φ9 0)]) s trivial (fun φ10 => by kernel_rfl) ?_
    intro φ10 w10 s
    refine sem_rule (binOp .add 34 (.int .u64 ((a6 : Nat) : Int)) (.int .u64 (((List.getD L i6 (0, 0)).2 : Nat) : Int))) (some 15) (.int .u64 ((a6 + (List.getD L i6 (0, 0)).2 : Nat) : Int)) (by kernel_rfl) (run_add64 (a := a6) (b := (List.getD L i6 (0, 0)).2) (by have hq0 := of_decide_eq_true hc8; have e1 := hi6_0; have e2 := hi6_1; have e4 := hs4; have e5 := hg4; omega)) ?_
    refine ops_rule (C := []) [((φ9 0), .cells #[.int .u64 (((List.getD L i6 (0, 0)).1 : Nat) : Int), .int .u64 (((List.getD L i6 (0, 0)).2 : Nat) : Int)] 39)] [] 1 [] 0 (fun φ11 => [(3, .int .u64 ((a6 + (List.getD L i6 (0, 0)).2 : Nat) : Int))]) (fun φ11 => [((φ9 0), .cells #[.int .u64 (((List.getD L i6 (0, 0)).1 : Nat) : Int), .int .u64 (((List.getD L i6 (0, 0)).2 : Nat) : Int)] 39)]) (fun φ11 => []) s trivial (fun φ11 => by kernel_rfl) ?_
    intro φ11 w11 s
    refine ops_done (by kernel_rfl) ?_
    refine region_rule ?_
    refine ops_rule (C := []) [((φ9 0), .cells #[.int .u64 (((List.getD L i6 (0, 0)).1 : Nat) : Int), .int .u64 (((List.getD L i6 (0, 0)).2 : Nat) : Int)] 39)] [] 2 [] 0 (fun φ12 => [(8, .int .i64 (IntKind.wrap .i64 (((i6 : Nat) : Int) + ((1 : Nat) : Int)))), (16, .int .i64 (IntKind.wrap .i64 (((i6 : Nat) : Int) + ((1 : Nat) : Int))))]) (fun φ12 => [((φ9 0), .cells #[.int .u64 (((List.getD L i6 (0, 0)).1 : Nat) : Int), .int .u64 (((List.getD L i6 (0, 0)).2 : Nat) : Int)] 39)]) (fun φ12 => []) s trivial (fun φ12 => by kernel_rfl) ?_
    intro φ12 w12 s
    rw [nat_addI (a := i6) (b := 1) (by have hq0 := of_decide_eq_true hc8; have e1 := hi6_0; have e2 := hi6_1; have e4 := hs4; have e5 := hg4; omega)]
    refine ops_done (by kernel_rfl) ?_
    exact ⟨⟨m6 - 1, (i6 + 1, a6 + (List.getD L i6 (0, 0)).2), _, _, _, by have hq0 := of_decide_eq_true hc8; have := hi6_0; omega, rfl, s, (List.Sublist.cons _ List.Sublist.slnil), by kernel_rfl, hle5, by have hq0 := of_decide_eq_true hc8; have := hi6_0; show i6 + 1 + (m6 - 1) = L.length; omega, by have hq0 := of_decide_eq_true hc8; have h0 := hi6_0; have h1 := hi6_1; show a6 + (List.getD L i6 (0, 0)).2 = _; rw [sumW_take (by omega), h1]⟩⟩
  ·
    rw [hc8]
    refine cond_false_rule (b := false) (by kernel_rfl) rfl ?_
    refine wp_exit ?_
    refine wp_seq ?_
    refine region_rule ?_
    refine ops_rule (C := []) [] [] 2 [] 0 (fun φ13 => [(2, .int .u64 ((a6 : Nat) : Int)), (17, .int .u64 ((a6 : Nat) : Int))]) (fun φ13 => []) (fun φ13 => []) s trivial (fun φ13 => by kernel_rfl) ?_
    intro φ13 w13 s
    refine ops_done (by kernel_rfl) ?_
    refine wp_ret ?_
    refine ret_rule (C := []) [] [] (.int .u64 ((a6 : Nat) : Int)) [] [] s trivial (by kernel_rfl) ?_
    exact ⟨_, _, _, rfl, s, (by have e1 := hi6_0; have e2 := hi6_1; have e4 := hs4; have e5 := hg4; have hq0 := of_decide_eq_false hc8; have ei : i6 = L.length := (by omega); rw [e2, ei, List.take_length])⟩

set_option maxHeartbeats 1000000 in
theorem is_c {I : IM} {n : Nat} (hn : n ≤ 100000000) : Fun Try.prog 12 #[.float .f64 (dF n), .int .u64 ((n : Nat) : Int)] I (fun v J => v = .bool true) := by
  refine enter_rule 12 [(0, .float .f64 (dF n)), (1, .int .u64 ((n : Nat) : Int))] Try.func12 rfl (by kernel_rfl) ?_
  intro w s
  refine wp_seq ?_
  refine region_rule ?_
  refine ops_rule (C := []) [] [] 1 [] 0 (fun φ1 => [(4, .bool false)]) (fun φ1 => []) (fun φ1 => []) s trivial (fun φ1 => by kernel_rfl) ?_
  intro φ1 w1 s
  refine ops_done (by kernel_rfl) ?_
  refine wp_seq ?_
  refine region_rule ?_
  refine ops_rule (C := []) [] [] 1 [] 0 (fun φ2 => [(5, .float .f64 (dF n))]) (fun φ2 => []) (fun φ2 => []) s trivial (fun φ2 => by kernel_rfl) ?_
  intro φ2 w2 s
  refine op_rule (.int .u64 ((dF n : Nat) : Int)) (some 6) (by kernel_rfl) (fun o ho => ?_) ?_
  · cases ho
    kernel_rfl
  refine ops_rule (C := []) [] [] 1 [] 0 (fun φ3 => [(7, .int .u64 ((n : Nat) : Int))]) (fun φ3 => []) (fun φ3 => []) s trivial (fun φ3 => by kernel_rfl) ?_
  intro φ3 w3 s
  refine sem_rule (convert 34 37 (.int .u64 ((n : Nat) : Int))) (some 8) (.float .f64 (dF (n * 65536))) (by kernel_rfl) ((run_wholeF34 (by   omega))) ?_
  refine sem_rule (binOp .quo 37 (.float .f64 (dF (n * 65536))) (.float .f64 4679240012837945344)) (some 9) (.float .f64 (dF n)) (by kernel_rfl) (run_divF (by   omega)) ?_
  refine op_rule (.int .u64 ((dF n : Nat) : Int)) (some 10) (by kernel_rfl) (fun o ho => ?_) ?_
  · cases ho
    kernel_rfl
  refine sem_rule (binOp .eql 34 (.int .u64 ((dF n : Nat) : Int)) (.int .u64 ((dF n : Nat) : Int))) (some 11) (.bool true) (by kernel_rfl) (run_eq64) ?_
  refine ops_rule (C := []) [] [] 1 [] 0 (fun φ4 => [(4, .bool true)]) (fun φ4 => []) (fun φ4 => []) s trivial (fun φ4 => by kernel_rfl) ?_
  intro φ4 w4 s
  refine ops_done (by kernel_rfl) ?_
  refine wp_ret ?_
  refine ret_rule (C := []) [] [] (.bool true) [] [] s trivial (by kernel_rfl) ?_
  exact ⟨_, _, _, rfl, s, rfl⟩

set_option maxHeartbeats 2000000 in
theorem madeI_c {I : IM} {p : List UInt8} {vp : Value} (hp : BSl I p vp) : Fun Try.prog 9 #[vp] I (fun v J => ∃ b p k t, v = .tuple #[idv b p, .pointer (some ⟨k, 0, none⟩)] ∧ (t.nf ∧ t.depth ≤ 7) ∧ TRep J t b p ∧ RT J t k) := by
  have hp' := hp
  obtain ⟨pa, pc, rfl, hpc, -⟩ := hp
  have hp60 := bsl_take hp'
  clear hp'
  refine enter_rule 18 [(0, .slice pa p.length pc)] Try.func9 rfl (by kernel_rfl) ?_
  intro w s
  refine wp_seq ?_
  refine region_rule ?_
  refine ops_rule (C := []) [] [] 2 [] 1 (fun φ1 => [(3, .pointer none), (2, .pointer (some ⟨(φ1 0), 0, none⟩))]) (fun φ1 => [((φ1 0), .cells #[.bool false, .pointer none] 26)]) (fun φ1 => []) s trivial (fun φ1 => by kernel_rfl) ?_
  intro φ1 w1 s
  refine ops_done (by kernel_rfl) ?_
  refine wp_seq ?_
  refine region_rule ?_
  refine ops_rule (C := []) [((φ1 0), .cells #[.bool false, .pointer none] 26)] [] 4 [] 0 (fun φ2 => [(10, .int .i64 (if ((60 : Nat) : Int) < ((p.length : Nat) : Int) then ((60 : Nat) : Int) else ((p.length : Nat) : Int))), (9, .int .i64 ((p.length : Nat) : Int)), (8, .slice pa p.length pc), (7, .slice pa p.length pc)]) (fun φ2 => [((φ1 0), .cells #[.bool false, .pointer none] 26)]) (fun φ2 => []) s trivial (fun φ2 => by kernel_rfl) ?_
  intro φ2 w2 s
  rw [nat_min (a := p.length) (b := 60)]
  refine sem_rule (Instr.sliceAt 22 (.slice pa p.length pc) none (some (.int .i64 ((min p.length 60 : Nat) : Int))) none) (some 11) (.slice pa (min p.length 60) pc) (by kernel_rfl) (run_to (by have := hpc; omega)) ?_
  refine call_rule (some 12) s (make_c 7 (by omega) hp60) (by kernel_rfl) ?_
  intro v3 I3 w3 le3 h3 s
  replace hp60 := BSl.mono le3 hp60
  obtain ⟨k3, v3, t3, l3, rfl, h3_0, h3_1, h3_2⟩ := h3
  refine ops_rule (C := []) [((φ1 0), .cells #[.bool false, .pointer none] 26)] [] 5 [] 0 (fun φ4 => [(5, v3), (4, .pointer (some ⟨k3, 0, none⟩)), (14, v3), (13, .pointer (some ⟨k3, 0, none⟩)), (6, .tuple #[.pointer (some ⟨k3, 0, none⟩), v3])]) (fun φ4 => [((φ1 0), .cells #[.bool false, .pointer none] 26)]) (fun φ4 => []) s trivial (fun φ4 => by kernel_rfl) ?_
  intro φ4 w4 s
  refine ops_done (by kernel_rfl) ?_
  refine wp_seq ?_
  refine region_rule ?_
  refine ops_rule (C := []) [((φ1 0), .cells #[.bool false, .pointer none] 26)] [] 1 [] 0 (fun φ5 => [(15, .pointer (some ⟨k3, 0, none⟩))]) (fun φ5 => [((φ1 0), .cells #[.bool false, .pointer none] 26)]) (fun φ5 => []) s trivial (fun φ5 => by kernel_rfl) ?_
  intro φ5 w5 s
  refine call_rule (some 16) s (own_c t3 h3_0.1 (by have := h3_0.2; omega) h3_1) (by kernel_rfl) ?_
  intro v6 I6 w6 le6 h6 s
  replace hp60 := BSl.mono le6 hp60
  replace h3_1 := RT.mono le6 h3_1
  replace h3_2 := BSl.mono le6 h3_2
  obtain ⟨b6, p6, rfl, h6_0⟩ := h6
  refine ops_rule (C := []) [((φ1 0), .cells #[.bool false, .pointer none] 26)] [] 3 [.o 0, .o 0] 0 (fun φ7 => [(3, .pointer (some ⟨k3, 0, none⟩)), (17, .pointer (some ⟨k3, 0, none⟩))]) (fun φ7 => [((φ1 0), .cells #[.bool b6, .pointer p6] 26)]) (fun φ7 => [(φ1 0), (φ1 0)]) s trivial (fun φ7 => by kernel_rfl) ?_
  intro φ7 w7 s
  refine ops_done (by kernel_rfl) ?_
  refine wp_ret ?_
  refine ret_rule (C := []) [((φ1 0), .cells #[.bool b6, .pointer p6] 26)] [] (.tuple #[.agg #[.bool b6, .pointer p6], .pointer (some ⟨k3, 0, none⟩)]) [.o 0, .o 0] [(φ1 0), (φ1 0)] s trivial (by kernel_rfl) ?_
  exact ⟨_, _, _, rfl, s, ⟨_, _, _, t3, rfl, h3_0, h6_0, h3_1⟩⟩

end Go.Proofs.Ytgdickihjaomjaa.Ev
/- share: measures -/
set_option linter.all false
set_option maxRecDepth 100000
namespace Go.Proofs.Ytgdickihjaomjaa.Ev
open Go.RowKit Go.Sep
attribute [local irreducible] Go.wpList Go.Code.wp
theorem cntT_ok {t : T} (h : t.depth ≤ 8) : cntT t ≤ 100000 := by have := cntT_small h; omega
theorem rs0N_c (t : T) {I : IM} {q : Nat} (h : RT I t q) (hc : cntT t ≤ 100000) (hd : t.depth ≤ 16) : Fun Try.prog 11 #[.pointer (some ⟨q, 0, none⟩), .int .u64 0, .int .u64 65536] I (fun v J => ∃ a c, v = .slice a (cntT t) c ∧ SpS J (spT t 0 16) (.slice a (cntT t) c)) := by
  have e := rs0_c t h hc hd
  unfold spR at e
  rw [spT_length] at e
  exact e
theorem rwideT_c {I : IM} {t : T} {a0 : Option Addr} {c0 : Nat} (h : SpS I (spT t 0 16) (.slice a0 (cntT t) c0)) (hd : t.depth ≤ 16) (hc : cntT t ≤ 100000) : Fun Try.prog 18 #[.slice a0 (cntT t) c0] I (fun v J => v = .int .u64 ((widT t 16 : Nat) : Int)) := by
  rw [← spT_length t 0 16] at h ⊢
  have hw := wid_le 16 hd
  have e := rwide_c h (by rw [sumW_spT]; exact hw) (by rw [spT_length]; exact hc)
  rwa [sumW_spT] at e
theorem commonR_c {I : IM} {A B : T} {ba bb : Bool} {pa pb : Option Addr} (hA : TRep I A ba pa) (hB : TRep I B bb pb) (hc : cntT (bothT B A) ≤ 100000) (hd1 : A.depth ≤ 16) (hd2 : B.depth ≤ 16) : Fun Try.prog 17 #[idv ba pa, idv bb pb] I (fun v J => v = .complex .f64 (dF (widT (bothT B A) 16)) (dF (cntT (bothT B A) * 65536))) := by
  rw [both_comm B A] at hc ⊢
  exact common_c hA hB hc hd1 hd2
theorem splitOk_c {I : IM} {t : T} {b : Bool} {p : Option Addr} (h : TRep I t b p) (hd : t.depth ≤ 15) : Fun Try.prog 20 #[idv b p] I (fun v J => ∃ b1 p1 b2 p2, v = .tuple #[idv b1 p1, idv b2 p2, .int .i64 0] ∧ TRep J (cutT t).1 b1 p1 ∧ TRep J (cutT t).2 b2 p2) := by
  have e := split_c h (by omega)
  rw [split_small hd] at e
  exact e
theorem run_neF {w : World} {a : Nat} (ha : a < 2 ^ 53) : (binOp .neq 37 (.float .f64 (dF a)) (.float .f64 (dF a))).run Try.prog w = .ok (.bool false) w := by
  have h : (binOp .neq 37 (.float .f64 (dF a)) (.float .f64 (dF a))).run Try.prog w = .ok (.bool (!(Op.floatEq .f64 (dF a) (dF a)))) w := rfl
  rw [h, dF_eq ha ha, decide_eq_true rfl]; rfl
theorem run_neC {w : World} {a b : Nat} (ha : a < 2 ^ 53) (hb : b < 2 ^ 53) : (binOp .neq 35 (.complex .f64 (dF a) (dF b)) (.complex .f64 (dF a) (dF b))).run Try.prog w = .ok (.bool false) w := by
  have h : (binOp .neq 35 (.complex .f64 (dF a) (dF b)) (.complex .f64 (dF a) (dF b))).run Try.prog w = .ok (.bool (!(Op.floatEq .f64 (dF a) (dF a) && Op.floatEq .f64 (dF b) (dF b)))) w := rfl
  rw [h, dF_eq ha ha, dF_eq hb hb, decide_eq_true rfl, decide_eq_true rfl]; rfl
theorem run_eqF2 {w : World} {a c : Nat} (ha : a < 2 ^ 53) (h : a = c) : (binOp .eql 37 (.float .f64 (dF a)) (.float .f64 (dF c))).run Try.prog w = .ok (.bool true) w := by
  subst h
  rw [run_cmpF ha ha, decide_eq_true rfl]
theorem run_eqF0 {w : World} {a : Nat} {q : Bool} (ha : a < 2 ^ 53) (h : decide (a = 0) = q) : (binOp .eql 37 (.float .f64 (dF a)) (.float .f64 0)).run Try.prog w = .ok (.bool q) w := by
  have e := run_cmpF (w := w) ha (show (0 : Nat) < 2 ^ 53 by decide)
  rw [dF_zero, h] at e
  exact e
theorem d8 {t : T} (h : t.nf ∧ t.depth ≤ 7) : t.depth ≤ 8 := by omega
theorem d15 {t : T} (h : t.nf ∧ t.depth ≤ 7) : t.depth ≤ 15 := by omega
theorem d17 {t : T} (h : t.nf ∧ t.depth ≤ 7) : t.depth + 1 ≤ 16 := by omega
theorem both_d8 {a b : T} (ha : a.depth ≤ 8) (hb : b.depth ≤ 8) : (bothT a b).depth ≤ 8 := by have := both_depth a b; omega
theorem cut1_d8 {t : T} (h : t.nf ∧ t.depth ≤ 7) : (cutT t).1.depth ≤ 8 := by have := cut_depth t; omega
theorem cut2_d8 {t : T} (h : t.nf ∧ t.depth ≤ 7) : (cutT t).2.depth ≤ 8 := by have := cut_depth t; omega
theorem dle16 {t : T} (h : t.depth ≤ 8) : t.depth ≤ 16 := by omega
theorem wid_53 {t : T} (h : t.depth ≤ 8) : widT t 16 < 2 ^ 53 := by have := wid_le 16 (dle16 h); omega
theorem wid_e8 {t : T} (h : t.depth ≤ 8) : widT t 16 ≤ 100000000 := by have := wid_le 16 (dle16 h); omega
theorem cnt_53 {t : T} (h : t.depth ≤ 8) : cntT t * 65536 < 2 ^ 53 := by have := cntT_small h; omega
theorem wsum_53 {a b : T} (ha : a.depth ≤ 8) (hb : b.depth ≤ 8) : widT a 16 + widT b 16 < 2 ^ 53 := by have := wid_le 16 (dle16 ha); have := wid_le 16 (dle16 hb); omega
set_option maxHeartbeats 8000000 in
theorem shareMeasures_c {I : IM} {la lb : List UInt8} {va vb : Value} (hla : BSl I la va) (hlb : BSl I lb vb) : Fun Try.prog 4 #[va, vb] I (fun v J => v = .bool true) := by
  refine enter_rule 105 [(0, va), (1, vb)] Try.func4 rfl (by kernel_rfl) ?_
  intro w s
  refine wp_seq ?_
  refine region_rule ?_
  refine ops_rule (C := []) [] [] 1 [] 0 (fun φ1 => [(4, .bool false)]) (fun φ1 => []) (fun φ1 => []) s trivial (fun φ1 => by kernel_rfl) ?_
  intro φ1 w1 s
  refine ops_done (by kernel_rfl) ?_
  refine wp_seq ?_
  refine wp_seq ?_
  refine region_rule ?_
  refine call_rule (some 16) s (awakeS_c) (by kernel_rfl) ?_
  intro v2 I2 w2 le2 h2 s
  replace hla := BSl.mono le2 hla
  replace hlb := BSl.mono le2 hlb
  obtain rfl := h2
  refine ops_rule (C := []) [] [] 1 [] 0 (fun φ3 => [(17, .bool false)]) (fun φ3 => []) (fun φ3 => []) s trivial (fun φ3 => by kernel_rfl) ?_
  intro φ3 w3 s
  refine ops_done (by kernel_rfl) ?_
  refine cond_false_rule (b := false) (by kernel_rfl) rfl ?_
  refine wp_skip ?_
  refine wp_seq ?_
  refine region_rule ?_
  refine ops_rule (C := []) [] [] 1 [] 0 (fun φ4 => [(19, va)]) (fun φ4 => []) (fun φ4 => []) s trivial (fun φ4 => by kernel_rfl) ?_
  intro φ4 w4 s
  refine call_rule (some 20) s (madeI_c hla) (by kernel_rfl) ?_
  intro v5 I5 w5 le5 h5 s
  replace hla := BSl.mono le5 hla
  replace hlb := BSl.mono le5 hlb
  obtain ⟨b5, p5, k5, t5, rfl, h5_0, h5_1, h5_2⟩ := h5
  refine ops_rule (C := []) [] [] 6 [.o 0, .o 0] 1 (fun φ6 => [(6, .pointer (some ⟨k5, 0, none⟩)), (5, .pointer (some ⟨(φ6 0), 0, none⟩)), (22, .pointer (some ⟨k5, 0, none⟩)), (21, .agg #[.bool b5, .pointer p5]), (18, .tuple #[.agg #[.bool b5, .pointer p5], .pointer (some ⟨k5, 0, none⟩)])]) (fun φ6 => [((φ6 0), .cells #[.bool b5, .pointer p5] 26)]) (fun φ6 => [(φ6 0), (φ6 0)]) s trivial (fun φ6 => by kernel_rfl) ?_
  intro φ6 w6 s
  refine ops_done (by kernel_rfl) ?_
  refine wp_seq ?_
  refine region_rule ?_
  refine ops_rule (C := []) [((φ6 0), .cells #[.bool b5, .pointer p5] 26)] [] 1 [] 0 (fun φ7 => [(24, vb)]) (fun φ7 => [((φ6 0), .cells #[.bool b5, .pointer p5] 26)]) (fun φ7 => []) s trivial (fun φ7 => by kernel_rfl) ?_
  intro φ7 w7 s
  refine call_rule (some 25) s (madeI_c hlb) (by kernel_rfl) ?_
  intro v8 I8 w8 le8 h8 s
  replace hla := BSl.mono le8 hla
  replace hlb := BSl.mono le8 hlb
  replace h5_1 := TRep.mono le8 h5_1
  replace h5_2 := RT.mono le8 h5_2
  obtain ⟨b8, p8, k8, t8, rfl, h8_0, h8_1, h8_2⟩ := h8
  refine ops_rule (C := []) [((φ6 0), .cells #[.bool b5, .pointer p5] 26)] [] 6 [.o 1, .o 1] 1 (fun φ9 => [(8, .pointer (some ⟨k8, 0, none⟩)), (7, .pointer (some ⟨(φ9 0), 0, none⟩)), (27, .pointer (some ⟨k8, 0, none⟩)), (26, .agg #[.bool b8, .pointer p8]), (23, .tuple #[.agg #[.bool b8, .pointer p8], .pointer (some ⟨k8, 0, none⟩)])]) (fun φ9 => [((φ6 0), .cells #[.bool b5, .pointer p5] 26), ((φ9 0), .cells #[.bool b8, .pointer p8] 26)]) (fun φ9 => [(φ9 0), (φ9 0)]) s trivial (fun φ9 => by kernel_rfl) ?_
  intro φ9 w9 s
  refine ops_done (by kernel_rfl) ?_
  refine wp_seq ?_
  refine region_rule ?_
  refine ops_rule (C := []) [((φ6 0), .cells #[.bool b5, .pointer p5] 26), ((φ9 0), .cells #[.bool b8, .pointer p8] 26)] [] 1 [] 0 (fun φ10 => [(28, .pointer (some ⟨k5, 0, none⟩))]) (fun φ10 => [((φ6 0), .cells #[.bool b5, .pointer p5] 26), ((φ9 0), .cells #[.bool b8, .pointer p8] 26)]) (fun φ10 => []) s trivial (fun φ10 => by kernel_rfl) ?_
  intro φ10 w10 s
  refine call_rule (some 29) s (rs0N_c t5 h5_2 (cntT_ok (d8 h5_0)) (dle16 (d8 h5_0))) (by kernel_rfl) ?_
  intro v11 I11 w11 le11 h11 s
  replace hla := BSl.mono le11 hla
  replace hlb := BSl.mono le11 hlb
  replace h5_1 := TRep.mono le11 h5_1
  replace h5_2 := RT.mono le11 h5_2
  replace h8_1 := TRep.mono le11 h8_1
  replace h8_2 := RT.mono le11 h8_2
  obtain ⟨a11, c11, rfl, h11_0⟩ := h11
  refine ops_rule (C := []) [((φ6 0), .cells #[.bool b5, .pointer p5] 26), ((φ9 0), .cells #[.bool b8, .pointer p8] 26)] [] 2 [] 0 (fun φ12 => [(31, .pointer (some ⟨k8, 0, none⟩)), (30, .pointer (some ⟨k5, 0, none⟩))]) (fun φ12 => [((φ6 0), .cells #[.bool b5, .pointer p5] 26), ((φ9 0), .cells #[.bool b8, .pointer p8] 26)]) (fun φ12 => []) s trivial (fun φ12 => by kernel_rfl) ?_
  intro φ12 w12 s
  refine call_rule (some 32) s (rboth_c t5 t8 h5_2 h8_2) (by kernel_rfl) ?_
  intro v13 I13 w13 le13 h13 s
  replace hla := BSl.mono le13 hla
  replace hlb := BSl.mono le13 hlb
  replace h5_1 := TRep.mono le13 h5_1
  replace h5_2 := RT.mono le13 h5_2
  replace h8_1 := TRep.mono le13 h8_1
  replace h8_2 := RT.mono le13 h8_2
  replace h11_0 := SpS.mono le13 h11_0
  obtain ⟨k13, rfl, h13_0⟩ := h13
  refine call_rule (some 33) s (rs0N_c (bothT t5 t8) h13_0 (cntT_ok (both_d8 (d8 h5_0) (d8 h8_0))) (dle16 (both_d8 (d8 h5_0) (d8 h8_0)))) (by kernel_rfl) ?_
  intro v14 I14 w14 le14 h14 s
  replace hla := BSl.mono le14 hla
  replace hlb := BSl.mono le14 hlb
  replace h5_1 := TRep.mono le14 h5_1
  replace h5_2 := RT.mono le14 h5_2
  replace h8_1 := TRep.mono le14 h8_1
  replace h8_2 := RT.mono le14 h8_2
  replace h11_0 := SpS.mono le14 h11_0
  replace h13_0 := RT.mono le14 h13_0
  obtain ⟨a14, c14, rfl, h14_0⟩ := h14
  refine ops_rule (C := []) [((φ6 0), .cells #[.bool b5, .pointer p5] 26), ((φ9 0), .cells #[.bool b8, .pointer p8] 26)] [] 2 [] 0 (fun φ15 => [(10, .slice a14 (cntT (bothT t5 t8)) c14), (9, .slice a11 (cntT t5) c11)]) (fun φ15 => [((φ6 0), .cells #[.bool b5, .pointer p5] 26), ((φ9 0), .cells #[.bool b8, .pointer p8] 26)]) (fun φ15 => []) s trivial (fun φ15 => by kernel_rfl) ?_
  intro φ15 w15 s
  refine ops_done (by kernel_rfl) ?_
  refine wp_seq ?_
  refine draw_rule (C := []) ⟨(fun φ16 xs16 => [.look 0 [.o 0, .o 0] [(φ6 0), (φ6 0)], .call 16 #[.agg #[.bool b5, .pointer p5]], .look 0 [.o 0, .o 0] [(φ6 0), (φ6 0)], .look 0 [.o 1, .o 1] [(φ9 0), (φ9 0)], .call 17 #[.agg #[.bool b5, .pointer p5], .agg #[.bool b8, .pointer p8]], .look 0 [] [], .look 0 [] []]), (fun φ16 xs16 => [.agg #[.bool b5, .pointer p5], .complex .f64 (dF (widT t5 16)) (dF (cntT t5 * 65536)), .agg #[.bool b5, .pointer p5], .agg #[.bool b8, .pointer p8], .complex .f64 (dF (widT (bothT t5 t8) 16)) (dF (cntT (bothT t5 t8) * 65536)), .complex .f64 (dF (widT t5 16)) (dF (cntT t5 * 65536)), .complex .f64 (dF (widT (bothT t5 t8) 16)) (dF (cntT (bothT t5 t8) * 65536))]), (fun φ16 xs16 => [[((φ6 0), .cells #[.bool b5, .pointer p5] 26), ((φ9 0), .cells #[.bool b8, .pointer p8] 26)]]), (fun φ16 xs16 => [[default, default, default, default, default, default, default]]), [], [1, 3, 1, 1, 3, 1, 1]⟩ (fun j => ([MP.any, MP.any, MP.any, MP.any, MP.any, MP.any, MP.any] : List MP).getD j MP.any) [1, 4] [] [] (fun φ16 xs16 => []) (fun φ16 xs16 => [(34, .agg #[.bool b5, .pointer p5]), (35, .complex .f64 (dF (widT t5 16)) (dF (cntT t5 * 65536))), (36, .agg #[.bool b5, .pointer p5]), (37, .agg #[.bool b8, .pointer p8]), (38, .complex .f64 (dF (widT (bothT t5 t8) 16)) (dF (cntT (bothT t5 t8) * 65536))), (11, .complex .f64 (dF (widT t5 16)) (dF (cntT t5 * 65536))), (12, .complex .f64 (dF (widT (bothT t5 t8) 16)) (dF (cntT (bothT t5 t8) * 65536)))]) (fun φ16 xs16 => [((φ6 0), .cells #[.bool b5, .pointer p5] 26), ((φ9 0), .cells #[.bool b8, .pointer p8] 26)]) s trivial (by kernel_rfl) (by kernel_rfl) (fun _ _ => by kernel_rfl) (fun _ _ => by kernel_rfl) ⟨fun _ _ => by kernel_rfl, fun _ _ => by kernel_rfl, fun _ _ => by kernel_rfl, fun _ _ => by kernel_rfl⟩ (fun _ _ _ => by kernel_rfl) (fun _ _ => by kernel_rfl) (fun _ _ => by kernel_rfl) (fun _ _ => by kernel_rfl) (fun _ _ => by kernel_rfl) (fun _ _ => by kernel_rfl) trivial trivial (by kernel_rfl) ⟨?c16_1, ?c16_4, trivial⟩ ?k16
  case c16_1 =>
    refine kcast (A := ∀ (φ16 : Nat → Nat) (xs16 : Xs) (J1_16 : IM), I14.Le J1_16 → Fun Try.prog 16 #[.agg #[.bool b5, .pointer p5]] J1_16 (fun v J' => ∃ x : UX, v = .complex .f64 (dF (widT t5 16)) (dF (cntT t5 * 65536)) ∧ (True))) (by kernel_rfl) ?_
    intro φ16 xs16 J1_16 leJ
    have h5_1 := TRep.mono leJ h5_1
    exact Fun.mono (measure_c h5_1 (cntT_ok (d8 h5_0)) (dle16 (d8 h5_0))) (fun v J' _ h => ⟨UX.d, h, trivial⟩)
  case c16_4 =>
    refine kcast (A := ∀ (φ16 : Nat → Nat) (xs16 : Xs) (J4_16 : IM), I14.Le J4_16 → (True) → Fun Try.prog 17 #[.agg #[.bool b5, .pointer p5], .agg #[.bool b8, .pointer p8]] J4_16 (fun v J' => ∃ x : UX, v = .complex .f64 (dF (widT (bothT t5 t8) 16)) (dF (cntT (bothT t5 t8) * 65536)) ∧ (True))) (by kernel_rfl) ?_
    intro φ16 xs16 J4_16 leJ
    rintro _
    have h5_1 := TRep.mono leJ h5_1
    have h8_1 := TRep.mono leJ h8_1
    exact Fun.mono (common_c h5_1 h8_1 (cntT_ok (both_d8 (d8 h5_0) (d8 h8_0))) (dle16 (d8 h5_0)) (dle16 (d8 h8_0))) (fun v J' _ h => ⟨UX.d, h, trivial⟩)
  case k16 =>
    rintro φ16 xs16 I16 w16 le16 s _ _
    replace hla := BSl.mono le16 hla
    replace hlb := BSl.mono le16 hlb
    replace h5_1 := TRep.mono le16 h5_1
    replace h5_2 := RT.mono le16 h5_2
    replace h8_1 := TRep.mono le16 h8_1
    replace h8_2 := RT.mono le16 h8_2
    replace h11_0 := SpS.mono le16 h11_0
    replace h13_0 := RT.mono le16 h13_0
    replace h14_0 := SpS.mono le16 h14_0
    refine wp_seq ?_
    refine wp_seq ?_
    refine region_rule ?_
    refine ops_rule (C := []) [((φ6 0), .cells #[.bool b5, .pointer p5] 26), ((φ9 0), .cells #[.bool b8, .pointer p8] 26)] [] 1 [] 0 (fun φ17 => [(39, .complex .f64 (dF (widT t5 16)) (dF (cntT t5 * 65536)))]) (fun φ17 => [((φ6 0), .cells #[.bool b5, .pointer p5] 26), ((φ9 0), .cells #[.bool b8, .pointer p8] 26)]) (fun φ17 => []) s trivial (fun φ17 => by kernel_rfl) ?_
    intro φ17 w17 s
    refine sem_rule (Builtin.real_ #[35] 37 #[.complex .f64 (dF (widT t5 16)) (dF (cntT t5 * 65536))]) (some 40) (.float .f64 (dF (widT t5 16))) (by kernel_rfl) ((by kernel_rfl : ((Builtin.real_ #[35] 37 #[.complex .f64 (dF (widT t5 16)) (dF (cntT t5 * 65536))]) : Sem Value).run Try.prog w17 = .ok (.float .f64 (dF (widT t5 16))) w17)) ?_
    refine ops_rule (C := []) [((φ6 0), .cells #[.bool b5, .pointer p5] 26), ((φ9 0), .cells #[.bool b8, .pointer p8] 26)] [] 1 [] 0 (fun φ18 => [(41, .slice a11 (cntT t5) c11)]) (fun φ18 => [((φ6 0), .cells #[.bool b5, .pointer p5] 26), ((φ9 0), .cells #[.bool b8, .pointer p8] 26)]) (fun φ18 => []) s trivial (fun φ18 => by kernel_rfl) ?_
    intro φ18 w18 s
    refine call_rule (some 42) s (rwideT_c h11_0 (dle16 (d8 h5_0)) (cntT_ok (d8 h5_0))) (by kernel_rfl) ?_
    intro v19 I19 w19 le19 h19 s
    replace hla := BSl.mono le19 hla
    replace hlb := BSl.mono le19 hlb
    replace h5_1 := TRep.mono le19 h5_1
    replace h5_2 := RT.mono le19 h5_2
    replace h8_1 := TRep.mono le19 h8_1
    replace h8_2 := RT.mono le19 h8_2
    replace h11_0 := SpS.mono le19 h11_0
    replace h13_0 := RT.mono le19 h13_0
    replace h14_0 := SpS.mono le19 h14_0
    obtain rfl := h19
    refine call_rule (some 43) s (is_c (n := widT t5 16) (wid_e8 (d8 h5_0))) (by kernel_rfl) ?_
    intro v20 I20 w20 le20 h20 s
    replace hla := BSl.mono le20 hla
    replace hlb := BSl.mono le20 hlb
    replace h5_1 := TRep.mono le20 h5_1
    replace h5_2 := RT.mono le20 h5_2
    replace h8_1 := TRep.mono le20 h8_1
    replace h8_2 := RT.mono le20 h8_2
    replace h11_0 := SpS.mono le20 h11_0
    replace h13_0 := RT.mono le20 h13_0
    replace h14_0 := SpS.mono le20 h14_0
    obtain rfl := h20
    refine ops_rule (C := []) [((φ6 0), .cells #[.bool b5, .pointer p5] 26), ((φ9 0), .cells #[.bool b8, .pointer p8] 26)] [] 3 [] 0 (fun φ21 => [(46, .complex .f64 (dF (widT t5 16)) (dF (cntT t5 * 65536))), (45, .bool false), (44, .bool false)]) (fun φ21 => [((φ6 0), .cells #[.bool b5, .pointer p5] 26), ((φ9 0), .cells #[.bool b8, .pointer p8] 26)]) (fun φ21 => []) s trivial (fun φ21 => by kernel_rfl) ?_
    intro φ21 w21 s
    refine sem_rule (Builtin.imag_ #[35] 37 #[.complex .f64 (dF (widT t5 16)) (dF (cntT t5 * 65536))]) (some 47) (.float .f64 (dF (cntT t5 * 65536))) (by kernel_rfl) ((by kernel_rfl : ((Builtin.imag_ #[35] 37 #[.complex .f64 (dF (widT t5 16)) (dF (cntT t5 * 65536))]) : Sem Value).run Try.prog w21 = .ok (.float .f64 (dF (cntT t5 * 65536))) w21)) ?_
    refine ops_rule (C := []) [((φ6 0), .cells #[.bool b5, .pointer p5] 26), ((φ9 0), .cells #[.bool b8, .pointer p8] 26)] [] 2 [] 0 (fun φ22 => [(49, .int .i64 (((cntT t5) : Nat) : Int)), (48, .slice a11 (cntT t5) c11)]) (fun φ22 => [((φ6 0), .cells #[.bool b5, .pointer p5] 26), ((φ9 0), .cells #[.bool b8, .pointer p8] 26)]) (fun φ22 => []) s trivial (fun φ22 => by kernel_rfl) ?_
    intro φ22 w22 s
    refine sem_rule (convert 3 37 (.int .i64 (((cntT t5) : Nat) : Int))) (some 50) (.float .f64 (dF (cntT t5 * 65536))) (by kernel_rfl) ((run_wholeF3 (cnt_53 (d8 h5_0)))) ?_
    refine sem_rule (binOp .neq 37 (.float .f64 (dF (cntT t5 * 65536))) (.float .f64 (dF (cntT t5 * 65536)))) (some 51) (.bool false) (by kernel_rfl) (run_neF (cnt_53 (d8 h5_0))) ?_
    refine ops_rule (C := []) [((φ6 0), .cells #[.bool b5, .pointer p5] 26), ((φ9 0), .cells #[.bool b8, .pointer p8] 26)] [] 3 [] 0 (fun φ23 => [(54, .complex .f64 (dF (widT (bothT t5 t8) 16)) (dF (cntT (bothT t5 t8) * 65536))), (53, .bool false), (52, .bool false)]) (fun φ23 => [((φ6 0), .cells #[.bool b5, .pointer p5] 26), ((φ9 0), .cells #[.bool b8, .pointer p8] 26)]) (fun φ23 => []) s trivial (fun φ23 => by kernel_rfl) ?_
    intro φ23 w23 s
    refine sem_rule (Builtin.real_ #[35] 37 #[.complex .f64 (dF (widT (bothT t5 t8) 16)) (dF (cntT (bothT t5 t8) * 65536))]) (some 55) (.float .f64 (dF (widT (bothT t5 t8) 16))) (by kernel_rfl) ((by kernel_rfl : ((Builtin.real_ #[35] 37 #[.complex .f64 (dF (widT (bothT t5 t8) 16)) (dF (cntT (bothT t5 t8) * 65536))]) : Sem Value).run Try.prog w23 = .ok (.float .f64 (dF (widT (bothT t5 t8) 16))) w23)) ?_
    refine ops_rule (C := []) [((φ6 0), .cells #[.bool b5, .pointer p5] 26), ((φ9 0), .cells #[.bool b8, .pointer p8] 26)] [] 1 [] 0 (fun φ24 => [(56, .slice a14 (cntT (bothT t5 t8)) c14)]) (fun φ24 => [((φ6 0), .cells #[.bool b5, .pointer p5] 26), ((φ9 0), .cells #[.bool b8, .pointer p8] 26)]) (fun φ24 => []) s trivial (fun φ24 => by kernel_rfl) ?_
    intro φ24 w24 s
    refine call_rule (some 57) s (rwideT_c h14_0 (dle16 (both_d8 (d8 h5_0) (d8 h8_0))) (cntT_ok (both_d8 (d8 h5_0) (d8 h8_0)))) (by kernel_rfl) ?_
    intro v25 I25 w25 le25 h25 s
    replace hla := BSl.mono le25 hla
    replace hlb := BSl.mono le25 hlb
    replace h5_1 := TRep.mono le25 h5_1
    replace h5_2 := RT.mono le25 h5_2
    replace h8_1 := TRep.mono le25 h8_1
    replace h8_2 := RT.mono le25 h8_2
    replace h11_0 := SpS.mono le25 h11_0
    replace h13_0 := RT.mono le25 h13_0
    replace h14_0 := SpS.mono le25 h14_0
    obtain rfl := h25
    refine call_rule (some 58) s (is_c (n := widT (bothT t5 t8) 16) (wid_e8 (both_d8 (d8 h5_0) (d8 h8_0)))) (by kernel_rfl) ?_
    intro v26 I26 w26 le26 h26 s
    replace hla := BSl.mono le26 hla
    replace hlb := BSl.mono le26 hlb
    replace h5_1 := TRep.mono le26 h5_1
    replace h5_2 := RT.mono le26 h5_2
    replace h8_1 := TRep.mono le26 h8_1
    replace h8_2 := RT.mono le26 h8_2
    replace h11_0 := SpS.mono le26 h11_0
    replace h13_0 := RT.mono le26 h13_0
    replace h14_0 := SpS.mono le26 h14_0
    obtain rfl := h26
    refine ops_rule (C := []) [((φ6 0), .cells #[.bool b5, .pointer p5] 26), ((φ9 0), .cells #[.bool b8, .pointer p8] 26)] [] 4 [] 0 (fun φ27 => [(62, .complex .f64 (dF (widT (bothT t5 t8) 16)) (dF (cntT (bothT t5 t8) * 65536))), (61, .bool false), (60, .bool false), (59, .bool false)]) (fun φ27 => [((φ6 0), .cells #[.bool b5, .pointer p5] 26), ((φ9 0), .cells #[.bool b8, .pointer p8] 26)]) (fun φ27 => []) s trivial (fun φ27 => by kernel_rfl) ?_
    intro φ27 w27 s
    refine sem_rule (Builtin.imag_ #[35] 37 #[.complex .f64 (dF (widT (bothT t5 t8) 16)) (dF (cntT (bothT t5 t8) * 65536))]) (some 63) (.float .f64 (dF (cntT (bothT t5 t8) * 65536))) (by kernel_rfl) ((by kernel_rfl : ((Builtin.imag_ #[35] 37 #[.complex .f64 (dF (widT (bothT t5 t8) 16)) (dF (cntT (bothT t5 t8) * 65536))]) : Sem Value).run Try.prog w27 = .ok (.float .f64 (dF (cntT (bothT t5 t8) * 65536))) w27)) ?_
    refine ops_rule (C := []) [((φ6 0), .cells #[.bool b5, .pointer p5] 26), ((φ9 0), .cells #[.bool b8, .pointer p8] 26)] [] 2 [] 0 (fun φ28 => [(65, .int .i64 (((cntT (bothT t5 t8)) : Nat) : Int)), (64, .slice a14 (cntT (bothT t5 t8)) c14)]) (fun φ28 => [((φ6 0), .cells #[.bool b5, .pointer p5] 26), ((φ9 0), .cells #[.bool b8, .pointer p8] 26)]) (fun φ28 => []) s trivial (fun φ28 => by kernel_rfl) ?_
    intro φ28 w28 s
    refine sem_rule (convert 3 37 (.int .i64 (((cntT (bothT t5 t8)) : Nat) : Int))) (some 66) (.float .f64 (dF (cntT (bothT t5 t8) * 65536))) (by kernel_rfl) ((run_wholeF3 (cnt_53 (both_d8 (d8 h5_0) (d8 h8_0))))) ?_
    refine sem_rule (binOp .neq 37 (.float .f64 (dF (cntT (bothT t5 t8) * 65536))) (.float .f64 (dF (cntT (bothT t5 t8) * 65536)))) (some 67) (.bool false) (by kernel_rfl) (run_neF (cnt_53 (both_d8 (d8 h5_0) (d8 h8_0)))) ?_
    refine ops_rule (C := []) [((φ6 0), .cells #[.bool b5, .pointer p5] 26), ((φ9 0), .cells #[.bool b8, .pointer p8] 26)] [] 3 [] 0 (fun φ29 => [(70, .complex .f64 (dF (widT (bothT t5 t8) 16)) (dF (cntT (bothT t5 t8) * 65536))), (69, .bool false), (68, .bool false)]) (fun φ29 => [((φ6 0), .cells #[.bool b5, .pointer p5] 26), ((φ9 0), .cells #[.bool b8, .pointer p8] 26)]) (fun φ29 => []) s trivial (fun φ29 => by kernel_rfl) ?_
    intro φ29 w29 s
    refine sem_rule (Builtin.real_ #[35] 37 #[.complex .f64 (dF (widT (bothT t5 t8) 16)) (dF (cntT (bothT t5 t8) * 65536))]) (some 71) (.float .f64 (dF (widT (bothT t5 t8) 16))) (by kernel_rfl) ((by kernel_rfl : ((Builtin.real_ #[35] 37 #[.complex .f64 (dF (widT (bothT t5 t8) 16)) (dF (cntT (bothT t5 t8) * 65536))]) : Sem Value).run Try.prog w29 = .ok (.float .f64 (dF (widT (bothT t5 t8) 16))) w29)) ?_
    refine sem_rule (binOp .eql 37 (.float .f64 (dF (widT (bothT t5 t8) 16))) (.float .f64 0)) (some 72) (.bool (disjT t5 t8)) (by kernel_rfl) (run_eqF0 (wid_53 (both_d8 (d8 h5_0) (d8 h8_0))) (wid_disj 16 (dle16 (d8 h5_0)) (dle16 (d8 h8_0)) h5_0.1 h8_0.1)) ?_
    refine ops_rule (C := []) [((φ6 0), .cells #[.bool b5, .pointer p5] 26), ((φ9 0), .cells #[.bool b8, .pointer p8] 26)] [] 2 [.o 0, .o 0, .o 1, .o 1] 0 (fun φ30 => [(74, .agg #[.bool b8, .pointer p8]), (73, .agg #[.bool b5, .pointer p5])]) (fun φ30 => [((φ6 0), .cells #[.bool b5, .pointer p5] 26), ((φ9 0), .cells #[.bool b8, .pointer p8] 26)]) (fun φ30 => [(φ6 0), (φ6 0), (φ9 0), (φ9 0)]) s trivial (fun φ30 => by kernel_rfl) ?_
    intro φ30 w30 s
    refine call_rule (some 75) s (disj_c t5 t8 h5_1 h8_1) (by kernel_rfl) ?_
    intro v31 I31 w31 le31 h31 s
    replace hla := BSl.mono le31 hla
    replace hlb := BSl.mono le31 hlb
    replace h5_1 := TRep.mono le31 h5_1
    replace h5_2 := RT.mono le31 h5_2
    replace h8_1 := TRep.mono le31 h8_1
    replace h8_2 := RT.mono le31 h8_2
    replace h11_0 := SpS.mono le31 h11_0
    replace h13_0 := RT.mono le31 h13_0
    replace h14_0 := SpS.mono le31 h14_0
    obtain rfl := h31
    rcases Bool.eq_false_or_eq_true (disjT t5 t8) with hc32 | hc32
    ·
      rw [hc32]
      refine ops_rule (C := []) [((φ6 0), .cells #[.bool b5, .pointer p5] 26), ((φ9 0), .cells #[.bool b8, .pointer p8] 26)] [] 5 [.o 1, .o 1, .o 0, .o 0] 0 (fun φ33 => [(80, .agg #[.bool b5, .pointer p5]), (79, .agg #[.bool b8, .pointer p8]), (78, .bool false), (77, .bool false), (76, .bool false)]) (fun φ33 => [((φ6 0), .cells #[.bool b5, .pointer p5] 26), ((φ9 0), .cells #[.bool b8, .pointer p8] 26)]) (fun φ33 => [(φ9 0), (φ9 0), (φ6 0), (φ6 0)]) s trivial (fun φ33 => by kernel_rfl) ?_
      intro φ33 w33 s
      refine call_rule (some 81) s (commonR_c h8_1 h5_1 (cntT_ok (both_d8 (d8 h5_0) (d8 h8_0))) (dle16 (d8 h8_0)) (dle16 (d8 h5_0))) (by kernel_rfl) ?_
      intro v34 I34 w34 le34 h34 s
      replace hla := BSl.mono le34 hla
      replace hlb := BSl.mono le34 hlb
      replace h5_1 := TRep.mono le34 h5_1
      replace h5_2 := RT.mono le34 h5_2
      replace h8_1 := TRep.mono le34 h8_1
      replace h8_2 := RT.mono le34 h8_2
      replace h11_0 := SpS.mono le34 h11_0
      replace h13_0 := RT.mono le34 h13_0
      replace h14_0 := SpS.mono le34 h14_0
      obtain rfl := h34
      refine ops_rule (C := []) [((φ6 0), .cells #[.bool b5, .pointer p5] 26), ((φ9 0), .cells #[.bool b8, .pointer p8] 26)] [] 1 [] 0 (fun φ35 => [(82, .complex .f64 (dF (widT (bothT t5 t8) 16)) (dF (cntT (bothT t5 t8) * 65536)))]) (fun φ35 => [((φ6 0), .cells #[.bool b5, .pointer p5] 26), ((φ9 0), .cells #[.bool b8, .pointer p8] 26)]) (fun φ35 => []) s trivial (fun φ35 => by kernel_rfl) ?_
      intro φ35 w35 s
      refine sem_rule (binOp .neq 35 (.complex .f64 (dF (widT (bothT t5 t8) 16)) (dF (cntT (bothT t5 t8) * 65536))) (.complex .f64 (dF (widT (bothT t5 t8) 16)) (dF (cntT (bothT t5 t8) * 65536)))) (some 83) (.bool false) (by kernel_rfl) (run_neC (wid_53 (both_d8 (d8 h5_0) (d8 h8_0))) (cnt_53 (both_d8 (d8 h5_0) (d8 h8_0)))) ?_
      refine ops_rule (C := []) [((φ6 0), .cells #[.bool b5, .pointer p5] 26), ((φ9 0), .cells #[.bool b8, .pointer p8] 26)] [] 1 [] 0 (fun φ36 => [(84, .bool false)]) (fun φ36 => [((φ6 0), .cells #[.bool b5, .pointer p5] 26), ((φ9 0), .cells #[.bool b8, .pointer p8] 26)]) (fun φ36 => []) s trivial (fun φ36 => by kernel_rfl) ?_
      intro φ36 w36 s
      refine ops_done (by kernel_rfl) ?_
      refine cond_false_rule (b := false) (by kernel_rfl) rfl ?_
      refine wp_skip ?_
      refine wp_seq ?_
      refine region_rule ?_
      refine ops_rule (C := []) [((φ6 0), .cells #[.bool b5, .pointer p5] 26), ((φ9 0), .cells #[.bool b8, .pointer p8] 26)] [] 1 [.o 0, .o 0] 0 (fun φ37 => [(86, .agg #[.bool b5, .pointer p5])]) (fun φ37 => [((φ6 0), .cells #[.bool b5, .pointer p5] 26), ((φ9 0), .cells #[.bool b8, .pointer p8] 26)]) (fun φ37 => [(φ6 0), (φ6 0)]) s trivial (fun φ37 => by kernel_rfl) ?_
      intro φ37 w37 s
      refine call_rule (some 87) s (splitOk_c h5_1 (d15 h5_0)) (by kernel_rfl) ?_
      intro v38 I38 w38 le38 h38 s
      replace hla := BSl.mono le38 hla
      replace hlb := BSl.mono le38 hlb
      replace h5_1 := TRep.mono le38 h5_1
      replace h5_2 := RT.mono le38 h5_2
      replace h8_1 := TRep.mono le38 h8_1
      replace h8_2 := RT.mono le38 h8_2
      replace h11_0 := SpS.mono le38 h11_0
      replace h13_0 := RT.mono le38 h13_0
      replace h14_0 := SpS.mono le38 h14_0
      obtain ⟨b38, p38, d38, q38, rfl, h38_0, h38_1⟩ := h38
      refine ops_rule (C := []) [((φ6 0), .cells #[.bool b5, .pointer p5] 26), ((φ9 0), .cells #[.bool b8, .pointer p8] 26)] [] 9 [.o 2, .o 2, .o 3, .o 3] 2 (fun φ39 => [(15, .int .i64 0), (14, .pointer (some ⟨(φ39 1), 0, none⟩)), (13, .pointer (some ⟨(φ39 0), 0, none⟩)), (90, .int .i64 0), (89, .agg #[.bool d38, .pointer q38]), (88, .agg #[.bool b38, .pointer p38]), (85, .tuple #[.agg #[.bool b38, .pointer p38], .agg #[.bool d38, .pointer q38], .int .i64 0])]) (fun φ39 => [((φ6 0), .cells #[.bool b5, .pointer p5] 26), ((φ9 0), .cells #[.bool b8, .pointer p8] 26), ((φ39 0), .cells #[.bool b38, .pointer p38] 26), ((φ39 1), .cells #[.bool d38, .pointer q38] 26)]) (fun φ39 => [(φ39 0), (φ39 0), (φ39 1), (φ39 1)]) s trivial (fun φ39 => by kernel_rfl) ?_
      intro φ39 w39 s
      refine ops_done (by kernel_rfl) ?_
      refine wp_seq ?_
      refine draw_rule (C := []) ⟨(fun φ40 xs40 => [.look 0 [] [], .look 0 [] [], .look 0 [] [], .look 0 [.o 2, .o 2] [(φ39 0), (φ39 0)], .call 16 #[.agg #[.bool b38, .pointer p38]], .ran (Builtin.real_ #[35] 37 #[.complex .f64 (dF (widT (cutT t5).1 16)) (dF (cntT (cutT t5).1 * 65536))]), .look 0 [.o 3, .o 3] [(φ39 1), (φ39 1)], .call 16 #[.agg #[.bool d38, .pointer q38]], .ran (Builtin.real_ #[35] 37 #[.complex .f64 (dF (widT (cutT t5).2 16)) (dF (cntT (cutT t5).2 * 65536))]), .ran (binOp .add 37 (.float .f64 (dF (widT (cutT t5).1 16))) (.float .f64 (dF (widT (cutT t5).2 16)))), .look 0 [] [], .ran (Builtin.real_ #[35] 37 #[.complex .f64 (dF (widT t5 16)) (dF (cntT t5 * 65536))]), .ran (binOp .eql 37 (.float .f64 (dF ((widT (cutT t5).1 16) + (widT (cutT t5).2 16)))) (.float .f64 (dF (widT t5 16)))), .look 0 [] [], .look 0 [] []]), (fun φ40 xs40 => [.int .i64 0, .bool true, .bool true, .agg #[.bool b38, .pointer p38], .complex .f64 (dF (widT (cutT t5).1 16)) (dF (cntT (cutT t5).1 * 65536)), .float .f64 (dF (widT (cutT t5).1 16)), .agg #[.bool d38, .pointer q38], .complex .f64 (dF (widT (cutT t5).2 16)) (dF (cntT (cutT t5).2 * 65536)), .float .f64 (dF (widT (cutT t5).2 16)), .float .f64 (dF ((widT (cutT t5).1 16) + (widT (cutT t5).2 16))), .complex .f64 (dF (widT t5 16)) (dF (cntT t5 * 65536)), .float .f64 (dF (widT t5 16)), .bool true, .bool true, .bool true]), (fun φ40 xs40 => [[((φ6 0), .cells #[.bool b5, .pointer p5] 26), ((φ9 0), .cells #[.bool b8, .pointer p8] 26), ((φ39 0), .cells #[.bool b38, .pointer p38] 26), ((φ39 1), .cells #[.bool d38, .pointer q38] 26)]]), (fun φ40 xs40 => [[default, default, default, default, default, default, default, default, default, default, default, default, default, default, default]]), [], [1, 1, 1, 1, 3, 6, 1, 3, 6, 6, 1, 6, 6, 1, 1]⟩ (fun j => ([MP.any, MP.any, MP.any, MP.any, MP.any, MP.any, MP.any, MP.any, MP.any, MP.any, MP.any, MP.any, MP.any, MP.any, MP.any] : List MP).getD j MP.any) [4, 7] [] [5, 8, 9, 11, 12] (fun φ40 xs40 => []) (fun φ40 xs40 => [(91, .int .i64 0), (92, .bool true), (93, .bool true), (94, .agg #[.bool b38, .pointer p38]), (95, .complex .f64 (dF (widT (cutT t5).1 16)) (dF (cntT (cutT t5).1 * 65536))), (96, .float .f64 (dF (widT (cutT t5).1 16))), (97, .agg #[.bool d38, .pointer q38]), (98, .complex .f64 (dF (widT (cutT t5).2 16)) (dF (cntT (cutT t5).2 * 65536))), (99, .float .f64 (dF (widT (cutT t5).2 16))), (100, .float .f64 (dF ((widT (cutT t5).1 16) + (widT (cutT t5).2 16)))), (101, .complex .f64 (dF (widT t5 16)) (dF (cntT t5 * 65536))), (102, .float .f64 (dF (widT t5 16))), (103, .bool true), (104, .bool true), (4, .bool true)]) (fun φ40 xs40 => [((φ6 0), .cells #[.bool b5, .pointer p5] 26), ((φ9 0), .cells #[.bool b8, .pointer p8] 26), ((φ39 0), .cells #[.bool b38, .pointer p38] 26), ((φ39 1), .cells #[.bool d38, .pointer q38] 26)]) s trivial (by kernel_rfl) (by kernel_rfl) (fun _ _ => by kernel_rfl) (fun _ _ => by kernel_rfl) ⟨fun _ _ => by kernel_rfl, fun _ _ => by kernel_rfl, fun _ _ => by kernel_rfl, fun _ _ => by kernel_rfl⟩ (fun _ _ _ => by kernel_rfl) (fun _ _ => by kernel_rfl) (fun _ _ => by kernel_rfl) (fun _ _ => by kernel_rfl) (fun _ _ => by kernel_rfl) (fun _ _ => by kernel_rfl) trivial ⟨kcast (A := ∀ (φ40 : Nat → Nat) (xs40 : Xs) (J : IM) (w : World), I38.Le J → J.Sub w → ((Builtin.real_ #[35] 37 #[.complex .f64 (dF (widT (cutT t5).1 16)) (dF (cntT (cutT t5).1 * 65536))]) : Sem Value).run Try.prog w = .ok (.float .f64 (dF (widT (cutT t5).1 16))) w) (by kernel_rfl) (fun φ40 xs40 J w hJ hS => (by kernel_rfl)), ⟨kcast (A := ∀ (φ40 : Nat → Nat) (xs40 : Xs) (J : IM) (w : World), I38.Le J → J.Sub w → ((Builtin.real_ #[35] 37 #[.complex .f64 (dF (widT (cutT t5).2 16)) (dF (cntT (cutT t5).2 * 65536))]) : Sem Value).run Try.prog w = .ok (.float .f64 (dF (widT (cutT t5).2 16))) w) (by kernel_rfl) (fun φ40 xs40 J w hJ hS => (by kernel_rfl)), ⟨kcast (A := ∀ (φ40 : Nat → Nat) (xs40 : Xs) (J : IM) (w : World), I38.Le J → J.Sub w → ((binOp .add 37 (.float .f64 (dF (widT (cutT t5).1 16))) (.float .f64 (dF (widT (cutT t5).2 16)))) : Sem Value).run Try.prog w = .ok (.float .f64 (dF ((widT (cutT t5).1 16) + (widT (cutT t5).2 16)))) w) (by kernel_rfl) (fun φ40 xs40 J w hJ hS => run_addF (wsum_53 (cut1_d8 h5_0) (cut2_d8 h5_0))), ⟨kcast (A := ∀ (φ40 : Nat → Nat) (xs40 : Xs) (J : IM) (w : World), I38.Le J → J.Sub w → ((Builtin.real_ #[35] 37 #[.complex .f64 (dF (widT t5 16)) (dF (cntT t5 * 65536))]) : Sem Value).run Try.prog w = .ok (.float .f64 (dF (widT t5 16))) w) (by kernel_rfl) (fun φ40 xs40 J w hJ hS => (by kernel_rfl)), ⟨kcast (A := ∀ (φ40 : Nat → Nat) (xs40 : Xs) (J : IM) (w : World), I38.Le J → J.Sub w → ((binOp .eql 37 (.float .f64 (dF ((widT (cutT t5).1 16) + (widT (cutT t5).2 16)))) (.float .f64 (dF (widT t5 16)))) : Sem Value).run Try.prog w = .ok (.bool true) w) (by kernel_rfl) (fun φ40 xs40 J w hJ hS => run_eqF2 (wsum_53 (cut1_d8 h5_0) (cut2_d8 h5_0)) (wid_cut (d17 h5_0) h5_0.1)), trivial⟩⟩⟩⟩⟩ (by kernel_rfl) ⟨?c40_4, ?c40_7, trivial⟩ ?k40
      case c40_4 =>
        refine kcast (A := ∀ (φ40 : Nat → Nat) (xs40 : Xs) (J4_40 : IM), I38.Le J4_40 → Fun Try.prog 16 #[.agg #[.bool b38, .pointer p38]] J4_40 (fun v J' => ∃ x : UX, v = .complex .f64 (dF (widT (cutT t5).1 16)) (dF (cntT (cutT t5).1 * 65536)) ∧ (True))) (by kernel_rfl) ?_
        intro φ40 xs40 J4_40 leJ
        have h38_0 := TRep.mono leJ h38_0
        exact Fun.mono (measure_c h38_0 (cntT_ok (cut1_d8 h5_0)) (dle16 (cut1_d8 h5_0))) (fun v J' _ h => ⟨UX.d, h, trivial⟩)
      case c40_7 =>
        refine kcast (A := ∀ (φ40 : Nat → Nat) (xs40 : Xs) (J7_40 : IM), I38.Le J7_40 → (True) → Fun Try.prog 16 #[.agg #[.bool d38, .pointer q38]] J7_40 (fun v J' => ∃ x : UX, v = .complex .f64 (dF (widT (cutT t5).2 16)) (dF (cntT (cutT t5).2 * 65536)) ∧ (True))) (by kernel_rfl) ?_
        intro φ40 xs40 J7_40 leJ
        rintro _
        have h38_1 := TRep.mono leJ h38_1
        exact Fun.mono (measure_c h38_1 (cntT_ok (cut2_d8 h5_0)) (dle16 (cut2_d8 h5_0))) (fun v J' _ h => ⟨UX.d, h, trivial⟩)
      case k40 =>
        rintro φ40 xs40 I40 w40 le40 s _ _
        replace hla := BSl.mono le40 hla
        replace hlb := BSl.mono le40 hlb
        replace h5_1 := TRep.mono le40 h5_1
        replace h5_2 := RT.mono le40 h5_2
        replace h8_1 := TRep.mono le40 h8_1
        replace h8_2 := RT.mono le40 h8_2
        replace h11_0 := SpS.mono le40 h11_0
        replace h13_0 := RT.mono le40 h13_0
        replace h14_0 := SpS.mono le40 h14_0
        replace h38_0 := TRep.mono le40 h38_0
        replace h38_1 := TRep.mono le40 h38_1
        refine wp_ret ?_
        refine ret_rule (C := []) [((φ6 0), .cells #[.bool b5, .pointer p5] 26), ((φ9 0), .cells #[.bool b8, .pointer p8] 26), ((φ39 0), .cells #[.bool b38, .pointer p38] 26), ((φ39 1), .cells #[.bool d38, .pointer q38] 26)] [] (.bool true) [] [] s trivial (by kernel_rfl) ?_
        exact ⟨_, _, _, rfl, s, rfl⟩
    ·
      rw [hc32]
      refine ops_rule (C := []) [((φ6 0), .cells #[.bool b5, .pointer p5] 26), ((φ9 0), .cells #[.bool b8, .pointer p8] 26)] [] 5 [.o 1, .o 1, .o 0, .o 0] 0 (fun φ41 => [(80, .agg #[.bool b5, .pointer p5]), (79, .agg #[.bool b8, .pointer p8]), (78, .bool false), (77, .bool false), (76, .bool false)]) (fun φ41 => [((φ6 0), .cells #[.bool b5, .pointer p5] 26), ((φ9 0), .cells #[.bool b8, .pointer p8] 26)]) (fun φ41 => [(φ9 0), (φ9 0), (φ6 0), (φ6 0)]) s trivial (fun φ41 => by kernel_rfl) ?_
      intro φ41 w41 s
      refine call_rule (some 81) s (commonR_c h8_1 h5_1 (cntT_ok (both_d8 (d8 h5_0) (d8 h8_0))) (dle16 (d8 h8_0)) (dle16 (d8 h5_0))) (by kernel_rfl) ?_
      intro v42 I42 w42 le42 h42 s
      replace hla := BSl.mono le42 hla
      replace hlb := BSl.mono le42 hlb
      replace h5_1 := TRep.mono le42 h5_1
      replace h5_2 := RT.mono le42 h5_2
      replace h8_1 := TRep.mono le42 h8_1
      replace h8_2 := RT.mono le42 h8_2
      replace h11_0 := SpS.mono le42 h11_0
      replace h13_0 := RT.mono le42 h13_0
      replace h14_0 := SpS.mono le42 h14_0
      obtain rfl := h42
      refine ops_rule (C := []) [((φ6 0), .cells #[.bool b5, .pointer p5] 26), ((φ9 0), .cells #[.bool b8, .pointer p8] 26)] [] 1 [] 0 (fun φ43 => [(82, .complex .f64 (dF (widT (bothT t5 t8) 16)) (dF (cntT (bothT t5 t8) * 65536)))]) (fun φ43 => [((φ6 0), .cells #[.bool b5, .pointer p5] 26), ((φ9 0), .cells #[.bool b8, .pointer p8] 26)]) (fun φ43 => []) s trivial (fun φ43 => by kernel_rfl) ?_
      intro φ43 w43 s
      refine sem_rule (binOp .neq 35 (.complex .f64 (dF (widT (bothT t5 t8) 16)) (dF (cntT (bothT t5 t8) * 65536))) (.complex .f64 (dF (widT (bothT t5 t8) 16)) (dF (cntT (bothT t5 t8) * 65536)))) (some 83) (.bool false) (by kernel_rfl) (run_neC (wid_53 (both_d8 (d8 h5_0) (d8 h8_0))) (cnt_53 (both_d8 (d8 h5_0) (d8 h8_0)))) ?_
      refine ops_rule (C := []) [((φ6 0), .cells #[.bool b5, .pointer p5] 26), ((φ9 0), .cells #[.bool b8, .pointer p8] 26)] [] 1 [] 0 (fun φ44 => [(84, .bool false)]) (fun φ44 => [((φ6 0), .cells #[.bool b5, .pointer p5] 26), ((φ9 0), .cells #[.bool b8, .pointer p8] 26)]) (fun φ44 => []) s trivial (fun φ44 => by kernel_rfl) ?_
      intro φ44 w44 s
      refine ops_done (by kernel_rfl) ?_
      refine cond_false_rule (b := false) (by kernel_rfl) rfl ?_
      refine wp_skip ?_
      refine wp_seq ?_
      refine region_rule ?_
      refine ops_rule (C := []) [((φ6 0), .cells #[.bool b5, .pointer p5] 26), ((φ9 0), .cells #[.bool b8, .pointer p8] 26)] [] 1 [.o 0, .o 0] 0 (fun φ45 => [(86, .agg #[.bool b5, .pointer p5])]) (fun φ45 => [((φ6 0), .cells #[.bool b5, .pointer p5] 26), ((φ9 0), .cells #[.bool b8, .pointer p8] 26)]) (fun φ45 => [(φ6 0), (φ6 0)]) s trivial (fun φ45 => by kernel_rfl) ?_
      intro φ45 w45 s
      refine call_rule (some 87) s (splitOk_c h5_1 (d15 h5_0)) (by kernel_rfl) ?_
      intro v46 I46 w46 le46 h46 s
      replace hla := BSl.mono le46 hla
      replace hlb := BSl.mono le46 hlb
      replace h5_1 := TRep.mono le46 h5_1
      replace h5_2 := RT.mono le46 h5_2
      replace h8_1 := TRep.mono le46 h8_1
      replace h8_2 := RT.mono le46 h8_2
      replace h11_0 := SpS.mono le46 h11_0
      replace h13_0 := RT.mono le46 h13_0
      replace h14_0 := SpS.mono le46 h14_0
      obtain ⟨b46, p46, d46, q46, rfl, h46_0, h46_1⟩ := h46
      refine ops_rule (C := []) [((φ6 0), .cells #[.bool b5, .pointer p5] 26), ((φ9 0), .cells #[.bool b8, .pointer p8] 26)] [] 9 [.o 2, .o 2, .o 3, .o 3] 2 (fun φ47 => [(15, .int .i64 0), (14, .pointer (some ⟨(φ47 1), 0, none⟩)), (13, .pointer (some ⟨(φ47 0), 0, none⟩)), (90, .int .i64 0), (89, .agg #[.bool d46, .pointer q46]), (88, .agg #[.bool b46, .pointer p46]), (85, .tuple #[.agg #[.bool b46, .pointer p46], .agg #[.bool d46, .pointer q46], .int .i64 0])]) (fun φ47 => [((φ6 0), .cells #[.bool b5, .pointer p5] 26), ((φ9 0), .cells #[.bool b8, .pointer p8] 26), ((φ47 0), .cells #[.bool b46, .pointer p46] 26), ((φ47 1), .cells #[.bool d46, .pointer q46] 26)]) (fun φ47 => [(φ47 0), (φ47 0), (φ47 1), (φ47 1)]) s trivial (fun φ47 => by kernel_rfl) ?_
      intro φ47 w47 s
      refine ops_done (by kernel_rfl) ?_
      refine wp_seq ?_
      refine draw_rule (C := []) ⟨(fun φ48 xs48 => [.look 0 [] [], .look 0 [] [], .look 0 [] [], .look 0 [.o 2, .o 2] [(φ47 0), (φ47 0)], .call 16 #[.agg #[.bool b46, .pointer p46]], .ran (Builtin.real_ #[35] 37 #[.complex .f64 (dF (widT (cutT t5).1 16)) (dF (cntT (cutT t5).1 * 65536))]), .look 0 [.o 3, .o 3] [(φ47 1), (φ47 1)], .call 16 #[.agg #[.bool d46, .pointer q46]], .ran (Builtin.real_ #[35] 37 #[.complex .f64 (dF (widT (cutT t5).2 16)) (dF (cntT (cutT t5).2 * 65536))]), .ran (binOp .add 37 (.float .f64 (dF (widT (cutT t5).1 16))) (.float .f64 (dF (widT (cutT t5).2 16)))), .look 0 [] [], .ran (Builtin.real_ #[35] 37 #[.complex .f64 (dF (widT t5 16)) (dF (cntT t5 * 65536))]), .ran (binOp .eql 37 (.float .f64 (dF ((widT (cutT t5).1 16) + (widT (cutT t5).2 16)))) (.float .f64 (dF (widT t5 16)))), .look 0 [] [], .look 0 [] []]), (fun φ48 xs48 => [.int .i64 0, .bool true, .bool true, .agg #[.bool b46, .pointer p46], .complex .f64 (dF (widT (cutT t5).1 16)) (dF (cntT (cutT t5).1 * 65536)), .float .f64 (dF (widT (cutT t5).1 16)), .agg #[.bool d46, .pointer q46], .complex .f64 (dF (widT (cutT t5).2 16)) (dF (cntT (cutT t5).2 * 65536)), .float .f64 (dF (widT (cutT t5).2 16)), .float .f64 (dF ((widT (cutT t5).1 16) + (widT (cutT t5).2 16))), .complex .f64 (dF (widT t5 16)) (dF (cntT t5 * 65536)), .float .f64 (dF (widT t5 16)), .bool true, .bool true, .bool true]), (fun φ48 xs48 => [[((φ6 0), .cells #[.bool b5, .pointer p5] 26), ((φ9 0), .cells #[.bool b8, .pointer p8] 26), ((φ47 0), .cells #[.bool b46, .pointer p46] 26), ((φ47 1), .cells #[.bool d46, .pointer q46] 26)]]), (fun φ48 xs48 => [[default, default, default, default, default, default, default, default, default, default, default, default, default, default, default]]), [], [1, 1, 1, 1, 3, 6, 1, 3, 6, 6, 1, 6, 6, 1, 1]⟩ (fun j => ([MP.any, MP.any, MP.any, MP.any, MP.any, MP.any, MP.any, MP.any, MP.any, MP.any, MP.any, MP.any, MP.any, MP.any, MP.any] : List MP).getD j MP.any) [4, 7] [] [5, 8, 9, 11, 12] (fun φ48 xs48 => []) (fun φ48 xs48 => [(91, .int .i64 0), (92, .bool true), (93, .bool true), (94, .agg #[.bool b46, .pointer p46]), (95, .complex .f64 (dF (widT (cutT t5).1 16)) (dF (cntT (cutT t5).1 * 65536))), (96, .float .f64 (dF (widT (cutT t5).1 16))), (97, .agg #[.bool d46, .pointer q46]), (98, .complex .f64 (dF (widT (cutT t5).2 16)) (dF (cntT (cutT t5).2 * 65536))), (99, .float .f64 (dF (widT (cutT t5).2 16))), (100, .float .f64 (dF ((widT (cutT t5).1 16) + (widT (cutT t5).2 16)))), (101, .complex .f64 (dF (widT t5 16)) (dF (cntT t5 * 65536))), (102, .float .f64 (dF (widT t5 16))), (103, .bool true), (104, .bool true), (4, .bool true)]) (fun φ48 xs48 => [((φ6 0), .cells #[.bool b5, .pointer p5] 26), ((φ9 0), .cells #[.bool b8, .pointer p8] 26), ((φ47 0), .cells #[.bool b46, .pointer p46] 26), ((φ47 1), .cells #[.bool d46, .pointer q46] 26)]) s trivial (by kernel_rfl) (by kernel_rfl) (fun _ _ => by kernel_rfl) (fun _ _ => by kernel_rfl) ⟨fun _ _ => by kernel_rfl, fun _ _ => by kernel_rfl, fun _ _ => by kernel_rfl, fun _ _ => by kernel_rfl⟩ (fun _ _ _ => by kernel_rfl) (fun _ _ => by kernel_rfl) (fun _ _ => by kernel_rfl) (fun _ _ => by kernel_rfl) (fun _ _ => by kernel_rfl) (fun _ _ => by kernel_rfl) trivial ⟨kcast (A := ∀ (φ48 : Nat → Nat) (xs48 : Xs) (J : IM) (w : World), I46.Le J → J.Sub w → ((Builtin.real_ #[35] 37 #[.complex .f64 (dF (widT (cutT t5).1 16)) (dF (cntT (cutT t5).1 * 65536))]) : Sem Value).run Try.prog w = .ok (.float .f64 (dF (widT (cutT t5).1 16))) w) (by kernel_rfl) (fun φ48 xs48 J w hJ hS => (by kernel_rfl)), ⟨kcast (A := ∀ (φ48 : Nat → Nat) (xs48 : Xs) (J : IM) (w : World), I46.Le J → J.Sub w → ((Builtin.real_ #[35] 37 #[.complex .f64 (dF (widT (cutT t5).2 16)) (dF (cntT (cutT t5).2 * 65536))]) : Sem Value).run Try.prog w = .ok (.float .f64 (dF (widT (cutT t5).2 16))) w) (by kernel_rfl) (fun φ48 xs48 J w hJ hS => (by kernel_rfl)), ⟨kcast (A := ∀ (φ48 : Nat → Nat) (xs48 : Xs) (J : IM) (w : World), I46.Le J → J.Sub w → ((binOp .add 37 (.float .f64 (dF (widT (cutT t5).1 16))) (.float .f64 (dF (widT (cutT t5).2 16)))) : Sem Value).run Try.prog w = .ok (.float .f64 (dF ((widT (cutT t5).1 16) + (widT (cutT t5).2 16)))) w) (by kernel_rfl) (fun φ48 xs48 J w hJ hS => run_addF (wsum_53 (cut1_d8 h5_0) (cut2_d8 h5_0))), ⟨kcast (A := ∀ (φ48 : Nat → Nat) (xs48 : Xs) (J : IM) (w : World), I46.Le J → J.Sub w → ((Builtin.real_ #[35] 37 #[.complex .f64 (dF (widT t5 16)) (dF (cntT t5 * 65536))]) : Sem Value).run Try.prog w = .ok (.float .f64 (dF (widT t5 16))) w) (by kernel_rfl) (fun φ48 xs48 J w hJ hS => (by kernel_rfl)), ⟨kcast (A := ∀ (φ48 : Nat → Nat) (xs48 : Xs) (J : IM) (w : World), I46.Le J → J.Sub w → ((binOp .eql 37 (.float .f64 (dF ((widT (cutT t5).1 16) + (widT (cutT t5).2 16)))) (.float .f64 (dF (widT t5 16)))) : Sem Value).run Try.prog w = .ok (.bool true) w) (by kernel_rfl) (fun φ48 xs48 J w hJ hS => run_eqF2 (wsum_53 (cut1_d8 h5_0) (cut2_d8 h5_0)) (wid_cut (d17 h5_0) h5_0.1)), trivial⟩⟩⟩⟩⟩ (by kernel_rfl) ⟨?c48_4, ?c48_7, trivial⟩ ?k48
      case c48_4 =>
        refine kcast (A := ∀ (φ48 : Nat → Nat) (xs48 : Xs) (J4_48 : IM), I46.Le J4_48 → Fun Try.prog 16 #[.agg #[.bool b46, .pointer p46]] J4_48 (fun v J' => ∃ x : UX, v = .complex .f64 (dF (widT (cutT t5).1 16)) (dF (cntT (cutT t5).1 * 65536)) ∧ (True))) (by kernel_rfl) ?_
        intro φ48 xs48 J4_48 leJ
        have h46_0 := TRep.mono leJ h46_0
        exact Fun.mono (measure_c h46_0 (cntT_ok (cut1_d8 h5_0)) (dle16 (cut1_d8 h5_0))) (fun v J' _ h => ⟨UX.d, h, trivial⟩)
      case c48_7 =>
        refine kcast (A := ∀ (φ48 : Nat → Nat) (xs48 : Xs) (J7_48 : IM), I46.Le J7_48 → (True) → Fun Try.prog 16 #[.agg #[.bool d46, .pointer q46]] J7_48 (fun v J' => ∃ x : UX, v = .complex .f64 (dF (widT (cutT t5).2 16)) (dF (cntT (cutT t5).2 * 65536)) ∧ (True))) (by kernel_rfl) ?_
        intro φ48 xs48 J7_48 leJ
        rintro _
        have h46_1 := TRep.mono leJ h46_1
        exact Fun.mono (measure_c h46_1 (cntT_ok (cut2_d8 h5_0)) (dle16 (cut2_d8 h5_0))) (fun v J' _ h => ⟨UX.d, h, trivial⟩)
      case k48 =>
        rintro φ48 xs48 I48 w48 le48 s _ _
        replace hla := BSl.mono le48 hla
        replace hlb := BSl.mono le48 hlb
        replace h5_1 := TRep.mono le48 h5_1
        replace h5_2 := RT.mono le48 h5_2
        replace h8_1 := TRep.mono le48 h8_1
        replace h8_2 := RT.mono le48 h8_2
        replace h11_0 := SpS.mono le48 h11_0
        replace h13_0 := RT.mono le48 h13_0
        replace h14_0 := SpS.mono le48 h14_0
        replace h46_0 := TRep.mono le48 h46_0
        replace h46_1 := TRep.mono le48 h46_1
        refine wp_ret ?_
        refine ret_rule (C := []) [((φ6 0), .cells #[.bool b5, .pointer p5] 26), ((φ9 0), .cells #[.bool b8, .pointer p8] 26), ((φ47 0), .cells #[.bool b46, .pointer p46] 26), ((φ47 1), .cells #[.bool d46, .pointer q46] 26)] [] (.bool true) [] [] s trivial (by kernel_rfl) ?_
        exact ⟨_, _, _, rfl, s, rfl⟩

end Go.Proofs.Ytgdickihjaomjaa.Ev
/- A slice of bytes that came in, as the contracts want it. -/
set_option linter.all false
namespace Go.Proofs.Ytgdickihjaomjaa.Ev
open Go.RowKit Go.Sep

theorem u8_nat {z : Int} (h : (Lit.int .u8 z).wf = true) : z = (((UInt8.ofNat z.toNat).toNat : Nat) : Int) := by
  have hb : 0 ≤ z ∧ z < 256 := by
    have := h; simp [Lit.wf, IntKind.min, IntKind.max, IntKind.signed, IntKind.bits] at this; omega
  rw [UInt8.toNat_ofNat']
  omega
theorem cell_block {w : World} {b o : Nat} {v : Value} (h : w.cell? ⟨b, o, none⟩ = some v) : ∃ cs T fr, w.heap[b]? = some (.cells cs T fr) ∧ cs[o]? = some v := by
  unfold World.cell? at h
  cases hb : w.heap[b]? with
  | none => simp [hb] at h
  | some ob =>
    cases ob <;> simp [hb] at h
    exact ⟨_, _, _, rfl, h⟩
theorem bslI_row {w : World} {a : Option Addr} {len cap : Nat} {zs : List Int}
    (h : (a = none ∧ len = 0 ∧ cap = 0 ∧ zs = []) ∨ ∃ x, a = some x ∧ len ≤ cap ∧ cap ≤ maxLen ∧ zs.length = cap ∧ (∀ i, i < zs.length → w.cell? (x.add i) = some (.int .u8 (zs.getD i 0))) ∧ ∀ n ∈ zs, (Lit.int .u8 n).wf = true) :
    ∃ l, BSl (fun k => w.heap[k]?) l (.slice a len cap) := by
  rcases h with ⟨rfl, rfl, rfl, rfl⟩ | ⟨x, rfl, hl, hm, hz, hc, hw⟩
  · exact ⟨[], bsl_nil _⟩
  · refine ⟨(zs.take len).map fun z => UInt8.ofNat z.toNat, some x, cap, by rw [List.length_map, List.length_take, Nat.min_eq_left (show len ≤ zs.length by omega)], by rw [List.length_map, List.length_take]; omega, fun j y hj => ?_⟩
    rw [List.getElem?_map, Option.map_eq_some_iff] at hj
    obtain ⟨z, hz1, rfl⟩ := hj
    rw [List.getElem?_take] at hz1
    split at hz1
    · have hjl : j < zs.length := (List.getElem?_eq_some_iff.1 hz1).1
      have h1 := hc j hjl
      have h2 : zs.getD j 0 = z := by simp [hz1]
      rw [h2] at h1
      obtain ⟨b, o, sp⟩ := x
      cases sp with
      | none =>
        have : (⟨b, o, none⟩ : Addr).add j = ⟨b, o + j, none⟩ := by unfold Addr.add; split <;> simp_all
        rw [this] at h1
        obtain ⟨cs, T, fr, e1, e2⟩ := cell_block h1
        refine ⟨b, o, cs, T, fr, rfl, e1, ?_⟩
        rw [← u8_nat (hw z (List.mem_of_getElem? hz1))]; exact e2
      | some sp =>
        exfalso
        have h0 := hc 0 (by omega)
        unfold World.cell? Addr.add at h0
        rw [if_pos rfl] at h0
        revert h0
        split <;> simp
    · cases hz1
end Go.Proofs.Ytgdickihjaomjaa.Ev
