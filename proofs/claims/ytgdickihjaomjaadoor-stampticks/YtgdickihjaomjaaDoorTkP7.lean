/- The document's trees, and their texts. -/
import Derived.Test.YtgdickihjaomjaaDoorTkP5
set_option linter.all false
set_option maxRecDepth 100000
namespace Go.Proofs.YtgdickihjaomjaaDoor
open Go.RowKit Go.Sep

def textS (i : T) (e : E) : List UInt8 := [40] ++ textT i ++ [59] ++ textE e ++ [41]
def RT (I : IM) : T → Nat → Prop
  | .zero, k => I k = some (.cells #[.int .i64 0, .pointer none, .pointer none] 84)
  | .one, k => I k = some (.cells #[.int .i64 1, .pointer none, .pointer none] 84)
  | .node l r, k => ∃ kl kr, I k = some (.cells #[.int .i64 2, .pointer (some ⟨kl, 0, none⟩), .pointer (some ⟨kr, 0, none⟩)] 84) ∧ RT I l kl ∧ RT I r kr
def RE (I : IM) : E → Nat → Prop
  | .leaf n, k => I k = some (.cells #[.int .u64 ((n : Nat) : Int), .pointer none, .pointer none] 112)
  | .node n l r, k => ∃ kl kr, I k = some (.cells #[.int .u64 ((n : Nat) : Int), .pointer (some ⟨kl, 0, none⟩), .pointer (some ⟨kr, 0, none⟩)] 112) ∧ RE I l kl ∧ RE I r kr
theorem RT.mono {I J : IM} (le : I.Le J) : ∀ {t : T} {k : Nat}, RT I t k → RT J t k
  | .zero, _, h => le _ _ h
  | .one, _, h => le _ _ h
  | .node _ _, _, ⟨kl, kr, h, hl, hr⟩ => ⟨kl, kr, le _ _ h, hl.mono le, hr.mono le⟩
theorem RE.mono {I J : IM} (le : I.Le J) : ∀ {e : E} {k : Nat}, RE I e k → RE J e k
  | .leaf _, _, h => le _ _ h
  | .node _ _ _, _, ⟨kl, kr, h, hl, hr⟩ => ⟨kl, kr, le _ _ h, hl.mono le, hr.mono le⟩
theorem digit_at {i : Nat} (h : i < 10) : (⟨#[48, 49, 50, 51, 52, 53, 54, 55, 56, 57]⟩ : ByteArray).extract i (i + 1) = ⟨[UInt8.ofNat (48 + i)].toArray⟩ := by
  have : ∀ i, i < 10 → (⟨#[48, 49, 50, 51, 52, 53, 54, 55, 56, 57]⟩ : ByteArray).extract i (i + 1) = ⟨[UInt8.ofNat (48 + i)].toArray⟩ := by decide
  exact this i h
theorem decDigits_small {n : Nat} (h : n < 10) : Lib.decDigits n = [UInt8.ofNat (48 + n % 10)] := by
  rw [Lib.decDigits, dif_pos h, Nat.mod_eq_of_lt h]
theorem decDigits_big {n : Nat} (h : ¬ n < 10) : Lib.decDigits n = Lib.decDigits (n / 10) ++ [UInt8.ofNat (48 + n % 10)] := by
  rw [Lib.decDigits, dif_neg h]

set_option maxHeartbeats 1000000 in
theorem stext_c {I : IM} {i : T} {e : E} {ib : Bool} {ip : Option Addr} {eb : Nat} {ep : Option Addr} (hi : TRep I i ib ip) (he : ERep I e eb ep) (hT : Tab I) (ht : e.top < 18446744073709551616) (hl1 : (textT i).length ≤ 1000000000) (hl2 : (textE e).length ≤ 1000000000) : Fun Tryd.prog 81 #[stv ib ip eb ep] I (fun v J => v = .string ⟨(textS i e).toArray⟩) := by
  refine enter_rule 13 [(0, .agg #[.bool ib, .pointer ip, .int .u64 ((eb : Nat) : Int), .pointer ep])] Tryd.func81 rfl (by kernel_rfl) ?_
  intro w s
  refine wp_seq ?_
  refine region_rule ?_
  refine ops_rule (C := []) [] [] 2 [] 1 (fun φ1 => [(2, .string ⟨#[]⟩), (1, .pointer (some ⟨(φ1 0), 0, none⟩))]) (fun φ1 => [((φ1 0), .cells #[.bool ib, .pointer ip, .int .u64 ((eb : Nat) : Int), .pointer ep] 64)]) (fun φ1 => []) s trivial (fun φ1 => by kernel_rfl) ?_
  intro φ1 w1 s
  refine ops_done (by kernel_rfl) ?_
  refine wp_seq ?_
  refine draw_rule (C := []) ⟨(fun φ2 xs2 => [.look 0 [] [], .look 0 [.o 0, .o 0] [(φ1 0), (φ1 0)], .call 109 #[.agg #[.bool ib, .pointer ip]], .ran (binOp .add 9 (.string ⟨#[40]⟩) (.string ⟨(textT i).toArray⟩)), .ran (binOp .add 9 (.string ⟨([40] ++ (textT i)).toArray⟩) (.string ⟨#[59]⟩)), .look 0 [] [], .look 0 [.o 0, .o 0] [(φ1 0), (φ1 0)], .call 25 #[.agg #[.int .u64 ((eb : Nat) : Int), .pointer ep]], .ran (binOp .add 9 (.string ⟨([40] ++ (textT i) ++ [59]).toArray⟩) (.string ⟨(textE e).toArray⟩)), .ran (binOp .add 9 (.string ⟨([40] ++ (textT i) ++ [59] ++ (textE e)).toArray⟩) (.string ⟨#[41]⟩)), .look 0 [] []]), (fun φ2 xs2 => [.pointer (some ⟨(φ1 0), 0, none⟩), .agg #[.bool ib, .pointer ip], .string ⟨(textT i).toArray⟩, .string ⟨([40] ++ (textT i)).toArray⟩, .string ⟨([40] ++ (textT i) ++ [59]).toArray⟩, .pointer (some ⟨(φ1 0), 2, none⟩), .agg #[.int .u64 ((eb : Nat) : Int), .pointer ep], .string ⟨(textE e).toArray⟩, .string ⟨([40] ++ (textT i) ++ [59] ++ (textE e)).toArray⟩, .string ⟨([40] ++ (textT i) ++ [59] ++ (textE e) ++ [41]).toArray⟩, .string ⟨([40] ++ (textT i) ++ [59] ++ (textE e) ++ [41]).toArray⟩]), (fun φ2 xs2 => [[((φ1 0), .cells #[.bool ib, .pointer ip, .int .u64 ((eb : Nat) : Int), .pointer ep] 64)]]), (fun φ2 xs2 => [[default, default, default, default, default, default, default, default, default, default, default]]), [], [1, 1, 3, 6, 6, 1, 1, 3, 6, 6, 1]⟩ (fun j => ([MP.any, MP.any, MP.any, MP.any, MP.any, MP.any, MP.any, MP.any, MP.any, MP.any, MP.any] : List MP).getD j MP.any) [2, 7] [] [3, 4, 8, 9] (fun φ2 xs2 => []) (fun φ2 xs2 => [(3, .pointer (some ⟨(φ1 0), 0, none⟩)), (4, .agg #[.bool ib, .pointer ip]), (5, .string ⟨(textT i).toArray⟩), (6, .string ⟨([40] ++ (textT i)).toArray⟩), (7, .string ⟨([40] ++ (textT i) ++ [59]).toArray⟩), (8, .pointer (some ⟨(φ1 0), 2, none⟩)), (9, .agg #[.int .u64 ((eb : Nat) : Int), .pointer ep]), (10, .string ⟨(textE e).toArray⟩), (11, .string ⟨([40] ++ (textT i) ++ [59] ++ (textE e)).toArray⟩), (12, .string ⟨([40] ++ (textT i) ++ [59] ++ (textE e) ++ [41]).toArray⟩), (2, .string ⟨([40] ++ (textT i) ++ [59] ++ (textE e) ++ [41]).toArray⟩)]) (fun φ2 xs2 => [((φ1 0), .cells #[.bool ib, .pointer ip, .int .u64 ((eb : Nat) : Int), .pointer ep] 64)]) s trivial (by kernel_rfl) (by kernel_rfl) (fun _ _ => by kernel_rfl) (fun _ _ => by kernel_rfl) ⟨fun _ _ => by kernel_rfl, fun _ _ => by kernel_rfl, fun _ _ => by kernel_rfl, fun _ _ => by kernel_rfl⟩ (fun _ _ _ => by kernel_rfl) (fun _ _ => by kernel_rfl) (fun _ _ => by kernel_rfl) (fun _ _ => by kernel_rfl) (fun _ _ => by kernel_rfl) (fun _ _ => by kernel_rfl) trivial ⟨kcast (A := ∀ (φ2 : Nat → Nat) (xs2 : Xs) (J : IM) (w : World), I.Le J → J.Sub w → ((binOp .add 9 (.string ⟨#[40]⟩) (.string ⟨(textT i).toArray⟩)) : Sem Value).run Tryd.prog w = .ok (.string ⟨([40] ++ (textT i)).toArray⟩) w) (by kernel_rfl) (fun φ2 xs2 J w _ _ => run_cat (x := [40]) (y := textT i) (by simp only [List.length_append, List.length_cons, List.length_nil]; omega)), ⟨kcast (A := ∀ (φ2 : Nat → Nat) (xs2 : Xs) (J : IM) (w : World), I.Le J → J.Sub w → ((binOp .add 9 (.string ⟨([40] ++ (textT i)).toArray⟩) (.string ⟨#[59]⟩)) : Sem Value).run Tryd.prog w = .ok (.string ⟨([40] ++ (textT i) ++ [59]).toArray⟩) w) (by kernel_rfl) (fun φ2 xs2 J w _ _ => run_cat (x := [40] ++ (textT i)) (y := [59]) (by simp only [List.length_append, List.length_cons, List.length_nil]; omega)), ⟨kcast (A := ∀ (φ2 : Nat → Nat) (xs2 : Xs) (J : IM) (w : World), I.Le J → J.Sub w → ((binOp .add 9 (.string ⟨([40] ++ (textT i) ++ [59]).toArray⟩) (.string ⟨(textE e).toArray⟩)) : Sem Value).run Tryd.prog w = .ok (.string ⟨([40] ++ (textT i) ++ [59] ++ (textE e)).toArray⟩) w) (by kernel_rfl) (fun φ2 xs2 J w _ _ => run_cat (x := [40] ++ (textT i) ++ [59]) (y := textE e) (by simp only [List.length_append, List.length_cons, List.length_nil]; omega)), ⟨kcast (A := ∀ (φ2 : Nat → Nat) (xs2 : Xs) (J : IM) (w : World), I.Le J → J.Sub w → ((binOp .add 9 (.string ⟨([40] ++ (textT i) ++ [59] ++ (textE e)).toArray⟩) (.string ⟨#[41]⟩)) : Sem Value).run Tryd.prog w = .ok (.string ⟨([40] ++ (textT i) ++ [59] ++ (textE e) ++ [41]).toArray⟩) w) (by kernel_rfl) (fun φ2 xs2 J w _ _ => run_cat (x := [40] ++ (textT i) ++ [59] ++ (textE e)) (y := [41]) (by simp only [List.length_append, List.length_cons, List.length_nil]; omega)), trivial⟩⟩⟩⟩ ⟨?c2_2, ?c2_7, trivial⟩ ?k2
  case c2_2 =>
    refine kcast (A := ∀ (φ2 : Nat → Nat) (xs2 : Xs) (J2_2 : IM), I.Le J2_2 → Fun Tryd.prog 109 #[.agg #[.bool ib, .pointer ip]] J2_2 (fun v J' => ∃ x : UX, v = .string ⟨(textT i).toArray⟩ ∧ (True))) (by kernel_rfl) ?_
    intro φ2 xs2 J2_2 leJ
    have hi := TRep.mono leJ hi
    exact Fun.mono (idtext_c hi (by omega)) (fun v J' _ h => ⟨UX.d, h, trivial⟩)
  case c2_7 =>
    refine kcast (A := ∀ (φ2 : Nat → Nat) (xs2 : Xs) (J7_2 : IM), I.Le J7_2 → (True) → Fun Tryd.prog 25 #[.agg #[.int .u64 ((eb : Nat) : Int), .pointer ep]] J7_2 (fun v J' => ∃ x : UX, v = .string ⟨(textE e).toArray⟩ ∧ (True))) (by kernel_rfl) ?_
    intro φ2 xs2 J7_2 leJ
    rintro _
    have he := ERep.mono leJ he
    have hT := Tab.mono leJ hT
    exact Fun.mono (text_c hT he (by omega) (by omega)) (fun v J' _ h => ⟨UX.d, h, trivial⟩)
  case k2 =>
    rintro φ2 xs2 I2 w2 le2 s _ _
    replace hi := TRep.mono le2 hi
    replace he := ERep.mono le2 he
    replace hT := Tab.mono le2 hT
    refine wp_ret ?_
    refine ret_rule (C := []) [((φ1 0), .cells #[.bool ib, .pointer ip, .int .u64 ((eb : Nat) : Int), .pointer ep] 64)] [] (.string ⟨([40] ++ (textT i) ++ [59] ++ (textE e) ++ [41]).toArray⟩) [] [] s trivial (by kernel_rfl) ?_
    exact ⟨_, _, _, rfl, s, rfl⟩

theorem digits_le (n : Nat) (h : n < 18446744073709551616) : (Lib.decDigits n).length ≤ 1000 := by
  have : ∀ (f n : Nat), n < 10 ^ f → (Lib.decDigits n).length ≤ f + 1 := by
    intro f
    induction f with
    | zero => intro n h; rw [decDigits_small (by omega)]; simp
    | succ f ih =>
      intro n h
      by_cases hn : n < 10
      · rw [decDigits_small hn]; simp
      · rw [decDigits_big hn]
        have := ih (n / 10) (by rw [Nat.pow_succ] at h; omega)
        simp only [List.length_append, List.length_cons, List.length_nil]; omega
  have := this 20 n (by omega)
  omega

set_option maxHeartbeats 1000000 in
theorem dec_step {I : IM} {n : Nat} (hn : n < 18446744073709551616) (ih : ¬ n < 10 → ∀ {J : IM}, Fun Tryd.prog 73 #[.int .u64 ((n / 10 : Nat) : Int)] J (fun v _ => v = .string ⟨(Lib.decDigits (n / 10)).toArray⟩)) : Fun Tryd.prog 73 #[.int .u64 ((n : Nat) : Int)] I (fun v J => v = .string ⟨(Lib.decDigits n).toArray⟩) := by
  refine enter_rule 18 [(0, .int .u64 ((n : Nat) : Int))] Tryd.func73 rfl (by kernel_rfl) ?_
  intro w s
  refine wp_seq ?_
  refine region_rule ?_
  refine ops_rule (C := []) [] [] 1 [] 0 (fun φ1 => [(2, .string ⟨#[]⟩)]) (fun φ1 => []) (fun φ1 => []) s trivial (fun φ1 => by kernel_rfl) ?_
  intro φ1 w1 s
  refine ops_done (by kernel_rfl) ?_
  refine wp_seq ?_
  refine region_rule ?_
  refine ops_rule (C := []) [] [] 5 [] 0 (fun φ2 => [(8, .int .u64 (IntKind.wrap .u64 ((Int.tmod ((n : Nat) : Int) ((10 : Nat) : Int)) + ((1 : Nat) : Int)))), (7, .int .u64 (Int.tmod ((n : Nat) : Int) ((10 : Nat) : Int))), (6, .int .u64 ((n : Nat) : Int)), (5, .int .u64 (Int.tmod ((n : Nat) : Int) ((10 : Nat) : Int))), (4, .int .u64 ((n : Nat) : Int))]) (fun φ2 => []) (fun φ2 => []) s trivial (fun φ2 => by kernel_rfl) ?_
  intro φ2 w2 s
  rw [nat_rem (a := n) (b := 10)]
  rw [nat_addU (a := (n % 10)) (b := 1) (by omega)]
  refine sem_rule (Instr.sliceAt 9 (.string ⟨#[48, 49, 50, 51, 52, 53, 54, 55, 56, 57]⟩) (some (.int .u64 ((n % 10 : Nat) : Int))) (some (.int .u64 (((n % 10) + 1 : Nat) : Int))) none) (some 9) (.string ⟨([UInt8.ofNat (48 + n % 10)]).toArray⟩) (by kernel_rfl) (by rw [← digit_at (show n % 10 < 10 by omega)]; exact run_sliceStrK (by kernel_rfl) (by omega) (by show n % 10 + 1 ≤ 10; omega)) ?_
  refine ops_rule (C := []) [] [] 1 [] 0 (fun φ3 => [(3, .string ⟨([UInt8.ofNat (48 + n % 10)]).toArray⟩)]) (fun φ3 => []) (fun φ3 => []) s trivial (fun φ3 => by kernel_rfl) ?_
  intro φ3 w3 s
  refine ops_done (by kernel_rfl) ?_
  refine wp_seq ?_
  refine wp_seq ?_
  refine region_rule ?_
  refine ops_rule (C := []) [] [] 2 [] 0 (fun φ4 => [(11, .bool (decide (((n : Nat) : Int) < ((10 : Nat) : Int)))), (10, .int .u64 ((n : Nat) : Int))]) (fun φ4 => []) (fun φ4 => []) s trivial (fun φ4 => by kernel_rfl) ?_
  intro φ4 w4 s
  rw [nat_lss (a := n) (b := 10)]
  refine ops_done (by kernel_rfl) ?_
  rcases Bool.eq_false_or_eq_true (decide (n < 10)) with hc5 | hc5
  ·
    rw [hc5]
    refine cond_true_rule (b := true) (by kernel_rfl) rfl ?_
    refine wp_seq ?_
    refine region_rule ?_
    refine ops_rule (C := []) [] [] 2 [] 0 (fun φ6 => [(2, .string ⟨([UInt8.ofNat (48 + n % 10)]).toArray⟩), (12, .string ⟨([UInt8.ofNat (48 + n % 10)]).toArray⟩)]) (fun φ6 => []) (fun φ6 => []) s trivial (fun φ6 => by kernel_rfl) ?_
    intro φ6 w6 s
    refine ops_done (by kernel_rfl) ?_
    refine wp_ret ?_
    refine ret_rule (C := []) [] [] (.string ⟨([UInt8.ofNat (48 + n % 10)]).toArray⟩) [] [] s trivial (by kernel_rfl) ?_
    exact ⟨_, _, _, rfl, s, (by rw [decDigits_small (of_decide_eq_true hc5)])⟩
  ·
    rw [hc5]
    refine cond_false_rule (b := false) (by kernel_rfl) rfl ?_
    refine wp_skip ?_
    refine wp_seq ?_
    refine region_rule ?_
    refine ops_rule (C := []) [] [] 2 [] 0 (fun φ7 => [(14, .int .u64 (IntKind.wrap .u64 (Int.tdiv ((n : Nat) : Int) ((10 : Nat) : Int)))), (13, .int .u64 ((n : Nat) : Int))]) (fun φ7 => []) (fun φ7 => []) s trivial (fun φ7 => by kernel_rfl) ?_
    intro φ7 w7 s
    rw [nat_quoU (a := n) (b := 10) (by omega)]
    refine call_rule (some 15) s (ih (of_decide_eq_false hc5)) (by kernel_rfl) ?_
    intro v8 I8 w8 le8 h8 s
    obtain rfl := h8
    refine ops_rule (C := []) [] [] 1 [] 0 (fun φ9 => [(16, .string ⟨([UInt8.ofNat (48 + n % 10)]).toArray⟩)]) (fun φ9 => []) (fun φ9 => []) s trivial (fun φ9 => by kernel_rfl) ?_
    intro φ9 w9 s
    refine sem_rule (binOp .add 9 (.string ⟨(Lib.decDigits (n / 10)).toArray⟩) (.string ⟨([UInt8.ofNat (48 + n % 10)]).toArray⟩)) (some 17) (.string ⟨(Lib.decDigits (n / 10) ++ [UInt8.ofNat (48 + n % 10)]).toArray⟩) (by kernel_rfl) (run_cat (x := Lib.decDigits (n / 10)) (y := [UInt8.ofNat (48 + n % 10)]) (by have hq := Nat.div_le_self n 10; have := digits_le (n / 10) (by omega); simp only [List.length_append, List.length_cons, List.length_nil]; omega)) ?_
    refine ops_rule (C := []) [] [] 1 [] 0 (fun φ10 => [(2, .string ⟨(Lib.decDigits (n / 10) ++ [UInt8.ofNat (48 + n % 10)]).toArray⟩)]) (fun φ10 => []) (fun φ10 => []) s trivial (fun φ10 => by kernel_rfl) ?_
    intro φ10 w10 s
    refine ops_done (by kernel_rfl) ?_
    refine wp_ret ?_
    refine ret_rule (C := []) [] [] (.string ⟨(Lib.decDigits (n / 10) ++ [UInt8.ofNat (48 + n % 10)]).toArray⟩) [] [] s trivial (by kernel_rfl) ?_
    exact ⟨_, _, _, rfl, s, (by rw [decDigits_big (of_decide_eq_false hc5)])⟩

theorem dec_c {I : IM} (n : Nat) (hn : n < 18446744073709551616) : Fun Tryd.prog 73 #[.int .u64 ((n : Nat) : Int)] I (fun v _ => v = .string ⟨(Lib.decDigits n).toArray⟩) := by
  induction n using Nat.strongRecOn generalizing I with
  | ind n ih => exact dec_step hn fun h {J} => ih (n / 10) (by omega) (by omega)

end Go.Proofs.YtgdickihjaomjaaDoor
