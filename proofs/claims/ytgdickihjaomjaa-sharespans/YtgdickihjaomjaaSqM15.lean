/- Turn -/
import Derived.Test.YtgdickihjaomjaaProg
import Derived.Test.YtgdickihjaomjaaSqS14
import Derived.Test.YtgdickihjaomjaaSqS13
import Derived.LoopN
set_option linter.all false
set_option maxRecDepth 100000
namespace Go.Proofs.Ytgdickihjaomjaa
open Go.RowKit Go.Sep
attribute [local irreducible] Go.wpList Go.Code.wp
theorem leMono9 {A I J : IM} (le : I.Le J) (h : A.Le I) : A.Le J := h.trans le
end Go.Proofs.Ytgdickihjaomjaa
/- ids: leaf -/
set_option linter.all false
set_option maxRecDepth 100000
namespace Go.Proofs.Ytgdickihjaomjaa
open Go.RowKit Go.Sep
attribute [local irreducible] Go.wpList Go.Code.wp
theorem under9 : Try.prog.underlying 9 = some .string := by kernel_rfl
theorem under22 : Try.prog.underlying 22 = some (.slice 5) := by kernel_rfl
def tkB (ss : List UInt8) (p c : Nat) : Bool := decide (p ≠ ss.length ∧ (ss.getD p 0).toNat = c)
theorem tk0 {ss : List UInt8} {p c : Nat} (h : p = ss.length) : tkB ss p c = false := by simp [tkB, h]
theorem tk1 {ss : List UInt8} {p c : Nat} (h : (ss.getD p 0).toNat ≠ c) : tkB ss p c = false := decide_eq_false fun q => h q.2
theorem tk2 {ss : List UInt8} {p c : Nat} (h : ¬ p = ss.length) (h2 : ¬ (ss.getD p 0).toNat ≠ c) : tkB ss p c = true := decide_eq_true ⟨h, Decidable.not_not.mp h2⟩
def tkP (ss : List UInt8) (p c : Nat) : Nat := p + (tkB ss p c).toNat
theorem tkP_le {ss : List UInt8} {p : Nat} (c : Nat) (h : p ≤ ss.length) : tkP ss p c ≤ ss.length := by
  unfold tkP
  cases e : tkB ss p c with
  | false => exact h
  | true =>
    have := (of_decide_eq_true e).1
    show p + 1 ≤ _; omega
theorem tkP_ge (ss : List UInt8) (p c : Nat) : p ≤ tkP ss p c := Nat.le_add_right _ _
theorem tkP_t {ss : List UInt8} {p c : Nat} (h : tkB ss p c = true) : tkP ss p c = p + 1 := by unfold tkP; rw [h]; rfl
def stV : List Nat → List Value
  | [] => []
  | a :: st => stV st ++ [.int .u8 ((a : Nat) : Int)]
theorem stV_len : ∀ (st : List Nat), (stV st).length = st.length * 1
  | [] => rfl
  | a :: st => by simp only [stV, List.length_append, stV_len st, List.length_cons, List.length_nil]; omega
def lfG (ss : List UInt8) : Nat → Nat → List Nat → Nat → Nat × List Nat × Nat × Nat × Bool
  | 0, p, st, d => (p, st, d, 0, false)
  | f + 1, p, st, d => if tkB ss p 40 = true then lfG ss f (tkP ss p 40) (32 :: st) (max d (st.length + 1))
    else if tkB ss (tkP ss p 40) 48 = true then (tkP ss (tkP ss p 40) 48, st, d, 48, true)
    else (tkP ss (tkP ss (tkP ss p 40) 48) 49, st, d, 49, tkB ss (tkP ss (tkP ss p 40) 48) 49)
section
variable {ss : List UInt8} {m p d : Nat} {st : List Nat}
theorem lf_go (hm : 0 < m) (h1 : tkB ss p 40 = true) : lfG ss m p st d = lfG ss (m - 1) (tkP ss p 40) (32 :: st) (max d (st.length + 1)) := by
  obtain ⟨f, rfl⟩ : ∃ f, m = f + 1 := ⟨m - 1, by omega⟩
  rw [lfG, if_pos h1]; rfl
theorem lf_zero (hm : 0 < m) (h1 : tkB ss p 40 = false) (h2 : tkB ss (tkP ss p 40) 48 = true) : lfG ss m p st d = (tkP ss (tkP ss p 40) 48, st, d, 48, true) := by
  obtain ⟨f, rfl⟩ : ∃ f, m = f + 1 := ⟨m - 1, by omega⟩
  rw [lfG, if_neg (by rw [h1]; decide), if_pos h2]
theorem lf_one (hm : 0 < m) (h1 : tkB ss p 40 = false) (h2 : tkB ss (tkP ss p 40) 48 = false) : lfG ss m p st d = (tkP ss (tkP ss (tkP ss p 40) 48) 49, st, d, 49, tkB ss (tkP ss (tkP ss p 40) 48) 49) := by
  obtain ⟨f, rfl⟩ : ∃ f, m = f + 1 := ⟨m - 1, by omega⟩
  rw [lfG, if_neg (by rw [h1]; decide), if_neg (by rw [h2]; decide)]
end

set_option maxHeartbeats 2000000 in
theorem takeP_c {I : IM} {b p c : Nat} {ss : List UInt8} {ov dv : Value} (hs : ss.length ≤ 1000000) (hp : p ≤ ss.length) : FunM Try.prog 71 #[.pointer (some ⟨b, 0, none⟩), .int .u8 ((c : Nat) : Int)] I [(b, .cells #[.string ⟨(ss).toArray⟩, .int .i64 ((p : Nat) : Int), ov, dv] 105)] (fun v J H' => ∃ b' : OB, H' = [b'] ∧ b'.1 = b ∧ v = .bool (tkB ss p c) ∧ b' = (b, .cells #[.string ⟨(ss).toArray⟩, .int .i64 ((tkP ss p c : Nat) : Int), ov, dv] 105)) := by
  refine enterM_rule 35 [(0, .pointer (some ⟨b, 0, none⟩)), (1, .int .u8 ((c : Nat) : Int))] Try.func71 rfl (by kernel_rfl) ?_
  intro w s
  refine wp_seq ?_
  refine region_rule ?_
  refine ops_rule (C := []) [(b, .cells #[.string ⟨(ss).toArray⟩, .int .i64 ((p : Nat) : Int), ov, dv] 105)] [] 1 [] 0 (fun φ1 => [(4, .bool false)]) (fun φ1 => [(b, .cells #[.string ⟨(ss).toArray⟩, .int .i64 ((p : Nat) : Int), ov, dv] 105)]) (fun φ1 => []) s trivial (fun φ1 => by kernel_rfl) ?_
  intro φ1 w1 s
  refine ops_done (by kernel_rfl) ?_
  refine wp_seq ?_
  refine wp_seq ?_
  rcases Bool.eq_false_or_eq_true (decide (p = ((ss).length))) with hc2 | hc2
  ·
    refine draw_rule (C := []) ⟨(fun φ3 xs3 => [.look 0 [] [], .look 0 [] [], .look 0 [] [], .look 0 [.o 0] [b], .look 0 [] [], .look 0 [] [], .look 0 [] [], .look 0 [.o 0] [b], .look 0 [] [], .sub 0 [] [] (.bool (((p : Nat) : Int) == (((ss).length : Nat) : Int))), .look 0 [] [], .skip, .skip, .skip, .skip, .skip, .skip, .skip, .skip, .skip, .skip, .skip, .look 0 [] []]), (fun φ3 xs3 => [.pointer (some ⟨b, 0, none⟩), .pointer (some ⟨b, 0, none⟩), .pointer (some ⟨b, 1, none⟩), .int .i64 ((p : Nat) : Int), .pointer (some ⟨b, 0, none⟩), .pointer (some ⟨b, 0, none⟩), .pointer (some ⟨b, 0, none⟩), .string ⟨(ss).toArray⟩, .int .i64 (((ss).length : Nat) : Int), .bool true, .bool true, undef, undef, undef, undef, undef, undef, undef, undef, undef, undef, undef, .bool true]), (fun φ3 xs3 => [[(b, .cells #[.string ⟨(ss).toArray⟩, .int .i64 ((p : Nat) : Int), ov, dv] 105)]]), (fun φ3 xs3 => [[default, default, default, default, default, default, default, default, default, default, default, default, default, default, default, default, default, default, default, default, default, default, default]]), [], [1, 1, 1, 1, 1, 1, 1, 1, 1, 5, 1, 0, 0, 0, 0, 0, 0, 0, 0, 0, 0, 0, 1]⟩ (fun j => ([MP.any, MP.any, MP.any, MP.any, MP.any, MP.any, MP.any, MP.any, MP.any, MP.any, MP.any, MP.any, MP.any, MP.any, MP.any, MP.any, MP.any, MP.any, MP.any, MP.any, MP.any, MP.any, MP.any] : List MP).getD j MP.any) [] [9] [] (fun φ3 xs3 => []) (fun φ3 xs3 => [(5, .pointer (some ⟨b, 0, none⟩)), (6, .pointer (some ⟨b, 0, none⟩)), (7, .pointer (some ⟨b, 1, none⟩)), (8, .int .i64 ((p : Nat) : Int)), (9, .pointer (some ⟨b, 0, none⟩)), (10, .pointer (some ⟨b, 0, none⟩)), (11, .pointer (some ⟨b, 0, none⟩)), (12, .string ⟨(ss).toArray⟩), (13, .int .i64 (((ss).length : Nat) : Int)), (14, .bool true), (15, .bool true), (16, undef), (17, undef), (18, undef), (19, undef), (20, undef), (21, undef), (22, undef), (23, undef), (24, undef), (25, undef), (26, undef), (27, .bool true)]) (fun φ3 xs3 => [(b, .cells #[.string ⟨(ss).toArray⟩, .int .i64 ((p : Nat) : Int), ov, dv] 105)]) s trivial (by kernel_rfl) (by kernel_rfl) (fun _ _ => by kernel_rfl) (fun _ _ => by kernel_rfl) ⟨fun _ _ => by kernel_rfl, fun _ _ => by kernel_rfl, fun _ _ => by kernel_rfl, fun _ _ => by kernel_rfl⟩ (fun _ _ _ => by kernel_rfl) (fun _ _ => by kernel_rfl) (fun _ _ => by kernel_rfl) (fun _ _ => by kernel_rfl) (fun _ _ => by kernel_rfl) (fun _ _ => by kernel_rfl) ⟨kcast (A := ∀ (φ3 : Nat → Nat) (xs3 : Xs), (.bool (((p : Nat) : Int) == (((ss).length : Nat) : Int)) : Value) = .bool true) (by kernel_rfl) (fun φ3 xs3 => congrArg Value.bool ((nat_eql (a := p) (b := ((ss).length))).trans (hc2))), trivial⟩ trivial (by kernel_rfl) trivial ?k3
    case k3 =>
      rintro φ3 xs3 I3 w3 le3 s 
      refine cond_true_rule (b := true) (by kernel_rfl) rfl ?_
      refine wp_seq ?_
      refine region_rule ?_
      refine ops_rule (C := []) [(b, .cells #[.string ⟨(ss).toArray⟩, .int .i64 ((p : Nat) : Int), ov, dv] 105)] [] 1 [] 0 (fun φ4 => [(4, .bool false)]) (fun φ4 => [(b, .cells #[.string ⟨(ss).toArray⟩, .int .i64 ((p : Nat) : Int), ov, dv] 105)]) (fun φ4 => []) s trivial (fun φ4 => by kernel_rfl) ?_
      intro φ4 w4 s
      refine ops_done (by kernel_rfl) ?_
      refine wp_ret ?_
      refine ret_rule (C := []) [(b, .cells #[.string ⟨(ss).toArray⟩, .int .i64 ((p : Nat) : Int), ov, dv] 105)] [] (.bool false) [] [] s trivial (by kernel_rfl) ?_
      replace s := s.drop (List.Sublist.append (List.Sublist.cons₂ _ List.Sublist.slnil) (List.Sublist.refl []))
      exact ⟨_, _, _, rfl, s, ⟨_, rfl, rfl, by rw [tk0 (of_decide_eq_true hc2)], by rw [show tkP ss p c = p + (tkB ss p c).toNat from rfl, tk0 (of_decide_eq_true hc2)]; rfl⟩⟩
  ·
    refine draw_rule (C := []) ⟨(fun φ5 xs5 => [.look 0 [] [], .look 0 [] [], .look 0 [] [], .look 0 [.o 0] [b], .look 0 [] [], .look 0 [] [], .look 0 [] [], .look 0 [.o 0] [b], .look 0 [] [], .sub 0 [] [] (.bool (((p : Nat) : Int) == (((ss).length : Nat) : Int))), .look 0 [] [], .look 0 [] [], .look 0 [] [], .look 0 [] [], .look 0 [.o 0] [b], .look 0 [] [], .look 0 [] [], .look 0 [] [], .look 0 [.o 0] [b], .ran (Instr.index 9 (.string ⟨(ss).toArray⟩) (.int .i64 ((p : Nat) : Int))), .look 0 [] [], .sub 0 [] [] (.bool ((((ss.getD p 0).toNat : Nat) : Int) != ((c : Nat) : Int))), .look 0 [] []]), (fun φ5 xs5 => [.pointer (some ⟨b, 0, none⟩), .pointer (some ⟨b, 0, none⟩), .pointer (some ⟨b, 1, none⟩), .int .i64 ((p : Nat) : Int), .pointer (some ⟨b, 0, none⟩), .pointer (some ⟨b, 0, none⟩), .pointer (some ⟨b, 0, none⟩), .string ⟨(ss).toArray⟩, .int .i64 (((ss).length : Nat) : Int), .bool false, .bool false, .pointer (some ⟨b, 0, none⟩), .pointer (some ⟨b, 0, none⟩), .pointer (some ⟨b, 0, none⟩), .string ⟨(ss).toArray⟩, .pointer (some ⟨b, 0, none⟩), .pointer (some ⟨b, 0, none⟩), .pointer (some ⟨b, 1, none⟩), .int .i64 ((p : Nat) : Int), .int .u8 (((ss.getD p 0).toNat : Nat) : Int), .int .u8 ((c : Nat) : Int), .bool (decide (((ss.getD p 0).toNat) ≠ c)), .bool (decide (((ss.getD p 0).toNat) ≠ c))]), (fun φ5 xs5 => [[(b, .cells #[.string ⟨(ss).toArray⟩, .int .i64 ((p : Nat) : Int), ov, dv] 105)]]), (fun φ5 xs5 => [[default, default, default, default, default, default, default, default, default, default, default, default, default, default, default, default, default, default, default, default, default, default, default]]), [], [1, 1, 1, 1, 1, 1, 1, 1, 1, 5, 1, 1, 1, 1, 1, 1, 1, 1, 1, 6, 1, 5, 1]⟩ (fun j => ([MP.any, MP.any, MP.any, MP.any, MP.any, MP.any, MP.any, MP.any, MP.any, MP.any, MP.any, MP.any, MP.any, MP.any, MP.any, MP.any, MP.any, MP.any, MP.any, MP.any, MP.any, MP.any, MP.any] : List MP).getD j MP.any) [] [9, 21] [19] (fun φ5 xs5 => []) (fun φ5 xs5 => [(5, .pointer (some ⟨b, 0, none⟩)), (6, .pointer (some ⟨b, 0, none⟩)), (7, .pointer (some ⟨b, 1, none⟩)), (8, .int .i64 ((p : Nat) : Int)), (9, .pointer (some ⟨b, 0, none⟩)), (10, .pointer (some ⟨b, 0, none⟩)), (11, .pointer (some ⟨b, 0, none⟩)), (12, .string ⟨(ss).toArray⟩), (13, .int .i64 (((ss).length : Nat) : Int)), (14, .bool false), (15, .bool false), (16, .pointer (some ⟨b, 0, none⟩)), (17, .pointer (some ⟨b, 0, none⟩)), (18, .pointer (some ⟨b, 0, none⟩)), (19, .string ⟨(ss).toArray⟩), (20, .pointer (some ⟨b, 0, none⟩)), (21, .pointer (some ⟨b, 0, none⟩)), (22, .pointer (some ⟨b, 1, none⟩)), (23, .int .i64 ((p : Nat) : Int)), (24, .int .u8 (((ss.getD p 0).toNat : Nat) : Int)), (25, .int .u8 ((c : Nat) : Int)), (26, .bool (decide (((ss.getD p 0).toNat) ≠ c))), (27, .bool (decide (((ss.getD p 0).toNat) ≠ c)))]) (fun φ5 xs5 => [(b, .cells #[.string ⟨(ss).toArray⟩, .int .i64 ((p : Nat) : Int), ov, dv] 105)]) s trivial (by kernel_rfl) (by kernel_rfl) (fun _ _ => by kernel_rfl) (fun _ _ => by kernel_rfl) ⟨fun _ _ => by kernel_rfl, fun _ _ => by kernel_rfl, fun _ _ => by kernel_rfl, fun _ _ => by kernel_rfl⟩ (fun _ _ _ => by kernel_rfl) (fun _ _ => by kernel_rfl) (fun _ _ => by kernel_rfl) (fun _ _ => by kernel_rfl) (fun _ _ => by kernel_rfl) (fun _ _ => by kernel_rfl) ⟨kcast (A := ∀ (φ5 : Nat → Nat) (xs5 : Xs), (.bool (((p : Nat) : Int) == (((ss).length : Nat) : Int)) : Value) = .bool false) (by kernel_rfl) (fun φ5 xs5 => congrArg Value.bool ((nat_eql (a := p) (b := ((ss).length))).trans (hc2))), ⟨kcast (A := ∀ (φ5 : Nat → Nat) (xs5 : Xs), (.bool ((((ss.getD p 0).toNat : Nat) : Int) != ((c : Nat) : Int)) : Value) = .bool (decide (((ss.getD p 0).toNat) ≠ c))) (by kernel_rfl) (fun φ5 xs5 => congrArg Value.bool ((nat_neq (a := ((ss.getD p 0).toNat)) (b := c)))), trivial⟩⟩ ⟨kcast (A := ∀ (φ5 : Nat → Nat) (xs5 : Xs) (J : IM) (w : World), I.Le J → J.Sub w → ((Instr.index 9 (.string ⟨(ss).toArray⟩) (.int .i64 ((p : Nat) : Int))) : Sem Value).run Try.prog w = .ok (.int .u8 (((ss.getD p 0).toNat : Nat) : Int)) w) (by kernel_rfl) (fun φ5 xs5 J w hJ hS => run_idxStr (s := ss) under9 (by have hq0 := of_decide_eq_false hc2; omega)), trivial⟩ (by kernel_rfl) trivial ?k5
    case k5 =>
      rintro φ5 xs5 I5 w5 le5 s 
      rcases Bool.eq_false_or_eq_true (decide (((ss.getD p 0).toNat) ≠ c)) with hc6 | hc6
      ·
        rw [hc6]
        refine cond_true_rule (b := true) (by kernel_rfl) rfl ?_
        refine wp_seq ?_
        refine region_rule ?_
        refine ops_rule (C := []) [(b, .cells #[.string ⟨(ss).toArray⟩, .int .i64 ((p : Nat) : Int), ov, dv] 105)] [] 1 [] 0 (fun φ7 => [(4, .bool false)]) (fun φ7 => [(b, .cells #[.string ⟨(ss).toArray⟩, .int .i64 ((p : Nat) : Int), ov, dv] 105)]) (fun φ7 => []) s trivial (fun φ7 => by kernel_rfl) ?_
        intro φ7 w7 s
        refine ops_done (by kernel_rfl) ?_
        refine wp_ret ?_
        refine ret_rule (C := []) [(b, .cells #[.string ⟨(ss).toArray⟩, .int .i64 ((p : Nat) : Int), ov, dv] 105)] [] (.bool false) [] [] s trivial (by kernel_rfl) ?_
        replace s := s.drop (List.Sublist.append (List.Sublist.cons₂ _ List.Sublist.slnil) (List.Sublist.refl []))
        exact ⟨_, _, _, rfl, s, ⟨_, rfl, rfl, by rw [tk1 (of_decide_eq_true hc6)], by rw [show tkP ss p c = p + (tkB ss p c).toNat from rfl, tk1 (of_decide_eq_true hc6)]; rfl⟩⟩
      ·
        rw [hc6]
        refine cond_false_rule (b := false) (by kernel_rfl) rfl ?_
        refine wp_skip ?_
        refine wp_seq ?_
        refine region_rule ?_
        refine ops_rule (C := []) [(b, .cells #[.string ⟨(ss).toArray⟩, .int .i64 ((p : Nat) : Int), ov, dv] 105)] [] 8 [.o 0, .o 0] 0 (fun φ8 => [(34, .pointer (some ⟨b, 1, none⟩)), (33, .pointer (some ⟨b, 0, none⟩)), (32, .int .i64 (IntKind.wrap .i64 (((p : Nat) : Int) + ((1 : Nat) : Int)))), (31, .int .i64 ((p : Nat) : Int)), (30, .pointer (some ⟨b, 1, none⟩)), (29, .pointer (some ⟨b, 0, none⟩)), (28, .pointer (some ⟨b, 0, none⟩))]) (fun φ8 => [(b, .cells #[.string ⟨(ss).toArray⟩, .int .i64 (IntKind.wrap .i64 (((p : Nat) : Int) + ((1 : Nat) : Int))), ov, dv] 105)]) (fun φ8 => [b, b]) s trivial (fun φ8 => by kernel_rfl) ?_
        intro φ8 w8 s
        rw [nat_addI (a := p) (b := 1) (by have hq0 := of_decide_eq_false hc2; have hq1 := of_decide_eq_false hc6; omega)] at s ⊢
        refine ops_done (by kernel_rfl) ?_
        refine wp_seq ?_
        refine region_rule ?_
        refine ops_rule (C := []) [(b, .cells #[.string ⟨(ss).toArray⟩, .int .i64 ((p + 1 : Nat) : Int), ov, dv] 105)] [] 1 [] 0 (fun φ9 => [(4, .bool true)]) (fun φ9 => [(b, .cells #[.string ⟨(ss).toArray⟩, .int .i64 ((p + 1 : Nat) : Int), ov, dv] 105)]) (fun φ9 => []) s trivial (fun φ9 => by kernel_rfl) ?_
        intro φ9 w9 s
        refine ops_done (by kernel_rfl) ?_
        refine wp_ret ?_
        refine ret_rule (C := []) [(b, .cells #[.string ⟨(ss).toArray⟩, .int .i64 ((p + 1 : Nat) : Int), ov, dv] 105)] [] (.bool true) [] [] s trivial (by kernel_rfl) ?_
        replace s := s.drop (List.Sublist.append (List.Sublist.cons₂ _ List.Sublist.slnil) (List.Sublist.refl []))
        exact ⟨_, _, _, rfl, s, ⟨_, rfl, rfl, by rw [tk2 (of_decide_eq_false hc2) (of_decide_eq_false hc6)], by rw [show tkP ss p c = p + (tkB ss p c).toNat from rfl, tk2 (of_decide_eq_false hc2) (of_decide_eq_false hc6)]; rfl⟩⟩

set_option maxHeartbeats 2000000 in
theorem leafG_c {I : IM} {b p d : Nat} {ss : List UInt8} {st : List Nat} {v : Value} {F : List OB} {p' d' sh : Nat} {st' : List Nat} {ok : Bool} (hs : ss.length ≤ 1000000) (hp : p ≤ ss.length) (hrow : RowH 5 1 v st.length (stV st) F) (hst : st.length ≤ p) (hd : d ≤ 1000000) (hL : lfG ss (ss.length + 1) p st d = (p', st', d', sh, ok)) : FunM Try.prog 69 #[.pointer (some ⟨b, 0, none⟩)] I ((b, .cells #[.string ⟨(ss).toArray⟩, .int .i64 ((p : Nat) : Int), v, .int .i64 ((d : Nat) : Int)] 105) :: F) (fun v J H' => ∃ (b' : OB) (F' : List OB), H' = b' :: F' ∧ b'.1 = b ∧ ∃ v' : Value, v = .tuple #[.int .u8 ((sh : Nat) : Int), .bool ok] ∧ b' = (b, .cells #[.string ⟨(ss).toArray⟩, .int .i64 ((p' : Nat) : Int), v', .int .i64 ((d' : Nat) : Int)] 105) ∧ RowH 5 1 v' st'.length (stV st') F') := by
  refine enterM_rule 32 [(0, .pointer (some ⟨b, 0, none⟩))] Try.func69 rfl (by kernel_rfl) ?_
  intro w s
  refine wp_seq ?_
  refine region_rule ?_
  refine ops_rule (C := []) [(b, .cells #[.string ⟨(ss).toArray⟩, .int .i64 ((p : Nat) : Int), v, .int .i64 ((d : Nat) : Int)] 105)] F 2 [] 0 (fun φ1 => [(3, .bool false), (2, .int .u8 0)]) (fun φ1 => [(b, .cells #[.string ⟨(ss).toArray⟩, .int .i64 ((p : Nat) : Int), v, .int .i64 ((d : Nat) : Int)] 105)]) (fun φ1 => []) s trivial (fun φ1 => by kernel_rfl) ?_
  intro φ1 w1 s
  refine ops_done (by kernel_rfl) ?_
  refine wp_seq ?_
  refine wp_block ?_
  have hle2 := IM.Le.refl I
  refine loop_rule (fun (x : Nat × List Nat × Nat × Value × List OB) => [(0, .pointer (some ⟨b, 0, none⟩))]) (fun (x : Nat × List Nat × Nat × Value × List OB) => (b, .cells #[.string ⟨(ss).toArray⟩, .int .i64 ((x.1 : Nat) : Int), x.2.2.2.1, .int .i64 ((x.2.2.1 : Nat) : Int)] 105) :: x.2.2.2.2) (fun m (x : Nat × List Nat × Nat × Value × List OB) J => IM.Le I J ∧ lfG ss m x.1 x.2.1 x.2.2.1 = lfG ss (ss.length + 1) p st d ∧ x.1 ≤ ss.length ∧ ss.length < x.1 + m ∧ RowH 5 1 x.2.2.2.1 x.2.1.length (stV x.2.1) x.2.2.2.2 ∧ x.2.1.length ≤ x.1 ∧ x.2.2.1 ≤ 1000000) (ss.length + 1) (p, st, d, v, F) s (by kernel_rfl) (List.Sublist.refl _) ⟨IM.Le.refl _, rfl, hp, by omega, hrow, hst, hd⟩ ?_
  rintro m3 ⟨p3, st3, d3, v3, F3⟩ I3 w3 evj s ⟨le3, hL3, hp3, hm3, hrow3, hst3, hd3⟩
  dsimp only at s hL3 hp3 hm3 hrow3 hst3 hd3
  replace hle2 := leMono9 le3 hle2
  refine wp_seq ?_
  refine wp_seq ?_
  refine region_rule ?_
  refine ops_rule (C := []) [(b, .cells #[.string ⟨(ss).toArray⟩, .int .i64 ((p3 : Nat) : Int), v3, .int .i64 ((d3 : Nat) : Int)] 105)] F3 1 [] 0 (fun φ4 => [(4, .pointer (some ⟨b, 0, none⟩))]) (fun φ4 => [(b, .cells #[.string ⟨(ss).toArray⟩, .int .i64 ((p3 : Nat) : Int), v3, .int .i64 ((d3 : Nat) : Int)] 105)]) (fun φ4 => []) s trivial (fun φ4 => by kernel_rfl) ?_
  intro φ4 w4 s
  refine callB_rule (b := (b, .cells #[.string ⟨(ss).toArray⟩, .int .i64 ((p3 : Nat) : Int), v3, .int .i64 ((d3 : Nat) : Int)] 105)) (H := [(b, .cells #[.string ⟨(ss).toArray⟩, .int .i64 ((p3 : Nat) : Int), v3, .int .i64 ((d3 : Nat) : Int)] 105)]) (F := F3) (Hr := []) (some 5) 0 s (by kernel_rfl) (by kernel_rfl) (takeP_c (ov := v3) (dv := .int .i64 ((d3 : Nat) : Int)) (b := b) (p := p3) (c := 40) (ss := ss) hs hp3) (by kernel_rfl) ?_
  rintro v5 I5 w5 b5 le5 - h5 s
  replace hle2 := leMono9 le5 hle2
  obtain ⟨rfl, rfl⟩ := h5
  refine ops_done (by kernel_rfl) ?_
  rcases Bool.eq_false_or_eq_true (tkB ss p3 40) with hc6 | hc6
  ·
    rw [hc6]
    refine cond_true_rule (b := true) (by kernel_rfl) rfl ?_
    refine wp_skip ?_
    refine wp_block ?_
    refine wp_seq ?_
    refine region_rule ?_
    refine ops_rule (C := []) [(b, .cells #[.string ⟨(ss).toArray⟩, .int .i64 ((tkP ss p3 40 : Nat) : Int), v3, .int .i64 ((d3 : Nat) : Int)] 105)] F3 6 [.o 0] 1 (fun φ7 => [(11, .slice (some ⟨(φ7 0), 0, none⟩) 1 1), (10, v3), (9, .pointer (some ⟨b, 2, none⟩)), (8, .pointer (some ⟨b, 0, none⟩)), (7, .pointer (some ⟨b, 0, none⟩)), (6, .pointer (some ⟨b, 0, none⟩))]) (fun φ7 => [(b, .cells #[.string ⟨(ss).toArray⟩, .int .i64 ((tkP ss p3 40 : Nat) : Int), v3, .int .i64 ((d3 : Nat) : Int)] 105), ((φ7 0), .cells #[.int .u8 32] 5)]) (fun φ7 => [b]) s trivial (fun φ7 => by kernel_rfl) ?_
    intro φ7 w7 s
    refine append_rule (H := [(b, .cells #[.string ⟨(ss).toArray⟩, .int .i64 ((tkP ss p3 40 : Nat) : Int), v3, .int .i64 ((d3 : Nat) : Int)] 105), ((φ7 0), .cells #[.int .u8 32] 5)]) (F := F3) 22 22 5 Try.t5 (.int .u8 0) 1 1 (some 12) s Try.underlying22 (by kernel_rfl) (by kernel_rfl) (by kernel_rfl) (by kernel_rfl) (by kernel_rfl) (by decide) hrow3 (src_own s 1 (φ7 0) #[.int .u8 32] 5 22 5 1 1 1 [.int .u8 32] (by kernel_rfl) Try.underlying22 (by kernel_rfl) (by kernel_rfl) (by kernel_rfl)) (by simp only [maxLen]; omega) (by omega) (by kernel_rfl) ?_
    intro v8 w8 F8 s h8
    obtain ⟨g8, cap8, rfl⟩ := row_some h8 (Nat.succ_pos _)
    refine ops_rule (C := []) [(b, .cells #[.string ⟨(ss).toArray⟩, .int .i64 ((tkP ss p3 40 : Nat) : Int), v3, .int .i64 ((d3 : Nat) : Int)] 105), ((φ7 0), .cells #[.int .u8 32] 5)] F8 3 [.o 0] 0 (fun φ9 => [(14, .pointer (some ⟨b, 2, none⟩)), (13, .pointer (some ⟨b, 0, none⟩))]) (fun φ9 => [(b, .cells #[.string ⟨(ss).toArray⟩, .int .i64 ((tkP ss p3 40 : Nat) : Int), .slice (some ⟨g8, 0, none⟩) ((List.length st3) + 1) cap8, .int .i64 ((d3 : Nat) : Int)] 105), ((φ7 0), .cells #[.int .u8 32] 5)]) (fun φ9 => [b]) s trivial (fun φ9 => by kernel_rfl) ?_
    intro φ9 w9 s
    refine ops_done (by kernel_rfl) ?_
    refine drawK_rule (C := []) ⟨(fun φ10 xs10 => [.look 0 [] [], .look 0 [] [], .look 0 [] [], .look 0 [] [], .look 0 [.o 0] [b], .look 0 [] [], .look 0 [] [], .look 0 [] [], .look 0 [.o 0] [b], .look 0 [] [], .sub 0 [] [] (.int .i64 (if ((((List.length st3) + 1) : Nat) : Int) > ((d3 : Nat) : Int) then ((((List.length st3) + 1) : Nat) : Int) else ((d3 : Nat) : Int))), .look 0 [] [], .look 0 [] [], .store 0 [.o 0] [b]]), (fun φ10 xs10 => [.pointer (some ⟨b, 0, none⟩), .pointer (some ⟨b, 0, none⟩), .pointer (some ⟨b, 0, none⟩), .pointer (some ⟨b, 3, none⟩), .int .i64 ((d3 : Nat) : Int), .pointer (some ⟨b, 0, none⟩), .pointer (some ⟨b, 0, none⟩), .pointer (some ⟨b, 2, none⟩), .slice (some ⟨g8, 0, none⟩) ((List.length st3) + 1) cap8, .int .i64 ((((List.length st3) + 1) : Nat) : Int), .int .i64 ((max d3 ((List.length st3) + 1) : Nat) : Int), .pointer (some ⟨b, 0, none⟩), .pointer (some ⟨b, 3, none⟩), undef]), (fun φ10 xs10 => [[(b, .cells #[.string ⟨(ss).toArray⟩, .int .i64 ((tkP ss p3 40 : Nat) : Int), .slice (some ⟨g8, 0, none⟩) ((List.length st3) + 1) cap8, .int .i64 ((d3 : Nat) : Int)] 105), ((φ7 0), .cells #[.int .u8 32] 5)], [(b, .cells #[.string ⟨(ss).toArray⟩, .int .i64 ((tkP ss p3 40 : Nat) : Int), .slice (some ⟨g8, 0, none⟩) ((List.length st3) + 1) cap8, .int .i64 ((max d3 ((List.length st3) + 1) : Nat) : Int)] 105), ((φ7 0), .cells #[.int .u8 32] 5)]]), (fun φ10 xs10 => [[default, default, default, default, default, default, default, default, default, default, default, default, default, default], [default, default, default, default, default, default, default, default, default, default, default, default, default, default]]), [13], [1, 1, 1, 1, 1, 1, 1, 1, 1, 1, 5, 1, 1, 4]⟩ (fun j => ([MP.any, MP.any, MP.any, MP.any, MP.any, MP.any, MP.any, MP.any, MP.any, MP.any, MP.any, MP.any, MP.any, MP.any] : List MP).getD j MP.any) F8 [] [10] [] (fun φ10 xs10 => [[none, none, none, none, none, none, none, none, none, none, none, none, none, none]]) (fun φ10 xs10 => [(15, .pointer (some ⟨b, 0, none⟩)), (16, .pointer (some ⟨b, 0, none⟩)), (17, .pointer (some ⟨b, 0, none⟩)), (18, .pointer (some ⟨b, 3, none⟩)), (19, .int .i64 ((d3 : Nat) : Int)), (20, .pointer (some ⟨b, 0, none⟩)), (21, .pointer (some ⟨b, 0, none⟩)), (22, .pointer (some ⟨b, 2, none⟩)), (23, .slice (some ⟨g8, 0, none⟩) ((List.length st3) + 1) cap8), (24, .int .i64 ((((List.length st3) + 1) : Nat) : Int)), (25, .int .i64 ((max d3 ((List.length st3) + 1) : Nat) : Int)), (26, .pointer (some ⟨b, 0, none⟩)), (27, .pointer (some ⟨b, 3, none⟩))]) (fun φ10 xs10 => [(b, .cells #[.string ⟨(ss).toArray⟩, .int .i64 ((tkP ss p3 40 : Nat) : Int), .slice (some ⟨g8, 0, none⟩) ((List.length st3) + 1) cap8, .int .i64 ((max d3 ((List.length st3) + 1) : Nat) : Int)] 105), ((φ7 0), .cells #[.int .u8 32] 5)]) s trivial (by kernel_rfl) (by kernel_rfl) (fun _ _ => by kernel_rfl) (fun _ _ => by kernel_rfl) ⟨fun _ _ => by kernel_rfl, fun _ _ => by kernel_rfl, fun _ _ => by kernel_rfl, fun _ _ => by kernel_rfl⟩ (fun _ _ _ => by kernel_rfl) (fun _ _ => by kernel_rfl) (fun _ _ => by kernel_rfl) (fun _ _ => by kernel_rfl) (fun _ _ => by kernel_rfl) (fun _ _ => by kernel_rfl) ⟨kcast (A := ∀ (φ10 : Nat → Nat) (xs10 : Xs), (.int .i64 (if ((((List.length st3) + 1) : Nat) : Int) > ((d3 : Nat) : Int) then ((((List.length st3) + 1) : Nat) : Int) else ((d3 : Nat) : Int)) : Value) = .int .i64 ((max d3 ((List.length st3) + 1) : Nat) : Int)) (by kernel_rfl) (fun φ10 xs10 => congrArg (Value.int .i64) ((nat_max (a := d3) (b := ((List.length st3) + 1))))), trivial⟩ trivial (by kernel_rfl) trivial ?k10
    case k10 =>
      rintro φ10 xs10 I10 w10 le10 s 
      replace hle2 := leMono9 le10 hle2
      have hv9 := tkP_t hc6
      have hg9 := (lf_go (m := m3) (p := p3) (d := d3) (st := st3) (by omega) hc6).symm.trans hL3
      have ht9 := tkP_le 40 hp3
      exact ⟨⟨m3 - 1, (tkP ss p3 40, 32 :: st3, max d3 ((List.length st3) + 1), .slice (some ⟨g8, 0, none⟩) ((List.length st3) + 1) cap8, F8), _, _, _, by omega, rfl, s, (List.Sublist.cons₂ _ (List.Sublist.cons _ (List.Sublist.refl _))), by kernel_rfl, hle2, hg9, (tkP_le 40 hp3), by simp only; omega, h8, by simp only [List.length_cons]; omega, by simp only; omega⟩⟩
  ·
    rw [hc6]
    refine cond_false_rule (b := false) (by kernel_rfl) rfl ?_
    refine wp_exit ?_
    refine wp_seq ?_
    refine wp_seq ?_
    refine region_rule ?_
    refine ops_rule (C := []) [(b, .cells #[.string ⟨(ss).toArray⟩, .int .i64 ((tkP ss p3 40 : Nat) : Int), v3, .int .i64 ((d3 : Nat) : Int)] 105)] F3 1 [] 0 (fun φ11 => [(28, .pointer (some ⟨b, 0, none⟩))]) (fun φ11 => [(b, .cells #[.string ⟨(ss).toArray⟩, .int .i64 ((tkP ss p3 40 : Nat) : Int), v3, .int .i64 ((d3 : Nat) : Int)] 105)]) (fun φ11 => []) s trivial (fun φ11 => by kernel_rfl) ?_
    intro φ11 w11 s
    refine callB_rule (b := (b, .cells #[.string ⟨(ss).toArray⟩, .int .i64 ((tkP ss p3 40 : Nat) : Int), v3, .int .i64 ((d3 : Nat) : Int)] 105)) (H := [(b, .cells #[.string ⟨(ss).toArray⟩, .int .i64 ((tkP ss p3 40 : Nat) : Int), v3, .int .i64 ((d3 : Nat) : Int)] 105)]) (F := F3) (Hr := []) (some 29) 0 s (by kernel_rfl) (by kernel_rfl) (takeP_c (ov := v3) (dv := .int .i64 ((d3 : Nat) : Int)) (b := b) (p := tkP ss p3 40) (c := 48) (ss := ss) hs (tkP_le 40 hp3)) (by kernel_rfl) ?_
    rintro v12 I12 w12 b12 le12 - h12 s
    replace hle2 := leMono9 le12 hle2
    obtain ⟨rfl, rfl⟩ := h12
    refine ops_done (by kernel_rfl) ?_
    rcases Bool.eq_false_or_eq_true (tkB ss (tkP ss p3 40) 48) with hc13 | hc13
    ·
      rw [hc13]
      refine cond_true_rule (b := true) (by kernel_rfl) rfl ?_
      refine wp_seq ?_
      refine region_rule ?_
      refine ops_rule (C := []) [(b, .cells #[.string ⟨(ss).toArray⟩, .int .i64 ((tkP ss (tkP ss p3 40) 48 : Nat) : Int), v3, .int .i64 ((d3 : Nat) : Int)] 105)] F3 2 [] 0 (fun φ14 => [(3, .bool true), (2, .int .u8 48)]) (fun φ14 => [(b, .cells #[.string ⟨(ss).toArray⟩, .int .i64 ((tkP ss (tkP ss p3 40) 48 : Nat) : Int), v3, .int .i64 ((d3 : Nat) : Int)] 105)]) (fun φ14 => []) s trivial (fun φ14 => by kernel_rfl) ?_
      intro φ14 w14 s
      refine ops_done (by kernel_rfl) ?_
      refine wp_ret ?_
      refine ret_rule (C := []) [(b, .cells #[.string ⟨(ss).toArray⟩, .int .i64 ((tkP ss (tkP ss p3 40) 48 : Nat) : Int), v3, .int .i64 ((d3 : Nat) : Int)] 105)] F3 (.tuple #[.int .u8 48, .bool true]) [] [] s trivial (by kernel_rfl) ?_
      replace s := s.drop (List.Sublist.append (List.Sublist.cons₂ _ List.Sublist.slnil) (List.Sublist.refl F3))
      have hg9 := (lf_zero (m := m3) (p := p3) (d := d3) (st := st3) (by omega) hc6 hc13).symm.trans (hL3.trans hL)
      cases hg9
      exact ⟨_, _, _, rfl, s, ⟨_, _, rfl, rfl, _, rfl, rfl, hrow3⟩⟩
    ·
      rw [hc13]
      refine cond_false_rule (b := false) (by kernel_rfl) rfl ?_
      refine wp_skip ?_
      refine wp_seq ?_
      refine region_rule ?_
      refine ops_rule (C := []) [(b, .cells #[.string ⟨(ss).toArray⟩, .int .i64 ((tkP ss (tkP ss p3 40) 48 : Nat) : Int), v3, .int .i64 ((d3 : Nat) : Int)] 105)] F3 1 [] 0 (fun φ15 => [(30, .pointer (some ⟨b, 0, none⟩))]) (fun φ15 => [(b, .cells #[.string ⟨(ss).toArray⟩, .int .i64 ((tkP ss (tkP ss p3 40) 48 : Nat) : Int), v3, .int .i64 ((d3 : Nat) : Int)] 105)]) (fun φ15 => []) s trivial (fun φ15 => by kernel_rfl) ?_
      intro φ15 w15 s
      refine callB_rule (b := (b, .cells #[.string ⟨(ss).toArray⟩, .int .i64 ((tkP ss (tkP ss p3 40) 48 : Nat) : Int), v3, .int .i64 ((d3 : Nat) : Int)] 105)) (H := [(b, .cells #[.string ⟨(ss).toArray⟩, .int .i64 ((tkP ss (tkP ss p3 40) 48 : Nat) : Int), v3, .int .i64 ((d3 : Nat) : Int)] 105)]) (F := F3) (Hr := []) (some 31) 0 s (by kernel_rfl) (by kernel_rfl) (takeP_c (ov := v3) (dv := .int .i64 ((d3 : Nat) : Int)) (b := b) (p := tkP ss (tkP ss p3 40) 48) (c := 49) (ss := ss) hs (tkP_le 48 (tkP_le 40 hp3))) (by kernel_rfl) ?_
      rintro v16 I16 w16 b16 le16 - h16 s
      replace hle2 := leMono9 le16 hle2
      obtain ⟨rfl, rfl⟩ := h16
      refine ops_rule (C := []) [(b, .cells #[.string ⟨(ss).toArray⟩, .int .i64 ((tkP ss (tkP ss (tkP ss p3 40) 48) 49 : Nat) : Int), v3, .int .i64 ((d3 : Nat) : Int)] 105)] F3 2 [] 0 (fun φ17 => [(3, .bool (tkB ss (tkP ss (tkP ss p3 40) 48) 49)), (2, .int .u8 49)]) (fun φ17 => [(b, .cells #[.string ⟨(ss).toArray⟩, .int .i64 ((tkP ss (tkP ss (tkP ss p3 40) 48) 49 : Nat) : Int), v3, .int .i64 ((d3 : Nat) : Int)] 105)]) (fun φ17 => []) s trivial (fun φ17 => by kernel_rfl) ?_
      intro φ17 w17 s
      refine ops_done (by kernel_rfl) ?_
      refine wp_ret ?_
      refine ret_rule (C := []) [(b, .cells #[.string ⟨(ss).toArray⟩, .int .i64 ((tkP ss (tkP ss (tkP ss p3 40) 48) 49 : Nat) : Int), v3, .int .i64 ((d3 : Nat) : Int)] 105)] F3 (.tuple #[.int .u8 49, .bool (tkB ss (tkP ss (tkP ss p3 40) 48) 49)]) [] [] s trivial (by kernel_rfl) ?_
      replace s := s.drop (List.Sublist.append (List.Sublist.cons₂ _ List.Sublist.slnil) (List.Sublist.refl F3))
      have hg9 := (lf_one (m := m3) (p := p3) (d := d3) (st := st3) (by omega) hc6 hc13).symm.trans (hL3.trans hL)
      cases hg9
      exact ⟨_, _, _, rfl, s, ⟨_, _, rfl, rfl, _, rfl, rfl, hrow3⟩⟩

end Go.Proofs.Ytgdickihjaomjaa
/- ids: closePairs -/
set_option linter.all false
set_option maxRecDepth 100000
namespace Go.Proofs.Ytgdickihjaomjaa
open Go.RowKit Go.Sep
attribute [local irreducible] Go.wpList Go.Code.wp
theorem rounds_step {P : Program} {c : Code} {Q : Exit → Act → World → Prop} {n : Nat} {a : Act} {w : World} (h : c.wp P (Exit.then (Code.rounds P c Q n) Q) a w) : Code.rounds P c Q (n + 1) a w := by
  rw [Go.rounds_succ]; exact h
def mayI (l r : Nat) : Bool := decide (l ≠ r ∨ l = 40)
def clG (ss : List UInt8) : List Nat → Nat → Nat → Nat × List Nat × Nat × Bool
  | [], p, half => (p, [], half, true)
  | l :: st, p, half => if l = 32 then (p, l :: st, half, true) else
      (if tkB ss p 41 = true then (if mayI l half = true then clG ss st (tkP ss p 41) 40 else (tkP ss p 41, l :: st, 32, false))
       else (tkP ss p 41, l :: st, 32, false))
def lastI : List Nat → Int
  | [] => -1
  | _ :: st => ((st.length : Nat) : Int)
theorem last_sub {st : List Nat} (h : st.length ≤ 1000000) : IntKind.wrap .i64 (((st.length : Nat) : Int) - ((1 : Nat) : Int)) = lastI st := by
  cases st with
  | nil => rfl
  | cons a st =>
    simp only [List.length_cons] at h
    show _ = ((st.length : Nat) : Int)
    rw [nat_subI (by simp only [List.length_cons]; omega) (by simp only [List.length_cons]; omega)]
    simp only [List.length_cons]; omega
theorem size5 (w : World) : (sizeOf 5).run Try.prog w = .ok 1 w := by kernel_rfl
theorem addr_add (b k : Nat) : (⟨b, 0, none⟩ : Addr).add k = ⟨b, k, none⟩ := by unfold Addr.add; split <;> simp_all
theorem run_idx22 {w : World} {g n c k : Nat} (h : k < n) : (Instr.indexAt 22 (.slice (some ⟨g, 0, none⟩) n c) (.int .i64 ((k : Nat) : Int))).run Try.prog w = .ok (.pointer (some ⟨g, k, none⟩)) w := by
  have h2 : (k : Int) < (n : Int) := by omega
  simp [Instr.indexAt, asIntOf, run_underlying under22, size5, h2, addr_add]
  intro h3; omega
theorem run_cutRowG {w : World} {g n cap k : Nat} (hk : k ≤ cap) :
    (Instr.sliceAt 22 (.slice (some ⟨g, 0, none⟩) n cap) none (some (.int .i64 ((k : Nat) : Int))) none).run Try.prog w = .ok (.slice (some ⟨g, 0, none⟩) k cap) w := by
  have hb : (Instr.sliceBound (.int .i64 ((k : Nat) : Int)) cap .sliceAcap).run Try.prog w = .ok k w := run_bound (k := k) hk
  simp [Instr.sliceAt, run_underlying under22, Instr.slice, Instr.sliceBounds, hb]
  intro _; rfl
theorem run_load5 {w : World} {g j : Nat} {v : Value} (h : w.cell? ⟨g, j, none⟩ = some v) : (Instr.loadAt 5 (.pointer (some ⟨g, j, none⟩))).run Try.prog w = .ok v w := by
  have e : (Instr.loadAt 5 (.pointer (some ⟨g, j, none⟩))).run Try.prog w = (load ⟨g, j, none⟩).run Try.prog w := by kernel_rfl
  rw [e]; simp only [load, Sem.run, h]
theorem st_left {l : Nat} {st : List Nat} : (stV (l :: st))[st.length]? = some (.int .u8 ((l : Nat) : Int)) := by
  have h := stV_len st
  rw [Nat.mul_one] at h
  rw [stV, List.getElem?_append_right (by rw [h]; exact Nat.le_refl _), h, Nat.sub_self]; rfl
theorem st_cut {l g cap : Nat} {st : List Nat} {F : List OB} (h : RowH 5 1 (.slice (some ⟨g, 0, none⟩) (st.length + 1) cap) (st.length + 1) (stV (l :: st)) F) : RowH 5 1 (.slice (some ⟨g, 0, none⟩) st.length cap) st.length (stV st) F := by
  have := RowH.take (k := st.length) h (by omega)
  rw [stV, ← stV_len, List.take_left'] at this
  · exact this
  · rfl
theorem row_cap {n g cap : Nat} {xs : List Value} {F : List OB} (h : RowH 5 1 (.slice (some ⟨g, 0, none⟩) n cap) n xs F) : n ≤ cap := by
  rcases h.2 with ⟨h, _⟩ | ⟨g', cap', cur, h, hF, hnc, _⟩
  · cases h
  · cases h; exact hnc
section
variable {ss : List UInt8} {p l half : Nat} {st : List Nat}
theorem cl_stop (h : l = 32) : clG ss (l :: st) p half = (p, l :: st, half, true) := by rw [clG, if_pos h]
theorem cl_go (h : ¬ l = 32) (h1 : tkB ss p 41 = true) (h2 : mayI l half = true) : clG ss (l :: st) p half = clG ss st (tkP ss p 41) 40 := by rw [clG, if_neg h, if_pos h1, if_pos h2]
theorem cl_bad (h : ¬ l = 32) (h1 : tkB ss p 41 = true) (h2 : mayI l half = false) : clG ss (l :: st) p half = (tkP ss p 41, l :: st, 32, false) := by rw [clG, if_neg h, if_pos h1, if_neg (by rw [h2]; decide)]
theorem cl_no (h : ¬ l = 32) (h1 : tkB ss p 41 = false) : clG ss (l :: st) p half = (tkP ss p 41, l :: st, 32, false) := by rw [clG, if_neg h, if_neg (by rw [h1]; decide)]
end

set_option maxHeartbeats 1000000 in
theorem mayI_c {I : IM} {l r : Nat} : Fun Try.prog 72 #[.int .u8 ((l : Nat) : Int), .int .u8 ((r : Nat) : Int)] I (fun v J => v = .bool (mayI l r)) := by
  refine enter_rule 12 [(0, .int .u8 ((l : Nat) : Int)), (1, .int .u8 ((r : Nat) : Int))] Try.func72 rfl (by kernel_rfl) ?_
  intro w s
  refine wp_seq ?_
  refine region_rule ?_
  refine ops_rule (C := []) [] [] 1 [] 0 (fun φ1 => [(4, .bool false)]) (fun φ1 => []) (fun φ1 => []) s trivial (fun φ1 => by kernel_rfl) ?_
  intro φ1 w1 s
  refine ops_done (by kernel_rfl) ?_
  refine wp_seq ?_
  refine region_rule ?_
  refine ops_rule (C := []) [] [] 4 [] 0 (fun φ2 => [(8, .bool (((l : Nat) : Int) != ((r : Nat) : Int))), (7, .bool (((l : Nat) : Int) != ((r : Nat) : Int))), (6, .int .u8 ((r : Nat) : Int)), (5, .int .u8 ((l : Nat) : Int))]) (fun φ2 => []) (fun φ2 => []) s trivial (fun φ2 => by kernel_rfl) ?_
  intro φ2 w2 s
  rw [nat_neq (a := l) (b := r)]
  rcases Bool.eq_false_or_eq_true (decide (l ≠ r)) with hc3 | hc3
  ·
    rw [hc3]
    refine ops_rule (C := []) [] [] 4 [] 0 (fun φ4 => [(4, .bool true), (11, .bool true), (10, undef), (9, undef)]) (fun φ4 => []) (fun φ4 => []) s trivial (fun φ4 => by kernel_rfl) ?_
    intro φ4 w4 s
    refine ops_done (by kernel_rfl) ?_
    refine wp_ret ?_
    refine ret_rule (C := []) [] [] (.bool true) [] [] s trivial (by kernel_rfl) ?_
    exact ⟨_, _, _, rfl, s, (by rw [show mayI l r = true from decide_eq_true (.inl (of_decide_eq_true hc3))])⟩
  ·
    rw [hc3]
    refine ops_rule (C := []) [] [] 4 [] 0 (fun φ5 => [(4, .bool (((l : Nat) : Int) == ((40 : Nat) : Int))), (11, .bool (((l : Nat) : Int) == ((40 : Nat) : Int))), (10, .bool (((l : Nat) : Int) == ((40 : Nat) : Int))), (9, .int .u8 ((l : Nat) : Int))]) (fun φ5 => []) (fun φ5 => []) s trivial (fun φ5 => by kernel_rfl) ?_
    intro φ5 w5 s
    rw [nat_eql (a := l) (b := 40)]
    refine ops_done (by kernel_rfl) ?_
    refine wp_ret ?_
    refine ret_rule (C := []) [] [] (.bool (decide (l = 40))) [] [] s trivial (by kernel_rfl) ?_
    exact ⟨_, _, _, rfl, s, (congrArg Value.bool (decide_eq_decide.2 ⟨.inr, fun q => q.elim (fun q => absurd (Decidable.not_not.1 (of_decide_eq_false hc3)) q) id⟩))⟩

set_option maxHeartbeats 2000000 in
theorem closeR_c {I : IM} {b p half : Nat} {ss : List UInt8} {st : List Nat} {dv : Value} {F : List OB} {p' half' : Nat} {st' : List Nat} {ok : Bool} {g cap : Nat} (hs : ss.length ≤ 1000000) (hp : p ≤ ss.length) (hrow : RowH 5 1 (.slice (some ⟨g, 0, none⟩) st.length cap) st.length (stV st) F) (hlen : st.length ≤ 1000000) (hC : clG ss st p half = (p', st', half', ok)) : FunM Try.prog 70 #[.pointer (some ⟨b, 0, none⟩), .int .u8 ((half : Nat) : Int)] I ((b, .cells #[.string ⟨(ss).toArray⟩, .int .i64 ((p : Nat) : Int), .slice (some ⟨g, 0, none⟩) (List.length st) cap, dv] 105) :: F) (fun v J H' => ∃ (b' : OB) (F' : List OB), H' = b' :: F' ∧ b'.1 = b ∧ ∃ v' : Value, v = .tuple #[.int .u8 ((half' : Nat) : Int), .bool ok] ∧ b' = (b, .cells #[.string ⟨(ss).toArray⟩, .int .i64 ((p' : Nat) : Int), v', dv] 105) ∧ RowH 5 1 v' st'.length (stV st') F') := by
  refine enterM_rule 52 [(0, .pointer (some ⟨b, 0, none⟩)), (1, .int .u8 ((half : Nat) : Int))] Try.func70 rfl (by kernel_rfl) ?_
  intro w s
  refine wp_seq ?_
  refine region_rule ?_
  refine ops_rule (C := []) [(b, .cells #[.string ⟨(ss).toArray⟩, .int .i64 ((p : Nat) : Int), .slice (some ⟨g, 0, none⟩) (List.length st) cap, dv] 105)] F 2 [] 0 (fun φ1 => [(5, .bool false), (4, .int .u8 0)]) (fun φ1 => [(b, .cells #[.string ⟨(ss).toArray⟩, .int .i64 ((p : Nat) : Int), .slice (some ⟨g, 0, none⟩) (List.length st) cap, dv] 105)]) (fun φ1 => []) s trivial (fun φ1 => by kernel_rfl) ?_
  intro φ1 w1 s
  refine ops_done (by kernel_rfl) ?_
  refine wp_seq ?_
  refine wp_seq ?_
  refine region_rule ?_
  refine ops_rule (C := []) [(b, .cells #[.string ⟨(ss).toArray⟩, .int .i64 ((p : Nat) : Int), .slice (some ⟨g, 0, none⟩) (List.length st) cap, dv] 105)] F 7 [.o 0] 0 (fun φ2 => [(6, .int .i64 (IntKind.wrap .i64 ((((List.length st) : Nat) : Int) - ((1 : Nat) : Int)))), (12, .int .i64 (IntKind.wrap .i64 ((((List.length st) : Nat) : Int) - ((1 : Nat) : Int)))), (11, .int .i64 (((List.length st) : Nat) : Int)), (10, .slice (some ⟨g, 0, none⟩) (List.length st) cap), (9, .pointer (some ⟨b, 2, none⟩)), (8, .pointer (some ⟨b, 0, none⟩)), (7, .pointer (some ⟨b, 0, none⟩))]) (fun φ2 => [(b, .cells #[.string ⟨(ss).toArray⟩, .int .i64 ((p : Nat) : Int), .slice (some ⟨g, 0, none⟩) (List.length st) cap, dv] 105)]) (fun φ2 => [b]) s trivial (fun φ2 => by kernel_rfl) ?_
  intro φ2 w2 s
  refine ops_done (by kernel_rfl) ?_
  refine wp_block ?_
  have hle3 := IM.Le.refl I
  rw [last_sub (st := st) hlen]
  refine loop_rule (fun (x : Nat × List Nat × Nat) => [(0, .pointer (some ⟨b, 0, none⟩)), (1, .int .u8 ((x.2.2 : Nat) : Int)), (6, .int .i64 (lastI x.2.1))]) (fun (x : Nat × List Nat × Nat) => (b, .cells #[.string ⟨(ss).toArray⟩, .int .i64 ((x.1 : Nat) : Int), .slice (some ⟨g, 0, none⟩) x.2.1.length cap, dv] 105) :: F) (fun m (x : Nat × List Nat × Nat) J => IM.Le I J ∧ clG ss x.2.1 x.1 x.2.2 = clG ss st p half ∧ x.1 ≤ ss.length ∧ RowH 5 1 (.slice (some ⟨g, 0, none⟩) x.2.1.length cap) x.2.1.length (stV x.2.1) F ∧ x.2.1.length = m ∧ m ≤ 1000000) st.length (p, st, half) s (by kernel_rfl) (List.Sublist.refl _) ⟨IM.Le.refl _, rfl, hp, hrow, rfl, hlen⟩ ?_
  rintro m4 ⟨p4, st4, h4⟩ I4 w4 evj s ⟨le4, hI4, hp4, hrow4, hm4, hb4⟩
  dsimp only at s hI4 hp4 hrow4 hm4 hb4
  replace hle3 := leMono9 le4 hle3
  rcases st4 with _ | ⟨l4, st4⟩
  ·
    replace hI4 : (p4, ([] : List Nat), h4, true) = clG ss st p half := hI4
    replace s : St w I (b :: F.map (·.1)) I4 w4 ([(b, .cells #[.string ⟨(ss).toArray⟩, .int .i64 ((p4 : Nat) : Int), .slice (some ⟨g, 0, none⟩) 0 cap, dv] 105)] ++ F) := s
    change Code.wp Try.prog _ _ (ActOf _ ([(0, .pointer (some ⟨b, 0, none⟩)), (1, .int .u8 ((h4 : Nat) : Int)), (6, .int .i64 (-1))] ++ evj)) w4
    refine wp_seq ?_
    refine wp_seq ?_
    refine region_rule ?_
    refine ops_rule (C := []) [(b, .cells #[.string ⟨(ss).toArray⟩, .int .i64 ((p4 : Nat) : Int), .slice (some ⟨g, 0, none⟩) 0 cap, dv] 105)] F 12 [] 0 (fun φ5 => [(24, .bool false), (23, undef), (22, undef), (21, undef), (20, undef), (19, undef), (18, undef), (17, undef), (16, undef), (15, .bool false), (14, .bool false), (13, .int .i64 (-1))]) (fun φ5 => [(b, .cells #[.string ⟨(ss).toArray⟩, .int .i64 ((p4 : Nat) : Int), .slice (some ⟨g, 0, none⟩) 0 cap, dv] 105)]) (fun φ5 => []) s trivial (fun φ5 => by kernel_rfl) ?_
    intro φ5 w5 s
    refine ops_done (by kernel_rfl) ?_
    refine cond_false_rule (b := false) (by kernel_rfl) rfl ?_
    refine wp_exit ?_
    refine wp_seq ?_
    refine region_rule ?_
    refine ops_rule (C := []) [(b, .cells #[.string ⟨(ss).toArray⟩, .int .i64 ((p4 : Nat) : Int), .slice (some ⟨g, 0, none⟩) 0 cap, dv] 105)] F 3 [] 0 (fun φ6 => [(5, .bool true), (4, .int .u8 ((h4 : Nat) : Int)), (51, .int .u8 ((h4 : Nat) : Int))]) (fun φ6 => [(b, .cells #[.string ⟨(ss).toArray⟩, .int .i64 ((p4 : Nat) : Int), .slice (some ⟨g, 0, none⟩) 0 cap, dv] 105)]) (fun φ6 => []) s trivial (fun φ6 => by kernel_rfl) ?_
    intro φ6 w6 s
    refine ops_done (by kernel_rfl) ?_
    refine wp_ret ?_
    refine ret_rule (C := []) [(b, .cells #[.string ⟨(ss).toArray⟩, .int .i64 ((p4 : Nat) : Int), .slice (some ⟨g, 0, none⟩) 0 cap, dv] 105)] F (.tuple #[.int .u8 ((h4 : Nat) : Int), .bool true]) [] [] s trivial (by kernel_rfl) ?_
    replace s := s.drop (List.Sublist.append (List.Sublist.cons₂ _ List.Sublist.slnil) (List.Sublist.refl F))
    have hg9 := hI4.trans hC
    cases hg9
    exact ⟨_, _, _, rfl, s, ⟨_, _, rfl, rfl, _, rfl, rfl, hrow4⟩⟩
  ·
    simp only [List.length_cons] at hm4
    have hc4 := row_cap hrow4
    simp only [List.length_cons] at hc4
    replace s : St w I (b :: F.map (·.1)) I4 w4 ([(b, .cells #[.string ⟨(ss).toArray⟩, .int .i64 ((p4 : Nat) : Int), .slice (some ⟨g, 0, none⟩) (List.length st4 + 1) cap, dv] 105)] ++ F) := s
    change Code.wp Try.prog _ _ (ActOf _ ([(0, .pointer (some ⟨b, 0, none⟩)), (1, .int .u8 ((h4 : Nat) : Int)), (6, .int .i64 ((List.length st4 : Nat) : Int))] ++ evj)) w4
    refine wp_seq ?_
    refine wp_seq ?_
    refine region_rule ?_
    refine ops_rule (C := []) [(b, .cells #[.string ⟨(ss).toArray⟩, .int .i64 ((p4 : Nat) : Int), .slice (some ⟨g, 0, none⟩) (List.length st4 + 1) cap, dv] 105)] F 3 [] 0 (fun φ7 => [(15, .bool (decide (((List.length st4 : Nat) : Int) ≥ ((0 : Nat) : Int)))), (14, .bool (decide (((List.length st4 : Nat) : Int) ≥ ((0 : Nat) : Int)))), (13, .int .i64 ((List.length st4 : Nat) : Int))]) (fun φ7 => [(b, .cells #[.string ⟨(ss).toArray⟩, .int .i64 ((p4 : Nat) : Int), .slice (some ⟨g, 0, none⟩) (List.length st4 + 1) cap, dv] 105)]) (fun φ7 => []) s trivial (fun φ7 => by kernel_rfl) ?_
    intro φ7 w7 s
    rw [nat_geq (a := (List.length st4)) (b := 0)]
    rcases Bool.eq_false_or_eq_true (decide (0 ≤ (List.length st4))) with hc8 | hc8
    ·
      rw [hc8]
      refine ops_rule (C := []) [(b, .cells #[.string ⟨(ss).toArray⟩, .int .i64 ((p4 : Nat) : Int), .slice (some ⟨g, 0, none⟩) (List.length st4 + 1) cap, dv] 105)] F 5 [.o 0] 0 (fun φ9 => [(20, .int .i64 ((List.length st4 : Nat) : Int)), (19, .slice (some ⟨g, 0, none⟩) (List.length st4 + 1) cap), (18, .pointer (some ⟨b, 2, none⟩)), (17, .pointer (some ⟨b, 0, none⟩)), (16, .pointer (some ⟨b, 0, none⟩))]) (fun φ9 => [(b, .cells #[.string ⟨(ss).toArray⟩, .int .i64 ((p4 : Nat) : Int), .slice (some ⟨g, 0, none⟩) (List.length st4 + 1) cap, dv] 105)]) (fun φ9 => [b]) s trivial (fun φ9 => by kernel_rfl) ?_
      intro φ9 w9 s
      refine sem_rule (Instr.indexAt 22 (.slice (some ⟨g, 0, none⟩) (List.length st4 + 1) cap) (.int .i64 ((List.length st4 : Nat) : Int))) (some 21) (.pointer (some ⟨g, (List.length st4), none⟩)) (by kernel_rfl) (run_idx22 (by omega)) ?_
      refine sem_rule (Instr.loadAt 5 (.pointer (some ⟨g, (List.length st4), none⟩))) (some 22) (.int .u8 ((l4 : Nat) : Int)) (by kernel_rfl) (run_load5 (row_cell (H := [(b, .cells #[.string ⟨(ss).toArray⟩, .int .i64 ((p4 : Nat) : Int), .slice (some ⟨g, 0, none⟩) (List.length st4 + 1) cap, dv] 105)]) (F := F) s hrow4 st_left)) ?_
      refine ops_rule (C := []) [(b, .cells #[.string ⟨(ss).toArray⟩, .int .i64 ((p4 : Nat) : Int), .slice (some ⟨g, 0, none⟩) (List.length st4 + 1) cap, dv] 105)] F 2 [] 0 (fun φ10 => [(24, .bool (((l4 : Nat) : Int) != ((32 : Nat) : Int))), (23, .bool (((l4 : Nat) : Int) != ((32 : Nat) : Int)))]) (fun φ10 => [(b, .cells #[.string ⟨(ss).toArray⟩, .int .i64 ((p4 : Nat) : Int), .slice (some ⟨g, 0, none⟩) (List.length st4 + 1) cap, dv] 105)]) (fun φ10 => []) s trivial (fun φ10 => by kernel_rfl) ?_
      intro φ10 w10 s
      rw [nat_neq (a := l4) (b := 32)]
      refine ops_done (by kernel_rfl) ?_
      rcases Bool.eq_false_or_eq_true (decide (l4 ≠ 32)) with hc11 | hc11
      ·
        rw [hc11]
        refine cond_true_rule (b := true) (by kernel_rfl) rfl ?_
        refine wp_skip ?_
        refine wp_seq ?_
        refine wp_block ?_
        refine wp_seq ?_
        refine wp_seq ?_
        refine region_rule ?_
        refine ops_rule (C := []) [(b, .cells #[.string ⟨(ss).toArray⟩, .int .i64 ((p4 : Nat) : Int), .slice (some ⟨g, 0, none⟩) (List.length st4 + 1) cap, dv] 105)] F 1 [] 0 (fun φ12 => [(27, .pointer (some ⟨b, 0, none⟩))]) (fun φ12 => [(b, .cells #[.string ⟨(ss).toArray⟩, .int .i64 ((p4 : Nat) : Int), .slice (some ⟨g, 0, none⟩) (List.length st4 + 1) cap, dv] 105)]) (fun φ12 => []) s trivial (fun φ12 => by kernel_rfl) ?_
        intro φ12 w12 s
        refine callB_rule (b := (b, .cells #[.string ⟨(ss).toArray⟩, .int .i64 ((p4 : Nat) : Int), .slice (some ⟨g, 0, none⟩) (List.length st4 + 1) cap, dv] 105)) (H := [(b, .cells #[.string ⟨(ss).toArray⟩, .int .i64 ((p4 : Nat) : Int), .slice (some ⟨g, 0, none⟩) (List.length st4 + 1) cap, dv] 105)]) (F := F) (Hr := []) (some 28) 0 s (by kernel_rfl) (by kernel_rfl) (takeP_c (ov := .slice (some ⟨g, 0, none⟩) (List.length st4 + 1) cap) (dv := dv) (b := b) (p := p4) (c := 41) (ss := ss) hs hp4) (by kernel_rfl) ?_
        rintro v13 I13 w13 b13 le13 - h13 s
        replace hle3 := leMono9 le13 hle3
        obtain ⟨rfl, rfl⟩ := h13
        refine ops_rule (C := []) [(b, .cells #[.string ⟨(ss).toArray⟩, .int .i64 ((tkP ss p4 41 : Nat) : Int), .slice (some ⟨g, 0, none⟩) (List.length st4 + 1) cap, dv] 105)] F 2 [] 0 (fun φ14 => [(30, .bool (!(tkB ss p4 41))), (29, .bool (!(tkB ss p4 41)))]) (fun φ14 => [(b, .cells #[.string ⟨(ss).toArray⟩, .int .i64 ((tkP ss p4 41 : Nat) : Int), .slice (some ⟨g, 0, none⟩) (List.length st4 + 1) cap, dv] 105)]) (fun φ14 => []) s trivial (fun φ14 => by kernel_rfl) ?_
        intro φ14 w14 s
        rcases Bool.eq_false_or_eq_true (tkB ss p4 41) with hc15 | hc15
        ·
          rw [hc15]
          refine ops_rule (C := []) [(b, .cells #[.string ⟨(ss).toArray⟩, .int .i64 ((tkP ss p4 41 : Nat) : Int), .slice (some ⟨g, 0, none⟩) (List.length st4 + 1) cap, dv] 105)] F 5 [.o 0] 0 (fun φ16 => [(35, .int .i64 ((List.length st4 : Nat) : Int)), (34, .slice (some ⟨g, 0, none⟩) (List.length st4 + 1) cap), (33, .pointer (some ⟨b, 2, none⟩)), (32, .pointer (some ⟨b, 0, none⟩)), (31, .pointer (some ⟨b, 0, none⟩))]) (fun φ16 => [(b, .cells #[.string ⟨(ss).toArray⟩, .int .i64 ((tkP ss p4 41 : Nat) : Int), .slice (some ⟨g, 0, none⟩) (List.length st4 + 1) cap, dv] 105)]) (fun φ16 => [b]) s trivial (fun φ16 => by kernel_rfl) ?_
          intro φ16 w16 s
          refine sem_rule (Instr.indexAt 22 (.slice (some ⟨g, 0, none⟩) (List.length st4 + 1) cap) (.int .i64 ((List.length st4 : Nat) : Int))) (some 36) (.pointer (some ⟨g, (List.length st4), none⟩)) (by kernel_rfl) (run_idx22 (by omega)) ?_
          refine sem_rule (Instr.loadAt 5 (.pointer (some ⟨g, (List.length st4), none⟩))) (some 37) (.int .u8 ((l4 : Nat) : Int)) (by kernel_rfl) (run_load5 (row_cell (H := [(b, .cells #[.string ⟨(ss).toArray⟩, .int .i64 ((tkP ss p4 41 : Nat) : Int), .slice (some ⟨g, 0, none⟩) (List.length st4 + 1) cap, dv] 105)]) (F := F) s hrow4 st_left)) ?_
          refine ops_rule (C := []) [(b, .cells #[.string ⟨(ss).toArray⟩, .int .i64 ((tkP ss p4 41 : Nat) : Int), .slice (some ⟨g, 0, none⟩) (List.length st4 + 1) cap, dv] 105)] F 1 [] 0 (fun φ17 => [(38, .int .u8 ((h4 : Nat) : Int))]) (fun φ17 => [(b, .cells #[.string ⟨(ss).toArray⟩, .int .i64 ((tkP ss p4 41 : Nat) : Int), .slice (some ⟨g, 0, none⟩) (List.length st4 + 1) cap, dv] 105)]) (fun φ17 => []) s trivial (fun φ17 => by kernel_rfl) ?_
          intro φ17 w17 s
          refine call_rule (some 39) s (mayI_c (l := l4) (r := h4)) (by kernel_rfl) ?_
          intro v18 I18 w18 le18 h18 s
          replace hle3 := leMono9 le18 hle3
          obtain rfl := h18
          refine ops_rule (C := []) [(b, .cells #[.string ⟨(ss).toArray⟩, .int .i64 ((tkP ss p4 41 : Nat) : Int), .slice (some ⟨g, 0, none⟩) (List.length st4 + 1) cap, dv] 105)] F 2 [] 0 (fun φ19 => [(41, .bool (!(mayI l4 h4))), (40, .bool (!(mayI l4 h4)))]) (fun φ19 => [(b, .cells #[.string ⟨(ss).toArray⟩, .int .i64 ((tkP ss p4 41 : Nat) : Int), .slice (some ⟨g, 0, none⟩) (List.length st4 + 1) cap, dv] 105)]) (fun φ19 => []) s trivial (fun φ19 => by kernel_rfl) ?_
          intro φ19 w19 s
          refine ops_done (by kernel_rfl) ?_
          rcases Bool.eq_false_or_eq_true (mayI l4 h4) with hc20 | hc20
          ·
            rw [hc20]
            refine cond_false_rule (b := false) (by kernel_rfl) rfl ?_
            refine wp_skip ?_
            refine wp_seq ?_
            refine region_rule ?_
            refine ops_rule (C := []) [(b, .cells #[.string ⟨(ss).toArray⟩, .int .i64 ((tkP ss p4 41 : Nat) : Int), .slice (some ⟨g, 0, none⟩) (List.length st4 + 1) cap, dv] 105)] F 6 [.o 0] 0 (fun φ21 => [(47, .int .i64 ((List.length st4 : Nat) : Int)), (46, .slice (some ⟨g, 0, none⟩) (List.length st4 + 1) cap), (45, .pointer (some ⟨b, 2, none⟩)), (44, .pointer (some ⟨b, 0, none⟩)), (43, .pointer (some ⟨b, 0, none⟩)), (42, .pointer (some ⟨b, 0, none⟩))]) (fun φ21 => [(b, .cells #[.string ⟨(ss).toArray⟩, .int .i64 ((tkP ss p4 41 : Nat) : Int), .slice (some ⟨g, 0, none⟩) (List.length st4 + 1) cap, dv] 105)]) (fun φ21 => [b]) s trivial (fun φ21 => by kernel_rfl) ?_
            intro φ21 w21 s
            refine sem_rule (Instr.sliceAt 22 (.slice (some ⟨g, 0, none⟩) (List.length st4 + 1) cap) none (some (.int .i64 ((List.length st4 : Nat) : Int))) none) (some 48) (.slice (some ⟨g, 0, none⟩) (List.length st4) cap) (by kernel_rfl) (run_cutRowG (by have := row_cap hrow4; omega)) ?_
            refine ops_rule (C := []) [(b, .cells #[.string ⟨(ss).toArray⟩, .int .i64 ((tkP ss p4 41 : Nat) : Int), .slice (some ⟨g, 0, none⟩) (List.length st4 + 1) cap, dv] 105)] F 3 [.o 0] 0 (fun φ22 => [(50, .pointer (some ⟨b, 2, none⟩)), (49, .pointer (some ⟨b, 0, none⟩))]) (fun φ22 => [(b, .cells #[.string ⟨(ss).toArray⟩, .int .i64 ((tkP ss p4 41 : Nat) : Int), .slice (some ⟨g, 0, none⟩) (List.length st4) cap, dv] 105)]) (fun φ22 => [b]) s trivial (fun φ22 => by kernel_rfl) ?_
            intro φ22 w22 s
            refine ops_done (by kernel_rfl) ?_
            refine region_rule ?_
            refine ops_rule (C := []) [(b, .cells #[.string ⟨(ss).toArray⟩, .int .i64 ((tkP ss p4 41 : Nat) : Int), .slice (some ⟨g, 0, none⟩) (List.length st4) cap, dv] 105)] F 1 [] 0 (fun φ23 => [(1, .int .u8 40)]) (fun φ23 => [(b, .cells #[.string ⟨(ss).toArray⟩, .int .i64 ((tkP ss p4 41 : Nat) : Int), .slice (some ⟨g, 0, none⟩) (List.length st4) cap, dv] 105)]) (fun φ23 => []) s trivial (fun φ23 => by kernel_rfl) ?_
            intro φ23 w23 s
            refine ops_done (by kernel_rfl) ?_
            refine region_rule ?_
            refine ops_rule (C := []) [(b, .cells #[.string ⟨(ss).toArray⟩, .int .i64 ((tkP ss p4 41 : Nat) : Int), .slice (some ⟨g, 0, none⟩) (List.length st4) cap, dv] 105)] F 3 [] 0 (fun φ24 => [(6, .int .i64 (IntKind.wrap .i64 (((List.length st4 : Nat) : Int) - ((1 : Nat) : Int)))), (26, .int .i64 (IntKind.wrap .i64 (((List.length st4 : Nat) : Int) - ((1 : Nat) : Int)))), (25, .int .i64 ((List.length st4 : Nat) : Int))]) (fun φ24 => [(b, .cells #[.string ⟨(ss).toArray⟩, .int .i64 ((tkP ss p4 41 : Nat) : Int), .slice (some ⟨g, 0, none⟩) (List.length st4) cap, dv] 105)]) (fun φ24 => []) s trivial (fun φ24 => by kernel_rfl) ?_
            intro φ24 w24 s
            refine ops_done (by kernel_rfl) ?_
            rw [last_sub (st := st4) (by omega)]
            have hg9 := (cl_go (fun q => (of_decide_eq_true hc11) q) hc15 hc20).symm.trans hI4
            exact ⟨⟨m4 - 1, (tkP ss p4 41, st4, 40), _, _, _, by omega, rfl, s, List.Sublist.refl _, by kernel_rfl, hle3, hg9, (tkP_le 41 hp4), st_cut hrow4, by simp only; omega, by omega⟩⟩
          ·
            rw [hc20]
            refine cond_true_rule (b := true) (by kernel_rfl) rfl ?_
            refine wp_seq ?_
            refine region_rule ?_
            refine ops_rule (C := []) [(b, .cells #[.string ⟨(ss).toArray⟩, .int .i64 ((tkP ss p4 41 : Nat) : Int), .slice (some ⟨g, 0, none⟩) (List.length st4 + 1) cap, dv] 105)] F 2 [] 0 (fun φ25 => [(5, .bool false), (4, .int .u8 32)]) (fun φ25 => [(b, .cells #[.string ⟨(ss).toArray⟩, .int .i64 ((tkP ss p4 41 : Nat) : Int), .slice (some ⟨g, 0, none⟩) (List.length st4 + 1) cap, dv] 105)]) (fun φ25 => []) s trivial (fun φ25 => by kernel_rfl) ?_
            intro φ25 w25 s
            refine ops_done (by kernel_rfl) ?_
            refine wp_ret ?_
            refine ret_rule (C := []) [(b, .cells #[.string ⟨(ss).toArray⟩, .int .i64 ((tkP ss p4 41 : Nat) : Int), .slice (some ⟨g, 0, none⟩) (List.length st4 + 1) cap, dv] 105)] F (.tuple #[.int .u8 32, .bool false]) [] [] s trivial (by kernel_rfl) ?_
            replace s := s.drop (List.Sublist.append (List.Sublist.cons₂ _ List.Sublist.slnil) (List.Sublist.refl F))
            have hg9 := (cl_bad (fun q => (of_decide_eq_true hc11) q) hc15 hc20).symm.trans (hI4.trans hC)
            cases hg9
            exact ⟨_, _, _, rfl, s, ⟨_, _, rfl, rfl, _, rfl, rfl, hrow4⟩⟩
        ·
          rw [hc15]
          refine ops_rule (C := []) [(b, .cells #[.string ⟨(ss).toArray⟩, .int .i64 ((tkP ss p4 41 : Nat) : Int), .slice (some ⟨g, 0, none⟩) (List.length st4 + 1) cap, dv] 105)] F 11 [] 0 (fun φ26 => [(41, .bool true), (40, undef), (39, undef), (38, undef), (37, undef), (36, undef), (35, undef), (34, undef), (33, undef), (32, undef), (31, undef)]) (fun φ26 => [(b, .cells #[.string ⟨(ss).toArray⟩, .int .i64 ((tkP ss p4 41 : Nat) : Int), .slice (some ⟨g, 0, none⟩) (List.length st4 + 1) cap, dv] 105)]) (fun φ26 => []) s trivial (fun φ26 => by kernel_rfl) ?_
          intro φ26 w26 s
          refine ops_done (by kernel_rfl) ?_
          refine cond_true_rule (b := true) (by kernel_rfl) rfl ?_
          refine wp_seq ?_
          refine region_rule ?_
          refine ops_rule (C := []) [(b, .cells #[.string ⟨(ss).toArray⟩, .int .i64 ((tkP ss p4 41 : Nat) : Int), .slice (some ⟨g, 0, none⟩) (List.length st4 + 1) cap, dv] 105)] F 2 [] 0 (fun φ27 => [(5, .bool false), (4, .int .u8 32)]) (fun φ27 => [(b, .cells #[.string ⟨(ss).toArray⟩, .int .i64 ((tkP ss p4 41 : Nat) : Int), .slice (some ⟨g, 0, none⟩) (List.length st4 + 1) cap, dv] 105)]) (fun φ27 => []) s trivial (fun φ27 => by kernel_rfl) ?_
          intro φ27 w27 s
          refine ops_done (by kernel_rfl) ?_
          refine wp_ret ?_
          refine ret_rule (C := []) [(b, .cells #[.string ⟨(ss).toArray⟩, .int .i64 ((tkP ss p4 41 : Nat) : Int), .slice (some ⟨g, 0, none⟩) (List.length st4 + 1) cap, dv] 105)] F (.tuple #[.int .u8 32, .bool false]) [] [] s trivial (by kernel_rfl) ?_
          replace s := s.drop (List.Sublist.append (List.Sublist.cons₂ _ List.Sublist.slnil) (List.Sublist.refl F))
          have hg9 := (cl_no (fun q => (of_decide_eq_true hc11) q) hc15).symm.trans (hI4.trans hC)
          cases hg9
          exact ⟨_, _, _, rfl, s, ⟨_, _, rfl, rfl, _, rfl, rfl, hrow4⟩⟩
      ·
        rw [hc11]
        refine cond_false_rule (b := false) (by kernel_rfl) rfl ?_
        refine wp_exit ?_
        refine wp_seq ?_
        refine region_rule ?_
        refine ops_rule (C := []) [(b, .cells #[.string ⟨(ss).toArray⟩, .int .i64 ((p4 : Nat) : Int), .slice (some ⟨g, 0, none⟩) (List.length st4 + 1) cap, dv] 105)] F 3 [] 0 (fun φ28 => [(5, .bool true), (4, .int .u8 ((h4 : Nat) : Int)), (51, .int .u8 ((h4 : Nat) : Int))]) (fun φ28 => [(b, .cells #[.string ⟨(ss).toArray⟩, .int .i64 ((p4 : Nat) : Int), .slice (some ⟨g, 0, none⟩) (List.length st4 + 1) cap, dv] 105)]) (fun φ28 => []) s trivial (fun φ28 => by kernel_rfl) ?_
        intro φ28 w28 s
        refine ops_done (by kernel_rfl) ?_
        refine wp_ret ?_
        refine ret_rule (C := []) [(b, .cells #[.string ⟨(ss).toArray⟩, .int .i64 ((p4 : Nat) : Int), .slice (some ⟨g, 0, none⟩) (List.length st4 + 1) cap, dv] 105)] F (.tuple #[.int .u8 ((h4 : Nat) : Int), .bool true]) [] [] s trivial (by kernel_rfl) ?_
        replace s := s.drop (List.Sublist.append (List.Sublist.cons₂ _ List.Sublist.slnil) (List.Sublist.refl F))
        have hg9 := (cl_stop (Decidable.not_not.1 (of_decide_eq_false hc11))).symm.trans (hI4.trans hC)
        cases hg9
        exact ⟨_, _, _, rfl, s, ⟨_, _, rfl, rfl, _, rfl, rfl, hrow4⟩⟩
    ·
      exact absurd (Nat.zero_le _) (of_decide_eq_false hc8)

set_option maxHeartbeats 2000000 in
theorem closeN_c {I : IM} {b p half : Nat} {ss : List UInt8} {dv : Value} : FunM Try.prog 70 #[.pointer (some ⟨b, 0, none⟩), .int .u8 ((half : Nat) : Int)] I [(b, .cells #[.string ⟨(ss).toArray⟩, .int .i64 ((p : Nat) : Int), .slice none 0 0, dv] 105)] (fun v J H' => ∃ (b' : OB) (F' : List OB), H' = b' :: F' ∧ b'.1 = b ∧ ∃ v' : Value, v = .tuple #[.int .u8 ((half : Nat) : Int), .bool true] ∧ b' = (b, .cells #[.string ⟨(ss).toArray⟩, .int .i64 ((p : Nat) : Int), v', dv] 105) ∧ RowH 5 1 v' ([] : List Nat).length (stV ([] : List Nat)) F') := by
  refine enterM_rule 52 [(0, .pointer (some ⟨b, 0, none⟩)), (1, .int .u8 ((half : Nat) : Int))] Try.func70 rfl (by kernel_rfl) ?_
  intro w s
  refine wp_seq ?_
  refine region_rule ?_
  refine ops_rule (C := []) [(b, .cells #[.string ⟨(ss).toArray⟩, .int .i64 ((p : Nat) : Int), .slice none 0 0, dv] 105)] [] 2 [] 0 (fun φ1 => [(5, .bool false), (4, .int .u8 0)]) (fun φ1 => [(b, .cells #[.string ⟨(ss).toArray⟩, .int .i64 ((p : Nat) : Int), .slice none 0 0, dv] 105)]) (fun φ1 => []) s trivial (fun φ1 => by kernel_rfl) ?_
  intro φ1 w1 s
  refine ops_done (by kernel_rfl) ?_
  refine wp_seq ?_
  refine wp_seq ?_
  refine region_rule ?_
  refine ops_rule (C := []) [(b, .cells #[.string ⟨(ss).toArray⟩, .int .i64 ((p : Nat) : Int), .slice none 0 0, dv] 105)] [] 7 [.o 0] 0 (fun φ2 => [(6, .int .i64 (-1)), (12, .int .i64 (-1)), (11, .int .i64 0), (10, .slice none 0 0), (9, .pointer (some ⟨b, 2, none⟩)), (8, .pointer (some ⟨b, 0, none⟩)), (7, .pointer (some ⟨b, 0, none⟩))]) (fun φ2 => [(b, .cells #[.string ⟨(ss).toArray⟩, .int .i64 ((p : Nat) : Int), .slice none 0 0, dv] 105)]) (fun φ2 => [b]) s trivial (fun φ2 => by kernel_rfl) ?_
  intro φ2 w2 s
  refine ops_done (by kernel_rfl) ?_
  refine wp_block ?_
  refine Go.wp_loop_rounds 1 ?_
  refine rounds_step (n := 0) ?_
  refine wp_seq ?_
  refine wp_seq ?_
  refine region_rule ?_
  refine ops_rule (C := []) [(b, .cells #[.string ⟨(ss).toArray⟩, .int .i64 ((p : Nat) : Int), .slice none 0 0, dv] 105)] [] 12 [] 0 (fun φ3 => [(24, .bool false), (23, undef), (22, undef), (21, undef), (20, undef), (19, undef), (18, undef), (17, undef), (16, undef), (15, .bool false), (14, .bool false), (13, .int .i64 (-1))]) (fun φ3 => [(b, .cells #[.string ⟨(ss).toArray⟩, .int .i64 ((p : Nat) : Int), .slice none 0 0, dv] 105)]) (fun φ3 => []) s trivial (fun φ3 => by kernel_rfl) ?_
  intro φ3 w3 s
  refine ops_done (by kernel_rfl) ?_
  refine cond_false_rule (b := false) (by kernel_rfl) rfl ?_
  refine wp_exit ?_
  refine wp_seq ?_
  refine region_rule ?_
  refine ops_rule (C := []) [(b, .cells #[.string ⟨(ss).toArray⟩, .int .i64 ((p : Nat) : Int), .slice none 0 0, dv] 105)] [] 3 [] 0 (fun φ4 => [(5, .bool true), (4, .int .u8 ((half : Nat) : Int)), (51, .int .u8 ((half : Nat) : Int))]) (fun φ4 => [(b, .cells #[.string ⟨(ss).toArray⟩, .int .i64 ((p : Nat) : Int), .slice none 0 0, dv] 105)]) (fun φ4 => []) s trivial (fun φ4 => by kernel_rfl) ?_
  intro φ4 w4 s
  refine ops_done (by kernel_rfl) ?_
  refine wp_ret ?_
  refine ret_rule (C := []) [(b, .cells #[.string ⟨(ss).toArray⟩, .int .i64 ((p : Nat) : Int), .slice none 0 0, dv] 105)] [] (.tuple #[.int .u8 ((half : Nat) : Int), .bool true]) [] [] s trivial (by kernel_rfl) ?_
  replace s := s.drop (List.Sublist.append (List.Sublist.cons₂ _ List.Sublist.slnil) (List.Sublist.refl []))
  exact ⟨_, _, _, rfl, s, ⟨_, _, rfl, rfl, _, rfl, rfl, RowH.nil 5 1⟩⟩

theorem closeG_c {I : IM} {b p half : Nat} {ss : List UInt8} {st : List Nat} {dv : Value} {F : List OB} {p' half' : Nat} {st' : List Nat} {ok : Bool} {v : Value} (hs : ss.length ≤ 1000000) (hp : p ≤ ss.length) (hrow : RowH 5 1 v st.length (stV st) F) (hlen : st.length ≤ 1000000) (hC : clG ss st p half = (p', st', half', ok)) :
    FunM Try.prog 70 #[.pointer (some ⟨b, 0, none⟩), .int .u8 ((half : Nat) : Int)] I ((b, .cells #[.string ⟨(ss).toArray⟩, .int .i64 ((p : Nat) : Int), v, dv] 105) :: F) (fun v J H' => ∃ (b' : OB) (F' : List OB), H' = b' :: F' ∧ b'.1 = b ∧ ∃ v' : Value, v = .tuple #[.int .u8 ((half' : Nat) : Int), .bool ok] ∧ b' = (b, .cells #[.string ⟨(ss).toArray⟩, .int .i64 ((p' : Nat) : Int), v', dv] 105) ∧ RowH 5 1 v' st'.length (stV st') F') := by
  rcases hrow.2 with ⟨hv, h0, hF⟩ | ⟨g, cap, cur, hv, hF, _⟩
  · cases st with
    | nil =>
      subst hv hF
      rw [clG] at hC
      cases hC
      exact closeN_c
    | cons a st => cases h0
  · subst hv
    exact closeR_c hs hp hrow hlen hC

end Go.Proofs.Ytgdickihjaomjaa
/- ids: scan -/
set_option linter.all false
set_option maxRecDepth 100000
namespace Go.Proofs.Ytgdickihjaomjaa
open Go.RowKit Go.Sep
attribute [local irreducible] Go.wpList Go.Code.wp
section
variable {P : Program} {Q : Exit → Act → World → Prop}
attribute [local semireducible] Go.wpList Go.Code.wp
/-- RULE: an operation that answers nothing. -/
theorem semU_rule {N : Nat} {ops : Array Oper} {ev : Ev} {l : List Oper} {w w' : World} (s0 : Sem Unit) (d : Option Tmp)
    (h : semOf N ops ev l = some (s0.bind fun _ => .pure .skip, d)) (hr : s0.run P w = .ok () w') (k : wpList P ops Q l.tail (ActOf N (putE d undef ev)) w') : wpList P ops Q l (ActOf N ev) w := by
  cases l with
  | nil => simp [semOf] at h
  | cons o l' =>
    simp only [semOf] at h
    split at h
    · rename_i hw
      simp only [Option.some.injEq, Prod.mk.injEq] at h
      obtain ⟨h1, rfl⟩ := h
      refine wpList_step fun K hK => ?_
      rw [ActOf_yield, if_pos hw]
      unfold Oper.wp
      rw [ActOf_eval, h1]
      have : (s0.bind fun _ => Sem.pure Next.skip).run P w = .ok .skip w' := by
        rw [show (s0.bind fun _ => Sem.pure Next.skip) = (s0 >>= fun _ => pure Next.skip) from rfl, Sem.run_bind, hr]; rfl
      rw [this]
      simp only [Oper.upon]
      refine hK _ _ ?_
      rw [ActOf_put]; exact k
    · cases h
end
theorem row_form {e : TypeId} {size : Nat} {v : Value} {n : Nat} {xs : List Value} {F : List OB} (h : RowH e size v n xs F) : ∃ a cap, v = .slice a n cap := by
  rcases h.2 with ⟨hv, h0, _⟩ | ⟨g, cap, cur, hv, _⟩
  · subst h0; exact ⟨_, _, hv⟩
  · exact ⟨_, _, hv⟩
theorem st_set {l x : Nat} {st : List Nat} : (stV (l :: st)).set st.length (.int .u8 ((x : Nat) : Int)) = stV (x :: st) := by
  have h := stV_len st
  rw [Nat.mul_one] at h
  rw [stV, List.set_append_right _ _ (by rw [h]; exact Nat.le_refl _), h, Nat.sub_self]; rfl
theorem row_put {w0 : World} {I0 : IM} {m : List Nat} {I : IM} {w : World} {H F : List OB} {l x g cap : Nat} {st : List Nat} (s : St w0 I0 m I w (H ++ F)) (h : RowH 5 1 (.slice (some ⟨g, 0, none⟩) (st.length + 1) cap) (st.length + 1) (stV (l :: st)) F) :
    ∃ w' F', (Instr.storeAt 5 (.pointer (some ⟨g, st.length, none⟩)) (.int .u8 ((x : Nat) : Int))).run Try.prog w = .ok () w' ∧ St w0 I0 m I w' (H ++ F') ∧ RowH 5 1 (.slice (some ⟨g, 0, none⟩) (st.length + 1) cap) (st.length + 1) (stV (x :: st)) F' := by
  have hcell := row_cell s h st_left
  have hx : (stV (x :: st)).length = (st.length + 1) * 1 := stV_len _
  rcases h.2 with ⟨hv, _⟩ | ⟨g', cap', cur, hv, hF, hnc, hcm, hcs, ht⟩
  · cases hv
  cases hv
  subst hF
  have hb : w.heap[g]? = some (.cells cur 5 (0, 0)) := s.own (g, _) (by simp)
  have hi : st.length < cur.size := by rw [hcs]; omega
  have hfz : w.frozen? ⟨g, st.length, none⟩ = false := by rw [Go.Sep.run_frozen (a := ⟨g, st.length, none⟩) hb rfl]; simp
  have e : (Instr.storeAt 5 (.pointer (some ⟨g, st.length, none⟩)) (.int .u8 ((x : Nat) : Int))).run Try.prog w = (store ⟨g, st.length, none⟩ (.int .u8 ((x : Nat) : Int))).run Try.prog w := by kernel_rfl
  have hq : (H ++ [(g, Obj.cells cur 5)])[H.length]? = some (g, .cells cur 5) := by simp
  refine ⟨w.setCell ⟨g, st.length, none⟩ (.int .u8 ((x : Nat) : Int)), [(g, .cells (cur.setIfInBounds st.length (.int .u8 ((x : Nat) : Int))) 5)], ?_, ?_, ?_⟩
  · rw [e]; simp only [store, Sem.run, hcell, hfz]; rfl
  · have st' := St.set (w' := w.setCell ⟨g, st.length, none⟩ (.int .u8 ((x : Nat) : Int))) (o' := .cells (cur.setIfInBounds st.length (.int .u8 ((x : Nat) : Int))) 5) s hq rfl rfl rfl (by simp [World.setCell]) (by
        show (w.heap.modify g _)[g]? = _
        rw [Array.getElem?_modify]; simp [hb]) (fun z hz => by
        show (w.heap.modify g _)[z]? = _
        rw [Array.getElem?_modify, if_neg (fun h => hz h.symm)])
    simpa using st'
  · refine ⟨hx, .inr ⟨g, cap, _, rfl, rfl, hnc, hcm, by rw [Array.size_setIfInBounds]; exact hcs, ?_⟩⟩
    rw [Array.toList_setIfInBounds, List.take_set, ht, st_set]
def scG (ss : List UInt8) : Nat → Nat → List Nat → Nat → Nat × Bool
  | 0, _, _, _ => (0, false)
  | f + 1, p, st, d => match lfG ss (ss.length + 1) p st d with
    | (_, _, _, _, false) => (0, false)
    | (p1, st1, d1, sh, true) => match clG ss st1 p1 sh with
      | (_, _, _, false) => (0, false)
      | (p2, [], _, true) => (d1, decide (p2 = ss.length))
      | (p2, _ :: st3, half, true) => if tkB ss p2 44 = true then scG ss f (tkP ss p2 44) (half :: st3) d1 else (0, false)
section
variable {ss : List UInt8} {m p d p1 d1 sh p2 half l : Nat} {st st1 st2 st3 : List Nat}
theorem sc_leaf (hm : 0 < m) (h : lfG ss (ss.length + 1) p st d = (p1, st1, d1, sh, false)) : scG ss m p st d = (0, false) := by
  obtain ⟨f, rfl⟩ : ∃ f, m = f + 1 := ⟨m - 1, by omega⟩
  rw [scG, h]
theorem sc_close (hm : 0 < m) (h : lfG ss (ss.length + 1) p st d = (p1, st1, d1, sh, true)) (h2 : clG ss st1 p1 sh = (p2, st2, half, false)) : scG ss m p st d = (0, false) := by
  obtain ⟨f, rfl⟩ : ∃ f, m = f + 1 := ⟨m - 1, by omega⟩
  rw [scG, h]; simp only [h2]
theorem sc_end (hm : 0 < m) (h : lfG ss (ss.length + 1) p st d = (p1, st1, d1, sh, true)) (h2 : clG ss st1 p1 sh = (p2, [], half, true)) : scG ss m p st d = (d1, decide (p2 = ss.length)) := by
  obtain ⟨f, rfl⟩ : ∃ f, m = f + 1 := ⟨m - 1, by omega⟩
  rw [scG, h]; simp only [h2]
theorem sc_go (hm : 0 < m) (h : lfG ss (ss.length + 1) p st d = (p1, st1, d1, sh, true)) (h2 : clG ss st1 p1 sh = (p2, l :: st3, half, true)) (h3 : tkB ss p2 44 = true) : scG ss m p st d = scG ss (m - 1) (tkP ss p2 44) (half :: st3) d1 := by
  obtain ⟨f, rfl⟩ : ∃ f, m = f + 1 := ⟨m - 1, by omega⟩
  rw [scG, h]; simp only [h2, h3, if_true]; rfl
theorem sc_no (hm : 0 < m) (h : lfG ss (ss.length + 1) p st d = (p1, st1, d1, sh, true)) (h2 : clG ss st1 p1 sh = (p2, l :: st3, half, true)) (h3 : tkB ss p2 44 = false) : scG ss m p st d = (0, false) := by
  obtain ⟨f, rfl⟩ : ∃ f, m = f + 1 := ⟨m - 1, by omega⟩
  rw [scG, h]; simp only [h2, h3]; rfl
end
theorem lf_inv {ss : List UInt8} (hs : ss.length ≤ 1000000) : ∀ (f p : Nat) (st : List Nat) (d : Nat), p ≤ ss.length → st.length ≤ p → d ≤ 1000000 → p ≤ (lfG ss f p st d).1 ∧ (lfG ss f p st d).1 ≤ ss.length ∧ (lfG ss f p st d).2.1.length ≤ (lfG ss f p st d).1 ∧ (lfG ss f p st d).2.2.1 ≤ 1000000
  | 0, p, st, d, hp, hl, hd => ⟨Nat.le_refl _, hp, hl, hd⟩
  | f + 1, p, st, d, hp, hl, hd => by
    have a1 := tkP_ge ss p 40
    have a2 := tkP_ge ss (tkP ss p 40) 48
    have a3 := tkP_ge ss (tkP ss (tkP ss p 40) 48) 49
    have b1 := tkP_le 40 hp
    have b2 := tkP_le 48 b1
    have b3 := tkP_le 49 b2
    rw [lfG]
    split
    · rename_i h1
      have c1 := tkP_t h1
      have := lf_inv hs f (tkP ss p 40) (32 :: st) (max d (st.length + 1)) b1 (by simp only [List.length_cons]; omega) (by omega)
      exact ⟨by omega, this.2⟩
    · split
      · exact ⟨by simp only; omega, b2, by simp only; omega, hd⟩
      · exact ⟨by simp only; omega, b3, by simp only; omega, hd⟩
theorem cl_inv {ss : List UInt8} : ∀ (st : List Nat) (p half : Nat), p ≤ ss.length → st.length ≤ p → p ≤ (clG ss st p half).1 ∧ (clG ss st p half).1 ≤ ss.length ∧ (clG ss st p half).2.1.length ≤ (clG ss st p half).1
  | [], p, half, hp, hl => ⟨Nat.le_refl _, hp, Nat.zero_le _⟩
  | l :: st, p, half, hp, hl => by
    have a1 := tkP_ge ss p 41
    have b1 := tkP_le 41 hp
    simp only [List.length_cons] at hl
    rw [clG]
    split
    · exact ⟨Nat.le_refl _, hp, by simp only [List.length_cons]; omega⟩
    · split
      · split
        · have := cl_inv st (tkP ss p 41) 40 b1 (by omega)
          exact ⟨by omega, this.2⟩
        · exact ⟨a1, b1, by simp only [List.length_cons]; omega⟩
      · exact ⟨a1, b1, by simp only [List.length_cons]; omega⟩
set_option maxHeartbeats 2000000 in
theorem scanG_c {I : IM} {ss : List UInt8} {dd : Nat} {ok : Bool} (hs : ss.length ≤ 1000000) (hS : scG ss (ss.length + 1) 0 [] 0 = (dd, ok)) : Fun Try.prog 56 #[.string ⟨(ss).toArray⟩] I (fun v J => v = .tuple #[.int .i64 ((dd : Nat) : Int), .bool ok]) := by
  refine enter_rule 43 [(0, .string ⟨(ss).toArray⟩)] Try.func56 rfl (by kernel_rfl) ?_
  intro w s
  refine wp_seq ?_
  refine region_rule ?_
  refine ops_rule (C := []) [] [] 2 [] 0 (fun φ1 => [(3, .bool false), (2, .int .i64 0)]) (fun φ1 => []) (fun φ1 => []) s trivial (fun φ1 => by kernel_rfl) ?_
  intro φ1 w1 s
  refine ops_done (by kernel_rfl) ?_
  refine wp_seq ?_
  refine region_rule ?_
  refine ops_rule (C := []) [] [] 4 [.o 0, .o 0, .o 0, .o 0] 1 (fun φ2 => [(4, .pointer (some ⟨(φ2 0), 0, none⟩)), (9, .agg #[.string ⟨(ss).toArray⟩, .int .i64 0, .slice none 0 0, .int .i64 0]), (8, .string ⟨(ss).toArray⟩)]) (fun φ2 => [((φ2 0), .cells #[.string ⟨(ss).toArray⟩, .int .i64 0, .slice none 0 0, .int .i64 0] 105)]) (fun φ2 => [(φ2 0), (φ2 0), (φ2 0), (φ2 0)]) s trivial (fun φ2 => by kernel_rfl) ?_
  intro φ2 w2 s
  refine ops_done (by kernel_rfl) ?_
  refine wp_block ?_
  have hle3 := IM.Le.refl I
  refine loop_rule (fun (x : Nat × List Nat × Nat × Value × List OB) => [(0, .string ⟨(ss).toArray⟩), (4, .pointer (some ⟨(φ2 0), 0, none⟩))]) (fun (x : Nat × List Nat × Nat × Value × List OB) => ((φ2 0), .cells #[.string ⟨(ss).toArray⟩, .int .i64 ((x.1 : Nat) : Int), x.2.2.2.1, .int .i64 ((x.2.2.1 : Nat) : Int)] 105) :: x.2.2.2.2) (fun m (x : Nat × List Nat × Nat × Value × List OB) J => IM.Le I J ∧ scG ss m x.1 x.2.1 x.2.2.1 = scG ss (ss.length + 1) 0 [] 0 ∧ x.1 ≤ ss.length ∧ ss.length < x.1 + m ∧ RowH 5 1 x.2.2.2.1 x.2.1.length (stV x.2.1) x.2.2.2.2 ∧ x.2.1.length ≤ x.1 ∧ x.2.2.1 ≤ 1000000) (ss.length + 1) (0, [], 0, .slice none 0 0, []) s (by kernel_rfl) (List.Sublist.refl _) ⟨IM.Le.refl _, rfl, Nat.zero_le _, by simp only; omega, RowH.nil 5 1, Nat.le_refl _, Nat.zero_le _⟩ ?_
  rintro m4 ⟨p4, st4, d4, v4, F4⟩ I4 w4 evj s ⟨le4, hI4, hp4, hm4, hrow4, hst4, hd4⟩
  dsimp only at s hI4 hp4 hm4 hrow4 hst4 hd4
  replace hle3 := leMono9 le4 hle3
  obtain ⟨p1, st1, d1, sh1, ok1, hL1⟩ : ∃ a b c e f, lfG ss (ss.length + 1) p4 st4 d4 = (a, b, c, e, f) := ⟨_, _, _, _, _, rfl⟩
  have hA := lf_inv hs (ss.length + 1) p4 st4 d4 hp4 hst4 hd4
  rw [hL1] at hA
  dsimp only at hA
  obtain ⟨p2, st2, hf2, ok2, hC2⟩ : ∃ a b c e, clG ss st1 p1 sh1 = (a, b, c, e) := ⟨_, _, _, _, rfl⟩
  have hB := cl_inv st1 p1 sh1 hA.2.1 hA.2.2.1
  rw [hC2] at hB
  dsimp only at hB
  have hm0 : 0 < m4 := by omega
  refine wp_block ?_
  refine wp_seq ?_
  refine region_rule ?_
  refine callH_rule (b := ((φ2 0), .cells #[.string ⟨(ss).toArray⟩, .int .i64 ((p4 : Nat) : Int), v4, .int .i64 ((d4 : Nat) : Int)] 105)) (H := [((φ2 0), .cells #[.string ⟨(ss).toArray⟩, .int .i64 ((p4 : Nat) : Int), v4, .int .i64 ((d4 : Nat) : Int)] 105)]) (F := F4) (Hr := []) (some 11) 0 s (by kernel_rfl) (by kernel_rfl) (leafG_c (b := (φ2 0)) (v := v4) hs hp4 hrow4 hst4 hd4 hL1) (by kernel_rfl) ?_
  rintro v5 I5 w5 b5 F5 le5 - h5 s
  replace hle3 := leMono9 le5 hle3
  obtain ⟨v5, rfl, rfl, hr5⟩ := h5
  refine ops_rule (C := []) [((φ2 0), .cells #[.string ⟨(ss).toArray⟩, .int .i64 ((p1 : Nat) : Int), v5, .int .i64 ((d1 : Nat) : Int)] 105)] F5 5 [] 0 (fun φ6 => [(6, .bool ok1), (5, .int .u8 ((sh1 : Nat) : Int)), (13, .bool ok1), (12, .int .u8 ((sh1 : Nat) : Int)), (10, .tuple #[.int .u8 ((sh1 : Nat) : Int), .bool ok1])]) (fun φ6 => [((φ2 0), .cells #[.string ⟨(ss).toArray⟩, .int .i64 ((p1 : Nat) : Int), v5, .int .i64 ((d1 : Nat) : Int)] 105)]) (fun φ6 => []) s trivial (fun φ6 => by kernel_rfl) ?_
  intro φ6 w6 s
  refine ops_done (by kernel_rfl) ?_
  refine wp_seq ?_
  refine wp_seq ?_
  refine region_rule ?_
  refine ops_rule (C := []) [((φ2 0), .cells #[.string ⟨(ss).toArray⟩, .int .i64 ((p1 : Nat) : Int), v5, .int .i64 ((d1 : Nat) : Int)] 105)] F5 2 [] 0 (fun φ7 => [(15, .bool (!(ok1))), (14, .bool ok1)]) (fun φ7 => [((φ2 0), .cells #[.string ⟨(ss).toArray⟩, .int .i64 ((p1 : Nat) : Int), v5, .int .i64 ((d1 : Nat) : Int)] 105)]) (fun φ7 => []) s trivial (fun φ7 => by kernel_rfl) ?_
  intro φ7 w7 s
  refine ops_done (by kernel_rfl) ?_
  rcases Bool.eq_false_or_eq_true (ok1) with hc8 | hc8
  ·
    rw [hc8]
    refine cond_false_rule (b := false) (by kernel_rfl) rfl ?_
    refine wp_skip ?_
    refine wp_seq ?_
    refine region_rule ?_
    refine ops_rule (C := []) [((φ2 0), .cells #[.string ⟨(ss).toArray⟩, .int .i64 ((p1 : Nat) : Int), v5, .int .i64 ((d1 : Nat) : Int)] 105)] F5 1 [] 0 (fun φ9 => [(17, .int .u8 ((sh1 : Nat) : Int))]) (fun φ9 => [((φ2 0), .cells #[.string ⟨(ss).toArray⟩, .int .i64 ((p1 : Nat) : Int), v5, .int .i64 ((d1 : Nat) : Int)] 105)]) (fun φ9 => []) s trivial (fun φ9 => by kernel_rfl) ?_
    intro φ9 w9 s
    refine callH_rule (b := ((φ2 0), .cells #[.string ⟨(ss).toArray⟩, .int .i64 ((p1 : Nat) : Int), v5, .int .i64 ((d1 : Nat) : Int)] 105)) (H := [((φ2 0), .cells #[.string ⟨(ss).toArray⟩, .int .i64 ((p1 : Nat) : Int), v5, .int .i64 ((d1 : Nat) : Int)] 105)]) (F := F5) (Hr := []) (some 18) 0 s (by kernel_rfl) (by kernel_rfl) (closeG_c (b := (φ2 0)) (dv := .int .i64 ((d1 : Nat) : Int)) (v := v5) hs hA.2.1 hr5 (by omega) hC2) (by kernel_rfl) ?_
    rintro v10 I10 w10 b10 F10 le10 - h10 s
    replace hle3 := leMono9 le10 hle3
    obtain ⟨v10, rfl, rfl, hr10⟩ := h10
    rcases st2 with _ | ⟨l2, st3⟩
    ·
      obtain ⟨a9, cap9, rfl⟩ := row_form hr10
      replace s : St w I [] I10 w10 ([((φ2 0), .cells #[.string ⟨(ss).toArray⟩, .int .i64 ((p2 : Nat) : Int), .slice a9 0 cap9, .int .i64 ((d1 : Nat) : Int)] 105)] ++ F10) := s
      refine ops_rule (C := []) [((φ2 0), .cells #[.string ⟨(ss).toArray⟩, .int .i64 ((p2 : Nat) : Int), .slice a9 0 cap9, .int .i64 ((d1 : Nat) : Int)] 105)] F10 5 [] 0 (fun φ11 => [(6, .bool ok2), (5, .int .u8 ((hf2 : Nat) : Int)), (20, .bool ok2), (19, .int .u8 ((hf2 : Nat) : Int)), (16, .tuple #[.int .u8 ((hf2 : Nat) : Int), .bool ok2])]) (fun φ11 => [((φ2 0), .cells #[.string ⟨(ss).toArray⟩, .int .i64 ((p2 : Nat) : Int), .slice a9 0 cap9, .int .i64 ((d1 : Nat) : Int)] 105)]) (fun φ11 => []) s trivial (fun φ11 => by kernel_rfl) ?_
      intro φ11 w11 s
      refine ops_done (by kernel_rfl) ?_
      refine wp_seq ?_
      refine wp_seq ?_
      refine region_rule ?_
      refine ops_rule (C := []) [((φ2 0), .cells #[.string ⟨(ss).toArray⟩, .int .i64 ((p2 : Nat) : Int), .slice a9 0 cap9, .int .i64 ((d1 : Nat) : Int)] 105)] F10 2 [] 0 (fun φ12 => [(22, .bool (!(ok2))), (21, .bool ok2)]) (fun φ12 => [((φ2 0), .cells #[.string ⟨(ss).toArray⟩, .int .i64 ((p2 : Nat) : Int), .slice a9 0 cap9, .int .i64 ((d1 : Nat) : Int)] 105)]) (fun φ12 => []) s trivial (fun φ12 => by kernel_rfl) ?_
      intro φ12 w12 s
      refine ops_done (by kernel_rfl) ?_
      rcases Bool.eq_false_or_eq_true (ok2) with hc13 | hc13
      ·
        rw [hc13]
        refine cond_false_rule (b := false) (by kernel_rfl) rfl ?_
        refine wp_skip ?_
        refine wp_seq ?_
        refine region_rule ?_
        refine ops_rule (C := []) [((φ2 0), .cells #[.string ⟨(ss).toArray⟩, .int .i64 ((p2 : Nat) : Int), .slice a9 0 cap9, .int .i64 ((d1 : Nat) : Int)] 105)] F10 5 [.o 0] 0 (fun φ14 => [(7, .int .i64 (-1)), (26, .int .i64 (-1)), (25, .int .i64 0), (24, .slice a9 0 cap9), (23, .pointer (some ⟨(φ2 0), 2, none⟩))]) (fun φ14 => [((φ2 0), .cells #[.string ⟨(ss).toArray⟩, .int .i64 ((p2 : Nat) : Int), .slice a9 0 cap9, .int .i64 ((d1 : Nat) : Int)] 105)]) (fun φ14 => [(φ2 0)]) s trivial (fun φ14 => by kernel_rfl) ?_
        intro φ14 w14 s
        refine ops_done (by kernel_rfl) ?_
        refine wp_seq ?_
        refine wp_seq ?_
        refine region_rule ?_
        refine ops_rule (C := []) [((φ2 0), .cells #[.string ⟨(ss).toArray⟩, .int .i64 ((p2 : Nat) : Int), .slice a9 0 cap9, .int .i64 ((d1 : Nat) : Int)] 105)] F10 2 [] 0 (fun φ15 => [(28, .bool true), (27, .int .i64 (-1))]) (fun φ15 => [((φ2 0), .cells #[.string ⟨(ss).toArray⟩, .int .i64 ((p2 : Nat) : Int), .slice a9 0 cap9, .int .i64 ((d1 : Nat) : Int)] 105)]) (fun φ15 => []) s trivial (fun φ15 => by kernel_rfl) ?_
        intro φ15 w15 s
        refine ops_done (by kernel_rfl) ?_
        refine cond_true_rule (b := true) (by kernel_rfl) rfl ?_
        refine wp_seq ?_
        refine drawK_rule (C := []) ⟨(fun φ16 xs16 => [.look 0 [] [], .look 0 [.o 0] [(φ2 0)], .look 0 [] [], .look 0 [.o 0] [(φ2 0)], .look 0 [] [], .look 0 [] [], .sub 0 [] [] (.bool (((p2 : Nat) : Int) == (((ss).length : Nat) : Int))), .look 0 [] [], .look 0 [] []]), (fun φ16 xs16 => [.pointer (some ⟨(φ2 0), 3, none⟩), .int .i64 ((d1 : Nat) : Int), .pointer (some ⟨(φ2 0), 1, none⟩), .int .i64 ((p2 : Nat) : Int), .string ⟨(ss).toArray⟩, .int .i64 (((ss).length : Nat) : Int), .bool (decide (p2 = ((ss).length))), .int .i64 ((d1 : Nat) : Int), .bool (decide (p2 = ((ss).length)))]), (fun φ16 xs16 => [[((φ2 0), .cells #[.string ⟨(ss).toArray⟩, .int .i64 ((p2 : Nat) : Int), .slice a9 0 cap9, .int .i64 ((d1 : Nat) : Int)] 105)]]), (fun φ16 xs16 => [[default, default, default, default, default, default, default, default, default]]), [], [1, 1, 1, 1, 1, 1, 5, 1, 1]⟩ (fun j => ([MP.any, MP.any, MP.any, MP.any, MP.any, MP.any, MP.any, MP.any, MP.any] : List MP).getD j MP.any) F10 [] [6] [] (fun φ16 xs16 => []) (fun φ16 xs16 => [(29, .pointer (some ⟨(φ2 0), 3, none⟩)), (30, .int .i64 ((d1 : Nat) : Int)), (31, .pointer (some ⟨(φ2 0), 1, none⟩)), (32, .int .i64 ((p2 : Nat) : Int)), (33, .string ⟨(ss).toArray⟩), (34, .int .i64 (((ss).length : Nat) : Int)), (35, .bool (decide (p2 = ((ss).length)))), (2, .int .i64 ((d1 : Nat) : Int)), (3, .bool (decide (p2 = ((ss).length))))]) (fun φ16 xs16 => [((φ2 0), .cells #[.string ⟨(ss).toArray⟩, .int .i64 ((p2 : Nat) : Int), .slice a9 0 cap9, .int .i64 ((d1 : Nat) : Int)] 105)]) s trivial (by kernel_rfl) (by kernel_rfl) (fun _ _ => by kernel_rfl) (fun _ _ => by kernel_rfl) ⟨fun _ _ => by kernel_rfl, fun _ _ => by kernel_rfl, fun _ _ => by kernel_rfl, fun _ _ => by kernel_rfl⟩ (fun _ _ _ => by kernel_rfl) (fun _ _ => by kernel_rfl) (fun _ _ => by kernel_rfl) (fun _ _ => by kernel_rfl) (fun _ _ => by kernel_rfl) (fun _ _ => by kernel_rfl) ⟨kcast (A := ∀ (φ16 : Nat → Nat) (xs16 : Xs), (.bool (((p2 : Nat) : Int) == (((ss).length : Nat) : Int)) : Value) = .bool (decide (p2 = ((ss).length)))) (by kernel_rfl) (fun φ16 xs16 => congrArg Value.bool ((nat_eql (a := p2) (b := ((ss).length))))), trivial⟩ trivial (by kernel_rfl) trivial ?k16
        case k16 =>
          rintro φ16 xs16 I16 w16 le16 s 
          replace hle3 := leMono9 le16 hle3
          refine wp_ret ?_
          refine ret_rule (C := []) [((φ2 0), .cells #[.string ⟨(ss).toArray⟩, .int .i64 ((p2 : Nat) : Int), .slice a9 0 cap9, .int .i64 ((d1 : Nat) : Int)] 105)] F10 (.tuple #[.int .i64 ((d1 : Nat) : Int), .bool (decide (p2 = ((ss).length)))]) [] [] s trivial (by kernel_rfl) ?_
          have hg9 := (sc_end hm0 (hL1.trans (by rw [hc8])) (hC2.trans (by rw [hc13]))).symm.trans (hI4.trans hS)
          cases hg9
          exact ⟨_, _, _, rfl, s, rfl⟩
      ·
        rw [hc13]
        refine cond_true_rule (b := true) (by kernel_rfl) rfl ?_
        refine wp_seq ?_
        refine region_rule ?_
        refine ops_rule (C := []) [((φ2 0), .cells #[.string ⟨(ss).toArray⟩, .int .i64 ((p2 : Nat) : Int), .slice a9 0 cap9, .int .i64 ((d1 : Nat) : Int)] 105)] F10 2 [] 0 (fun φ17 => [(3, .bool false), (2, .int .i64 0)]) (fun φ17 => [((φ2 0), .cells #[.string ⟨(ss).toArray⟩, .int .i64 ((p2 : Nat) : Int), .slice a9 0 cap9, .int .i64 ((d1 : Nat) : Int)] 105)]) (fun φ17 => []) s trivial (fun φ17 => by kernel_rfl) ?_
        intro φ17 w17 s
        refine ops_done (by kernel_rfl) ?_
        refine wp_ret ?_
        refine ret_rule (C := []) [((φ2 0), .cells #[.string ⟨(ss).toArray⟩, .int .i64 ((p2 : Nat) : Int), .slice a9 0 cap9, .int .i64 ((d1 : Nat) : Int)] 105)] F10 (.tuple #[.int .i64 0, .bool false]) [] [] s trivial (by kernel_rfl) ?_
        have hg9 := (sc_close hm0 (hL1.trans (by rw [hc8])) (hC2.trans (by rw [hc13]))).symm.trans (hI4.trans hS)
        cases hg9
        exact ⟨_, _, _, rfl, s, rfl⟩
    ·
      obtain ⟨g9, cap9, rfl⟩ := row_some hr10 (Nat.succ_pos _)
      have hB9 : st3.length + 1 ≤ p2 := hB.2.2
      replace s : St w I [] I10 w10 ([((φ2 0), .cells #[.string ⟨(ss).toArray⟩, .int .i64 ((p2 : Nat) : Int), .slice (some ⟨g9, 0, none⟩) (List.length st3 + 1) cap9, .int .i64 ((d1 : Nat) : Int)] 105)] ++ F10) := s
      refine ops_rule (C := []) [((φ2 0), .cells #[.string ⟨(ss).toArray⟩, .int .i64 ((p2 : Nat) : Int), .slice (some ⟨g9, 0, none⟩) (List.length st3 + 1) cap9, .int .i64 ((d1 : Nat) : Int)] 105)] F10 5 [] 0 (fun φ18 => [(6, .bool ok2), (5, .int .u8 ((hf2 : Nat) : Int)), (20, .bool ok2), (19, .int .u8 ((hf2 : Nat) : Int)), (16, .tuple #[.int .u8 ((hf2 : Nat) : Int), .bool ok2])]) (fun φ18 => [((φ2 0), .cells #[.string ⟨(ss).toArray⟩, .int .i64 ((p2 : Nat) : Int), .slice (some ⟨g9, 0, none⟩) (List.length st3 + 1) cap9, .int .i64 ((d1 : Nat) : Int)] 105)]) (fun φ18 => []) s trivial (fun φ18 => by kernel_rfl) ?_
      intro φ18 w18 s
      refine ops_done (by kernel_rfl) ?_
      refine wp_seq ?_
      refine wp_seq ?_
      refine region_rule ?_
      refine ops_rule (C := []) [((φ2 0), .cells #[.string ⟨(ss).toArray⟩, .int .i64 ((p2 : Nat) : Int), .slice (some ⟨g9, 0, none⟩) (List.length st3 + 1) cap9, .int .i64 ((d1 : Nat) : Int)] 105)] F10 2 [] 0 (fun φ19 => [(22, .bool (!(ok2))), (21, .bool ok2)]) (fun φ19 => [((φ2 0), .cells #[.string ⟨(ss).toArray⟩, .int .i64 ((p2 : Nat) : Int), .slice (some ⟨g9, 0, none⟩) (List.length st3 + 1) cap9, .int .i64 ((d1 : Nat) : Int)] 105)]) (fun φ19 => []) s trivial (fun φ19 => by kernel_rfl) ?_
      intro φ19 w19 s
      refine ops_done (by kernel_rfl) ?_
      rcases Bool.eq_false_or_eq_true (ok2) with hc20 | hc20
      ·
        rw [hc20]
        refine cond_false_rule (b := false) (by kernel_rfl) rfl ?_
        refine wp_skip ?_
        refine wp_seq ?_
        refine region_rule ?_
        refine ops_rule (C := []) [((φ2 0), .cells #[.string ⟨(ss).toArray⟩, .int .i64 ((p2 : Nat) : Int), .slice (some ⟨g9, 0, none⟩) (List.length st3 + 1) cap9, .int .i64 ((d1 : Nat) : Int)] 105)] F10 5 [.o 0] 0 (fun φ21 => [(7, .int .i64 (IntKind.wrap .i64 ((((List.length st3 + 1) : Nat) : Int) - ((1 : Nat) : Int)))), (26, .int .i64 (IntKind.wrap .i64 ((((List.length st3 + 1) : Nat) : Int) - ((1 : Nat) : Int)))), (25, .int .i64 (((List.length st3 + 1) : Nat) : Int)), (24, .slice (some ⟨g9, 0, none⟩) (List.length st3 + 1) cap9), (23, .pointer (some ⟨(φ2 0), 2, none⟩))]) (fun φ21 => [((φ2 0), .cells #[.string ⟨(ss).toArray⟩, .int .i64 ((p2 : Nat) : Int), .slice (some ⟨g9, 0, none⟩) (List.length st3 + 1) cap9, .int .i64 ((d1 : Nat) : Int)] 105)]) (fun φ21 => [(φ2 0)]) s trivial (fun φ21 => by kernel_rfl) ?_
        intro φ21 w21 s
        rw [nat_subI (a := (List.length st3 + 1)) (b := 1) (by omega) (by omega)]
        refine ops_done (by kernel_rfl) ?_
        refine wp_seq ?_
        refine wp_seq ?_
        refine region_rule ?_
        refine ops_rule (C := []) [((φ2 0), .cells #[.string ⟨(ss).toArray⟩, .int .i64 ((p2 : Nat) : Int), .slice (some ⟨g9, 0, none⟩) (List.length st3 + 1) cap9, .int .i64 ((d1 : Nat) : Int)] 105)] F10 2 [] 0 (fun φ22 => [(28, .bool (decide ((((List.length st3 + 1) - 1 : Nat) : Int) < ((0 : Nat) : Int)))), (27, .int .i64 (((List.length st3 + 1) - 1 : Nat) : Int))]) (fun φ22 => [((φ2 0), .cells #[.string ⟨(ss).toArray⟩, .int .i64 ((p2 : Nat) : Int), .slice (some ⟨g9, 0, none⟩) (List.length st3 + 1) cap9, .int .i64 ((d1 : Nat) : Int)] 105)]) (fun φ22 => []) s trivial (fun φ22 => by kernel_rfl) ?_
        intro φ22 w22 s
        rw [nat_lss (a := ((List.length st3 + 1) - 1)) (b := 0)]
        refine ops_done (by kernel_rfl) ?_
        rcases Bool.eq_false_or_eq_true (decide (((List.length st3 + 1) - 1) < 0)) with hc23 | hc23
        ·
          exact absurd (of_decide_eq_true hc23) (Nat.not_lt_zero _)
        ·
          rw [hc23]
          refine cond_false_rule (b := false) (by kernel_rfl) rfl ?_
          refine wp_skip ?_
          refine wp_seq ?_
          refine region_rule ?_
          refine ops_rule (C := []) [((φ2 0), .cells #[.string ⟨(ss).toArray⟩, .int .i64 ((p2 : Nat) : Int), .slice (some ⟨g9, 0, none⟩) (List.length st3 + 1) cap9, .int .i64 ((d1 : Nat) : Int)] 105)] F10 4 [.o 0] 0 (fun φ24 => [(39, .int .u8 ((hf2 : Nat) : Int)), (38, .int .i64 (((List.length st3 + 1) - 1 : Nat) : Int)), (37, .slice (some ⟨g9, 0, none⟩) (List.length st3 + 1) cap9), (36, .pointer (some ⟨(φ2 0), 2, none⟩))]) (fun φ24 => [((φ2 0), .cells #[.string ⟨(ss).toArray⟩, .int .i64 ((p2 : Nat) : Int), .slice (some ⟨g9, 0, none⟩) (List.length st3 + 1) cap9, .int .i64 ((d1 : Nat) : Int)] 105)]) (fun φ24 => [(φ2 0)]) s trivial (fun φ24 => by kernel_rfl) ?_
          intro φ24 w24 s
          refine sem_rule (Instr.indexAt 22 (.slice (some ⟨g9, 0, none⟩) (List.length st3 + 1) cap9) (.int .i64 (((List.length st3 + 1) - 1 : Nat) : Int))) (some 40) (.pointer (some ⟨g9, ((List.length st3 + 1) - 1), none⟩)) (by kernel_rfl) (run_idx22 (by omega)) ?_
          obtain ⟨w25, F25, hr25, s, hrow25⟩ := row_put (H := [((φ2 0), .cells #[.string ⟨(ss).toArray⟩, .int .i64 ((p2 : Nat) : Int), .slice (some ⟨g9, 0, none⟩) (List.length st3 + 1) cap9, .int .i64 ((d1 : Nat) : Int)] 105)]) (F := F10) (x := hf2) s hr10
          refine semU_rule (Instr.storeAt 5 (.pointer (some ⟨g9, ((List.length st3 + 1) - 1), none⟩)) (.int .u8 ((hf2 : Nat) : Int))) none (by kernel_rfl) hr25 ?_
          refine ops_done (by kernel_rfl) ?_
          refine wp_seq ?_
          refine region_rule ?_
          refine callB_rule (b := ((φ2 0), .cells #[.string ⟨(ss).toArray⟩, .int .i64 ((p2 : Nat) : Int), .slice (some ⟨g9, 0, none⟩) (List.length st3 + 1) cap9, .int .i64 ((d1 : Nat) : Int)] 105)) (H := [((φ2 0), .cells #[.string ⟨(ss).toArray⟩, .int .i64 ((p2 : Nat) : Int), .slice (some ⟨g9, 0, none⟩) (List.length st3 + 1) cap9, .int .i64 ((d1 : Nat) : Int)] 105)]) (F := F25) (Hr := []) (some 41) 0 s (by kernel_rfl) (by kernel_rfl) (takeP_c (ov := .slice (some ⟨g9, 0, none⟩) (List.length st3 + 1) cap9) (dv := .int .i64 ((d1 : Nat) : Int)) (b := (φ2 0)) (p := p2) (c := 44) (ss := ss) hs hB.2.1) (by kernel_rfl) ?_
          rintro v26 I26 w26 b26 le26 - h26 s
          replace hle3 := leMono9 le26 hle3
          obtain ⟨rfl, rfl⟩ := h26
          refine ops_rule (C := []) [((φ2 0), .cells #[.string ⟨(ss).toArray⟩, .int .i64 ((tkP ss p2 44 : Nat) : Int), .slice (some ⟨g9, 0, none⟩) (List.length st3 + 1) cap9, .int .i64 ((d1 : Nat) : Int)] 105)] F25 1 [] 0 (fun φ27 => [(42, .bool (!(tkB ss p2 44)))]) (fun φ27 => [((φ2 0), .cells #[.string ⟨(ss).toArray⟩, .int .i64 ((tkP ss p2 44 : Nat) : Int), .slice (some ⟨g9, 0, none⟩) (List.length st3 + 1) cap9, .int .i64 ((d1 : Nat) : Int)] 105)]) (fun φ27 => []) s trivial (fun φ27 => by kernel_rfl) ?_
          intro φ27 w27 s
          refine ops_done (by kernel_rfl) ?_
          rcases Bool.eq_false_or_eq_true (tkB ss p2 44) with hc28 | hc28
          ·
            rw [hc28]
            refine cond_false_rule (b := false) (by kernel_rfl) rfl ?_
            refine wp_skip ?_
            have hv9 := tkP_t hc28
            have hg9 := (sc_go hm0 (hL1.trans (by rw [hc8])) (hC2.trans (by rw [hc20])) hc28).symm.trans hI4
            simp only [List.length_cons] at hB
            exact ⟨⟨m4 - 1, (tkP ss p2 44, hf2 :: st3, d1, .slice (some ⟨g9, 0, none⟩) (List.length st3 + 1) cap9, F25), _, _, _, by omega, rfl, s, List.Sublist.refl _, by kernel_rfl, hle3, hg9, (tkP_le 44 hB.2.1), by simp only; omega, hrow25, by simp only [List.length_cons]; omega, hA.2.2.2⟩⟩
          ·
            rw [hc28]
            refine cond_true_rule (b := true) (by kernel_rfl) rfl ?_
            refine wp_seq ?_
            refine region_rule ?_
            refine ops_rule (C := []) [((φ2 0), .cells #[.string ⟨(ss).toArray⟩, .int .i64 ((tkP ss p2 44 : Nat) : Int), .slice (some ⟨g9, 0, none⟩) (List.length st3 + 1) cap9, .int .i64 ((d1 : Nat) : Int)] 105)] F25 2 [] 0 (fun φ29 => [(3, .bool false), (2, .int .i64 0)]) (fun φ29 => [((φ2 0), .cells #[.string ⟨(ss).toArray⟩, .int .i64 ((tkP ss p2 44 : Nat) : Int), .slice (some ⟨g9, 0, none⟩) (List.length st3 + 1) cap9, .int .i64 ((d1 : Nat) : Int)] 105)]) (fun φ29 => []) s trivial (fun φ29 => by kernel_rfl) ?_
            intro φ29 w29 s
            refine ops_done (by kernel_rfl) ?_
            refine wp_ret ?_
            refine ret_rule (C := []) [((φ2 0), .cells #[.string ⟨(ss).toArray⟩, .int .i64 ((tkP ss p2 44 : Nat) : Int), .slice (some ⟨g9, 0, none⟩) (List.length st3 + 1) cap9, .int .i64 ((d1 : Nat) : Int)] 105)] F25 (.tuple #[.int .i64 0, .bool false]) [] [] s trivial (by kernel_rfl) ?_
            have hg9 := (sc_no hm0 (hL1.trans (by rw [hc8])) (hC2.trans (by rw [hc20])) hc28).symm.trans (hI4.trans hS)
            cases hg9
            exact ⟨_, _, _, rfl, s, rfl⟩
      ·
        rw [hc20]
        refine cond_true_rule (b := true) (by kernel_rfl) rfl ?_
        refine wp_seq ?_
        refine region_rule ?_
        refine ops_rule (C := []) [((φ2 0), .cells #[.string ⟨(ss).toArray⟩, .int .i64 ((p2 : Nat) : Int), .slice (some ⟨g9, 0, none⟩) (List.length st3 + 1) cap9, .int .i64 ((d1 : Nat) : Int)] 105)] F10 2 [] 0 (fun φ30 => [(3, .bool false), (2, .int .i64 0)]) (fun φ30 => [((φ2 0), .cells #[.string ⟨(ss).toArray⟩, .int .i64 ((p2 : Nat) : Int), .slice (some ⟨g9, 0, none⟩) (List.length st3 + 1) cap9, .int .i64 ((d1 : Nat) : Int)] 105)]) (fun φ30 => []) s trivial (fun φ30 => by kernel_rfl) ?_
        intro φ30 w30 s
        refine ops_done (by kernel_rfl) ?_
        refine wp_ret ?_
        refine ret_rule (C := []) [((φ2 0), .cells #[.string ⟨(ss).toArray⟩, .int .i64 ((p2 : Nat) : Int), .slice (some ⟨g9, 0, none⟩) (List.length st3 + 1) cap9, .int .i64 ((d1 : Nat) : Int)] 105)] F10 (.tuple #[.int .i64 0, .bool false]) [] [] s trivial (by kernel_rfl) ?_
        have hg9 := (sc_close hm0 (hL1.trans (by rw [hc8])) (hC2.trans (by rw [hc20]))).symm.trans (hI4.trans hS)
        cases hg9
        exact ⟨_, _, _, rfl, s, rfl⟩
  ·
    rw [hc8]
    refine cond_true_rule (b := true) (by kernel_rfl) rfl ?_
    refine wp_seq ?_
    refine region_rule ?_
    refine ops_rule (C := []) [((φ2 0), .cells #[.string ⟨(ss).toArray⟩, .int .i64 ((p1 : Nat) : Int), v5, .int .i64 ((d1 : Nat) : Int)] 105)] F5 2 [] 0 (fun φ31 => [(3, .bool false), (2, .int .i64 0)]) (fun φ31 => [((φ2 0), .cells #[.string ⟨(ss).toArray⟩, .int .i64 ((p1 : Nat) : Int), v5, .int .i64 ((d1 : Nat) : Int)] 105)]) (fun φ31 => []) s trivial (fun φ31 => by kernel_rfl) ?_
    intro φ31 w31 s
    refine ops_done (by kernel_rfl) ?_
    refine wp_ret ?_
    refine ret_rule (C := []) [((φ2 0), .cells #[.string ⟨(ss).toArray⟩, .int .i64 ((p1 : Nat) : Int), v5, .int .i64 ((d1 : Nat) : Int)] 105)] F5 (.tuple #[.int .i64 0, .bool false]) [] [] s trivial (by kernel_rfl) ?_
    have hg9 := (sc_leaf hm0 (hL1.trans (by rw [hc8]))).symm.trans (hI4.trans hS)
    cases hg9
    exact ⟨_, _, _, rfl, s, rfl⟩

theorem scanK_c {I : IM} : Fun Try.prog 56 #[.string ⟨#[40, 49, 44, 40, 48, 44, 49, 41, 41]⟩] I (fun v J => v = .tuple #[.int .i64 2, .bool true]) := scanG_c (ss := [40, 49, 44, 40, 48, 44, 49, 41, 41]) (dd := 2) (ok := true) (by decide) (by kernel_rfl)

end Go.Proofs.Ytgdickihjaomjaa
