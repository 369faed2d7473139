/- ids: leaf -/
import Derived.Test.YtgdickihjaomjaaTuV2
import Derived.Test.YtgdickihjaomjaaTuS10
import Derived.OrdersHeld
set_option linter.all false
set_option maxRecDepth 100000
namespace Go.Proofs.Ytgdickihjaomjaa
open Go.RowKit Go.Sep
attribute [local irreducible] Go.wpList Go.Code.wp
theorem under9 : Try.prog.underlying 9 = some .string := by kernel_rfl
theorem under22 : Try.prog.underlying 22 = some (.slice 5) := by kernel_rfl
def tkB (ss : List UInt8) (p c : Nat) : Bool := decide (p ≠ ss.length ∧ (ss.getD p 0).toNat = c)
theorem tk0 {ss : List UInt8} {p c : Nat} (h : p = ss.length) : tkB ss p c = false := by simp [tkB, h]
theorem tk1 {ss : List UInt8} {p c : Nat} (h : (ss.getD p 0).toNat ≠ c) : tkB ss p c = false := decide_eq_false fun q => h q.2
theorem tk2 {ss : List UInt8} {p c : Nat} (h : ¬ p = ss.length) (h2 : ¬ (ss.getD p 0).toNat ≠ c) : tkB ss p c = true := decide_eq_true ⟨h, Decidable.not_not.mp h2⟩
def tkP (ss : List UInt8) (p c : Nat) : Nat := p + (tkB ss p c).toNat
theorem tkP_le {ss : List UInt8} {p : Nat} (c : Nat) (h : p ≤ ss.length) : tkP ss p c ≤ ss.length := by
  unfold tkP
  cases e : tkB ss p c with
  | false => exact h
  | true =>
    have := (of_decide_eq_true e).1
    show p + 1 ≤ _; omega
theorem tkP_ge (ss : List UInt8) (p c : Nat) : p ≤ tkP ss p c := Nat.le_add_right _ _
theorem tkP_t {ss : List UInt8} {p c : Nat} (h : tkB ss p c = true) : tkP ss p c = p + 1 := by unfold tkP; rw [h]; rfl
def stV : List Nat → List Value
  | [] => []
  | a :: st => stV st ++ [.int .u8 ((a : Nat) : Int)]
theorem stV_len : ∀ (st : List Nat), (stV st).length = st.length * 1
  | [] => rfl
  | a :: st => by simp only [stV, List.length_append, stV_len st, List.length_cons, List.length_nil]; omega
def lfG (ss : List UInt8) : Nat → Nat → List Nat → Nat → Nat × List Nat × Nat × Nat × Bool
  | 0, p, st, d => (p, st, d, 0, false)
  | f + 1, p, st, d => if tkB ss p 40 = true then lfG ss f (tkP ss p 40) (32 :: st) (max d (st.length + 1))
    else if tkB ss (tkP ss p 40) 48 = true then (tkP ss (tkP ss p 40) 48, st, d, 48, true)
    else (tkP ss (tkP ss (tkP ss p 40) 48) 49, st, d, 49, tkB ss (tkP ss (tkP ss p 40) 48) 49)
section
variable {ss : List UInt8} {m p d : Nat} {st : List Nat}
theorem lf_go (hm : 0 < m) (h1 : tkB ss p 40 = true) : lfG ss m p st d = lfG ss (m - 1) (tkP ss p 40) (32 :: st) (max d (st.length + 1)) := by
  obtain ⟨f, rfl⟩ : ∃ f, m = f + 1 := ⟨m - 1, by omega⟩
  rw [lfG, if_pos h1]; rfl
theorem lf_zero (hm : 0 < m) (h1 : tkB ss p 40 = false) (h2 : tkB ss (tkP ss p 40) 48 = true) : lfG ss m p st d = (tkP ss (tkP ss p 40) 48, st, d, 48, true) := by
  obtain ⟨f, rfl⟩ : ∃ f, m = f + 1 := ⟨m - 1, by omega⟩
  rw [lfG, if_neg (by rw [h1]; decide), if_pos h2]
theorem lf_one (hm : 0 < m) (h1 : tkB ss p 40 = false) (h2 : tkB ss (tkP ss p 40) 48 = false) : lfG ss m p st d = (tkP ss (tkP ss (tkP ss p 40) 48) 49, st, d, 49, tkB ss (tkP ss (tkP ss p 40) 48) 49) := by
  obtain ⟨f, rfl⟩ : ∃ f, m = f + 1 := ⟨m - 1, by omega⟩
  rw [lfG, if_neg (by rw [h1]; decide), if_neg (by rw [h2]; decide)]
end

set_option maxHeartbeats 2000000 in
theorem takeP_c {I : IM} {b p c : Nat} {ss : List UInt8} {ov dv : Value} (hs : ss.length ≤ 1000000) (hp : p ≤ ss.length) : FunM Try.prog 71 #[.pointer (some ⟨b, 0, none⟩), .int .u8 ((c : Nat) : Int)] I [(b, .cells #[.string ⟨(ss).toArray⟩, .int .i64 ((p : Nat) : Int), ov, dv] 105)] (fun v J H' => ∃ b' : OB, H' = [b'] ∧ b'.1 = b ∧ v = .bool (tkB ss p c) ∧ b' = (b, .cells #[.string ⟨(ss).toArray⟩, .int .i64 ((tkP ss p c : Nat) : Int), ov, dv] 105)) := by
  refine enterM_rule 35 [(0, .pointer (some ⟨b, 0, none⟩)), (1, .int .u8 ((c : Nat) : Int))] Try.func71 rfl (by kernel_rfl) ?_
  intro w s
  refine wp_seq ?_
  refine region_rule ?_
  refine ops_rule (C := []) [(b, .cells #[.string ⟨(ss).toArray⟩, .int .i64 ((p : Nat) : Int), ov, dv] 105)] [] 1 [] 0 (fun φ1 => [(4, .bool false)]) (fun φ1 => [(b, .cells #[.string ⟨(ss).toArray⟩, .int .i64 ((p : Nat) : Int), ov, dv] 105)]) (fun φ1 => []) s trivial (fun φ1 => by kernel_rfl) ?_
  intro φ1 w1 s
  refine ops_done (by kernel_rfl) ?_
  refine wp_seq ?_
  refine wp_seq ?_
  rcases Bool.eq_false_or_eq_true (decide (p = ((ss).length))) with hc2 | hc2
  ·
    refine draw_rule (C := []) ⟨(fun φ3 xs3 => [.look 0 [] [], .look 0 [] [], .look 0 [] [], .look 0 [.o 0] [b], .look 0 [] [], .look 0 [] [], .look 0 [] [], .look 0 [.o 0] [b], .look 0 [] [], .sub 0 [] [] (.bool (((p : Nat) : Int) == (((ss).length : Nat) : Int))), .look 0 [] [], .skip, .skip, .skip, .skip, .skip, .skip, .skip, .skip, .skip, .skip, .skip, .look 0 [] []]), (fun φ3 xs3 => [.pointer (some ⟨b, 0, none⟩), .pointer (some ⟨b, 0, none⟩), .pointer (some ⟨b, 1, none⟩), .int .i64 ((p : Nat) : Int), .pointer (some ⟨b, 0, none⟩), .pointer (some ⟨b, 0, none⟩), .pointer (some ⟨b, 0, none⟩), .string ⟨(ss).toArray⟩, .int .i64 (((ss).length : Nat) : Int), .bool true, .bool true, undef, undef, undef, undef, undef, undef, undef, undef, undef, undef, undef, .bool true]), (fun φ3 xs3 => [[(b, .cells #[.string ⟨(ss).toArray⟩, .int .i64 ((p : Nat) : Int), ov, dv] 105)]]), (fun φ3 xs3 => [[default, default, default, default, default, default, default, default, default, default, default, default, default, default, default, default, default, default, default, default, default, default, default]]), [], [1, 1, 1, 1, 1, 1, 1, 1, 1, 5, 1, 0, 0, 0, 0, 0, 0, 0, 0, 0, 0, 0, 1]⟩ (fun j => ([MP.any, MP.any, MP.any, MP.any, MP.any, MP.any, MP.any, MP.any, MP.any, MP.any, MP.any, MP.any, MP.any, MP.any, MP.any, MP.any, MP.any, MP.any, MP.any, MP.any, MP.any, MP.any, MP.any] : List MP).getD j MP.any) [] [9] [] (fun φ3 xs3 => []) (fun φ3 xs3 => [(5, .pointer (some ⟨b, 0, none⟩)), (6, .pointer (some ⟨b, 0, none⟩)), (7, .pointer (some ⟨b, 1, none⟩)), (8, .int .i64 ((p : Nat) : Int)), (9, .pointer (some ⟨b, 0, none⟩)), (10, .pointer (some ⟨b, 0, none⟩)), (11, .pointer (some ⟨b, 0, none⟩)), (12, .string ⟨(ss).toArray⟩), (13, .int .i64 (((ss).length : Nat) : Int)), (14, .bool true), (15, .bool true), (16, undef), (17, undef), (18, undef), (19, undef), (20, undef), (21, undef), (22, undef), (23, undef), (24, undef), (25, undef), (26, undef), (27, .bool true)]) (fun φ3 xs3 => [(b, .cells #[.string ⟨(ss).toArray⟩, .int .i64 ((p : Nat) : Int), ov, dv] 105)]) s trivial (by kernel_rfl) (by kernel_rfl) (fun _ _ => by kernel_rfl) (fun _ _ => by kernel_rfl) ⟨fun _ _ => by kernel_rfl, fun _ _ => by kernel_rfl, fun _ _ => by kernel_rfl, fun _ _ => by kernel_rfl⟩ (fun _ _ _ => by kernel_rfl) (fun _ _ => by kernel_rfl) (fun _ _ => by kernel_rfl) (fun _ _ => by kernel_rfl) (fun _ _ => by kernel_rfl) (fun _ _ => by kernel_rfl) ⟨kcast (A := ∀ (φ3 : Nat → Nat) (xs3 : Xs), (.bool (((p : Nat) : Int) == (((ss).length : Nat) : Int)) : Value) = .bool true) (by kernel_rfl) (fun φ3 xs3 => congrArg Value.bool ((nat_eql (a := p) (b := ((ss).length))).trans (hc2))), trivial⟩ trivial (by kernel_rfl) trivial ?k3
    case k3 =>
      rintro φ3 xs3 I3 w3 le3 s 
      refine cond_true_rule (b := true) (by kernel_rfl) rfl ?_
      refine wp_seq ?_
      refine region_rule ?_
      refine ops_rule (C := []) [(b, .cells #[.string ⟨(ss).toArray⟩, .int .i64 ((p : Nat) : Int), ov, dv] 105)] [] 1 [] 0 (fun φ4 => [(4, .bool false)]) (fun φ4 => [(b, .cells #[.string ⟨(ss).toArray⟩, .int .i64 ((p : Nat) : Int), ov, dv] 105)]) (fun φ4 => []) s trivial (fun φ4 => by kernel_rfl) ?_
      intro φ4 w4 s
      refine ops_done (by kernel_rfl) ?_
      refine wp_ret ?_
      refine ret_rule (C := []) [(b, .cells #[.string ⟨(ss).toArray⟩, .int .i64 ((p : Nat) : Int), ov, dv] 105)] [] (.bool false) [] [] s trivial (by kernel_rfl) ?_
      replace s := s.drop (List.Sublist.append (List.Sublist.cons₂ _ List.Sublist.slnil) (List.Sublist.refl []))
      exact ⟨_, _, _, rfl, s, ⟨_, rfl, rfl, by rw [tk0 (of_decide_eq_true hc2)], by rw [show tkP ss p c = p + (tkB ss p c).toNat from rfl, tk0 (of_decide_eq_true hc2)]; rfl⟩⟩
  ·
    refine draw_rule (C := []) ⟨(fun φ5 xs5 => [.look 0 [] [], .look 0 [] [], .look 0 [] [], .look 0 [.o 0] [b], .look 0 [] [], .look 0 [] [], .look 0 [] [], .look 0 [.o 0] [b], .look 0 [] [], .sub 0 [] [] (.bool (((p : Nat) : Int) == (((ss).length : Nat) : Int))), .look 0 [] [], .look 0 [] [], .look 0 [] [], .look 0 [] [], .look 0 [.o 0] [b], .look 0 [] [], .look 0 [] [], .look 0 [] [], .look 0 [.o 0] [b], .ran (Instr.index 9 (.string ⟨(ss).toArray⟩) (.int .i64 ((p : Nat) : Int))), .look 0 [] [], .sub 0 [] [] (.bool ((((ss.getD p 0).toNat : Nat) : Int) != ((c : Nat) : Int))), .look 0 [] []]), (fun φ5 xs5 => [.pointer (some ⟨b, 0, none⟩), .pointer (some ⟨b, 0, none⟩), .pointer (some ⟨b, 1, none⟩), .int .i64 ((p : Nat) : Int), .pointer (some ⟨b, 0, none⟩), .pointer (some ⟨b, 0, none⟩), .pointer (some ⟨b, 0, none⟩), .string ⟨(ss).toArray⟩, .int .i64 (((ss).length : Nat) : Int), .bool false, .bool false, .pointer (some ⟨b, 0, none⟩), .pointer (some ⟨b, 0, none⟩), .pointer (some ⟨b, 0, none⟩), .string ⟨(ss).toArray⟩, .pointer (some ⟨b, 0, none⟩), .pointer (some ⟨b, 0, none⟩), .pointer (some ⟨b, 1, none⟩), .int .i64 ((p : Nat) : Int), .int .u8 (((ss.getD p 0).toNat : Nat) : Int), .int .u8 ((c : Nat) : Int), .bool (decide (((ss.getD p 0).toNat) ≠ c)), .bool (decide (((ss.getD p 0).toNat) ≠ c))]), (fun φ5 xs5 => [[(b, .cells #[.string ⟨(ss).toArray⟩, .int .i64 ((p : Nat) : Int), ov, dv] 105)]]), (fun φ5 xs5 => [[default, default, default, default, default, default, default, default, default, default, default, default, default, default, default, default, default, default, default, default, default, default, default]]), [], [1, 1, 1, 1, 1, 1, 1, 1, 1, 5, 1, 1, 1, 1, 1, 1, 1, 1, 1, 6, 1, 5, 1]⟩ (fun j => ([MP.any, MP.any, MP.any, MP.any, MP.any, MP.any, MP.any, MP.any, MP.any, MP.any, MP.any, MP.any, MP.any, MP.any, MP.any, MP.any, MP.any, MP.any, MP.any, MP.any, MP.any, MP.any, MP.any] : List MP).getD j MP.any) [] [9, 21] [19] (fun φ5 xs5 => []) (fun φ5 xs5 => [(5, .pointer (some ⟨b, 0, none⟩)), (6, .pointer (some ⟨b, 0, none⟩)), (7, .pointer (some ⟨b, 1, none⟩)), (8, .int .i64 ((p : Nat) : Int)), (9, .pointer (some ⟨b, 0, none⟩)), (10, .pointer (some ⟨b, 0, none⟩)), (11, .pointer (some ⟨b, 0, none⟩)), (12, .string ⟨(ss).toArray⟩), (13, .int .i64 (((ss).length : Nat) : Int)), (14, .bool false), (15, .bool false), (16, .pointer (some ⟨b, 0, none⟩)), (17, .pointer (some ⟨b, 0, none⟩)), (18, .pointer (some ⟨b, 0, none⟩)), (19, .string ⟨(ss).toArray⟩), (20, .pointer (some ⟨b, 0, none⟩)), (21, .pointer (some ⟨b, 0, none⟩)), (22, .pointer (some ⟨b, 1, none⟩)), (23, .int .i64 ((p : Nat) : Int)), (24, .int .u8 (((ss.getD p 0).toNat : Nat) : Int)), (25, .int .u8 ((c : Nat) : Int)), (26, .bool (decide (((ss.getD p 0).toNat) ≠ c))), (27, .bool (decide (((ss.getD p 0).toNat) ≠ c)))]) (fun φ5 xs5 => [(b, .cells #[.string ⟨(ss).toArray⟩, .int .i64 ((p : Nat) : Int), ov, dv] 105)]) s trivial (by kernel_rfl) (by kernel_rfl) (fun _ _ => by kernel_rfl) (fun _ _ => by kernel_rfl) ⟨fun _ _ => by kernel_rfl, fun _ _ => by kernel_rfl, fun _ _ => by kernel_rfl, fun _ _ => by kernel_rfl⟩ (fun _ _ _ => by kernel_rfl) (fun _ _ => by kernel_rfl) (fun _ _ => by kernel_rfl) (fun _ _ => by kernel_rfl) (fun _ _ => by kernel_rfl) (fun _ _ => by kernel_rfl) ⟨kcast (A := ∀ (φ5 : Nat → Nat) (xs5 : Xs), (.bool (((p : Nat) : Int) == (((ss).length : Nat) : Int)) : Value) = .bool false) (by kernel_rfl) (fun φ5 xs5 => congrArg Value.bool ((nat_eql (a := p) (b := ((ss).length))).trans (hc2))), ⟨kcast (A := ∀ (φ5 : Nat → Nat) (xs5 : Xs), (.bool ((((ss.getD p 0).toNat : Nat) : Int) != ((c : Nat) : Int)) : Value) = .bool (decide (((ss.getD p 0).toNat) ≠ c))) (by kernel_rfl) (fun φ5 xs5 => congrArg Value.bool ((nat_neq (a := ((ss.getD p 0).toNat)) (b := c)))), trivial⟩⟩ ⟨kcast (A := ∀ (φ5 : Nat → Nat) (xs5 : Xs) (J : IM) (w : World), I.Le J → J.Sub w → ((Instr.index 9 (.string ⟨(ss).toArray⟩) (.int .i64 ((p : Nat) : Int))) : Sem Value).run Try.prog w = .ok (.int .u8 (((ss.getD p 0).toNat : Nat) : Int)) w) (by kernel_rfl) (fun φ5 xs5 J w hJ hS => run_idxStr (s := ss) under9 (by have hq0 := of_decide_eq_false hc2; omega)), trivial⟩ (by kernel_rfl) trivial ?k5
    case k5 =>
      rintro φ5 xs5 I5 w5 le5 s 
      rcases Bool.eq_false_or_eq_true (decide (((ss.getD p 0).toNat) ≠ c)) with hc6 | hc6
      ·
        rw [hc6]
        refine cond_true_rule (b := true) (by kernel_rfl) rfl ?_
        refine wp_seq ?_
        refine region_rule ?_
        refine ops_rule (C := []) [(b, .cells #[.string ⟨(ss).toArray⟩, .int .i64 ((p : Nat) : Int), ov, dv] 105)] [] 1 [] 0 (fun φ7 => [(4, .bool false)]) (fun φ7 => [(b, .cells #[.string ⟨(ss).toArray⟩, .int .i64 ((p : Nat) : Int), ov, dv] 105)]) (fun φ7 => []) s trivial (fun φ7 => by kernel_rfl) ?_
        intro φ7 w7 s
        refine ops_done (by kernel_rfl) ?_
        refine wp_ret ?_
        refine ret_rule (C := []) [(b, .cells #[.string ⟨(ss).toArray⟩, .int .i64 ((p : Nat) : Int), ov, dv] 105)] [] (.bool false) [] [] s trivial (by kernel_rfl) ?_
        replace s := s.drop (List.Sublist.append (List.Sublist.cons₂ _ List.Sublist.slnil) (List.Sublist.refl []))
        exact ⟨_, _, _, rfl, s, ⟨_, rfl, rfl, by rw [tk1 (of_decide_eq_true hc6)], by rw [show tkP ss p c = p + (tkB ss p c).toNat from rfl, tk1 (of_decide_eq_true hc6)]; rfl⟩⟩
      ·
        rw [hc6]
        refine cond_false_rule (b := false) (by kernel_rfl) rfl ?_
        refine wp_skip ?_
        refine wp_seq ?_
        refine region_rule ?_
        refine ops_rule (C := []) [(b, .cells #[.string ⟨(ss).toArray⟩, .int .i64 ((p : Nat) : Int), ov, dv] 105)] [] 8 [.o 0, .o 0] 0 (fun φ8 => [(34, .pointer (some ⟨b, 1, none⟩)), (33, .pointer (some ⟨b, 0, none⟩)), (32, .int .i64 (IntKind.wrap .i64 (((p : Nat) : Int) + ((1 : Nat) : Int)))), (31, .int .i64 ((p : Nat) : Int)), (30, .pointer (some ⟨b, 1, none⟩)), (29, .pointer (some ⟨b, 0, none⟩)), (28, .pointer (some ⟨b, 0, none⟩))]) (fun φ8 => [(b, .cells #[.string ⟨(ss).toArray⟩, .int .i64 (IntKind.wrap .i64 (((p : Nat) : Int) + ((1 : Nat) : Int))), ov, dv] 105)]) (fun φ8 => [b, b]) s trivial (fun φ8 => by kernel_rfl) ?_
        intro φ8 w8 s
        rw [nat_addI (a := p) (b := 1) (by have hq0 := of_decide_eq_false hc2; have hq1 := of_decide_eq_false hc6; omega)] at s ⊢
        refine ops_done (by kernel_rfl) ?_
        refine wp_seq ?_
        refine region_rule ?_
        refine ops_rule (C := []) [(b, .cells #[.string ⟨(ss).toArray⟩, .int .i64 ((p + 1 : Nat) : Int), ov, dv] 105)] [] 1 [] 0 (fun φ9 => [(4, .bool true)]) (fun φ9 => [(b, .cells #[.string ⟨(ss).toArray⟩, .int .i64 ((p + 1 : Nat) : Int), ov, dv] 105)]) (fun φ9 => []) s trivial (fun φ9 => by kernel_rfl) ?_
        intro φ9 w9 s
        refine ops_done (by kernel_rfl) ?_
        refine wp_ret ?_
        refine ret_rule (C := []) [(b, .cells #[.string ⟨(ss).toArray⟩, .int .i64 ((p + 1 : Nat) : Int), ov, dv] 105)] [] (.bool true) [] [] s trivial (by kernel_rfl) ?_
        replace s := s.drop (List.Sublist.append (List.Sublist.cons₂ _ List.Sublist.slnil) (List.Sublist.refl []))
        exact ⟨_, _, _, rfl, s, ⟨_, rfl, rfl, by rw [tk2 (of_decide_eq_false hc2) (of_decide_eq_false hc6)], by rw [show tkP ss p c = p + (tkB ss p c).toNat from rfl, tk2 (of_decide_eq_false hc2) (of_decide_eq_false hc6)]; rfl⟩⟩

set_option maxHeartbeats 2000000 in
theorem leafG_c {I : IM} {b p d : Nat} {ss : List UInt8} {st : List Nat} {v : Value} {F : List OB} {p' d' sh : Nat} {st' : List Nat} {ok : Bool} (hs : ss.length ≤ 1000000) (hp : p ≤ ss.length) (hrow : RowH 5 1 v st.length (stV st) F) (hst : st.length ≤ p) (hd : d ≤ 1000000) (hL : lfG ss (ss.length + 1) p st d = (p', st', d', sh, ok)) : FunM Try.prog 69 #[.pointer (some ⟨b, 0, none⟩)] I ((b, .cells #[.string ⟨(ss).toArray⟩, .int .i64 ((p : Nat) : Int), v, .int .i64 ((d : Nat) : Int)] 105) :: F) (fun v J H' => ∃ (b' : OB) (F' : List OB), H' = b' :: F' ∧ b'.1 = b ∧ ∃ v' : Value, v = .tuple #[.int .u8 ((sh : Nat) : Int), .bool ok] ∧ b' = (b, .cells #[.string ⟨(ss).toArray⟩, .int .i64 ((p' : Nat) : Int), v', .int .i64 ((d' : Nat) : Int)] 105) ∧ RowH 5 1 v' st'.length (stV st') F') := by
  refine enterM_rule 32 [(0, .pointer (some ⟨b, 0, none⟩))] Try.func69 rfl (by kernel_rfl) ?_
  intro w s
  refine wp_seq ?_
  refine region_rule ?_
  refine ops_rule (C := []) [(b, .cells #[.string ⟨(ss).toArray⟩, .int .i64 ((p : Nat) : Int), v, .int .i64 ((d : Nat) : Int)] 105)] F 2 [] 0 (fun φ1 => [(3, .bool false), (2, .int .u8 0)]) (fun φ1 => [(b, .cells #[.string ⟨(ss).toArray⟩, .int .i64 ((p : Nat) : Int), v, .int .i64 ((d : Nat) : Int)] 105)]) (fun φ1 => []) s trivial (fun φ1 => by kernel_rfl) ?_
  intro φ1 w1 s
  refine ops_done (by kernel_rfl) ?_
  refine wp_seq ?_
  refine wp_block ?_
  have hle2 := IM.Le.refl I
  refine loop_rule (fun (x : Nat × List Nat × Nat × Value × List OB) => [(0, .pointer (some ⟨b, 0, none⟩))]) (fun (x : Nat × List Nat × Nat × Value × List OB) => (b, .cells #[.string ⟨(ss).toArray⟩, .int .i64 ((x.1 : Nat) : Int), x.2.2.2.1, .int .i64 ((x.2.2.1 : Nat) : Int)] 105) :: x.2.2.2.2) (fun m (x : Nat × List Nat × Nat × Value × List OB) J => IM.Le I J ∧ lfG ss m x.1 x.2.1 x.2.2.1 = lfG ss (ss.length + 1) p st d ∧ x.1 ≤ ss.length ∧ ss.length < x.1 + m ∧ RowH 5 1 x.2.2.2.1 x.2.1.length (stV x.2.1) x.2.2.2.2 ∧ x.2.1.length ≤ x.1 ∧ x.2.2.1 ≤ 1000000) (ss.length + 1) (p, st, d, v, F) s (by kernel_rfl) (List.Sublist.refl _) ⟨IM.Le.refl _, rfl, hp, by omega, hrow, hst, hd⟩ ?_
  rintro m3 ⟨p3, st3, d3, v3, F3⟩ I3 w3 evj s ⟨le3, hL3, hp3, hm3, hrow3, hst3, hd3⟩
  dsimp only at s hL3 hp3 hm3 hrow3 hst3 hd3
  replace hle2 := leMono9 le3 hle2
  refine wp_seq ?_
  refine wp_seq ?_
  refine region_rule ?_
  refine ops_rule (C := []) [(b, .cells #[.string ⟨(ss).toArray⟩, .int .i64 ((p3 : Nat) : Int), v3, .int .i64 ((d3 : Nat) : Int)] 105)] F3 1 [] 0 (fun φ4 => [(4, .pointer (some ⟨b, 0, none⟩))]) (fun φ4 => [(b, .cells #[.string ⟨(ss).toArray⟩, .int .i64 ((p3 : Nat) : Int), v3, .int .i64 ((d3 : Nat) : Int)] 105)]) (fun φ4 => []) s trivial (fun φ4 => by kernel_rfl) ?_
  intro φ4 w4 s
  refine callB_rule (b := (b, .cells #[.string ⟨(ss).toArray⟩, .int .i64 ((p3 : Nat) : Int), v3, .int .i64 ((d3 : Nat) : Int)] 105)) (H := [(b, .cells #[.string ⟨(ss).toArray⟩, .int .i64 ((p3 : Nat) : Int), v3, .int .i64 ((d3 : Nat) : Int)] 105)]) (F := F3) (Hr := []) (some 5) 0 s (by kernel_rfl) (by kernel_rfl) (takeP_c (ov := v3) (dv := .int .i64 ((d3 : Nat) : Int)) (b := b) (p := p3) (c := 40) (ss := ss) hs hp3) (by kernel_rfl) ?_
  rintro v5 I5 w5 b5 le5 - h5 s
  replace hle2 := leMono9 le5 hle2
  obtain ⟨rfl, rfl⟩ := h5
  refine ops_done (by kernel_rfl) ?_
  rcases Bool.eq_false_or_eq_true (tkB ss p3 40) with hc6 | hc6
  ·
    rw [hc6]
    refine cond_true_rule (b := true) (by kernel_rfl) rfl ?_
    refine wp_skip ?_
    refine wp_block ?_
    refine wp_seq ?_
    refine region_rule ?_
    refine ops_rule (C := []) [(b, .cells #[.string ⟨(ss).toArray⟩, .int .i64 ((tkP ss p3 40 : Nat) : Int), v3, .int .i64 ((d3 : Nat) : Int)] 105)] F3 6 [.o 0] 1 (fun φ7 => [(11, .slice (some ⟨(φ7 0), 0, none⟩) 1 1), (10, v3), (9, .pointer (some ⟨b, 2, none⟩)), (8, .pointer (some ⟨b, 0, none⟩)), (7, .pointer (some ⟨b, 0, none⟩)), (6, .pointer (some ⟨b, 0, none⟩))]) (fun φ7 => [(b, .cells #[.string ⟨(ss).toArray⟩, .int .i64 ((tkP ss p3 40 : Nat) : Int), v3, .int .i64 ((d3 : Nat) : Int)] 105), ((φ7 0), .cells #[.int .u8 32] 5)]) (fun φ7 => [b]) s trivial (fun φ7 => by kernel_rfl) ?_
    intro φ7 w7 s
    refine append_rule (H := [(b, .cells #[.string ⟨(ss).toArray⟩, .int .i64 ((tkP ss p3 40 : Nat) : Int), v3, .int .i64 ((d3 : Nat) : Int)] 105), ((φ7 0), .cells #[.int .u8 32] 5)]) (F := F3) 22 22 5 Try.t5 (.int .u8 0) 1 1 (some 12) s Try.underlying22 (by kernel_rfl) (by kernel_rfl) (by kernel_rfl) (by kernel_rfl) (by kernel_rfl) (by decide) hrow3 (src_own s 1 (φ7 0) #[.int .u8 32] 5 22 5 1 1 1 [.int .u8 32] (by kernel_rfl) Try.underlying22 (by kernel_rfl) (by kernel_rfl) (by kernel_rfl)) (by simp only [maxLen]; omega) (by omega) (by kernel_rfl) ?_
    intro v8 w8 F8 s h8
    obtain ⟨g8, cap8, rfl⟩ := row_some h8 (Nat.succ_pos _)
    refine ops_rule (C := []) [(b, .cells #[.string ⟨(ss).toArray⟩, .int .i64 ((tkP ss p3 40 : Nat) : Int), v3, .int .i64 ((d3 : Nat) : Int)] 105), ((φ7 0), .cells #[.int .u8 32] 5)] F8 3 [.o 0] 0 (fun φ9 => [(14, .pointer (some ⟨b, 2, none⟩)), (13, .pointer (some ⟨b, 0, none⟩))]) (fun φ9 => [(b, .cells #[.string ⟨(ss).toArray⟩, .int .i64 ((tkP ss p3 40 : Nat) : Int), .slice (some ⟨g8, 0, none⟩) ((List.length st3) + 1) cap8, .int .i64 ((d3 : Nat) : Int)] 105), ((φ7 0), .cells #[.int .u8 32] 5)]) (fun φ9 => [b]) s trivial (fun φ9 => by kernel_rfl) ?_
    intro φ9 w9 s
    refine ops_done (by kernel_rfl) ?_
    refine drawK_rule (C := []) ⟨(fun φ10 xs10 => [.look 0 [] [], .look 0 [] [], .look 0 [] [], .look 0 [] [], .look 0 [.o 0] [b], .look 0 [] [], .look 0 [] [], .look 0 [] [], .look 0 [.o 0] [b], .look 0 [] [], .sub 0 [] [] (.int .i64 (if ((((List.length st3) + 1) : Nat) : Int) > ((d3 : Nat) : Int) then ((((List.length st3) + 1) : Nat) : Int) else ((d3 : Nat) : Int))), .look 0 [] [], .look 0 [] [], .store 0 [.o 0] [b]]), (fun φ10 xs10 => [.pointer (some ⟨b, 0, none⟩), .pointer (some ⟨b, 0, none⟩), .pointer (some ⟨b, 0, none⟩), .pointer (some ⟨b, 3, none⟩), .int .i64 ((d3 : Nat) : Int), .pointer (some ⟨b, 0, none⟩), .pointer (some ⟨b, 0, none⟩), .pointer (some ⟨b, 2, none⟩), .slice (some ⟨g8, 0, none⟩) ((List.length st3) + 1) cap8, .int .i64 ((((List.length st3) + 1) : Nat) : Int), .int .i64 ((max d3 ((List.length st3) + 1) : Nat) : Int), .pointer (some ⟨b, 0, none⟩), .pointer (some ⟨b, 3, none⟩), undef]), (fun φ10 xs10 => [[(b, .cells #[.string ⟨(ss).toArray⟩, .int .i64 ((tkP ss p3 40 : Nat) : Int), .slice (some ⟨g8, 0, none⟩) ((List.length st3) + 1) cap8, .int .i64 ((d3 : Nat) : Int)] 105), ((φ7 0), .cells #[.int .u8 32] 5)], [(b, .cells #[.string ⟨(ss).toArray⟩, .int .i64 ((tkP ss p3 40 : Nat) : Int), .slice (some ⟨g8, 0, none⟩) ((List.length st3) + 1) cap8, .int .i64 ((max d3 ((List.length st3) + 1) : Nat) : Int)] 105), ((φ7 0), .cells #[.int .u8 32] 5)]]), (fun φ10 xs10 => [[default, default, default, default, default, default, default, default, default, default, default, default, default, default], [default, default, default, default, default, default, default, default, default, default, default, default, default, default]]), [13], [1, 1, 1, 1, 1, 1, 1, 1, 1, 1, 5, 1, 1, 4]⟩ (fun j => ([MP.any, MP.any, MP.any, MP.any, MP.any, MP.any, MP.any, MP.any, MP.any, MP.any, MP.any, MP.any, MP.any, MP.any] : List MP).getD j MP.any) F8 [] [10] [] (fun φ10 xs10 => [[none, none, none, none, none, none, none, none, none, none, none, none, none, none]]) (fun φ10 xs10 => [(15, .pointer (some ⟨b, 0, none⟩)), (16, .pointer (some ⟨b, 0, none⟩)), (17, .pointer (some ⟨b, 0, none⟩)), (18, .pointer (some ⟨b, 3, none⟩)), (19, .int .i64 ((d3 : Nat) : Int)), (20, .pointer (some ⟨b, 0, none⟩)), (21, .pointer (some ⟨b, 0, none⟩)), (22, .pointer (some ⟨b, 2, none⟩)), (23, .slice (some ⟨g8, 0, none⟩) ((List.length st3) + 1) cap8), (24, .int .i64 ((((List.length st3) + 1) : Nat) : Int)), (25, .int .i64 ((max d3 ((List.length st3) + 1) : Nat) : Int)), (26, .pointer (some ⟨b, 0, none⟩)), (27, .pointer (some ⟨b, 3, none⟩))]) (fun φ10 xs10 => [(b, .cells #[.string ⟨(ss).toArray⟩, .int .i64 ((tkP ss p3 40 : Nat) : Int), .slice (some ⟨g8, 0, none⟩) ((List.length st3) + 1) cap8, .int .i64 ((max d3 ((List.length st3) + 1) : Nat) : Int)] 105), ((φ7 0), .cells #[.int .u8 32] 5)]) s trivial (by kernel_rfl) (by kernel_rfl) (fun _ _ => by kernel_rfl) (fun _ _ => by kernel_rfl) ⟨fun _ _ => by kernel_rfl, fun _ _ => by kernel_rfl, fun _ _ => by kernel_rfl, fun _ _ => by kernel_rfl⟩ (fun _ _ _ => by kernel_rfl) (fun _ _ => by kernel_rfl) (fun _ _ => by kernel_rfl) (fun _ _ => by kernel_rfl) (fun _ _ => by kernel_rfl) (fun _ _ => by kernel_rfl) ⟨kcast (A := ∀ (φ10 : Nat → Nat) (xs10 : Xs), (.int .i64 (if ((((List.length st3) + 1) : Nat) : Int) > ((d3 : Nat) : Int) then ((((List.length st3) + 1) : Nat) : Int) else ((d3 : Nat) : Int)) : Value) = .int .i64 ((max d3 ((List.length st3) + 1) : Nat) : Int)) (by kernel_rfl) (fun φ10 xs10 => congrArg (Value.int .i64) ((nat_max (a := d3) (b := ((List.length st3) + 1))))), trivial⟩ trivial (by kernel_rfl) trivial ?k10
    case k10 =>
      rintro φ10 xs10 I10 w10 le10 s 
      replace hle2 := leMono9 le10 hle2
      have hv9 := tkP_t hc6
      have hg9 := (lf_go (m := m3) (p := p3) (d := d3) (st := st3) (by omega) hc6).symm.trans hL3
      have ht9 := tkP_le 40 hp3
      exact ⟨⟨m3 - 1, (tkP ss p3 40, 32 :: st3, max d3 ((List.length st3) + 1), .slice (some ⟨g8, 0, none⟩) ((List.length st3) + 1) cap8, F8), _, _, _, by omega, rfl, s, (List.Sublist.cons₂ _ (List.Sublist.cons _ (List.Sublist.refl _))), by kernel_rfl, hle2, hg9, (tkP_le 40 hp3), by simp only; omega, h8, by simp only [List.length_cons]; omega, by simp only; omega⟩⟩
  ·
    rw [hc6]
    refine cond_false_rule (b := false) (by kernel_rfl) rfl ?_
    refine wp_exit ?_
    refine wp_seq ?_
    refine wp_seq ?_
    refine region_rule ?_
    refine ops_rule (C := []) [(b, .cells #[.string ⟨(ss).toArray⟩, .int .i64 ((tkP ss p3 40 : Nat) : Int), v3, .int .i64 ((d3 : Nat) : Int)] 105)] F3 1 [] 0 (fun φ11 => [(28, .pointer (some ⟨b, 0, none⟩))]) (fun φ11 => [(b, .cells #[.string ⟨(ss).toArray⟩, .int .i64 ((tkP ss p3 40 : Nat) : Int), v3, .int .i64 ((d3 : Nat) : Int)] 105)]) (fun φ11 => []) s trivial (fun φ11 => by kernel_rfl) ?_
    intro φ11 w11 s
    refine callB_rule (b := (b, .cells #[.string ⟨(ss).toArray⟩, .int .i64 ((tkP ss p3 40 : Nat) : Int), v3, .int .i64 ((d3 : Nat) : Int)] 105)) (H := [(b, .cells #[.string ⟨(ss).toArray⟩, .int .i64 ((tkP ss p3 40 : Nat) : Int), v3, .int .i64 ((d3 : Nat) : Int)] 105)]) (F := F3) (Hr := []) (some 29) 0 s (by kernel_rfl) (by kernel_rfl) (takeP_c (ov := v3) (dv := .int .i64 ((d3 : Nat) : Int)) (b := b) (p := tkP ss p3 40) (c := 48) (ss := ss) hs (tkP_le 40 hp3)) (by kernel_rfl) ?_
    rintro v12 I12 w12 b12 le12 - h12 s
    replace hle2 := leMono9 le12 hle2
    obtain ⟨rfl, rfl⟩ := h12
    refine ops_done (by kernel_rfl) ?_
    rcases Bool.eq_false_or_eq_true (tkB ss (tkP ss p3 40) 48) with hc13 | hc13
    ·
      rw [hc13]
      refine cond_true_rule (b := true) (by kernel_rfl) rfl ?_
      refine wp_seq ?_
      refine region_rule ?_
      refine ops_rule (C := []) [(b, .cells #[.string ⟨(ss).toArray⟩, .int .i64 ((tkP ss (tkP ss p3 40) 48 : Nat) : Int), v3, .int .i64 ((d3 : Nat) : Int)] 105)] F3 2 [] 0 (fun φ14 => [(3, .bool true), (2, .int .u8 48)]) (fun φ14 => [(b, .cells #[.string ⟨(ss).toArray⟩, .int .i64 ((tkP ss (tkP ss p3 40) 48 : Nat) : Int), v3, .int .i64 ((d3 : Nat) : Int)] 105)]) (fun φ14 => []) s trivial (fun φ14 => by kernel_rfl) ?_
      intro φ14 w14 s
      refine ops_done (by kernel_rfl) ?_
      refine wp_ret ?_
      refine ret_rule (C := []) [(b, .cells #[.string ⟨(ss).toArray⟩, .int .i64 ((tkP ss (tkP ss p3 40) 48 : Nat) : Int), v3, .int .i64 ((d3 : Nat) : Int)] 105)] F3 (.tuple #[.int .u8 48, .bool true]) [] [] s trivial (by kernel_rfl) ?_
      replace s := s.drop (List.Sublist.append (List.Sublist.cons₂ _ List.Sublist.slnil) (List.Sublist.refl F3))
      have hg9 := (lf_zero (m := m3) (p := p3) (d := d3) (st := st3) (by omega) hc6 hc13).symm.trans (hL3.trans hL)
      cases hg9
      exact ⟨_, _, _, rfl, s, ⟨_, _, rfl, rfl, _, rfl, rfl, hrow3⟩⟩
    ·
      rw [hc13]
      refine cond_false_rule (b := false) (by kernel_rfl) rfl ?_
      refine wp_skip ?_
      refine wp_seq ?_
      refine region_rule ?_
      refine ops_rule (C := []) [(b, .cells #[.string ⟨(ss).toArray⟩, .int .i64 ((tkP ss (tkP ss p3 40) 48 : Nat) : Int), v3, .int .i64 ((d3 : Nat) : Int)] 105)] F3 1 [] 0 (fun φ15 => [(30, .pointer (some ⟨b, 0, none⟩))]) (fun φ15 => [(b, .cells #[.string ⟨(ss).toArray⟩, .int .i64 ((tkP ss (tkP ss p3 40) 48 : Nat) : Int), v3, .int .i64 ((d3 : Nat) : Int)] 105)]) (fun φ15 => []) s trivial (fun φ15 => by kernel_rfl) ?_
      intro φ15 w15 s
      refine callB_rule (b := (b, .cells #[.string ⟨(ss).toArray⟩, .int .i64 ((tkP ss (tkP ss p3 40) 48 : Nat) : Int), v3, .int .i64 ((d3 : Nat) : Int)] 105)) (H := [(b, .cells #[.string ⟨(ss).toArray⟩, .int .i64 ((tkP ss (tkP ss p3 40) 48 : Nat) : Int), v3, .int .i64 ((d3 : Nat) : Int)] 105)]) (F := F3) (Hr := []) (some 31) 0 s (by kernel_rfl) (by kernel_rfl) (takeP_c (ov := v3) (dv := .int .i64 ((d3 : Nat) : Int)) (b := b) (p := tkP ss (tkP ss p3 40) 48) (c := 49) (ss := ss) hs (tkP_le 48 (tkP_le 40 hp3))) (by kernel_rfl) ?_
      rintro v16 I16 w16 b16 le16 - h16 s
      replace hle2 := leMono9 le16 hle2
      obtain ⟨rfl, rfl⟩ := h16
      refine ops_rule (C := []) [(b, .cells #[.string ⟨(ss).toArray⟩, .int .i64 ((tkP ss (tkP ss (tkP ss p3 40) 48) 49 : Nat) : Int), v3, .int .i64 ((d3 : Nat) : Int)] 105)] F3 2 [] 0 (fun φ17 => [(3, .bool (tkB ss (tkP ss (tkP ss p3 40) 48) 49)), (2, .int .u8 49)]) (fun φ17 => [(b, .cells #[.string ⟨(ss).toArray⟩, .int .i64 ((tkP ss (tkP ss (tkP ss p3 40) 48) 49 : Nat) : Int), v3, .int .i64 ((d3 : Nat) : Int)] 105)]) (fun φ17 => []) s trivial (fun φ17 => by kernel_rfl) ?_
      intro φ17 w17 s
      refine ops_done (by kernel_rfl) ?_
      refine wp_ret ?_
      refine ret_rule (C := []) [(b, .cells #[.string ⟨(ss).toArray⟩, .int .i64 ((tkP ss (tkP ss (tkP ss p3 40) 48) 49 : Nat) : Int), v3, .int .i64 ((d3 : Nat) : Int)] 105)] F3 (.tuple #[.int .u8 49, .bool (tkB ss (tkP ss (tkP ss p3 40) 48) 49)]) [] [] s trivial (by kernel_rfl) ?_
      replace s := s.drop (List.Sublist.append (List.Sublist.cons₂ _ List.Sublist.slnil) (List.Sublist.refl F3))
      have hg9 := (lf_one (m := m3) (p := p3) (d := d3) (st := st3) (by omega) hc6 hc13).symm.trans (hL3.trans hL)
      cases hg9
      exact ⟨_, _, _, rfl, s, ⟨_, _, rfl, rfl, _, rfl, rfl, hrow3⟩⟩

end Go.Proofs.Ytgdickihjaomjaa
