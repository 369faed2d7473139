/- The program's event texts: the document's example is read. -/
import Derived.Test.YtgdickihjaomjaaDoorEtM16
import Derived.LoopN
set_option linter.all false
set_option maxRecDepth 100000
namespace Go.Proofs.YtgdickihjaomjaaDoor
open Go.RowKit Go.Sep
theorem rounds_step {P : Program} {c : Code} {Q : Exit → Act → World → Prop} {n : Nat} {a : Act} {w : World} (h : c.wp P (Exit.then (Code.rounds P c Q n) Q) a w) : Code.rounds P c Q (n + 1) a w := by
  rw [Go.rounds_succ]; exact h
attribute [local irreducible] Go.wpList Go.Code.wp
theorem run_idxK {P : Program} {w : World} {t : TypeId} {s : List UInt8} {i : Nat} {c : Int} (ht : P.underlying t = some .string) (h : i < s.length) (hc : (((s.getD i 0).toNat : Nat) : Int) = c) :
    (Instr.index t (.string ⟨s.toArray⟩) (.int .i64 ((i : Nat) : Int))).run P w = .ok (.int .u8 c) w := by subst hc; exact run_idxStr ht h
theorem run_dropK {P : Program} {w : World} {t : TypeId} {s s' : List UInt8} {lo : Nat} (ht : P.underlying t = some .string) (h1 : lo ≤ s.length) (hd : s.drop lo = s') :
    (Instr.sliceAt t (.string ⟨s.toArray⟩) (some (.int .i64 ((lo : Nat) : Int))) none none).run P w = .ok (.string ⟨s'.toArray⟩) w := by subst hd; exact run_dropStr ht h1
theorem under144 : Tryd.prog.underlying 144 = some (.slice 152) := by kernel_rfl
theorem run_cutRow {w : World} {g n cap : Nat} :
    (Instr.sliceAt 144 (.slice (some ⟨g, 0, none⟩) n cap) none (some (.int .i64 ((0 : Nat) : Int))) none).run Tryd.prog w = .ok (.slice (some ⟨g, 0, none⟩) 0 cap) w := by
  have hb : (Instr.sliceBound (.int .i64 0) cap .sliceAcap).run Tryd.prog w = .ok 0 w := run_bound (k := 0) (Nat.zero_le cap)
  simp [Instr.sliceAt, run_underlying under144, Instr.slice, Instr.sliceBounds, hb]
  intro _; rfl
theorem number_k {I : IM} {ss : List UInt8} {a b : Nat} {c : Bool} (hs : ss.length ≤ 1000000) (h : numR ss = (a, b, c)) : Fun Tryd.prog 107 #[.string ⟨ss.toArray⟩] I (fun v J => v = .tuple #[.int .u64 ((a : Nat) : Int), .int .i64 ((b : Nat) : Int), .bool c]) := by
  have := number_c (I := I) hs
  rw [h] at this; exact this
theorem row_open {g cap : Nat} {x y : Value} {F : List OB} (h : RowH 152 2 (.slice (some ⟨g, 0, none⟩) 1 cap) 1 [x, y] F) : ∃ rest, F = [(g, .cells ⟨x :: y :: rest⟩ 152)] := by
  rcases h.2 with ⟨h, _⟩ | ⟨g', cap', cur, h, hF, _, _, _, ht⟩
  · cases h
  · cases h
    subst hF
    obtain ⟨l⟩ := cur
    match l, ht with
    | a :: b :: r, ht =>
      simp at ht
      obtain ⟨rfl, rfl⟩ := ht
      exact ⟨r, rfl⟩
def tkB (ss : List UInt8) (p c : Nat) : Bool := decide (p ≠ ss.length ∧ (ss.getD p 0).toNat = c)
theorem tk0 {ss : List UInt8} {p c : Nat} (h : p = ss.length) : tkB ss p c = false := by simp [tkB, h]
theorem tk1 {ss : List UInt8} {p c : Nat} (h : (ss.getD p 0).toNat ≠ c) : tkB ss p c = false := decide_eq_false fun q => h q.2
theorem tk2 {ss : List UInt8} {p c : Nat} (h : ¬ p = ss.length) (h2 : ¬ (ss.getD p 0).toNat ≠ c) : tkB ss p c = true := decide_eq_true ⟨h, Decidable.not_not.mp h2⟩

set_option maxHeartbeats 1000000 in
theorem take_c {I : IM} {b p c : Nat} {ss : List UInt8} {ov dv : Value} (hs : ss.length ≤ 1000000) (hp : p ≤ ss.length) : FunM Tryd.prog 106 #[.pointer (some ⟨b, 0, none⟩), .int .u8 ((c : Nat) : Int)] I [(b, .cells #[.string ⟨(ss).toArray⟩, .int .i64 ((p : Nat) : Int), ov, dv] 146)] (fun v J H' => ∃ b' : OB, H' = [b'] ∧ b'.1 = b ∧ v = .bool (tkB ss p c) ∧ b' = (b, .cells #[.string ⟨(ss).toArray⟩, .int .i64 ((p + (tkB ss p c).toNat : Nat) : Int), ov, dv] 146)) := by
  refine enterM_rule 35 [(0, .pointer (some ⟨b, 0, none⟩)), (1, .int .u8 ((c : Nat) : Int))] Tryd.func106 rfl (by kernel_rfl) ?_
  intro w s
  refine wp_seq ?_
  refine region_rule ?_
  refine ops_rule (C := []) [(b, .cells #[.string ⟨(ss).toArray⟩, .int .i64 ((p : Nat) : Int), ov, dv] 146)] [] 1 [] 0 (fun φ1 => [(4, .bool false)]) (fun φ1 => [(b, .cells #[.string ⟨(ss).toArray⟩, .int .i64 ((p : Nat) : Int), ov, dv] 146)]) (fun φ1 => []) s trivial (fun φ1 => by kernel_rfl) ?_
  intro φ1 w1 s
  refine ops_done (by kernel_rfl) ?_
  refine wp_seq ?_
  refine wp_seq ?_
  rcases Bool.eq_false_or_eq_true (decide (p = ((ss).length))) with hc2 | hc2
  ·
    refine draw_rule (C := []) ⟨(fun φ3 xs3 => [.look 0 [] [], .look 0 [] [], .look 0 [] [], .look 0 [.o 0] [b], .look 0 [] [], .look 0 [] [], .look 0 [] [], .look 0 [.o 0] [b], .look 0 [] [], .sub 0 [] [] (.bool (((p : Nat) : Int) == (((ss).length : Nat) : Int))), .look 0 [] [], .skip, .skip, .skip, .skip, .skip, .skip, .skip, .skip, .skip, .skip, .skip, .look 0 [] []]), (fun φ3 xs3 => [.pointer (some ⟨b, 0, none⟩), .pointer (some ⟨b, 0, none⟩), .pointer (some ⟨b, 1, none⟩), .int .i64 ((p : Nat) : Int), .pointer (some ⟨b, 0, none⟩), .pointer (some ⟨b, 0, none⟩), .pointer (some ⟨b, 0, none⟩), .string ⟨(ss).toArray⟩, .int .i64 (((ss).length : Nat) : Int), .bool true, .bool true, undef, undef, undef, undef, undef, undef, undef, undef, undef, undef, undef, .bool true]), (fun φ3 xs3 => [[(b, .cells #[.string ⟨(ss).toArray⟩, .int .i64 ((p : Nat) : Int), ov, dv] 146)]]), (fun φ3 xs3 => [[default, default, default, default, default, default, default, default, default, default, default, default, default, default, default, default, default, default, default, default, default, default, default]]), [], [1, 1, 1, 1, 1, 1, 1, 1, 1, 5, 1, 0, 0, 0, 0, 0, 0, 0, 0, 0, 0, 0, 1]⟩ (fun j => ([MP.any, MP.any, MP.any, MP.any, MP.any, MP.any, MP.any, MP.any, MP.any, MP.any, MP.any, MP.any, MP.any, MP.any, MP.any, MP.any, MP.any, MP.any, MP.any, MP.any, MP.any, MP.any, MP.any] : List MP).getD j MP.any) [] [9] [] (fun φ3 xs3 => []) (fun φ3 xs3 => [(5, .pointer (some ⟨b, 0, none⟩)), (6, .pointer (some ⟨b, 0, none⟩)), (7, .pointer (some ⟨b, 1, none⟩)), (8, .int .i64 ((p : Nat) : Int)), (9, .pointer (some ⟨b, 0, none⟩)), (10, .pointer (some ⟨b, 0, none⟩)), (11, .pointer (some ⟨b, 0, none⟩)), (12, .string ⟨(ss).toArray⟩), (13, .int .i64 (((ss).length : Nat) : Int)), (14, .bool true), (15, .bool true), (16, undef), (17, undef), (18, undef), (19, undef), (20, undef), (21, undef), (22, undef), (23, undef), (24, undef), (25, undef), (26, undef), (27, .bool true)]) (fun φ3 xs3 => [(b, .cells #[.string ⟨(ss).toArray⟩, .int .i64 ((p : Nat) : Int), ov, dv] 146)]) s trivial (by kernel_rfl) (by kernel_rfl) (fun _ _ => by kernel_rfl) (fun _ _ => by kernel_rfl) ⟨fun _ _ => by kernel_rfl, fun _ _ => by kernel_rfl, fun _ _ => by kernel_rfl, fun _ _ => by kernel_rfl⟩ (fun _ _ _ => by kernel_rfl) (fun _ _ => by kernel_rfl) (fun _ _ => by kernel_rfl) (fun _ _ => by kernel_rfl) (fun _ _ => by kernel_rfl) (fun _ _ => by kernel_rfl) ⟨kcast (A := ∀ (φ3 : Nat → Nat) (xs3 : Xs), (.bool (((p : Nat) : Int) == (((ss).length : Nat) : Int)) : Value) = .bool true) (by kernel_rfl) (fun φ3 xs3 => congrArg Value.bool ((nat_eql (a := p) (b := ((ss).length))).trans (hc2))), trivial⟩ trivial (by kernel_rfl) trivial ?k3
    case k3 =>
      rintro φ3 xs3 I3 w3 le3 s 
      refine cond_true_rule (b := true) (by kernel_rfl) rfl ?_
      refine wp_seq ?_
      refine region_rule ?_
      refine ops_rule (C := []) [(b, .cells #[.string ⟨(ss).toArray⟩, .int .i64 ((p : Nat) : Int), ov, dv] 146)] [] 1 [] 0 (fun φ4 => [(4, .bool false)]) (fun φ4 => [(b, .cells #[.string ⟨(ss).toArray⟩, .int .i64 ((p : Nat) : Int), ov, dv] 146)]) (fun φ4 => []) s trivial (fun φ4 => by kernel_rfl) ?_
      intro φ4 w4 s
      refine ops_done (by kernel_rfl) ?_
      refine wp_ret ?_
      refine ret_rule (C := []) [(b, .cells #[.string ⟨(ss).toArray⟩, .int .i64 ((p : Nat) : Int), ov, dv] 146)] [] (.bool false) [] [] s trivial (by kernel_rfl) ?_
      replace s := s.drop (List.Sublist.append (List.Sublist.cons₂ _ List.Sublist.slnil) (List.Sublist.refl []))
      exact ⟨_, _, _, rfl, s, ⟨_, rfl, rfl, by rw [tk0 (of_decide_eq_true hc2)], by rw [tk0 (of_decide_eq_true hc2)]; rfl⟩⟩
  ·
    refine draw_rule (C := []) ⟨(fun φ5 xs5 => [.look 0 [] [], .look 0 [] [], .look 0 [] [], .look 0 [.o 0] [b], .look 0 [] [], .look 0 [] [], .look 0 [] [], .look 0 [.o 0] [b], .look 0 [] [], .sub 0 [] [] (.bool (((p : Nat) : Int) == (((ss).length : Nat) : Int))), .look 0 [] [], .look 0 [] [], .look 0 [] [], .look 0 [] [], .look 0 [.o 0] [b], .look 0 [] [], .look 0 [] [], .look 0 [] [], .look 0 [.o 0] [b], .ran (Instr.index 9 (.string ⟨(ss).toArray⟩) (.int .i64 ((p : Nat) : Int))), .look 0 [] [], .sub 0 [] [] (.bool ((((ss.getD p 0).toNat : Nat) : Int) != ((c : Nat) : Int))), .look 0 [] []]), (fun φ5 xs5 => [.pointer (some ⟨b, 0, none⟩), .pointer (some ⟨b, 0, none⟩), .pointer (some ⟨b, 1, none⟩), .int .i64 ((p : Nat) : Int), .pointer (some ⟨b, 0, none⟩), .pointer (some ⟨b, 0, none⟩), .pointer (some ⟨b, 0, none⟩), .string ⟨(ss).toArray⟩, .int .i64 (((ss).length : Nat) : Int), .bool false, .bool false, .pointer (some ⟨b, 0, none⟩), .pointer (some ⟨b, 0, none⟩), .pointer (some ⟨b, 0, none⟩), .string ⟨(ss).toArray⟩, .pointer (some ⟨b, 0, none⟩), .pointer (some ⟨b, 0, none⟩), .pointer (some ⟨b, 1, none⟩), .int .i64 ((p : Nat) : Int), .int .u8 (((ss.getD p 0).toNat : Nat) : Int), .int .u8 ((c : Nat) : Int), .bool (decide (((ss.getD p 0).toNat) ≠ c)), .bool (decide (((ss.getD p 0).toNat) ≠ c))]), (fun φ5 xs5 => [[(b, .cells #[.string ⟨(ss).toArray⟩, .int .i64 ((p : Nat) : Int), ov, dv] 146)]]), (fun φ5 xs5 => [[default, default, default, default, default, default, default, default, default, default, default, default, default, default, default, default, default, default, default, default, default, default, default]]), [], [1, 1, 1, 1, 1, 1, 1, 1, 1, 5, 1, 1, 1, 1, 1, 1, 1, 1, 1, 6, 1, 5, 1]⟩ (fun j => ([MP.any, MP.any, MP.any, MP.any, MP.any, MP.any, MP.any, MP.any, MP.any, MP.any, MP.any, MP.any, MP.any, MP.any, MP.any, MP.any, MP.any, MP.any, MP.any, MP.any, MP.any, MP.any, MP.any] : List MP).getD j MP.any) [] [9, 21] [19] (fun φ5 xs5 => []) (fun φ5 xs5 => [(5, .pointer (some ⟨b, 0, none⟩)), (6, .pointer (some ⟨b, 0, none⟩)), (7, .pointer (some ⟨b, 1, none⟩)), (8, .int .i64 ((p : Nat) : Int)), (9, .pointer (some ⟨b, 0, none⟩)), (10, .pointer (some ⟨b, 0, none⟩)), (11, .pointer (some ⟨b, 0, none⟩)), (12, .string ⟨(ss).toArray⟩), (13, .int .i64 (((ss).length : Nat) : Int)), (14, .bool false), (15, .bool false), (16, .pointer (some ⟨b, 0, none⟩)), (17, .pointer (some ⟨b, 0, none⟩)), (18, .pointer (some ⟨b, 0, none⟩)), (19, .string ⟨(ss).toArray⟩), (20, .pointer (some ⟨b, 0, none⟩)), (21, .pointer (some ⟨b, 0, none⟩)), (22, .pointer (some ⟨b, 1, none⟩)), (23, .int .i64 ((p : Nat) : Int)), (24, .int .u8 (((ss.getD p 0).toNat : Nat) : Int)), (25, .int .u8 ((c : Nat) : Int)), (26, .bool (decide (((ss.getD p 0).toNat) ≠ c))), (27, .bool (decide (((ss.getD p 0).toNat) ≠ c)))]) (fun φ5 xs5 => [(b, .cells #[.string ⟨(ss).toArray⟩, .int .i64 ((p : Nat) : Int), ov, dv] 146)]) s trivial (by kernel_rfl) (by kernel_rfl) (fun _ _ => by kernel_rfl) (fun _ _ => by kernel_rfl) ⟨fun _ _ => by kernel_rfl, fun _ _ => by kernel_rfl, fun _ _ => by kernel_rfl, fun _ _ => by kernel_rfl⟩ (fun _ _ _ => by kernel_rfl) (fun _ _ => by kernel_rfl) (fun _ _ => by kernel_rfl) (fun _ _ => by kernel_rfl) (fun _ _ => by kernel_rfl) (fun _ _ => by kernel_rfl) ⟨kcast (A := ∀ (φ5 : Nat → Nat) (xs5 : Xs), (.bool (((p : Nat) : Int) == (((ss).length : Nat) : Int)) : Value) = .bool false) (by kernel_rfl) (fun φ5 xs5 => congrArg Value.bool ((nat_eql (a := p) (b := ((ss).length))).trans (hc2))), ⟨kcast (A := ∀ (φ5 : Nat → Nat) (xs5 : Xs), (.bool ((((ss.getD p 0).toNat : Nat) : Int) != ((c : Nat) : Int)) : Value) = .bool (decide (((ss.getD p 0).toNat) ≠ c))) (by kernel_rfl) (fun φ5 xs5 => congrArg Value.bool ((nat_neq (a := ((ss.getD p 0).toNat)) (b := c)))), trivial⟩⟩ ⟨kcast (A := ∀ (φ5 : Nat → Nat) (xs5 : Xs) (J : IM) (w : World), I.Le J → J.Sub w → ((Instr.index 9 (.string ⟨(ss).toArray⟩) (.int .i64 ((p : Nat) : Int))) : Sem Value).run Tryd.prog w = .ok (.int .u8 (((ss.getD p 0).toNat : Nat) : Int)) w) (by kernel_rfl) (fun φ5 xs5 J w hJ hS => run_idxStr (s := ss) under9 (by have hq0 := of_decide_eq_false hc2; omega)), trivial⟩ (by kernel_rfl) trivial ?k5
    case k5 =>
      rintro φ5 xs5 I5 w5 le5 s 
      rcases Bool.eq_false_or_eq_true (decide (((ss.getD p 0).toNat) ≠ c)) with hc6 | hc6
      ·
        rw [hc6]
        refine cond_true_rule (b := true) (by kernel_rfl) rfl ?_
        refine wp_seq ?_
        refine region_rule ?_
        refine ops_rule (C := []) [(b, .cells #[.string ⟨(ss).toArray⟩, .int .i64 ((p : Nat) : Int), ov, dv] 146)] [] 1 [] 0 (fun φ7 => [(4, .bool false)]) (fun φ7 => [(b, .cells #[.string ⟨(ss).toArray⟩, .int .i64 ((p : Nat) : Int), ov, dv] 146)]) (fun φ7 => []) s trivial (fun φ7 => by kernel_rfl) ?_
        intro φ7 w7 s
        refine ops_done (by kernel_rfl) ?_
        refine wp_ret ?_
        refine ret_rule (C := []) [(b, .cells #[.string ⟨(ss).toArray⟩, .int .i64 ((p : Nat) : Int), ov, dv] 146)] [] (.bool false) [] [] s trivial (by kernel_rfl) ?_
        replace s := s.drop (List.Sublist.append (List.Sublist.cons₂ _ List.Sublist.slnil) (List.Sublist.refl []))
        exact ⟨_, _, _, rfl, s, ⟨_, rfl, rfl, by rw [tk1 (of_decide_eq_true hc6)], by rw [tk1 (of_decide_eq_true hc6)]; rfl⟩⟩
      ·
        rw [hc6]
        refine cond_false_rule (b := false) (by kernel_rfl) rfl ?_
        refine wp_skip ?_
        refine wp_seq ?_
        refine region_rule ?_
        refine ops_rule (C := []) [(b, .cells #[.string ⟨(ss).toArray⟩, .int .i64 ((p : Nat) : Int), ov, dv] 146)] [] 8 [.o 0, .o 0] 0 (fun φ8 => [(34, .pointer (some ⟨b, 1, none⟩)), (33, .pointer (some ⟨b, 0, none⟩)), (32, .int .i64 (IntKind.wrap .i64 (((p : Nat) : Int) + ((1 : Nat) : Int)))), (31, .int .i64 ((p : Nat) : Int)), (30, .pointer (some ⟨b, 1, none⟩)), (29, .pointer (some ⟨b, 0, none⟩)), (28, .pointer (some ⟨b, 0, none⟩))]) (fun φ8 => [(b, .cells #[.string ⟨(ss).toArray⟩, .int .i64 (IntKind.wrap .i64 (((p : Nat) : Int) + ((1 : Nat) : Int))), ov, dv] 146)]) (fun φ8 => [b, b]) s trivial (fun φ8 => by kernel_rfl) ?_
        intro φ8 w8 s
        rw [nat_addI (a := p) (b := 1) (by  have hq0 := of_decide_eq_false hc2; have hq1 := of_decide_eq_false hc6; omega)] at s ⊢
        refine ops_done (by kernel_rfl) ?_
        refine wp_seq ?_
        refine region_rule ?_
        refine ops_rule (C := []) [(b, .cells #[.string ⟨(ss).toArray⟩, .int .i64 ((p + 1 : Nat) : Int), ov, dv] 146)] [] 1 [] 0 (fun φ9 => [(4, .bool true)]) (fun φ9 => [(b, .cells #[.string ⟨(ss).toArray⟩, .int .i64 ((p + 1 : Nat) : Int), ov, dv] 146)]) (fun φ9 => []) s trivial (fun φ9 => by kernel_rfl) ?_
        intro φ9 w9 s
        refine ops_done (by kernel_rfl) ?_
        refine wp_ret ?_
        refine ret_rule (C := []) [(b, .cells #[.string ⟨(ss).toArray⟩, .int .i64 ((p + 1 : Nat) : Int), ov, dv] 146)] [] (.bool true) [] [] s trivial (by kernel_rfl) ?_
        replace s := s.drop (List.Sublist.append (List.Sublist.cons₂ _ List.Sublist.slnil) (List.Sublist.refl []))
        exact ⟨_, _, _, rfl, s, ⟨_, rfl, rfl, by rw [tk2 (of_decide_eq_false hc2) (of_decide_eq_false hc6)], by rw [tk2 (of_decide_eq_false hc2) (of_decide_eq_false hc6)]; rfl⟩⟩

theorem take_k {I : IM} {b p c : Nat} {ss : List UInt8} {ov dv : Value} {r : Bool} (hs : ss.length ≤ 1000000) (hp : p ≤ ss.length) (h : tkB ss p c = r) : FunM Tryd.prog 106 #[.pointer (some ⟨b, 0, none⟩), .int .u8 ((c : Nat) : Int)] I [(b, .cells #[.string ⟨(ss).toArray⟩, .int .i64 ((p : Nat) : Int), ov, dv] 146)]
    (fun v J H' => ∃ b' : OB, H' = [b'] ∧ b'.1 = b ∧ v = .bool r ∧ b' = (b, .cells #[.string ⟨(ss).toArray⟩, .int .i64 ((p + r.toNat : Nat) : Int), ov, dv] 146)) := by
  subst h; exact take_c hs hp

set_option maxHeartbeats 1000000 in
theorem num119_c {I : IM} {b p n k : Nat} {ok : Bool} {ss : List UInt8} {ov dv : Value} (hs : ss.length ≤ 1000000) (hp : p ≤ ss.length) (hn : numR (ss.drop p) = (n, k, ok)) (hk : p + k ≤ 2000000) : FunM Tryd.prog 119 #[.pointer (some ⟨b, 0, none⟩)] I [(b, .cells #[.string ⟨(ss).toArray⟩, .int .i64 ((p : Nat) : Int), ov, dv] 146)] (fun v J H' => ∃ b' : OB, H' = [b'] ∧ b'.1 = b ∧ v = .tuple #[.int .u64 ((n : Nat) : Int), .bool ok] ∧ b' = (b, .cells #[.string ⟨(ss).toArray⟩, .int .i64 ((p + k : Nat) : Int), ov, dv] 146)) := by
  refine enterM_rule 31 [(0, .pointer (some ⟨b, 0, none⟩))] Tryd.func119 rfl (by kernel_rfl) ?_
  intro w s
  refine wp_seq ?_
  refine region_rule ?_
  refine ops_rule (C := []) [(b, .cells #[.string ⟨(ss).toArray⟩, .int .i64 ((p : Nat) : Int), ov, dv] 146)] [] 2 [] 0 (fun φ1 => [(3, .bool false), (2, .int .u64 0)]) (fun φ1 => [(b, .cells #[.string ⟨(ss).toArray⟩, .int .i64 ((p : Nat) : Int), ov, dv] 146)]) (fun φ1 => []) s trivial (fun φ1 => by kernel_rfl) ?_
  intro φ1 w1 s
  refine ops_done (by kernel_rfl) ?_
  refine wp_seq ?_
  refine draw_rule (C := []) ⟨(fun φ2 xs2 => [.look 0 [] [], .look 0 [] [], .look 0 [] [], .look 0 [.o 0] [b], .look 0 [] [], .look 0 [] [], .look 0 [] [], .look 0 [.o 0] [b], .ran (Instr.sliceAt 9 (.string ⟨(ss).toArray⟩) (some (.int .i64 ((p : Nat) : Int))) none none), .call 107 #[.string ⟨(ss.drop p).toArray⟩], .look 0 [] [], .look 0 [] [], .look 0 [] [], .look 0 [] [], .look 0 [] [], .look 0 [] [], .look 0 [] []]), (fun φ2 xs2 => [.pointer (some ⟨b, 0, none⟩), .pointer (some ⟨b, 0, none⟩), .pointer (some ⟨b, 0, none⟩), .string ⟨(ss).toArray⟩, .pointer (some ⟨b, 0, none⟩), .pointer (some ⟨b, 0, none⟩), .pointer (some ⟨b, 1, none⟩), .int .i64 ((p : Nat) : Int), .string ⟨(ss.drop p).toArray⟩, .tuple #[.int .u64 ((n : Nat) : Int), .int .i64 ((k : Nat) : Int), .bool ok], .tuple #[.int .u64 ((n : Nat) : Int), .int .i64 ((k : Nat) : Int), .bool ok], .int .u64 ((n : Nat) : Int), .int .i64 ((k : Nat) : Int), .bool ok, .int .u64 ((n : Nat) : Int), .int .i64 ((k : Nat) : Int), .bool ok]), (fun φ2 xs2 => [[(b, .cells #[.string ⟨(ss).toArray⟩, .int .i64 ((p : Nat) : Int), ov, dv] 146)]]), (fun φ2 xs2 => [[default, default, default, default, default, default, default, default, default, default, default, default, default, default, default, default, default]]), [], [1, 1, 1, 1, 1, 1, 1, 1, 6, 3, 1, 1, 1, 1, 1, 1, 1]⟩ (fun j => ([MP.any, MP.any, MP.any, MP.any, MP.any, MP.any, MP.any, MP.any, MP.any, MP.any, MP.any, MP.any, MP.any, MP.any, MP.any, MP.any, MP.any] : List MP).getD j MP.any) [9] [] [8] (fun φ2 xs2 => []) (fun φ2 xs2 => [(8, .pointer (some ⟨b, 0, none⟩)), (9, .pointer (some ⟨b, 0, none⟩)), (10, .pointer (some ⟨b, 0, none⟩)), (11, .string ⟨(ss).toArray⟩), (12, .pointer (some ⟨b, 0, none⟩)), (13, .pointer (some ⟨b, 0, none⟩)), (14, .pointer (some ⟨b, 1, none⟩)), (15, .int .i64 ((p : Nat) : Int)), (16, .string ⟨(ss.drop p).toArray⟩), (17, .tuple #[.int .u64 ((n : Nat) : Int), .int .i64 ((k : Nat) : Int), .bool ok]), (7, .tuple #[.int .u64 ((n : Nat) : Int), .int .i64 ((k : Nat) : Int), .bool ok]), (18, .int .u64 ((n : Nat) : Int)), (19, .int .i64 ((k : Nat) : Int)), (20, .bool ok), (4, .int .u64 ((n : Nat) : Int)), (5, .int .i64 ((k : Nat) : Int)), (6, .bool ok)]) (fun φ2 xs2 => [(b, .cells #[.string ⟨(ss).toArray⟩, .int .i64 ((p : Nat) : Int), ov, dv] 146)]) s trivial (by kernel_rfl) (by kernel_rfl) (fun _ _ => by kernel_rfl) (fun _ _ => by kernel_rfl) ⟨fun _ _ => by kernel_rfl, fun _ _ => by kernel_rfl, fun _ _ => by kernel_rfl, fun _ _ => by kernel_rfl⟩ (fun _ _ _ => by kernel_rfl) (fun _ _ => by kernel_rfl) (fun _ _ => by kernel_rfl) (fun _ _ => by kernel_rfl) (fun _ _ => by kernel_rfl) (fun _ _ => by kernel_rfl) trivial ⟨kcast (A := ∀ (φ2 : Nat → Nat) (xs2 : Xs) (J : IM) (w : World), I.Le J → J.Sub w → ((Instr.sliceAt 9 (.string ⟨(ss).toArray⟩) (some (.int .i64 ((p : Nat) : Int))) none none) : Sem Value).run Tryd.prog w = .ok (.string ⟨(ss.drop p).toArray⟩) w) (by kernel_rfl) (fun φ2 xs2 J w hJ hS => run_dropStr (s := ss) (lo := p) under9 (by  omega)), trivial⟩ (by kernel_rfl) ⟨?c2_9, trivial⟩ ?k2
  case c2_9 =>
    refine kcast (A := ∀ (φ2 : Nat → Nat) (xs2 : Xs) (J9_2 : IM), I.Le J9_2 → Fun Tryd.prog 107 #[.string ⟨(ss.drop p).toArray⟩] J9_2 (fun v J' => ∃ x : UX, v = .tuple #[.int .u64 ((n : Nat) : Int), .int .i64 ((k : Nat) : Int), .bool ok] ∧ (True))) (by kernel_rfl) ?_
    intro φ2 xs2 J9_2 leJ
    exact Fun.mono (number_k (ss := ss.drop p) (by simp only [List.length_drop]; omega) hn) (fun v J' _ h => ⟨UX.d, h, trivial⟩)
  case k2 =>
    rintro φ2 xs2 I2 w2 le2 s _
    refine wp_seq ?_
    refine region_rule ?_
    refine ops_rule (C := []) [(b, .cells #[.string ⟨(ss).toArray⟩, .int .i64 ((p : Nat) : Int), ov, dv] 146)] [] 9 [.o 0, .o 0] 0 (fun φ3 => [(28, .pointer (some ⟨b, 1, none⟩)), (27, .pointer (some ⟨b, 0, none⟩)), (26, .int .i64 (IntKind.wrap .i64 (((p : Nat) : Int) + ((k : Nat) : Int)))), (25, .int .i64 ((k : Nat) : Int)), (24, .int .i64 ((p : Nat) : Int)), (23, .pointer (some ⟨b, 1, none⟩)), (22, .pointer (some ⟨b, 0, none⟩)), (21, .pointer (some ⟨b, 0, none⟩))]) (fun φ3 => [(b, .cells #[.string ⟨(ss).toArray⟩, .int .i64 (IntKind.wrap .i64 (((p : Nat) : Int) + ((k : Nat) : Int))), ov, dv] 146)]) (fun φ3 => [b, b]) s trivial (fun φ3 => by kernel_rfl) ?_
    intro φ3 w3 s
    rw [nat_addI (a := p) (b := k) (by omega)] at s ⊢
    refine ops_done (by kernel_rfl) ?_
    refine wp_seq ?_
    refine region_rule ?_
    refine ops_rule (C := []) [(b, .cells #[.string ⟨(ss).toArray⟩, .int .i64 ((p + k : Nat) : Int), ov, dv] 146)] [] 4 [] 0 (fun φ4 => [(3, .bool ok), (2, .int .u64 ((n : Nat) : Int)), (30, .bool ok), (29, .int .u64 ((n : Nat) : Int))]) (fun φ4 => [(b, .cells #[.string ⟨(ss).toArray⟩, .int .i64 ((p + k : Nat) : Int), ov, dv] 146)]) (fun φ4 => []) s trivial (fun φ4 => by kernel_rfl) ?_
    intro φ4 w4 s
    refine ops_done (by kernel_rfl) ?_
    refine wp_ret ?_
    refine ret_rule (C := []) [(b, .cells #[.string ⟨(ss).toArray⟩, .int .i64 ((p + k : Nat) : Int), ov, dv] 146)] [] (.tuple #[.int .u64 ((n : Nat) : Int), .bool ok]) [] [] s trivial (by kernel_rfl) ?_
    replace s := s.drop (List.Sublist.append (List.Sublist.cons₂ _ List.Sublist.slnil) (List.Sublist.refl []))
    exact ⟨_, _, _, rfl, s, ⟨_, rfl, rfl, rfl, rfl⟩⟩

set_option maxHeartbeats 400000 in
theorem nodeShape0_c {I : IM} : Fun Tryd.prog 120 #[.int .u64 0] I (fun v J => v = .int .u8 2) := by
  refine enter_rule 5 [(0, .int .u64 0)] Tryd.func120 rfl (by kernel_rfl) ?_
  intro w s
  refine wp_seq ?_
  refine region_rule ?_
  refine ops_rule (C := []) [] [] 1 [] 0 (fun φ1 => [(2, .int .u8 0)]) (fun φ1 => []) (fun φ1 => []) s trivial (fun φ1 => by kernel_rfl) ?_
  intro φ1 w1 s
  refine ops_done (by kernel_rfl) ?_
  refine wp_seq ?_
  refine wp_seq ?_
  refine region_rule ?_
  refine ops_rule (C := []) [] [] 2 [] 0 (fun φ2 => [(4, .bool true), (3, .int .u64 0)]) (fun φ2 => []) (fun φ2 => []) s trivial (fun φ2 => by kernel_rfl) ?_
  intro φ2 w2 s
  refine ops_done (by kernel_rfl) ?_
  refine cond_true_rule (b := true) (by kernel_rfl) rfl ?_
  refine wp_seq ?_
  refine region_rule ?_
  refine ops_rule (C := []) [] [] 1 [] 0 (fun φ3 => [(2, .int .u8 2)]) (fun φ3 => []) (fun φ3 => []) s trivial (fun φ3 => by kernel_rfl) ?_
  intro φ3 w3 s
  refine ops_done (by kernel_rfl) ?_
  refine wp_ret ?_
  refine ret_rule (C := []) [] [] (.int .u8 2) [] [] s trivial (by kernel_rfl) ?_
  exact ⟨_, _, _, rfl, s, rfl⟩

set_option maxHeartbeats 400000 in
theorem nodeShape1_c {I : IM} : Fun Tryd.prog 120 #[.int .u64 1] I (fun v J => v = .int .u8 3) := by
  refine enter_rule 5 [(0, .int .u64 1)] Tryd.func120 rfl (by kernel_rfl) ?_
  intro w s
  refine wp_seq ?_
  refine region_rule ?_
  refine ops_rule (C := []) [] [] 1 [] 0 (fun φ1 => [(2, .int .u8 0)]) (fun φ1 => []) (fun φ1 => []) s trivial (fun φ1 => by kernel_rfl) ?_
  intro φ1 w1 s
  refine ops_done (by kernel_rfl) ?_
  refine wp_seq ?_
  refine wp_seq ?_
  refine region_rule ?_
  refine ops_rule (C := []) [] [] 2 [] 0 (fun φ2 => [(4, .bool false), (3, .int .u64 1)]) (fun φ2 => []) (fun φ2 => []) s trivial (fun φ2 => by kernel_rfl) ?_
  intro φ2 w2 s
  refine ops_done (by kernel_rfl) ?_
  refine cond_false_rule (b := false) (by kernel_rfl) rfl ?_
  refine wp_skip ?_
  refine wp_seq ?_
  refine region_rule ?_
  refine ops_rule (C := []) [] [] 1 [] 0 (fun φ3 => [(2, .int .u8 3)]) (fun φ3 => []) (fun φ3 => []) s trivial (fun φ3 => by kernel_rfl) ?_
  intro φ3 w3 s
  refine ops_done (by kernel_rfl) ?_
  refine wp_ret ?_
  refine ret_rule (C := []) [] [] (.int .u8 3) [] [] s trivial (by kernel_rfl) ?_
  exact ⟨_, _, _, rfl, s, rfl⟩

set_option maxHeartbeats 400000 in
theorem leafShape0_c {I : IM} : Fun Tryd.prog 121 #[.int .u64 0] I (fun v J => v = .int .u8 1) := by
  refine enter_rule 5 [(0, .int .u64 0)] Tryd.func121 rfl (by kernel_rfl) ?_
  intro w s
  refine wp_seq ?_
  refine region_rule ?_
  refine ops_rule (C := []) [] [] 1 [] 0 (fun φ1 => [(2, .int .u8 0)]) (fun φ1 => []) (fun φ1 => []) s trivial (fun φ1 => by kernel_rfl) ?_
  intro φ1 w1 s
  refine ops_done (by kernel_rfl) ?_
  refine wp_seq ?_
  refine wp_seq ?_
  refine region_rule ?_
  refine ops_rule (C := []) [] [] 2 [] 0 (fun φ2 => [(4, .bool true), (3, .int .u64 0)]) (fun φ2 => []) (fun φ2 => []) s trivial (fun φ2 => by kernel_rfl) ?_
  intro φ2 w2 s
  refine ops_done (by kernel_rfl) ?_
  refine cond_true_rule (b := true) (by kernel_rfl) rfl ?_
  refine wp_seq ?_
  refine region_rule ?_
  refine ops_rule (C := []) [] [] 1 [] 0 (fun φ3 => [(2, .int .u8 1)]) (fun φ3 => []) (fun φ3 => []) s trivial (fun φ3 => by kernel_rfl) ?_
  intro φ3 w3 s
  refine ops_done (by kernel_rfl) ?_
  refine wp_ret ?_
  refine ret_rule (C := []) [] [] (.int .u8 1) [] [] s trivial (by kernel_rfl) ?_
  exact ⟨_, _, _, rfl, s, rfl⟩

set_option maxHeartbeats 400000 in
theorem leafShape2_c {I : IM} : Fun Tryd.prog 121 #[.int .u64 2] I (fun v J => v = .int .u8 3) := by
  refine enter_rule 5 [(0, .int .u64 2)] Tryd.func121 rfl (by kernel_rfl) ?_
  intro w s
  refine wp_seq ?_
  refine region_rule ?_
  refine ops_rule (C := []) [] [] 1 [] 0 (fun φ1 => [(2, .int .u8 0)]) (fun φ1 => []) (fun φ1 => []) s trivial (fun φ1 => by kernel_rfl) ?_
  intro φ1 w1 s
  refine ops_done (by kernel_rfl) ?_
  refine wp_seq ?_
  refine wp_seq ?_
  refine region_rule ?_
  refine ops_rule (C := []) [] [] 2 [] 0 (fun φ2 => [(4, .bool false), (3, .int .u64 2)]) (fun φ2 => []) (fun φ2 => []) s trivial (fun φ2 => by kernel_rfl) ?_
  intro φ2 w2 s
  refine ops_done (by kernel_rfl) ?_
  refine cond_false_rule (b := false) (by kernel_rfl) rfl ?_
  refine wp_skip ?_
  refine wp_seq ?_
  refine region_rule ?_
  refine ops_rule (C := []) [] [] 1 [] 0 (fun φ3 => [(2, .int .u8 3)]) (fun φ3 => []) (fun φ3 => []) s trivial (fun φ3 => by kernel_rfl) ?_
  intro φ3 w3 s
  refine ops_done (by kernel_rfl) ?_
  refine wp_ret ?_
  refine ret_rule (C := []) [] [] (.int .u8 3) [] [] s trivial (by kernel_rfl) ?_
  exact ⟨_, _, _, rfl, s, rfl⟩

set_option maxHeartbeats 400000 in
theorem leafShape4_c {I : IM} : Fun Tryd.prog 121 #[.int .u64 4] I (fun v J => v = .int .u8 3) := by
  refine enter_rule 5 [(0, .int .u64 4)] Tryd.func121 rfl (by kernel_rfl) ?_
  intro w s
  refine wp_seq ?_
  refine region_rule ?_
  refine ops_rule (C := []) [] [] 1 [] 0 (fun φ1 => [(2, .int .u8 0)]) (fun φ1 => []) (fun φ1 => []) s trivial (fun φ1 => by kernel_rfl) ?_
  intro φ1 w1 s
  refine ops_done (by kernel_rfl) ?_
  refine wp_seq ?_
  refine wp_seq ?_
  refine region_rule ?_
  refine ops_rule (C := []) [] [] 2 [] 0 (fun φ2 => [(4, .bool false), (3, .int .u64 4)]) (fun φ2 => []) (fun φ2 => []) s trivial (fun φ2 => by kernel_rfl) ?_
  intro φ2 w2 s
  refine ops_done (by kernel_rfl) ?_
  refine cond_false_rule (b := false) (by kernel_rfl) rfl ?_
  refine wp_skip ?_
  refine wp_seq ?_
  refine region_rule ?_
  refine ops_rule (C := []) [] [] 1 [] 0 (fun φ3 => [(2, .int .u8 3)]) (fun φ3 => []) (fun φ3 => []) s trivial (fun φ3 => by kernel_rfl) ?_
  intro φ3 w3 s
  refine ops_done (by kernel_rfl) ?_
  refine wp_ret ?_
  refine ret_rule (C := []) [] [] (.int .u8 3) [] [] s trivial (by kernel_rfl) ?_
  exact ⟨_, _, _, rfl, s, rfl⟩

set_option maxHeartbeats 400000 in
theorem mayPair3_1_c {I : IM} : Fun Tryd.prog 122 #[.int .u8 3, .int .u8 1] I (fun v J => v = .bool true) := by
  refine enter_rule 12 [(0, .int .u8 3), (1, .int .u8 1)] Tryd.func122 rfl (by kernel_rfl) ?_
  intro w s
  refine wp_seq ?_
  refine region_rule ?_
  refine ops_rule (C := []) [] [] 1 [] 0 (fun φ1 => [(4, .bool false)]) (fun φ1 => []) (fun φ1 => []) s trivial (fun φ1 => by kernel_rfl) ?_
  intro φ1 w1 s
  refine ops_done (by kernel_rfl) ?_
  refine wp_seq ?_
  refine region_rule ?_
  refine ops_rule (C := []) [] [] 8 [] 0 (fun φ2 => [(4, .bool true), (11, .bool true), (10, undef), (9, undef), (8, .bool true), (7, .bool true), (6, .int .u8 1), (5, .int .u8 3)]) (fun φ2 => []) (fun φ2 => []) s trivial (fun φ2 => by kernel_rfl) ?_
  intro φ2 w2 s
  refine ops_done (by kernel_rfl) ?_
  refine wp_ret ?_
  refine ret_rule (C := []) [] [] (.bool true) [] [] s trivial (by kernel_rfl) ?_
  exact ⟨_, _, _, rfl, s, rfl⟩

set_option maxHeartbeats 400000 in
theorem mayPair1_3_c {I : IM} : Fun Tryd.prog 122 #[.int .u8 1, .int .u8 3] I (fun v J => v = .bool true) := by
  refine enter_rule 12 [(0, .int .u8 1), (1, .int .u8 3)] Tryd.func122 rfl (by kernel_rfl) ?_
  intro w s
  refine wp_seq ?_
  refine region_rule ?_
  refine ops_rule (C := []) [] [] 1 [] 0 (fun φ1 => [(4, .bool false)]) (fun φ1 => []) (fun φ1 => []) s trivial (fun φ1 => by kernel_rfl) ?_
  intro φ1 w1 s
  refine ops_done (by kernel_rfl) ?_
  refine wp_seq ?_
  refine region_rule ?_
  refine ops_rule (C := []) [] [] 8 [] 0 (fun φ2 => [(4, .bool true), (11, .bool true), (10, undef), (9, undef), (8, .bool true), (7, .bool true), (6, .int .u8 3), (5, .int .u8 1)]) (fun φ2 => []) (fun φ2 => []) s trivial (fun φ2 => by kernel_rfl) ?_
  intro φ2 w2 s
  refine ops_done (by kernel_rfl) ?_
  refine wp_ret ?_
  refine ret_rule (C := []) [] [] (.bool true) [] [] s trivial (by kernel_rfl) ?_
  exact ⟨_, _, _, rfl, s, rfl⟩

set_option maxHeartbeats 2000000 in
theorem leafA0_c {I : IM} {b : Nat} : FunM Tryd.prog 104 #[.pointer (some ⟨b, 0, none⟩)] I [(b, .cells #[.string ⟨#[40, 49, 44, 50, 44, 48, 41]⟩, .int .i64 0, .slice none 0 0, .int .i64 0] 146)] (fun v J H' => ∃ (b' : OB) (F' : List OB), H' = b' :: F' ∧ b'.1 = b ∧ ∃ (g cap : Nat) (rest : List Value), v = .tuple #[.int .u8 3, .bool true] ∧ b' = (b, .cells #[.string ⟨#[40, 49, 44, 50, 44, 48, 41]⟩, .int .i64 4, .slice (some ⟨g, 0, none⟩) 1 cap, .int .i64 1] 146) ∧ F' = [(g, .cells ⟨.int .u8 3 :: .int .u8 0 :: rest⟩ 152)]) := by
  refine enterM_rule 55 [(0, .pointer (some ⟨b, 0, none⟩))] Tryd.func104 rfl (by kernel_rfl) ?_
  intro w s
  refine wp_seq ?_
  refine region_rule ?_
  refine ops_rule (C := []) [(b, .cells #[.string ⟨#[40, 49, 44, 50, 44, 48, 41]⟩, .int .i64 0, .slice none 0 0, .int .i64 0] 146)] [] 2 [] 0 (fun φ1 => [(3, .bool false), (2, .int .u8 0)]) (fun φ1 => [(b, .cells #[.string ⟨#[40, 49, 44, 50, 44, 48, 41]⟩, .int .i64 0, .slice none 0 0, .int .i64 0] 146)]) (fun φ1 => []) s trivial (fun φ1 => by kernel_rfl) ?_
  intro φ1 w1 s
  refine ops_done (by kernel_rfl) ?_
  refine wp_seq ?_
  refine wp_block ?_
  refine Go.wp_loop_rounds 3 ?_
  refine rounds_step (n := 2) ?_
  refine wp_seq ?_
  refine wp_seq ?_
  refine region_rule ?_
  refine ops_rule (C := []) [(b, .cells #[.string ⟨#[40, 49, 44, 50, 44, 48, 41]⟩, .int .i64 0, .slice none 0 0, .int .i64 0] 146)] [] 1 [] 0 (fun φ2 => [(8, .pointer (some ⟨b, 0, none⟩))]) (fun φ2 => [(b, .cells #[.string ⟨#[40, 49, 44, 50, 44, 48, 41]⟩, .int .i64 0, .slice none 0 0, .int .i64 0] 146)]) (fun φ2 => []) s trivial (fun φ2 => by kernel_rfl) ?_
  intro φ2 w2 s
  refine callB_rule (b := (b, .cells #[.string ⟨#[40, 49, 44, 50, 44, 48, 41]⟩, .int .i64 0, .slice none 0 0, .int .i64 0] 146)) (H := [(b, .cells #[.string ⟨#[40, 49, 44, 50, 44, 48, 41]⟩, .int .i64 0, .slice none 0 0, .int .i64 0] 146)]) (F := []) (Hr := []) (some 9) 0 s (by kernel_rfl) (by kernel_rfl) (take_k (ov := .slice none 0 0) (dv := .int .i64 0) (b := b) (p := 0) (c := 40) (ss := [40, 49, 44, 50, 44, 48, 41]) (r := true) (by decide) (by decide) (by kernel_rfl)) (by kernel_rfl) ?_
  rintro v3 I3 w3 b3 le3 - h3 s
  obtain ⟨rfl, rfl⟩ := h3
  refine ops_done (by kernel_rfl) ?_
  refine cond_true_rule (b := true) (by kernel_rfl) rfl ?_
  refine wp_skip ?_
  refine wp_block ?_
  refine wp_seq ?_
  refine region_rule ?_
  refine ops_rule (C := []) [(b, .cells #[.string ⟨#[40, 49, 44, 50, 44, 48, 41]⟩, .int .i64 1, .slice none 0 0, .int .i64 0] 146)] [] 1 [] 0 (fun φ4 => [(11, .pointer (some ⟨b, 0, none⟩))]) (fun φ4 => [(b, .cells #[.string ⟨#[40, 49, 44, 50, 44, 48, 41]⟩, .int .i64 1, .slice none 0 0, .int .i64 0] 146)]) (fun φ4 => []) s trivial (fun φ4 => by kernel_rfl) ?_
  intro φ4 w4 s
  refine callB_rule (b := (b, .cells #[.string ⟨#[40, 49, 44, 50, 44, 48, 41]⟩, .int .i64 1, .slice none 0 0, .int .i64 0] 146)) (H := [(b, .cells #[.string ⟨#[40, 49, 44, 50, 44, 48, 41]⟩, .int .i64 1, .slice none 0 0, .int .i64 0] 146)]) (F := []) (Hr := []) (some 12) 0 s (by kernel_rfl) (by kernel_rfl) (num119_c (ov := .slice none 0 0) (dv := .int .i64 0) (b := b) (p := 1) (n := 1) (k := 1) (ok := true) (ss := [40, 49, 44, 50, 44, 48, 41]) (by decide) (by decide) (by kernel_rfl) (by decide)) (by kernel_rfl) ?_
  rintro v5 I5 w5 b5 le5 - h5 s
  obtain ⟨rfl, rfl⟩ := h5
  refine ops_rule (C := []) [(b, .cells #[.string ⟨#[40, 49, 44, 50, 44, 48, 41]⟩, .int .i64 2, .slice none 0 0, .int .i64 0] 146)] [] 5 [] 0 (fun φ6 => [(5, .bool true), (4, .int .u64 1), (14, .bool true), (13, .int .u64 1), (10, .tuple #[.int .u64 1, .bool true])]) (fun φ6 => [(b, .cells #[.string ⟨#[40, 49, 44, 50, 44, 48, 41]⟩, .int .i64 2, .slice none 0 0, .int .i64 0] 146)]) (fun φ6 => []) s trivial (fun φ6 => by kernel_rfl) ?_
  intro φ6 w6 s
  refine ops_done (by kernel_rfl) ?_
  refine wp_seq ?_
  refine wp_seq ?_
  refine region_rule ?_
  refine ops_rule (C := []) [(b, .cells #[.string ⟨#[40, 49, 44, 50, 44, 48, 41]⟩, .int .i64 2, .slice none 0 0, .int .i64 0] 146)] [] 4 [] 0 (fun φ7 => [(18, .pointer (some ⟨b, 0, none⟩)), (17, .bool false), (16, .bool false), (15, .bool true)]) (fun φ7 => [(b, .cells #[.string ⟨#[40, 49, 44, 50, 44, 48, 41]⟩, .int .i64 2, .slice none 0 0, .int .i64 0] 146)]) (fun φ7 => []) s trivial (fun φ7 => by kernel_rfl) ?_
  intro φ7 w7 s
  refine callB_rule (b := (b, .cells #[.string ⟨#[40, 49, 44, 50, 44, 48, 41]⟩, .int .i64 2, .slice none 0 0, .int .i64 0] 146)) (H := [(b, .cells #[.string ⟨#[40, 49, 44, 50, 44, 48, 41]⟩, .int .i64 2, .slice none 0 0, .int .i64 0] 146)]) (F := []) (Hr := []) (some 19) 0 s (by kernel_rfl) (by kernel_rfl) (take_k (ov := .slice none 0 0) (dv := .int .i64 0) (b := b) (p := 2) (c := 44) (ss := [40, 49, 44, 50, 44, 48, 41]) (r := true) (by decide) (by decide) (by kernel_rfl)) (by kernel_rfl) ?_
  rintro v8 I8 w8 b8 le8 - h8 s
  obtain ⟨rfl, rfl⟩ := h8
  refine ops_rule (C := []) [(b, .cells #[.string ⟨#[40, 49, 44, 50, 44, 48, 41]⟩, .int .i64 3, .slice none 0 0, .int .i64 0] 146)] [] 2 [] 0 (fun φ9 => [(21, .bool false), (20, .bool false)]) (fun φ9 => [(b, .cells #[.string ⟨#[40, 49, 44, 50, 44, 48, 41]⟩, .int .i64 3, .slice none 0 0, .int .i64 0] 146)]) (fun φ9 => []) s trivial (fun φ9 => by kernel_rfl) ?_
  intro φ9 w9 s
  refine ops_done (by kernel_rfl) ?_
  refine cond_false_rule (b := false) (by kernel_rfl) rfl ?_
  refine wp_skip ?_
  refine wp_seq ?_
  refine drawF_rule (C := []) ⟨(fun φ10 xs10 => [.look 0 [] [], .look 0 [] [], .look 0 [] [], .look 0 [] [], .look 0 [.o 0] [b], .look 0 [] [], .call 120 #[.int .u64 1], .look 0 [] [], .new, .row 0 (Builtin.append_ #[144, 144] 144 #[.slice none 0 0, .slice (some ⟨(φ10 8), 0, none⟩) 1 1]), .look 0 [] [], .look 0 [] [], .store 0 [.o 0] [b]]), (fun φ10 xs10 => [.pointer (some ⟨b, 0, none⟩), .pointer (some ⟨b, 0, none⟩), .pointer (some ⟨b, 0, none⟩), .pointer (some ⟨b, 2, none⟩), .slice none 0 0, .int .u64 1, .int .u8 3, .agg #[.int .u8 3, .int .u8 0], .slice (some ⟨(φ10 8), 0, none⟩) 1 1, .slice (some ⟨(xs10 9).n 0, 0, none⟩) 1 ((xs10 9).n 1), .pointer (some ⟨b, 0, none⟩), .pointer (some ⟨b, 2, none⟩), undef]), (fun φ10 xs10 => [[(b, .cells #[.string ⟨#[40, 49, 44, 50, 44, 48, 41]⟩, .int .i64 3, .slice none 0 0, .int .i64 0] 146)], [(b, .cells #[.string ⟨#[40, 49, 44, 50, 44, 48, 41]⟩, .int .i64 3, .slice (some ⟨(xs10 9).n 0, 0, none⟩) 1 ((xs10 9).n 1), .int .i64 0] 146)]]), (fun φ10 xs10 => [[default, default, default, default, default, default, default, default, .cells #[.int .u8 3, .int .u8 0] 152, default, default, default, default], [default, default, default, default, default, default, default, default, .cells #[.int .u8 3, .int .u8 0] 152, default, default, default, default]]), [12], [1, 1, 1, 1, 1, 1, 3, 1, 2, 7, 1, 1, 4]⟩ (fun j => ([MP.any, MP.any, MP.any, MP.any, MP.any, MP.any, MP.any, MP.any, MP.any, MP.any, MP.any, MP.any, MP.any] : List MP).getD j MP.any) 9 [] (fun x F => RowH 152 2 (.slice (some ⟨x.n 0, 0, none⟩) 1 (x.n 1)) 1 [.int .u8 3, .int .u8 0] F) [6] [] [] 0 (fun φ10 xs10 => [(b, .cells #[.string ⟨#[40, 49, 44, 50, 44, 48, 41]⟩, .int .i64 3, .slice none 0 0, .int .i64 0] 146), ((φ10 8), .cells #[.int .u8 3, .int .u8 0] 152)]) (fun φ10 xs10 => (Builtin.append_ #[144, 144] 144 #[.slice none 0 0, .slice (some ⟨(φ10 8), 0, none⟩) 1 1] : Sem Value)) (fun φ10 xs10 => [[none, none, none, none, none, none, none, none, none, none, none, none, none]]) (fun φ10 xs10 => [(22, .pointer (some ⟨b, 0, none⟩)), (23, .pointer (some ⟨b, 0, none⟩)), (24, .pointer (some ⟨b, 0, none⟩)), (25, .pointer (some ⟨b, 2, none⟩)), (26, .slice none 0 0), (27, .int .u64 1), (28, .int .u8 3), (29, .agg #[.int .u8 3, .int .u8 0]), (30, .slice (some ⟨(φ10 8), 0, none⟩) 1 1), (31, .slice (some ⟨(xs10 9).n 0, 0, none⟩) 1 ((xs10 9).n 1)), (32, .pointer (some ⟨b, 0, none⟩)), (33, .pointer (some ⟨b, 2, none⟩))]) (fun φ10 xs10 => [(b, .cells #[.string ⟨#[40, 49, 44, 50, 44, 48, 41]⟩, .int .i64 3, .slice (some ⟨(xs10 9).n 0, 0, none⟩) 1 ((xs10 9).n 1), .int .i64 0] 146), ((φ10 8), .cells #[.int .u8 3, .int .u8 0] 152)]) (by decide) s trivial (by kernel_rfl) (by kernel_rfl) (fun _ _ => by kernel_rfl) (fun _ _ => by kernel_rfl) ⟨fun _ _ => by kernel_rfl, fun _ _ => by kernel_rfl, fun _ _ => by kernel_rfl, fun _ _ => by kernel_rfl⟩ (fun _ _ _ => by kernel_rfl) (fun _ _ => by kernel_rfl) (fun _ _ => by kernel_rfl) (fun _ _ => by kernel_rfl) (fun _ _ => by kernel_rfl) (fun _ _ => by kernel_rfl) trivial trivial (by kernel_rfl) (fun _ _ => by kernel_rfl) (fun _ _ => by kernel_rfl) ?row10 ⟨?c10_6, trivial⟩ ?k10
  case c10_6 =>
    refine kcast (A := ∀ (φ10 : Nat → Nat) (xs10 : Xs) (J6_10 : IM), I8.Le J6_10 → Fun Tryd.prog 120 #[.int .u64 1] J6_10 (fun v J' => ∃ x : UX, v = .int .u8 3 ∧ (True))) (by kernel_rfl) ?_
    intro φ10 xs10 J6_10 leJ
    exact Fun.mono (nodeShape1_c) (fun v J' _ h => ⟨UX.d, h, trivial⟩)
  case row10 =>
    refine kcast (A := ∀ (φ10 : Nat → Nat) (xs10 : Xs) (J : IM) (wz : World) (H2 : List OB), I8.Le J → (True) → (St w I [b] J wz (([(b, .cells #[.string ⟨#[40, 49, 44, 50, 44, 48, 41]⟩, .int .i64 3, .slice none 0 0, .int .i64 0] 146), ((φ10 8), .cells #[.int .u8 3, .int .u8 0] 152)] ++ H2) ++ [])) → ∃ (x : UX) (J' : IM) (w' : World) (F' : List OB), ((Builtin.append_ #[144, 144] 144 #[.slice none 0 0, .slice (some ⟨(φ10 8), 0, none⟩) 1 1]) : Sem Value).run Tryd.prog wz = .ok (.slice (some ⟨x.n 0, 0, none⟩) 1 (x.n 1)) w' ∧ J.Le J' ∧ St w I [b] J' w' (([(b, .cells #[.string ⟨#[40, 49, 44, 50, 44, 48, 41]⟩, .int .i64 3, .slice none 0 0, .int .i64 0] 146), ((φ10 8), .cells #[.int .u8 3, .int .u8 0] 152)] ++ H2) ++ F') ∧ RowH 152 2 (.slice (some ⟨x.n 0, 0, none⟩) 1 (x.n 1)) 1 [.int .u8 3, .int .u8 0] F') (by kernel_rfl) ?_
    intro φ10 xs10 J wz H2 leJ 
    rintro _
    intro s9
    obtain ⟨g9, cap9, w9, F9, hr9, s9, row9⟩ := append_rowS (H := [(b, .cells #[.string ⟨#[40, 49, 44, 50, 44, 48, 41]⟩, .int .i64 3, .slice none 0 0, .int .i64 0] 146), ((φ10 8), .cells #[.int .u8 3, .int .u8 0] 152)] ++ H2) s9 144 144 144 152 Tryd.t152 (.agg #[.int .u8 0, .int .u8 0]) 2 2 Tryd.underlying144 (by kernel_rfl) (by kernel_rfl) (by kernel_rfl) (by kernel_rfl) (by kernel_rfl) (by decide) (RowH.nil 152 2) (src_own s9 1 (φ10 8) #[.int .u8 3, .int .u8 0] 152 144 152 1 1 2 [.int .u8 3, .int .u8 0] (by kernel_rfl) Tryd.underlying144 (by kernel_rfl) (by kernel_rfl) (by kernel_rfl)) (by simp only [maxLen]; omega) (by omega) (by omega)
    exact ⟨{ UX.d with n := fun j => cond (Nat.beq j 0) g9 cap9 }, J, w9, F9, hr9, IM.Le.refl J, s9, row9⟩
  case k10 =>
    rintro φ10 xs10 I10 w10 F10 le10 s hrw10 _
    refine drawK_rule (C := []) ⟨(fun φ11 xs11 => [.look 0 [] [], .look 0 [] [], .look 0 [] [], .look 0 [] [], .look 0 [.o 0] [b], .look 0 [] [], .look 0 [] [], .look 0 [] [], .look 0 [.o 0] [b], .look 0 [] [], .look 0 [] [], .look 0 [] [], .look 0 [] [], .store 0 [.o 0] [b]]), (fun φ11 xs11 => [.pointer (some ⟨b, 0, none⟩), .pointer (some ⟨b, 0, none⟩), .pointer (some ⟨b, 0, none⟩), .pointer (some ⟨b, 3, none⟩), .int .i64 0, .pointer (some ⟨b, 0, none⟩), .pointer (some ⟨b, 0, none⟩), .pointer (some ⟨b, 2, none⟩), .slice (some ⟨(xs10 9).n 0, 0, none⟩) 1 ((xs10 9).n 1), .int .i64 1, .int .i64 1, .pointer (some ⟨b, 0, none⟩), .pointer (some ⟨b, 3, none⟩), undef]), (fun φ11 xs11 => [[(b, .cells #[.string ⟨#[40, 49, 44, 50, 44, 48, 41]⟩, .int .i64 3, .slice (some ⟨(xs10 9).n 0, 0, none⟩) 1 ((xs10 9).n 1), .int .i64 0] 146), ((φ10 8), .cells #[.int .u8 3, .int .u8 0] 152)], [(b, .cells #[.string ⟨#[40, 49, 44, 50, 44, 48, 41]⟩, .int .i64 3, .slice (some ⟨(xs10 9).n 0, 0, none⟩) 1 ((xs10 9).n 1), .int .i64 1] 146), ((φ10 8), .cells #[.int .u8 3, .int .u8 0] 152)]]), (fun φ11 xs11 => [[default, default, default, default, default, default, default, default, default, default, default, default, default, default], [default, default, default, default, default, default, default, default, default, default, default, default, default, default]]), [13], [1, 1, 1, 1, 1, 1, 1, 1, 1, 1, 1, 1, 1, 4]⟩ (fun j => ([MP.any, MP.any, MP.any, MP.any, MP.any, MP.any, MP.any, MP.any, MP.any, MP.any, MP.any, MP.any, MP.any, MP.any] : List MP).getD j MP.any) F10 [] [] [] (fun φ11 xs11 => [[none, none, none, none, none, none, none, none, none, none, none, none, none, none]]) (fun φ11 xs11 => [(34, .pointer (some ⟨b, 0, none⟩)), (35, .pointer (some ⟨b, 0, none⟩)), (36, .pointer (some ⟨b, 0, none⟩)), (37, .pointer (some ⟨b, 3, none⟩)), (38, .int .i64 0), (39, .pointer (some ⟨b, 0, none⟩)), (40, .pointer (some ⟨b, 0, none⟩)), (41, .pointer (some ⟨b, 2, none⟩)), (42, .slice (some ⟨(xs10 9).n 0, 0, none⟩) 1 ((xs10 9).n 1)), (43, .int .i64 1), (44, .int .i64 1), (45, .pointer (some ⟨b, 0, none⟩)), (46, .pointer (some ⟨b, 3, none⟩))]) (fun φ11 xs11 => [(b, .cells #[.string ⟨#[40, 49, 44, 50, 44, 48, 41]⟩, .int .i64 3, .slice (some ⟨(xs10 9).n 0, 0, none⟩) 1 ((xs10 9).n 1), .int .i64 1] 146), ((φ10 8), .cells #[.int .u8 3, .int .u8 0] 152)]) s trivial (by kernel_rfl) (by kernel_rfl) (fun _ _ => by kernel_rfl) (fun _ _ => by kernel_rfl) ⟨fun _ _ => by kernel_rfl, fun _ _ => by kernel_rfl, fun _ _ => by kernel_rfl, fun _ _ => by kernel_rfl⟩ (fun _ _ _ => by kernel_rfl) (fun _ _ => by kernel_rfl) (fun _ _ => by kernel_rfl) (fun _ _ => by kernel_rfl) (fun _ _ => by kernel_rfl) (fun _ _ => by kernel_rfl) trivial trivial (by kernel_rfl) trivial ?k11
    case k11 =>
      rintro φ11 xs11 I11 w11 le11 s 
      refine rounds_step (n := 1) ?_
      refine wp_seq ?_
      refine wp_seq ?_
      refine region_rule ?_
      refine ops_rule (C := []) [(b, .cells #[.string ⟨#[40, 49, 44, 50, 44, 48, 41]⟩, .int .i64 3, .slice (some ⟨(xs10 9).n 0, 0, none⟩) 1 ((xs10 9).n 1), .int .i64 1] 146), ((φ10 8), .cells #[.int .u8 3, .int .u8 0] 152)] F10 1 [] 0 (fun φ12 => [(8, .pointer (some ⟨b, 0, none⟩))]) (fun φ12 => [(b, .cells #[.string ⟨#[40, 49, 44, 50, 44, 48, 41]⟩, .int .i64 3, .slice (some ⟨(xs10 9).n 0, 0, none⟩) 1 ((xs10 9).n 1), .int .i64 1] 146), ((φ10 8), .cells #[.int .u8 3, .int .u8 0] 152)]) (fun φ12 => []) s trivial (fun φ12 => by kernel_rfl) ?_
      intro φ12 w12 s
      refine callB_rule (b := (b, .cells #[.string ⟨#[40, 49, 44, 50, 44, 48, 41]⟩, .int .i64 3, .slice (some ⟨(xs10 9).n 0, 0, none⟩) 1 ((xs10 9).n 1), .int .i64 1] 146)) (H := [(b, .cells #[.string ⟨#[40, 49, 44, 50, 44, 48, 41]⟩, .int .i64 3, .slice (some ⟨(xs10 9).n 0, 0, none⟩) 1 ((xs10 9).n 1), .int .i64 1] 146), ((φ10 8), .cells #[.int .u8 3, .int .u8 0] 152)]) (F := F10) (Hr := [((φ10 8), .cells #[.int .u8 3, .int .u8 0] 152)]) (some 9) 0 s (by kernel_rfl) (by kernel_rfl) (take_k (ov := .slice (some ⟨(xs10 9).n 0, 0, none⟩) 1 ((xs10 9).n 1)) (dv := .int .i64 1) (b := b) (p := 3) (c := 40) (ss := [40, 49, 44, 50, 44, 48, 41]) (r := false) (by decide) (by decide) (by kernel_rfl)) (by kernel_rfl) ?_
      rintro v13 I13 w13 b13 le13 - h13 s
      obtain ⟨rfl, rfl⟩ := h13
      refine ops_done (by kernel_rfl) ?_
      refine cond_false_rule (b := false) (by kernel_rfl) rfl ?_
      refine wp_exit ?_
      refine wp_seq ?_
      refine region_rule ?_
      refine ops_rule (C := []) [(b, .cells #[.string ⟨#[40, 49, 44, 50, 44, 48, 41]⟩, .int .i64 3, .slice (some ⟨(xs10 9).n 0, 0, none⟩) 1 ((xs10 9).n 1), .int .i64 1] 146), ((φ10 8), .cells #[.int .u8 3, .int .u8 0] 152)] F10 1 [] 0 (fun φ14 => [(48, .pointer (some ⟨b, 0, none⟩))]) (fun φ14 => [(b, .cells #[.string ⟨#[40, 49, 44, 50, 44, 48, 41]⟩, .int .i64 3, .slice (some ⟨(xs10 9).n 0, 0, none⟩) 1 ((xs10 9).n 1), .int .i64 1] 146), ((φ10 8), .cells #[.int .u8 3, .int .u8 0] 152)]) (fun φ14 => []) s trivial (fun φ14 => by kernel_rfl) ?_
      intro φ14 w14 s
      refine callB_rule (b := (b, .cells #[.string ⟨#[40, 49, 44, 50, 44, 48, 41]⟩, .int .i64 3, .slice (some ⟨(xs10 9).n 0, 0, none⟩) 1 ((xs10 9).n 1), .int .i64 1] 146)) (H := [(b, .cells #[.string ⟨#[40, 49, 44, 50, 44, 48, 41]⟩, .int .i64 3, .slice (some ⟨(xs10 9).n 0, 0, none⟩) 1 ((xs10 9).n 1), .int .i64 1] 146), ((φ10 8), .cells #[.int .u8 3, .int .u8 0] 152)]) (F := F10) (Hr := [((φ10 8), .cells #[.int .u8 3, .int .u8 0] 152)]) (some 49) 0 s (by kernel_rfl) (by kernel_rfl) (num119_c (ov := .slice (some ⟨(xs10 9).n 0, 0, none⟩) 1 ((xs10 9).n 1)) (dv := .int .i64 1) (b := b) (p := 3) (n := 2) (k := 1) (ok := true) (ss := [40, 49, 44, 50, 44, 48, 41]) (by decide) (by decide) (by kernel_rfl) (by decide)) (by kernel_rfl) ?_
      rintro v15 I15 w15 b15 le15 - h15 s
      obtain ⟨rfl, rfl⟩ := h15
      refine ops_rule (C := []) [(b, .cells #[.string ⟨#[40, 49, 44, 50, 44, 48, 41]⟩, .int .i64 4, .slice (some ⟨(xs10 9).n 0, 0, none⟩) 1 ((xs10 9).n 1), .int .i64 1] 146), ((φ10 8), .cells #[.int .u8 3, .int .u8 0] 152)] F10 5 [] 0 (fun φ16 => [(7, .bool true), (6, .int .u64 2), (51, .bool true), (50, .int .u64 2), (47, .tuple #[.int .u64 2, .bool true])]) (fun φ16 => [(b, .cells #[.string ⟨#[40, 49, 44, 50, 44, 48, 41]⟩, .int .i64 4, .slice (some ⟨(xs10 9).n 0, 0, none⟩) 1 ((xs10 9).n 1), .int .i64 1] 146), ((φ10 8), .cells #[.int .u8 3, .int .u8 0] 152)]) (fun φ16 => []) s trivial (fun φ16 => by kernel_rfl) ?_
      intro φ16 w16 s
      refine ops_done (by kernel_rfl) ?_
      refine wp_seq ?_
      refine region_rule ?_
      refine ops_rule (C := []) [(b, .cells #[.string ⟨#[40, 49, 44, 50, 44, 48, 41]⟩, .int .i64 4, .slice (some ⟨(xs10 9).n 0, 0, none⟩) 1 ((xs10 9).n 1), .int .i64 1] 146), ((φ10 8), .cells #[.int .u8 3, .int .u8 0] 152)] F10 1 [] 0 (fun φ17 => [(52, .int .u64 2)]) (fun φ17 => [(b, .cells #[.string ⟨#[40, 49, 44, 50, 44, 48, 41]⟩, .int .i64 4, .slice (some ⟨(xs10 9).n 0, 0, none⟩) 1 ((xs10 9).n 1), .int .i64 1] 146), ((φ10 8), .cells #[.int .u8 3, .int .u8 0] 152)]) (fun φ17 => []) s trivial (fun φ17 => by kernel_rfl) ?_
      intro φ17 w17 s
      refine call_rule (some 53) s (leafShape2_c) (by kernel_rfl) ?_
      intro v18 I18 w18 le18 h18 s
      obtain rfl := h18
      refine ops_rule (C := []) [(b, .cells #[.string ⟨#[40, 49, 44, 50, 44, 48, 41]⟩, .int .i64 4, .slice (some ⟨(xs10 9).n 0, 0, none⟩) 1 ((xs10 9).n 1), .int .i64 1] 146), ((φ10 8), .cells #[.int .u8 3, .int .u8 0] 152)] F10 3 [] 0 (fun φ19 => [(3, .bool true), (2, .int .u8 3), (54, .bool true)]) (fun φ19 => [(b, .cells #[.string ⟨#[40, 49, 44, 50, 44, 48, 41]⟩, .int .i64 4, .slice (some ⟨(xs10 9).n 0, 0, none⟩) 1 ((xs10 9).n 1), .int .i64 1] 146), ((φ10 8), .cells #[.int .u8 3, .int .u8 0] 152)]) (fun φ19 => []) s trivial (fun φ19 => by kernel_rfl) ?_
      intro φ19 w19 s
      refine ops_done (by kernel_rfl) ?_
      refine wp_ret ?_
      refine ret_rule (C := []) [(b, .cells #[.string ⟨#[40, 49, 44, 50, 44, 48, 41]⟩, .int .i64 4, .slice (some ⟨(xs10 9).n 0, 0, none⟩) 1 ((xs10 9).n 1), .int .i64 1] 146), ((φ10 8), .cells #[.int .u8 3, .int .u8 0] 152)] F10 (.tuple #[.int .u8 3, .bool true]) [] [] s trivial (by kernel_rfl) ?_
      replace s := s.drop (List.Sublist.append (List.Sublist.cons₂ _ (List.Sublist.cons _ List.Sublist.slnil)) (List.Sublist.refl F10))
      obtain ⟨rest, hF9⟩ := row_open hrw10
      subst hF9
      exact ⟨_, _, _, rfl, s, ⟨_, _, rfl, rfl, _, _, rest, rfl, rfl, rfl⟩⟩

set_option maxHeartbeats 2000000 in
theorem leafB0_c {I : IM} {b : Nat} {ov dv : Value} : FunM Tryd.prog 104 #[.pointer (some ⟨b, 0, none⟩)] I [(b, .cells #[.string ⟨#[40, 49, 44, 50, 44, 48, 41]⟩, .int .i64 5, ov, dv] 146)] (fun v J H' => ∃ b' : OB, H' = [b'] ∧ b'.1 = b ∧ v = .tuple #[.int .u8 1, .bool true] ∧ b' = (b, .cells #[.string ⟨#[40, 49, 44, 50, 44, 48, 41]⟩, .int .i64 6, ov, dv] 146)) := by
  refine enterM_rule 55 [(0, .pointer (some ⟨b, 0, none⟩))] Tryd.func104 rfl (by kernel_rfl) ?_
  intro w s
  refine wp_seq ?_
  refine region_rule ?_
  refine ops_rule (C := []) [(b, .cells #[.string ⟨#[40, 49, 44, 50, 44, 48, 41]⟩, .int .i64 5, ov, dv] 146)] [] 2 [] 0 (fun φ1 => [(3, .bool false), (2, .int .u8 0)]) (fun φ1 => [(b, .cells #[.string ⟨#[40, 49, 44, 50, 44, 48, 41]⟩, .int .i64 5, ov, dv] 146)]) (fun φ1 => []) s trivial (fun φ1 => by kernel_rfl) ?_
  intro φ1 w1 s
  refine ops_done (by kernel_rfl) ?_
  refine wp_seq ?_
  refine wp_block ?_
  refine Go.wp_loop_rounds 2 ?_
  refine rounds_step (n := 1) ?_
  refine wp_seq ?_
  refine wp_seq ?_
  refine region_rule ?_
  refine ops_rule (C := []) [(b, .cells #[.string ⟨#[40, 49, 44, 50, 44, 48, 41]⟩, .int .i64 5, ov, dv] 146)] [] 1 [] 0 (fun φ2 => [(8, .pointer (some ⟨b, 0, none⟩))]) (fun φ2 => [(b, .cells #[.string ⟨#[40, 49, 44, 50, 44, 48, 41]⟩, .int .i64 5, ov, dv] 146)]) (fun φ2 => []) s trivial (fun φ2 => by kernel_rfl) ?_
  intro φ2 w2 s
  refine callB_rule (b := (b, .cells #[.string ⟨#[40, 49, 44, 50, 44, 48, 41]⟩, .int .i64 5, ov, dv] 146)) (H := [(b, .cells #[.string ⟨#[40, 49, 44, 50, 44, 48, 41]⟩, .int .i64 5, ov, dv] 146)]) (F := []) (Hr := []) (some 9) 0 s (by kernel_rfl) (by kernel_rfl) (take_k (ov := ov) (dv := dv) (b := b) (p := 5) (c := 40) (ss := [40, 49, 44, 50, 44, 48, 41]) (r := false) (by decide) (by decide) (by kernel_rfl)) (by kernel_rfl) ?_
  rintro v3 I3 w3 b3 le3 - h3 s
  obtain ⟨rfl, rfl⟩ := h3
  refine ops_done (by kernel_rfl) ?_
  refine cond_false_rule (b := false) (by kernel_rfl) rfl ?_
  refine wp_exit ?_
  refine wp_seq ?_
  refine region_rule ?_
  refine ops_rule (C := []) [(b, .cells #[.string ⟨#[40, 49, 44, 50, 44, 48, 41]⟩, .int .i64 5, ov, dv] 146)] [] 1 [] 0 (fun φ4 => [(48, .pointer (some ⟨b, 0, none⟩))]) (fun φ4 => [(b, .cells #[.string ⟨#[40, 49, 44, 50, 44, 48, 41]⟩, .int .i64 5, ov, dv] 146)]) (fun φ4 => []) s trivial (fun φ4 => by kernel_rfl) ?_
  intro φ4 w4 s
  refine callB_rule (b := (b, .cells #[.string ⟨#[40, 49, 44, 50, 44, 48, 41]⟩, .int .i64 5, ov, dv] 146)) (H := [(b, .cells #[.string ⟨#[40, 49, 44, 50, 44, 48, 41]⟩, .int .i64 5, ov, dv] 146)]) (F := []) (Hr := []) (some 49) 0 s (by kernel_rfl) (by kernel_rfl) (num119_c (ov := ov) (dv := dv) (b := b) (p := 5) (n := 0) (k := 1) (ok := true) (ss := [40, 49, 44, 50, 44, 48, 41]) (by decide) (by decide) (by kernel_rfl) (by decide)) (by kernel_rfl) ?_
  rintro v5 I5 w5 b5 le5 - h5 s
  obtain ⟨rfl, rfl⟩ := h5
  refine ops_rule (C := []) [(b, .cells #[.string ⟨#[40, 49, 44, 50, 44, 48, 41]⟩, .int .i64 6, ov, dv] 146)] [] 5 [] 0 (fun φ6 => [(7, .bool true), (6, .int .u64 0), (51, .bool true), (50, .int .u64 0), (47, .tuple #[.int .u64 0, .bool true])]) (fun φ6 => [(b, .cells #[.string ⟨#[40, 49, 44, 50, 44, 48, 41]⟩, .int .i64 6, ov, dv] 146)]) (fun φ6 => []) s trivial (fun φ6 => by kernel_rfl) ?_
  intro φ6 w6 s
  refine ops_done (by kernel_rfl) ?_
  refine wp_seq ?_
  refine region_rule ?_
  refine ops_rule (C := []) [(b, .cells #[.string ⟨#[40, 49, 44, 50, 44, 48, 41]⟩, .int .i64 6, ov, dv] 146)] [] 1 [] 0 (fun φ7 => [(52, .int .u64 0)]) (fun φ7 => [(b, .cells #[.string ⟨#[40, 49, 44, 50, 44, 48, 41]⟩, .int .i64 6, ov, dv] 146)]) (fun φ7 => []) s trivial (fun φ7 => by kernel_rfl) ?_
  intro φ7 w7 s
  refine call_rule (some 53) s (leafShape0_c) (by kernel_rfl) ?_
  intro v8 I8 w8 le8 h8 s
  obtain rfl := h8
  refine ops_rule (C := []) [(b, .cells #[.string ⟨#[40, 49, 44, 50, 44, 48, 41]⟩, .int .i64 6, ov, dv] 146)] [] 3 [] 0 (fun φ9 => [(3, .bool true), (2, .int .u8 1), (54, .bool true)]) (fun φ9 => [(b, .cells #[.string ⟨#[40, 49, 44, 50, 44, 48, 41]⟩, .int .i64 6, ov, dv] 146)]) (fun φ9 => []) s trivial (fun φ9 => by kernel_rfl) ?_
  intro φ9 w9 s
  refine ops_done (by kernel_rfl) ?_
  refine wp_ret ?_
  refine ret_rule (C := []) [(b, .cells #[.string ⟨#[40, 49, 44, 50, 44, 48, 41]⟩, .int .i64 6, ov, dv] 146)] [] (.tuple #[.int .u8 1, .bool true]) [] [] s trivial (by kernel_rfl) ?_
  replace s := s.drop (List.Sublist.append (List.Sublist.cons₂ _ List.Sublist.slnil) (List.Sublist.refl []))
  exact ⟨_, _, _, rfl, s, ⟨_, rfl, rfl, rfl, rfl⟩⟩

set_option maxHeartbeats 2000000 in
theorem closeA0_c {I : IM} {b g cap : Nat} {rest : List Value} : FunM Tryd.prog 105 #[.pointer (some ⟨b, 0, none⟩), .int .u8 3] I [(b, .cells #[.string ⟨#[40, 49, 44, 50, 44, 48, 41]⟩, .int .i64 4, .slice (some ⟨g, 0, none⟩) 1 cap, .int .i64 1] 146), (g, .cells ⟨.int .u8 3 :: .int .u8 0 :: rest⟩ 152)] (fun v J H' => ∃ (b' : OB) (F' : List OB), H' = b' :: F' ∧ b'.1 = b ∧ v = .tuple #[.int .u8 3, .bool true] ∧ b' = (b, .cells #[.string ⟨#[40, 49, 44, 50, 44, 48, 41]⟩, .int .i64 4, .slice (some ⟨g, 0, none⟩) 1 cap, .int .i64 1] 146) ∧ F' = [(g, .cells ⟨.int .u8 3 :: .int .u8 0 :: rest⟩ 152)]) := by
  refine enterM_rule 62 [(0, .pointer (some ⟨b, 0, none⟩)), (1, .int .u8 3)] Tryd.func105 rfl (by kernel_rfl) ?_
  intro w s
  refine wp_seq ?_
  refine region_rule ?_
  refine ops_rule (C := []) [(b, .cells #[.string ⟨#[40, 49, 44, 50, 44, 48, 41]⟩, .int .i64 4, .slice (some ⟨g, 0, none⟩) 1 cap, .int .i64 1] 146), (g, .cells ⟨.int .u8 3 :: .int .u8 0 :: rest⟩ 152)] [] 2 [] 0 (fun φ1 => [(5, .bool false), (4, .int .u8 0)]) (fun φ1 => [(b, .cells #[.string ⟨#[40, 49, 44, 50, 44, 48, 41]⟩, .int .i64 4, .slice (some ⟨g, 0, none⟩) 1 cap, .int .i64 1] 146), (g, .cells ⟨.int .u8 3 :: .int .u8 0 :: rest⟩ 152)]) (fun φ1 => []) s trivial (fun φ1 => by kernel_rfl) ?_
  intro φ1 w1 s
  refine ops_done (by kernel_rfl) ?_
  refine wp_seq ?_
  refine wp_seq ?_
  refine region_rule ?_
  refine ops_rule (C := []) [(b, .cells #[.string ⟨#[40, 49, 44, 50, 44, 48, 41]⟩, .int .i64 4, .slice (some ⟨g, 0, none⟩) 1 cap, .int .i64 1] 146), (g, .cells ⟨.int .u8 3 :: .int .u8 0 :: rest⟩ 152)] [] 7 [.o 0] 0 (fun φ2 => [(6, .int .i64 0), (12, .int .i64 0), (11, .int .i64 1), (10, .slice (some ⟨g, 0, none⟩) 1 cap), (9, .pointer (some ⟨b, 2, none⟩)), (8, .pointer (some ⟨b, 0, none⟩)), (7, .pointer (some ⟨b, 0, none⟩))]) (fun φ2 => [(b, .cells #[.string ⟨#[40, 49, 44, 50, 44, 48, 41]⟩, .int .i64 4, .slice (some ⟨g, 0, none⟩) 1 cap, .int .i64 1] 146), (g, .cells ⟨.int .u8 3 :: .int .u8 0 :: rest⟩ 152)]) (fun φ2 => [b]) s trivial (fun φ2 => by kernel_rfl) ?_
  intro φ2 w2 s
  refine ops_done (by kernel_rfl) ?_
  refine wp_block ?_
  refine Go.wp_loop_rounds 3 ?_
  refine rounds_step (n := 2) ?_
  refine wp_seq ?_
  refine wp_seq ?_
  refine region_rule ?_
  refine ops_rule (C := []) [(b, .cells #[.string ⟨#[40, 49, 44, 50, 44, 48, 41]⟩, .int .i64 4, .slice (some ⟨g, 0, none⟩) 1 cap, .int .i64 1] 146), (g, .cells ⟨.int .u8 3 :: .int .u8 0 :: rest⟩ 152)] [] 13 [.o 0, .o 1] 0 (fun φ3 => [(25, .bool false), (24, .bool false), (23, .int .u8 0), (22, .pointer (some ⟨g, 1, none⟩)), (21, .pointer (some ⟨g, 0, none⟩)), (20, .int .i64 0), (19, .slice (some ⟨g, 0, none⟩) 1 cap), (18, .pointer (some ⟨b, 2, none⟩)), (17, .pointer (some ⟨b, 0, none⟩)), (16, .pointer (some ⟨b, 0, none⟩)), (15, .bool true), (14, .bool true), (13, .int .i64 0)]) (fun φ3 => [(b, .cells #[.string ⟨#[40, 49, 44, 50, 44, 48, 41]⟩, .int .i64 4, .slice (some ⟨g, 0, none⟩) 1 cap, .int .i64 1] 146), (g, .cells ⟨.int .u8 3 :: .int .u8 0 :: rest⟩ 152)]) (fun φ3 => [b, g]) s trivial (fun φ3 => by kernel_rfl) ?_
  intro φ3 w3 s
  refine ops_done (by kernel_rfl) ?_
  refine cond_false_rule (b := false) (by kernel_rfl) rfl ?_
  refine wp_exit ?_
  refine wp_seq ?_
  refine region_rule ?_
  refine ops_rule (C := []) [(b, .cells #[.string ⟨#[40, 49, 44, 50, 44, 48, 41]⟩, .int .i64 4, .slice (some ⟨g, 0, none⟩) 1 cap, .int .i64 1] 146), (g, .cells ⟨.int .u8 3 :: .int .u8 0 :: rest⟩ 152)] [] 3 [] 0 (fun φ4 => [(5, .bool true), (4, .int .u8 3), (61, .int .u8 3)]) (fun φ4 => [(b, .cells #[.string ⟨#[40, 49, 44, 50, 44, 48, 41]⟩, .int .i64 4, .slice (some ⟨g, 0, none⟩) 1 cap, .int .i64 1] 146), (g, .cells ⟨.int .u8 3 :: .int .u8 0 :: rest⟩ 152)]) (fun φ4 => []) s trivial (fun φ4 => by kernel_rfl) ?_
  intro φ4 w4 s
  refine ops_done (by kernel_rfl) ?_
  refine wp_ret ?_
  refine ret_rule (C := []) [(b, .cells #[.string ⟨#[40, 49, 44, 50, 44, 48, 41]⟩, .int .i64 4, .slice (some ⟨g, 0, none⟩) 1 cap, .int .i64 1] 146), (g, .cells ⟨.int .u8 3 :: .int .u8 0 :: rest⟩ 152)] [] (.tuple #[.int .u8 3, .bool true]) [] [] s trivial (by kernel_rfl) ?_
  exact ⟨_, _, _, rfl, s, ⟨_, _, rfl, rfl, rfl, rfl, rfl⟩⟩

set_option maxHeartbeats 2000000 in
theorem closeB0_c {I : IM} {b g cap : Nat} {rest : List Value} : FunM Tryd.prog 105 #[.pointer (some ⟨b, 0, none⟩), .int .u8 1] I [(b, .cells #[.string ⟨#[40, 49, 44, 50, 44, 48, 41]⟩, .int .i64 6, .slice (some ⟨g, 0, none⟩) 1 cap, .int .i64 1] 146), (g, .cells ⟨.int .u8 3 :: .int .u8 3 :: rest⟩ 152)] (fun v J H' => ∃ (b' : OB) (F' : List OB), H' = b' :: F' ∧ b'.1 = b ∧ v = .tuple #[.int .u8 3, .bool true] ∧ b' = (b, .cells #[.string ⟨#[40, 49, 44, 50, 44, 48, 41]⟩, .int .i64 7, .slice (some ⟨g, 0, none⟩) 0 cap, .int .i64 1] 146) ∧ F' = [(g, .cells ⟨.int .u8 3 :: .int .u8 3 :: rest⟩ 152)]) := by
  refine enterM_rule 62 [(0, .pointer (some ⟨b, 0, none⟩)), (1, .int .u8 1)] Tryd.func105 rfl (by kernel_rfl) ?_
  intro w s
  refine wp_seq ?_
  refine region_rule ?_
  refine ops_rule (C := []) [(b, .cells #[.string ⟨#[40, 49, 44, 50, 44, 48, 41]⟩, .int .i64 6, .slice (some ⟨g, 0, none⟩) 1 cap, .int .i64 1] 146), (g, .cells ⟨.int .u8 3 :: .int .u8 3 :: rest⟩ 152)] [] 2 [] 0 (fun φ1 => [(5, .bool false), (4, .int .u8 0)]) (fun φ1 => [(b, .cells #[.string ⟨#[40, 49, 44, 50, 44, 48, 41]⟩, .int .i64 6, .slice (some ⟨g, 0, none⟩) 1 cap, .int .i64 1] 146), (g, .cells ⟨.int .u8 3 :: .int .u8 3 :: rest⟩ 152)]) (fun φ1 => []) s trivial (fun φ1 => by kernel_rfl) ?_
  intro φ1 w1 s
  refine ops_done (by kernel_rfl) ?_
  refine wp_seq ?_
  refine wp_seq ?_
  refine region_rule ?_
  refine ops_rule (C := []) [(b, .cells #[.string ⟨#[40, 49, 44, 50, 44, 48, 41]⟩, .int .i64 6, .slice (some ⟨g, 0, none⟩) 1 cap, .int .i64 1] 146), (g, .cells ⟨.int .u8 3 :: .int .u8 3 :: rest⟩ 152)] [] 7 [.o 0] 0 (fun φ2 => [(6, .int .i64 0), (12, .int .i64 0), (11, .int .i64 1), (10, .slice (some ⟨g, 0, none⟩) 1 cap), (9, .pointer (some ⟨b, 2, none⟩)), (8, .pointer (some ⟨b, 0, none⟩)), (7, .pointer (some ⟨b, 0, none⟩))]) (fun φ2 => [(b, .cells #[.string ⟨#[40, 49, 44, 50, 44, 48, 41]⟩, .int .i64 6, .slice (some ⟨g, 0, none⟩) 1 cap, .int .i64 1] 146), (g, .cells ⟨.int .u8 3 :: .int .u8 3 :: rest⟩ 152)]) (fun φ2 => [b]) s trivial (fun φ2 => by kernel_rfl) ?_
  intro φ2 w2 s
  refine ops_done (by kernel_rfl) ?_
  refine wp_block ?_
  refine Go.wp_loop_rounds 3 ?_
  refine rounds_step (n := 2) ?_
  refine wp_seq ?_
  refine wp_seq ?_
  refine region_rule ?_
  refine ops_rule (C := []) [(b, .cells #[.string ⟨#[40, 49, 44, 50, 44, 48, 41]⟩, .int .i64 6, .slice (some ⟨g, 0, none⟩) 1 cap, .int .i64 1] 146), (g, .cells ⟨.int .u8 3 :: .int .u8 3 :: rest⟩ 152)] [] 13 [.o 0, .o 1] 0 (fun φ3 => [(25, .bool true), (24, .bool true), (23, .int .u8 3), (22, .pointer (some ⟨g, 1, none⟩)), (21, .pointer (some ⟨g, 0, none⟩)), (20, .int .i64 0), (19, .slice (some ⟨g, 0, none⟩) 1 cap), (18, .pointer (some ⟨b, 2, none⟩)), (17, .pointer (some ⟨b, 0, none⟩)), (16, .pointer (some ⟨b, 0, none⟩)), (15, .bool true), (14, .bool true), (13, .int .i64 0)]) (fun φ3 => [(b, .cells #[.string ⟨#[40, 49, 44, 50, 44, 48, 41]⟩, .int .i64 6, .slice (some ⟨g, 0, none⟩) 1 cap, .int .i64 1] 146), (g, .cells ⟨.int .u8 3 :: .int .u8 3 :: rest⟩ 152)]) (fun φ3 => [b, g]) s trivial (fun φ3 => by kernel_rfl) ?_
  intro φ3 w3 s
  refine ops_done (by kernel_rfl) ?_
  refine cond_true_rule (b := true) (by kernel_rfl) rfl ?_
  refine wp_skip ?_
  refine wp_seq ?_
  refine wp_block ?_
  refine wp_seq ?_
  refine wp_seq ?_
  refine region_rule ?_
  refine ops_rule (C := []) [(b, .cells #[.string ⟨#[40, 49, 44, 50, 44, 48, 41]⟩, .int .i64 6, .slice (some ⟨g, 0, none⟩) 1 cap, .int .i64 1] 146), (g, .cells ⟨.int .u8 3 :: .int .u8 3 :: rest⟩ 152)] [] 1 [] 0 (fun φ4 => [(28, .pointer (some ⟨b, 0, none⟩))]) (fun φ4 => [(b, .cells #[.string ⟨#[40, 49, 44, 50, 44, 48, 41]⟩, .int .i64 6, .slice (some ⟨g, 0, none⟩) 1 cap, .int .i64 1] 146), (g, .cells ⟨.int .u8 3 :: .int .u8 3 :: rest⟩ 152)]) (fun φ4 => []) s trivial (fun φ4 => by kernel_rfl) ?_
  intro φ4 w4 s
  refine callB_rule (b := (b, .cells #[.string ⟨#[40, 49, 44, 50, 44, 48, 41]⟩, .int .i64 6, .slice (some ⟨g, 0, none⟩) 1 cap, .int .i64 1] 146)) (H := [(b, .cells #[.string ⟨#[40, 49, 44, 50, 44, 48, 41]⟩, .int .i64 6, .slice (some ⟨g, 0, none⟩) 1 cap, .int .i64 1] 146), (g, .cells ⟨.int .u8 3 :: .int .u8 3 :: rest⟩ 152)]) (F := []) (Hr := [(g, .cells ⟨.int .u8 3 :: .int .u8 3 :: rest⟩ 152)]) (some 29) 0 s (by kernel_rfl) (by kernel_rfl) (take_k (ov := .slice (some ⟨g, 0, none⟩) 1 cap) (dv := .int .i64 1) (b := b) (p := 6) (c := 41) (ss := [40, 49, 44, 50, 44, 48, 41]) (r := true) (by decide) (by decide) (by kernel_rfl)) (by kernel_rfl) ?_
  rintro v5 I5 w5 b5 le5 - h5 s
  obtain ⟨rfl, rfl⟩ := h5
  refine ops_rule (C := []) [(b, .cells #[.string ⟨#[40, 49, 44, 50, 44, 48, 41]⟩, .int .i64 7, .slice (some ⟨g, 0, none⟩) 1 cap, .int .i64 1] 146), (g, .cells ⟨.int .u8 3 :: .int .u8 3 :: rest⟩ 152)] [] 11 [.o 0, .o 1] 0 (fun φ6 => [(40, .int .u8 1), (39, .int .u8 3), (38, .pointer (some ⟨g, 1, none⟩)), (37, .pointer (some ⟨g, 0, none⟩)), (36, .int .i64 0), (35, .slice (some ⟨g, 0, none⟩) 1 cap), (34, .pointer (some ⟨b, 2, none⟩)), (33, .pointer (some ⟨b, 0, none⟩)), (32, .pointer (some ⟨b, 0, none⟩)), (31, .bool false), (30, .bool false)]) (fun φ6 => [(b, .cells #[.string ⟨#[40, 49, 44, 50, 44, 48, 41]⟩, .int .i64 7, .slice (some ⟨g, 0, none⟩) 1 cap, .int .i64 1] 146), (g, .cells ⟨.int .u8 3 :: .int .u8 3 :: rest⟩ 152)]) (fun φ6 => [b, g]) s trivial (fun φ6 => by kernel_rfl) ?_
  intro φ6 w6 s
  refine call_rule (some 41) s (mayPair3_1_c) (by kernel_rfl) ?_
  intro v7 I7 w7 le7 h7 s
  obtain rfl := h7
  refine ops_rule (C := []) [(b, .cells #[.string ⟨#[40, 49, 44, 50, 44, 48, 41]⟩, .int .i64 7, .slice (some ⟨g, 0, none⟩) 1 cap, .int .i64 1] 146), (g, .cells ⟨.int .u8 3 :: .int .u8 3 :: rest⟩ 152)] [] 2 [] 0 (fun φ8 => [(43, .bool false), (42, .bool false)]) (fun φ8 => [(b, .cells #[.string ⟨#[40, 49, 44, 50, 44, 48, 41]⟩, .int .i64 7, .slice (some ⟨g, 0, none⟩) 1 cap, .int .i64 1] 146), (g, .cells ⟨.int .u8 3 :: .int .u8 3 :: rest⟩ 152)]) (fun φ8 => []) s trivial (fun φ8 => by kernel_rfl) ?_
  intro φ8 w8 s
  refine ops_done (by kernel_rfl) ?_
  refine cond_false_rule (b := false) (by kernel_rfl) rfl ?_
  refine wp_skip ?_
  refine wp_seq ?_
  refine region_rule ?_
  refine ops_rule (C := []) [(b, .cells #[.string ⟨#[40, 49, 44, 50, 44, 48, 41]⟩, .int .i64 7, .slice (some ⟨g, 0, none⟩) 1 cap, .int .i64 1] 146), (g, .cells ⟨.int .u8 3 :: .int .u8 3 :: rest⟩ 152)] [] 9 [.o 0, .o 1] 0 (fun φ9 => [(1, .int .u8 3), (51, .int .u8 3), (50, .pointer (some ⟨g, 0, none⟩)), (49, .pointer (some ⟨g, 0, none⟩)), (48, .int .i64 0), (47, .slice (some ⟨g, 0, none⟩) 1 cap), (46, .pointer (some ⟨b, 2, none⟩)), (45, .pointer (some ⟨b, 0, none⟩)), (44, .pointer (some ⟨b, 0, none⟩))]) (fun φ9 => [(b, .cells #[.string ⟨#[40, 49, 44, 50, 44, 48, 41]⟩, .int .i64 7, .slice (some ⟨g, 0, none⟩) 1 cap, .int .i64 1] 146), (g, .cells ⟨.int .u8 3 :: .int .u8 3 :: rest⟩ 152)]) (fun φ9 => [b, g]) s trivial (fun φ9 => by kernel_rfl) ?_
  intro φ9 w9 s
  refine ops_done (by kernel_rfl) ?_
  refine region_rule ?_
  refine ops_rule (C := []) [(b, .cells #[.string ⟨#[40, 49, 44, 50, 44, 48, 41]⟩, .int .i64 7, .slice (some ⟨g, 0, none⟩) 1 cap, .int .i64 1] 146), (g, .cells ⟨.int .u8 3 :: .int .u8 3 :: rest⟩ 152)] [] 6 [.o 0] 0 (fun φ10 => [(57, .int .i64 0), (56, .slice (some ⟨g, 0, none⟩) 1 cap), (55, .pointer (some ⟨b, 2, none⟩)), (54, .pointer (some ⟨b, 0, none⟩)), (53, .pointer (some ⟨b, 0, none⟩)), (52, .pointer (some ⟨b, 0, none⟩))]) (fun φ10 => [(b, .cells #[.string ⟨#[40, 49, 44, 50, 44, 48, 41]⟩, .int .i64 7, .slice (some ⟨g, 0, none⟩) 1 cap, .int .i64 1] 146), (g, .cells ⟨.int .u8 3 :: .int .u8 3 :: rest⟩ 152)]) (fun φ10 => [b]) s trivial (fun φ10 => by kernel_rfl) ?_
  intro φ10 w10 s
  refine sem_rule (Instr.sliceAt 144 (.slice (some ⟨g, 0, none⟩) 1 cap) none (some (.int .i64 ((0 : Nat) : Int))) none) (some 58) (.slice (some ⟨g, 0, none⟩) 0 cap) (by kernel_rfl) (run_cutRow) ?_
  refine ops_rule (C := []) [(b, .cells #[.string ⟨#[40, 49, 44, 50, 44, 48, 41]⟩, .int .i64 7, .slice (some ⟨g, 0, none⟩) 1 cap, .int .i64 1] 146), (g, .cells ⟨.int .u8 3 :: .int .u8 3 :: rest⟩ 152)] [] 3 [.o 0] 0 (fun φ11 => [(60, .pointer (some ⟨b, 2, none⟩)), (59, .pointer (some ⟨b, 0, none⟩))]) (fun φ11 => [(b, .cells #[.string ⟨#[40, 49, 44, 50, 44, 48, 41]⟩, .int .i64 7, .slice (some ⟨g, 0, none⟩) 0 cap, .int .i64 1] 146), (g, .cells ⟨.int .u8 3 :: .int .u8 3 :: rest⟩ 152)]) (fun φ11 => [b]) s trivial (fun φ11 => by kernel_rfl) ?_
  intro φ11 w11 s
  refine ops_done (by kernel_rfl) ?_
  refine region_rule ?_
  refine ops_rule (C := []) [(b, .cells #[.string ⟨#[40, 49, 44, 50, 44, 48, 41]⟩, .int .i64 7, .slice (some ⟨g, 0, none⟩) 0 cap, .int .i64 1] 146), (g, .cells ⟨.int .u8 3 :: .int .u8 3 :: rest⟩ 152)] [] 3 [] 0 (fun φ12 => [(6, .int .i64 (-1)), (27, .int .i64 (-1)), (26, .int .i64 0)]) (fun φ12 => [(b, .cells #[.string ⟨#[40, 49, 44, 50, 44, 48, 41]⟩, .int .i64 7, .slice (some ⟨g, 0, none⟩) 0 cap, .int .i64 1] 146), (g, .cells ⟨.int .u8 3 :: .int .u8 3 :: rest⟩ 152)]) (fun φ12 => []) s trivial (fun φ12 => by kernel_rfl) ?_
  intro φ12 w12 s
  refine ops_done (by kernel_rfl) ?_
  refine rounds_step (n := 1) ?_
  refine wp_seq ?_
  refine wp_seq ?_
  refine region_rule ?_
  refine ops_rule (C := []) [(b, .cells #[.string ⟨#[40, 49, 44, 50, 44, 48, 41]⟩, .int .i64 7, .slice (some ⟨g, 0, none⟩) 0 cap, .int .i64 1] 146), (g, .cells ⟨.int .u8 3 :: .int .u8 3 :: rest⟩ 152)] [] 13 [] 0 (fun φ13 => [(25, .bool false), (24, undef), (23, undef), (22, undef), (21, undef), (20, undef), (19, undef), (18, undef), (17, undef), (16, undef), (15, .bool false), (14, .bool false), (13, .int .i64 (-1))]) (fun φ13 => [(b, .cells #[.string ⟨#[40, 49, 44, 50, 44, 48, 41]⟩, .int .i64 7, .slice (some ⟨g, 0, none⟩) 0 cap, .int .i64 1] 146), (g, .cells ⟨.int .u8 3 :: .int .u8 3 :: rest⟩ 152)]) (fun φ13 => []) s trivial (fun φ13 => by kernel_rfl) ?_
  intro φ13 w13 s
  refine ops_done (by kernel_rfl) ?_
  refine cond_false_rule (b := false) (by kernel_rfl) rfl ?_
  refine wp_exit ?_
  refine wp_seq ?_
  refine region_rule ?_
  refine ops_rule (C := []) [(b, .cells #[.string ⟨#[40, 49, 44, 50, 44, 48, 41]⟩, .int .i64 7, .slice (some ⟨g, 0, none⟩) 0 cap, .int .i64 1] 146), (g, .cells ⟨.int .u8 3 :: .int .u8 3 :: rest⟩ 152)] [] 3 [] 0 (fun φ14 => [(5, .bool true), (4, .int .u8 3), (61, .int .u8 3)]) (fun φ14 => [(b, .cells #[.string ⟨#[40, 49, 44, 50, 44, 48, 41]⟩, .int .i64 7, .slice (some ⟨g, 0, none⟩) 0 cap, .int .i64 1] 146), (g, .cells ⟨.int .u8 3 :: .int .u8 3 :: rest⟩ 152)]) (fun φ14 => []) s trivial (fun φ14 => by kernel_rfl) ?_
  intro φ14 w14 s
  refine ops_done (by kernel_rfl) ?_
  refine wp_ret ?_
  refine ret_rule (C := []) [(b, .cells #[.string ⟨#[40, 49, 44, 50, 44, 48, 41]⟩, .int .i64 7, .slice (some ⟨g, 0, none⟩) 0 cap, .int .i64 1] 146), (g, .cells ⟨.int .u8 3 :: .int .u8 3 :: rest⟩ 152)] [] (.tuple #[.int .u8 3, .bool true]) [] [] s trivial (by kernel_rfl) ?_
  exact ⟨_, _, _, rfl, s, ⟨_, _, rfl, rfl, rfl, rfl, rfl⟩⟩

set_option maxHeartbeats 2000000 in
theorem scan0_c {I : IM} : Fun Tryd.prog 76 #[.string ⟨#[40, 49, 44, 50, 44, 48, 41]⟩] I (fun v J => v = .tuple #[.int .i64 1, .bool true]) := by
  refine enter_rule 44 [(0, .string ⟨#[40, 49, 44, 50, 44, 48, 41]⟩)] Tryd.func76 rfl (by kernel_rfl) ?_
  intro w s
  refine wp_seq ?_
  refine region_rule ?_
  refine ops_rule (C := []) [] [] 2 [] 0 (fun φ1 => [(3, .bool false), (2, .int .i64 0)]) (fun φ1 => []) (fun φ1 => []) s trivial (fun φ1 => by kernel_rfl) ?_
  intro φ1 w1 s
  refine ops_done (by kernel_rfl) ?_
  refine wp_seq ?_
  refine region_rule ?_
  refine ops_rule (C := []) [] [] 4 [.o 0, .o 0, .o 0, .o 0] 1 (fun φ2 => [(4, .pointer (some ⟨(φ2 0), 0, none⟩)), (9, .agg #[.string ⟨#[40, 49, 44, 50, 44, 48, 41]⟩, .int .i64 0, .slice none 0 0, .int .i64 0]), (8, .string ⟨#[40, 49, 44, 50, 44, 48, 41]⟩)]) (fun φ2 => [((φ2 0), .cells #[.string ⟨#[40, 49, 44, 50, 44, 48, 41]⟩, .int .i64 0, .slice none 0 0, .int .i64 0] 146)]) (fun φ2 => [(φ2 0), (φ2 0), (φ2 0), (φ2 0)]) s trivial (fun φ2 => by kernel_rfl) ?_
  intro φ2 w2 s
  refine ops_done (by kernel_rfl) ?_
  refine wp_block ?_
  refine Go.wp_loop_rounds 3 ?_
  refine rounds_step (n := 2) ?_
  refine wp_block ?_
  refine wp_seq ?_
  refine region_rule ?_
  refine callH_rule (b := ((φ2 0), .cells #[.string ⟨#[40, 49, 44, 50, 44, 48, 41]⟩, .int .i64 0, .slice none 0 0, .int .i64 0] 146)) (H := [((φ2 0), .cells #[.string ⟨#[40, 49, 44, 50, 44, 48, 41]⟩, .int .i64 0, .slice none 0 0, .int .i64 0] 146)]) (F := []) (Hr := []) (some 11) 0 s (by kernel_rfl) (by kernel_rfl) (leafA0_c (b := (φ2 0))) (by kernel_rfl) ?_
  rintro v3 I3 w3 b3 F3 le3 - h3 s
  obtain ⟨g3, cap3, rest3, rfl, rfl, rfl⟩ := h3
  refine ops_rule (C := []) [((φ2 0), .cells #[.string ⟨#[40, 49, 44, 50, 44, 48, 41]⟩, .int .i64 4, .slice (some ⟨g3, 0, none⟩) 1 cap3, .int .i64 1] 146), (g3, .cells ⟨.int .u8 3 :: .int .u8 0 :: rest3⟩ 152)] [] 5 [] 0 (fun φ4 => [(6, .bool true), (5, .int .u8 3), (13, .bool true), (12, .int .u8 3), (10, .tuple #[.int .u8 3, .bool true])]) (fun φ4 => [((φ2 0), .cells #[.string ⟨#[40, 49, 44, 50, 44, 48, 41]⟩, .int .i64 4, .slice (some ⟨g3, 0, none⟩) 1 cap3, .int .i64 1] 146), (g3, .cells ⟨.int .u8 3 :: .int .u8 0 :: rest3⟩ 152)]) (fun φ4 => []) s trivial (fun φ4 => by kernel_rfl) ?_
  intro φ4 w4 s
  refine ops_done (by kernel_rfl) ?_
  refine wp_seq ?_
  refine wp_seq ?_
  refine region_rule ?_
  refine ops_rule (C := []) [((φ2 0), .cells #[.string ⟨#[40, 49, 44, 50, 44, 48, 41]⟩, .int .i64 4, .slice (some ⟨g3, 0, none⟩) 1 cap3, .int .i64 1] 146), (g3, .cells ⟨.int .u8 3 :: .int .u8 0 :: rest3⟩ 152)] [] 2 [] 0 (fun φ5 => [(15, .bool false), (14, .bool true)]) (fun φ5 => [((φ2 0), .cells #[.string ⟨#[40, 49, 44, 50, 44, 48, 41]⟩, .int .i64 4, .slice (some ⟨g3, 0, none⟩) 1 cap3, .int .i64 1] 146), (g3, .cells ⟨.int .u8 3 :: .int .u8 0 :: rest3⟩ 152)]) (fun φ5 => []) s trivial (fun φ5 => by kernel_rfl) ?_
  intro φ5 w5 s
  refine ops_done (by kernel_rfl) ?_
  refine cond_false_rule (b := false) (by kernel_rfl) rfl ?_
  refine wp_skip ?_
  refine wp_seq ?_
  refine region_rule ?_
  refine ops_rule (C := []) [((φ2 0), .cells #[.string ⟨#[40, 49, 44, 50, 44, 48, 41]⟩, .int .i64 4, .slice (some ⟨g3, 0, none⟩) 1 cap3, .int .i64 1] 146), (g3, .cells ⟨.int .u8 3 :: .int .u8 0 :: rest3⟩ 152)] [] 1 [] 0 (fun φ6 => [(17, .int .u8 3)]) (fun φ6 => [((φ2 0), .cells #[.string ⟨#[40, 49, 44, 50, 44, 48, 41]⟩, .int .i64 4, .slice (some ⟨g3, 0, none⟩) 1 cap3, .int .i64 1] 146), (g3, .cells ⟨.int .u8 3 :: .int .u8 0 :: rest3⟩ 152)]) (fun φ6 => []) s trivial (fun φ6 => by kernel_rfl) ?_
  intro φ6 w6 s
  refine callH_rule (b := ((φ2 0), .cells #[.string ⟨#[40, 49, 44, 50, 44, 48, 41]⟩, .int .i64 4, .slice (some ⟨g3, 0, none⟩) 1 cap3, .int .i64 1] 146)) (H := [((φ2 0), .cells #[.string ⟨#[40, 49, 44, 50, 44, 48, 41]⟩, .int .i64 4, .slice (some ⟨g3, 0, none⟩) 1 cap3, .int .i64 1] 146)]) (F := [(g3, .cells ⟨.int .u8 3 :: .int .u8 0 :: rest3⟩ 152)]) (Hr := []) (some 18) 0 s (by kernel_rfl) (by kernel_rfl) (closeA0_c (b := (φ2 0)) (g := g3) (cap := cap3) (rest := rest3)) (by kernel_rfl) ?_
  rintro v7 I7 w7 b7 F7 le7 - h7 s
  obtain ⟨rfl, rfl, rfl⟩ := h7
  refine ops_rule (C := []) [((φ2 0), .cells #[.string ⟨#[40, 49, 44, 50, 44, 48, 41]⟩, .int .i64 4, .slice (some ⟨g3, 0, none⟩) 1 cap3, .int .i64 1] 146), (g3, .cells ⟨.int .u8 3 :: .int .u8 0 :: rest3⟩ 152)] [] 5 [] 0 (fun φ8 => [(6, .bool true), (5, .int .u8 3), (20, .bool true), (19, .int .u8 3), (16, .tuple #[.int .u8 3, .bool true])]) (fun φ8 => [((φ2 0), .cells #[.string ⟨#[40, 49, 44, 50, 44, 48, 41]⟩, .int .i64 4, .slice (some ⟨g3, 0, none⟩) 1 cap3, .int .i64 1] 146), (g3, .cells ⟨.int .u8 3 :: .int .u8 0 :: rest3⟩ 152)]) (fun φ8 => []) s trivial (fun φ8 => by kernel_rfl) ?_
  intro φ8 w8 s
  refine ops_done (by kernel_rfl) ?_
  refine wp_seq ?_
  refine wp_seq ?_
  refine region_rule ?_
  refine ops_rule (C := []) [((φ2 0), .cells #[.string ⟨#[40, 49, 44, 50, 44, 48, 41]⟩, .int .i64 4, .slice (some ⟨g3, 0, none⟩) 1 cap3, .int .i64 1] 146), (g3, .cells ⟨.int .u8 3 :: .int .u8 0 :: rest3⟩ 152)] [] 2 [] 0 (fun φ9 => [(22, .bool false), (21, .bool true)]) (fun φ9 => [((φ2 0), .cells #[.string ⟨#[40, 49, 44, 50, 44, 48, 41]⟩, .int .i64 4, .slice (some ⟨g3, 0, none⟩) 1 cap3, .int .i64 1] 146), (g3, .cells ⟨.int .u8 3 :: .int .u8 0 :: rest3⟩ 152)]) (fun φ9 => []) s trivial (fun φ9 => by kernel_rfl) ?_
  intro φ9 w9 s
  refine ops_done (by kernel_rfl) ?_
  refine cond_false_rule (b := false) (by kernel_rfl) rfl ?_
  refine wp_skip ?_
  refine wp_seq ?_
  refine region_rule ?_
  refine ops_rule (C := []) [((φ2 0), .cells #[.string ⟨#[40, 49, 44, 50, 44, 48, 41]⟩, .int .i64 4, .slice (some ⟨g3, 0, none⟩) 1 cap3, .int .i64 1] 146), (g3, .cells ⟨.int .u8 3 :: .int .u8 0 :: rest3⟩ 152)] [] 5 [.o 0] 0 (fun φ10 => [(7, .int .i64 0), (26, .int .i64 0), (25, .int .i64 1), (24, .slice (some ⟨g3, 0, none⟩) 1 cap3), (23, .pointer (some ⟨(φ2 0), 2, none⟩))]) (fun φ10 => [((φ2 0), .cells #[.string ⟨#[40, 49, 44, 50, 44, 48, 41]⟩, .int .i64 4, .slice (some ⟨g3, 0, none⟩) 1 cap3, .int .i64 1] 146), (g3, .cells ⟨.int .u8 3 :: .int .u8 0 :: rest3⟩ 152)]) (fun φ10 => [(φ2 0)]) s trivial (fun φ10 => by kernel_rfl) ?_
  intro φ10 w10 s
  refine ops_done (by kernel_rfl) ?_
  refine wp_seq ?_
  refine wp_seq ?_
  refine region_rule ?_
  refine ops_rule (C := []) [((φ2 0), .cells #[.string ⟨#[40, 49, 44, 50, 44, 48, 41]⟩, .int .i64 4, .slice (some ⟨g3, 0, none⟩) 1 cap3, .int .i64 1] 146), (g3, .cells ⟨.int .u8 3 :: .int .u8 0 :: rest3⟩ 152)] [] 2 [] 0 (fun φ11 => [(28, .bool false), (27, .int .i64 0)]) (fun φ11 => [((φ2 0), .cells #[.string ⟨#[40, 49, 44, 50, 44, 48, 41]⟩, .int .i64 4, .slice (some ⟨g3, 0, none⟩) 1 cap3, .int .i64 1] 146), (g3, .cells ⟨.int .u8 3 :: .int .u8 0 :: rest3⟩ 152)]) (fun φ11 => []) s trivial (fun φ11 => by kernel_rfl) ?_
  intro φ11 w11 s
  refine ops_done (by kernel_rfl) ?_
  refine cond_false_rule (b := false) (by kernel_rfl) rfl ?_
  refine wp_skip ?_
  refine wp_seq ?_
  refine region_rule ?_
  refine ops_rule (C := []) [((φ2 0), .cells #[.string ⟨#[40, 49, 44, 50, 44, 48, 41]⟩, .int .i64 4, .slice (some ⟨g3, 0, none⟩) 1 cap3, .int .i64 1] 146), (g3, .cells ⟨.int .u8 3 :: .int .u8 0 :: rest3⟩ 152)] [] 7 [.o 0, .o 1] 0 (fun φ12 => [(41, .pointer (some ⟨g3, 1, none⟩)), (40, .pointer (some ⟨g3, 0, none⟩)), (39, .int .u8 3), (38, .int .i64 0), (37, .slice (some ⟨g3, 0, none⟩) 1 cap3), (36, .pointer (some ⟨(φ2 0), 2, none⟩))]) (fun φ12 => [((φ2 0), .cells #[.string ⟨#[40, 49, 44, 50, 44, 48, 41]⟩, .int .i64 4, .slice (some ⟨g3, 0, none⟩) 1 cap3, .int .i64 1] 146), (g3, .cells ⟨.int .u8 3 :: .int .u8 3 :: rest3⟩ 152)]) (fun φ12 => [(φ2 0), g3]) s trivial (fun φ12 => by kernel_rfl) ?_
  intro φ12 w12 s
  refine ops_done (by kernel_rfl) ?_
  refine wp_seq ?_
  refine region_rule ?_
  refine callB_rule (b := ((φ2 0), .cells #[.string ⟨#[40, 49, 44, 50, 44, 48, 41]⟩, .int .i64 4, .slice (some ⟨g3, 0, none⟩) 1 cap3, .int .i64 1] 146)) (H := [((φ2 0), .cells #[.string ⟨#[40, 49, 44, 50, 44, 48, 41]⟩, .int .i64 4, .slice (some ⟨g3, 0, none⟩) 1 cap3, .int .i64 1] 146), (g3, .cells ⟨.int .u8 3 :: .int .u8 3 :: rest3⟩ 152)]) (F := []) (Hr := [(g3, .cells ⟨.int .u8 3 :: .int .u8 3 :: rest3⟩ 152)]) (some 42) 0 s (by kernel_rfl) (by kernel_rfl) (take_k (ov := .slice (some ⟨g3, 0, none⟩) 1 cap3) (dv := .int .i64 1) (b := (φ2 0)) (p := 4) (c := 44) (ss := [40, 49, 44, 50, 44, 48, 41]) (r := true) (by decide) (by decide) (by kernel_rfl)) (by kernel_rfl) ?_
  rintro v13 I13 w13 b13 le13 - h13 s
  obtain ⟨rfl, rfl⟩ := h13
  refine ops_rule (C := []) [((φ2 0), .cells #[.string ⟨#[40, 49, 44, 50, 44, 48, 41]⟩, .int .i64 5, .slice (some ⟨g3, 0, none⟩) 1 cap3, .int .i64 1] 146), (g3, .cells ⟨.int .u8 3 :: .int .u8 3 :: rest3⟩ 152)] [] 1 [] 0 (fun φ14 => [(43, .bool false)]) (fun φ14 => [((φ2 0), .cells #[.string ⟨#[40, 49, 44, 50, 44, 48, 41]⟩, .int .i64 5, .slice (some ⟨g3, 0, none⟩) 1 cap3, .int .i64 1] 146), (g3, .cells ⟨.int .u8 3 :: .int .u8 3 :: rest3⟩ 152)]) (fun φ14 => []) s trivial (fun φ14 => by kernel_rfl) ?_
  intro φ14 w14 s
  refine ops_done (by kernel_rfl) ?_
  refine cond_false_rule (b := false) (by kernel_rfl) rfl ?_
  refine wp_skip ?_
  refine rounds_step (n := 1) ?_
  refine wp_block ?_
  refine wp_seq ?_
  refine region_rule ?_
  refine callB_rule (b := ((φ2 0), .cells #[.string ⟨#[40, 49, 44, 50, 44, 48, 41]⟩, .int .i64 5, .slice (some ⟨g3, 0, none⟩) 1 cap3, .int .i64 1] 146)) (H := [((φ2 0), .cells #[.string ⟨#[40, 49, 44, 50, 44, 48, 41]⟩, .int .i64 5, .slice (some ⟨g3, 0, none⟩) 1 cap3, .int .i64 1] 146), (g3, .cells ⟨.int .u8 3 :: .int .u8 3 :: rest3⟩ 152)]) (F := []) (Hr := [(g3, .cells ⟨.int .u8 3 :: .int .u8 3 :: rest3⟩ 152)]) (some 11) 0 s (by kernel_rfl) (by kernel_rfl) (leafB0_c (ov := .slice (some ⟨g3, 0, none⟩) 1 cap3) (dv := .int .i64 1) (b := (φ2 0))) (by kernel_rfl) ?_
  rintro v15 I15 w15 b15 le15 - h15 s
  obtain ⟨rfl, rfl⟩ := h15
  refine ops_rule (C := []) [((φ2 0), .cells #[.string ⟨#[40, 49, 44, 50, 44, 48, 41]⟩, .int .i64 6, .slice (some ⟨g3, 0, none⟩) 1 cap3, .int .i64 1] 146), (g3, .cells ⟨.int .u8 3 :: .int .u8 3 :: rest3⟩ 152)] [] 5 [] 0 (fun φ16 => [(6, .bool true), (5, .int .u8 1), (13, .bool true), (12, .int .u8 1), (10, .tuple #[.int .u8 1, .bool true])]) (fun φ16 => [((φ2 0), .cells #[.string ⟨#[40, 49, 44, 50, 44, 48, 41]⟩, .int .i64 6, .slice (some ⟨g3, 0, none⟩) 1 cap3, .int .i64 1] 146), (g3, .cells ⟨.int .u8 3 :: .int .u8 3 :: rest3⟩ 152)]) (fun φ16 => []) s trivial (fun φ16 => by kernel_rfl) ?_
  intro φ16 w16 s
  refine ops_done (by kernel_rfl) ?_
  refine wp_seq ?_
  refine wp_seq ?_
  refine region_rule ?_
  refine ops_rule (C := []) [((φ2 0), .cells #[.string ⟨#[40, 49, 44, 50, 44, 48, 41]⟩, .int .i64 6, .slice (some ⟨g3, 0, none⟩) 1 cap3, .int .i64 1] 146), (g3, .cells ⟨.int .u8 3 :: .int .u8 3 :: rest3⟩ 152)] [] 2 [] 0 (fun φ17 => [(15, .bool false), (14, .bool true)]) (fun φ17 => [((φ2 0), .cells #[.string ⟨#[40, 49, 44, 50, 44, 48, 41]⟩, .int .i64 6, .slice (some ⟨g3, 0, none⟩) 1 cap3, .int .i64 1] 146), (g3, .cells ⟨.int .u8 3 :: .int .u8 3 :: rest3⟩ 152)]) (fun φ17 => []) s trivial (fun φ17 => by kernel_rfl) ?_
  intro φ17 w17 s
  refine ops_done (by kernel_rfl) ?_
  refine cond_false_rule (b := false) (by kernel_rfl) rfl ?_
  refine wp_skip ?_
  refine wp_seq ?_
  refine region_rule ?_
  refine ops_rule (C := []) [((φ2 0), .cells #[.string ⟨#[40, 49, 44, 50, 44, 48, 41]⟩, .int .i64 6, .slice (some ⟨g3, 0, none⟩) 1 cap3, .int .i64 1] 146), (g3, .cells ⟨.int .u8 3 :: .int .u8 3 :: rest3⟩ 152)] [] 1 [] 0 (fun φ18 => [(17, .int .u8 1)]) (fun φ18 => [((φ2 0), .cells #[.string ⟨#[40, 49, 44, 50, 44, 48, 41]⟩, .int .i64 6, .slice (some ⟨g3, 0, none⟩) 1 cap3, .int .i64 1] 146), (g3, .cells ⟨.int .u8 3 :: .int .u8 3 :: rest3⟩ 152)]) (fun φ18 => []) s trivial (fun φ18 => by kernel_rfl) ?_
  intro φ18 w18 s
  refine callH_rule (b := ((φ2 0), .cells #[.string ⟨#[40, 49, 44, 50, 44, 48, 41]⟩, .int .i64 6, .slice (some ⟨g3, 0, none⟩) 1 cap3, .int .i64 1] 146)) (H := [((φ2 0), .cells #[.string ⟨#[40, 49, 44, 50, 44, 48, 41]⟩, .int .i64 6, .slice (some ⟨g3, 0, none⟩) 1 cap3, .int .i64 1] 146)]) (F := [(g3, .cells ⟨.int .u8 3 :: .int .u8 3 :: rest3⟩ 152)]) (Hr := []) (some 18) 0 s (by kernel_rfl) (by kernel_rfl) (closeB0_c (b := (φ2 0)) (g := g3) (cap := cap3) (rest := rest3)) (by kernel_rfl) ?_
  rintro v19 I19 w19 b19 F19 le19 - h19 s
  obtain ⟨rfl, rfl, rfl⟩ := h19
  refine ops_rule (C := []) [((φ2 0), .cells #[.string ⟨#[40, 49, 44, 50, 44, 48, 41]⟩, .int .i64 7, .slice (some ⟨g3, 0, none⟩) 0 cap3, .int .i64 1] 146), (g3, .cells ⟨.int .u8 3 :: .int .u8 3 :: rest3⟩ 152)] [] 5 [] 0 (fun φ20 => [(6, .bool true), (5, .int .u8 3), (20, .bool true), (19, .int .u8 3), (16, .tuple #[.int .u8 3, .bool true])]) (fun φ20 => [((φ2 0), .cells #[.string ⟨#[40, 49, 44, 50, 44, 48, 41]⟩, .int .i64 7, .slice (some ⟨g3, 0, none⟩) 0 cap3, .int .i64 1] 146), (g3, .cells ⟨.int .u8 3 :: .int .u8 3 :: rest3⟩ 152)]) (fun φ20 => []) s trivial (fun φ20 => by kernel_rfl) ?_
  intro φ20 w20 s
  refine ops_done (by kernel_rfl) ?_
  refine wp_seq ?_
  refine wp_seq ?_
  refine region_rule ?_
  refine ops_rule (C := []) [((φ2 0), .cells #[.string ⟨#[40, 49, 44, 50, 44, 48, 41]⟩, .int .i64 7, .slice (some ⟨g3, 0, none⟩) 0 cap3, .int .i64 1] 146), (g3, .cells ⟨.int .u8 3 :: .int .u8 3 :: rest3⟩ 152)] [] 2 [] 0 (fun φ21 => [(22, .bool false), (21, .bool true)]) (fun φ21 => [((φ2 0), .cells #[.string ⟨#[40, 49, 44, 50, 44, 48, 41]⟩, .int .i64 7, .slice (some ⟨g3, 0, none⟩) 0 cap3, .int .i64 1] 146), (g3, .cells ⟨.int .u8 3 :: .int .u8 3 :: rest3⟩ 152)]) (fun φ21 => []) s trivial (fun φ21 => by kernel_rfl) ?_
  intro φ21 w21 s
  refine ops_done (by kernel_rfl) ?_
  refine cond_false_rule (b := false) (by kernel_rfl) rfl ?_
  refine wp_skip ?_
  refine wp_seq ?_
  refine region_rule ?_
  refine ops_rule (C := []) [((φ2 0), .cells #[.string ⟨#[40, 49, 44, 50, 44, 48, 41]⟩, .int .i64 7, .slice (some ⟨g3, 0, none⟩) 0 cap3, .int .i64 1] 146), (g3, .cells ⟨.int .u8 3 :: .int .u8 3 :: rest3⟩ 152)] [] 5 [.o 0] 0 (fun φ22 => [(7, .int .i64 (-1)), (26, .int .i64 (-1)), (25, .int .i64 0), (24, .slice (some ⟨g3, 0, none⟩) 0 cap3), (23, .pointer (some ⟨(φ2 0), 2, none⟩))]) (fun φ22 => [((φ2 0), .cells #[.string ⟨#[40, 49, 44, 50, 44, 48, 41]⟩, .int .i64 7, .slice (some ⟨g3, 0, none⟩) 0 cap3, .int .i64 1] 146), (g3, .cells ⟨.int .u8 3 :: .int .u8 3 :: rest3⟩ 152)]) (fun φ22 => [(φ2 0)]) s trivial (fun φ22 => by kernel_rfl) ?_
  intro φ22 w22 s
  refine ops_done (by kernel_rfl) ?_
  refine wp_seq ?_
  refine wp_seq ?_
  refine region_rule ?_
  refine ops_rule (C := []) [((φ2 0), .cells #[.string ⟨#[40, 49, 44, 50, 44, 48, 41]⟩, .int .i64 7, .slice (some ⟨g3, 0, none⟩) 0 cap3, .int .i64 1] 146), (g3, .cells ⟨.int .u8 3 :: .int .u8 3 :: rest3⟩ 152)] [] 2 [] 0 (fun φ23 => [(28, .bool true), (27, .int .i64 (-1))]) (fun φ23 => [((φ2 0), .cells #[.string ⟨#[40, 49, 44, 50, 44, 48, 41]⟩, .int .i64 7, .slice (some ⟨g3, 0, none⟩) 0 cap3, .int .i64 1] 146), (g3, .cells ⟨.int .u8 3 :: .int .u8 3 :: rest3⟩ 152)]) (fun φ23 => []) s trivial (fun φ23 => by kernel_rfl) ?_
  intro φ23 w23 s
  refine ops_done (by kernel_rfl) ?_
  refine cond_true_rule (b := true) (by kernel_rfl) rfl ?_
  refine wp_seq ?_
  refine draw_rule (C := []) ⟨(fun φ24 xs24 => [.look 0 [] [], .look 0 [.o 0] [(φ2 0)], .look 0 [] [], .look 0 [.o 0] [(φ2 0)], .look 0 [] [], .look 0 [] [], .look 0 [] [], .look 0 [] [], .look 0 [] []]), (fun φ24 xs24 => [.pointer (some ⟨(φ2 0), 3, none⟩), .int .i64 1, .pointer (some ⟨(φ2 0), 1, none⟩), .int .i64 7, .string ⟨#[40, 49, 44, 50, 44, 48, 41]⟩, .int .i64 7, .bool true, .int .i64 1, .bool true]), (fun φ24 xs24 => [[((φ2 0), .cells #[.string ⟨#[40, 49, 44, 50, 44, 48, 41]⟩, .int .i64 7, .slice (some ⟨g3, 0, none⟩) 0 cap3, .int .i64 1] 146), (g3, .cells ⟨.int .u8 3 :: .int .u8 3 :: rest3⟩ 152)]]), (fun φ24 xs24 => [[default, default, default, default, default, default, default, default, default]]), [], [1, 1, 1, 1, 1, 1, 1, 1, 1]⟩ (fun j => ([MP.any, MP.any, MP.any, MP.any, MP.any, MP.any, MP.any, MP.any, MP.any] : List MP).getD j MP.any) [] [] [] (fun φ24 xs24 => []) (fun φ24 xs24 => [(29, .pointer (some ⟨(φ2 0), 3, none⟩)), (30, .int .i64 1), (31, .pointer (some ⟨(φ2 0), 1, none⟩)), (32, .int .i64 7), (33, .string ⟨#[40, 49, 44, 50, 44, 48, 41]⟩), (34, .int .i64 7), (35, .bool true), (2, .int .i64 1), (3, .bool true)]) (fun φ24 xs24 => [((φ2 0), .cells #[.string ⟨#[40, 49, 44, 50, 44, 48, 41]⟩, .int .i64 7, .slice (some ⟨g3, 0, none⟩) 0 cap3, .int .i64 1] 146), (g3, .cells ⟨.int .u8 3 :: .int .u8 3 :: rest3⟩ 152)]) s trivial (by kernel_rfl) (by kernel_rfl) (fun _ _ => by kernel_rfl) (fun _ _ => by kernel_rfl) ⟨fun _ _ => by kernel_rfl, fun _ _ => by kernel_rfl, fun _ _ => by kernel_rfl, fun _ _ => by kernel_rfl⟩ (fun _ _ _ => by kernel_rfl) (fun _ _ => by kernel_rfl) (fun _ _ => by kernel_rfl) (fun _ _ => by kernel_rfl) (fun _ _ => by kernel_rfl) (fun _ _ => by kernel_rfl) trivial trivial (by kernel_rfl) trivial ?k24
  case k24 =>
    rintro φ24 xs24 I24 w24 le24 s 
    refine wp_ret ?_
    refine ret_rule (C := []) [((φ2 0), .cells #[.string ⟨#[40, 49, 44, 50, 44, 48, 41]⟩, .int .i64 7, .slice (some ⟨g3, 0, none⟩) 0 cap3, .int .i64 1] 146), (g3, .cells ⟨.int .u8 3 :: .int .u8 3 :: rest3⟩ 152)] [] (.tuple #[.int .i64 1, .bool true]) [] [] s trivial (by kernel_rfl) ?_
    exact ⟨_, _, _, rfl, s, rfl⟩

set_option maxHeartbeats 2000000 in
theorem leafA1_c {I : IM} {b : Nat} : FunM Tryd.prog 104 #[.pointer (some ⟨b, 0, none⟩)] I [(b, .cells #[.string ⟨#[40, 48, 44, 48, 44, 52, 41]⟩, .int .i64 0, .slice none 0 0, .int .i64 0] 146)] (fun v J H' => ∃ (b' : OB) (F' : List OB), H' = b' :: F' ∧ b'.1 = b ∧ ∃ (g cap : Nat) (rest : List Value), v = .tuple #[.int .u8 1, .bool true] ∧ b' = (b, .cells #[.string ⟨#[40, 48, 44, 48, 44, 52, 41]⟩, .int .i64 4, .slice (some ⟨g, 0, none⟩) 1 cap, .int .i64 1] 146) ∧ F' = [(g, .cells ⟨.int .u8 2 :: .int .u8 0 :: rest⟩ 152)]) := by
  refine enterM_rule 55 [(0, .pointer (some ⟨b, 0, none⟩))] Tryd.func104 rfl (by kernel_rfl) ?_
  intro w s
  refine wp_seq ?_
  refine region_rule ?_
  refine ops_rule (C := []) [(b, .cells #[.string ⟨#[40, 48, 44, 48, 44, 52, 41]⟩, .int .i64 0, .slice none 0 0, .int .i64 0] 146)] [] 2 [] 0 (fun φ1 => [(3, .bool false), (2, .int .u8 0)]) (fun φ1 => [(b, .cells #[.string ⟨#[40, 48, 44, 48, 44, 52, 41]⟩, .int .i64 0, .slice none 0 0, .int .i64 0] 146)]) (fun φ1 => []) s trivial (fun φ1 => by kernel_rfl) ?_
  intro φ1 w1 s
  refine ops_done (by kernel_rfl) ?_
  refine wp_seq ?_
  refine wp_block ?_
  refine Go.wp_loop_rounds 3 ?_
  refine rounds_step (n := 2) ?_
  refine wp_seq ?_
  refine wp_seq ?_
  refine region_rule ?_
  refine ops_rule (C := []) [(b, .cells #[.string ⟨#[40, 48, 44, 48, 44, 52, 41]⟩, .int .i64 0, .slice none 0 0, .int .i64 0] 146)] [] 1 [] 0 (fun φ2 => [(8, .pointer (some ⟨b, 0, none⟩))]) (fun φ2 => [(b, .cells #[.string ⟨#[40, 48, 44, 48, 44, 52, 41]⟩, .int .i64 0, .slice none 0 0, .int .i64 0] 146)]) (fun φ2 => []) s trivial (fun φ2 => by kernel_rfl) ?_
  intro φ2 w2 s
  refine callB_rule (b := (b, .cells #[.string ⟨#[40, 48, 44, 48, 44, 52, 41]⟩, .int .i64 0, .slice none 0 0, .int .i64 0] 146)) (H := [(b, .cells #[.string ⟨#[40, 48, 44, 48, 44, 52, 41]⟩, .int .i64 0, .slice none 0 0, .int .i64 0] 146)]) (F := []) (Hr := []) (some 9) 0 s (by kernel_rfl) (by kernel_rfl) (take_k (ov := .slice none 0 0) (dv := .int .i64 0) (b := b) (p := 0) (c := 40) (ss := [40, 48, 44, 48, 44, 52, 41]) (r := true) (by decide) (by decide) (by kernel_rfl)) (by kernel_rfl) ?_
  rintro v3 I3 w3 b3 le3 - h3 s
  obtain ⟨rfl, rfl⟩ := h3
  refine ops_done (by kernel_rfl) ?_
  refine cond_true_rule (b := true) (by kernel_rfl) rfl ?_
  refine wp_skip ?_
  refine wp_block ?_
  refine wp_seq ?_
  refine region_rule ?_
  refine ops_rule (C := []) [(b, .cells #[.string ⟨#[40, 48, 44, 48, 44, 52, 41]⟩, .int .i64 1, .slice none 0 0, .int .i64 0] 146)] [] 1 [] 0 (fun φ4 => [(11, .pointer (some ⟨b, 0, none⟩))]) (fun φ4 => [(b, .cells #[.string ⟨#[40, 48, 44, 48, 44, 52, 41]⟩, .int .i64 1, .slice none 0 0, .int .i64 0] 146)]) (fun φ4 => []) s trivial (fun φ4 => by kernel_rfl) ?_
  intro φ4 w4 s
  refine callB_rule (b := (b, .cells #[.string ⟨#[40, 48, 44, 48, 44, 52, 41]⟩, .int .i64 1, .slice none 0 0, .int .i64 0] 146)) (H := [(b, .cells #[.string ⟨#[40, 48, 44, 48, 44, 52, 41]⟩, .int .i64 1, .slice none 0 0, .int .i64 0] 146)]) (F := []) (Hr := []) (some 12) 0 s (by kernel_rfl) (by kernel_rfl) (num119_c (ov := .slice none 0 0) (dv := .int .i64 0) (b := b) (p := 1) (n := 0) (k := 1) (ok := true) (ss := [40, 48, 44, 48, 44, 52, 41]) (by decide) (by decide) (by kernel_rfl) (by decide)) (by kernel_rfl) ?_
  rintro v5 I5 w5 b5 le5 - h5 s
  obtain ⟨rfl, rfl⟩ := h5
  refine ops_rule (C := []) [(b, .cells #[.string ⟨#[40, 48, 44, 48, 44, 52, 41]⟩, .int .i64 2, .slice none 0 0, .int .i64 0] 146)] [] 5 [] 0 (fun φ6 => [(5, .bool true), (4, .int .u64 0), (14, .bool true), (13, .int .u64 0), (10, .tuple #[.int .u64 0, .bool true])]) (fun φ6 => [(b, .cells #[.string ⟨#[40, 48, 44, 48, 44, 52, 41]⟩, .int .i64 2, .slice none 0 0, .int .i64 0] 146)]) (fun φ6 => []) s trivial (fun φ6 => by kernel_rfl) ?_
  intro φ6 w6 s
  refine ops_done (by kernel_rfl) ?_
  refine wp_seq ?_
  refine wp_seq ?_
  refine region_rule ?_
  refine ops_rule (C := []) [(b, .cells #[.string ⟨#[40, 48, 44, 48, 44, 52, 41]⟩, .int .i64 2, .slice none 0 0, .int .i64 0] 146)] [] 4 [] 0 (fun φ7 => [(18, .pointer (some ⟨b, 0, none⟩)), (17, .bool false), (16, .bool false), (15, .bool true)]) (fun φ7 => [(b, .cells #[.string ⟨#[40, 48, 44, 48, 44, 52, 41]⟩, .int .i64 2, .slice none 0 0, .int .i64 0] 146)]) (fun φ7 => []) s trivial (fun φ7 => by kernel_rfl) ?_
  intro φ7 w7 s
  refine callB_rule (b := (b, .cells #[.string ⟨#[40, 48, 44, 48, 44, 52, 41]⟩, .int .i64 2, .slice none 0 0, .int .i64 0] 146)) (H := [(b, .cells #[.string ⟨#[40, 48, 44, 48, 44, 52, 41]⟩, .int .i64 2, .slice none 0 0, .int .i64 0] 146)]) (F := []) (Hr := []) (some 19) 0 s (by kernel_rfl) (by kernel_rfl) (take_k (ov := .slice none 0 0) (dv := .int .i64 0) (b := b) (p := 2) (c := 44) (ss := [40, 48, 44, 48, 44, 52, 41]) (r := true) (by decide) (by decide) (by kernel_rfl)) (by kernel_rfl) ?_
  rintro v8 I8 w8 b8 le8 - h8 s
  obtain ⟨rfl, rfl⟩ := h8
  refine ops_rule (C := []) [(b, .cells #[.string ⟨#[40, 48, 44, 48, 44, 52, 41]⟩, .int .i64 3, .slice none 0 0, .int .i64 0] 146)] [] 2 [] 0 (fun φ9 => [(21, .bool false), (20, .bool false)]) (fun φ9 => [(b, .cells #[.string ⟨#[40, 48, 44, 48, 44, 52, 41]⟩, .int .i64 3, .slice none 0 0, .int .i64 0] 146)]) (fun φ9 => []) s trivial (fun φ9 => by kernel_rfl) ?_
  intro φ9 w9 s
  refine ops_done (by kernel_rfl) ?_
  refine cond_false_rule (b := false) (by kernel_rfl) rfl ?_
  refine wp_skip ?_
  refine wp_seq ?_
  refine drawF_rule (C := []) ⟨(fun φ10 xs10 => [.look 0 [] [], .look 0 [] [], .look 0 [] [], .look 0 [] [], .look 0 [.o 0] [b], .look 0 [] [], .call 120 #[.int .u64 0], .look 0 [] [], .new, .row 0 (Builtin.append_ #[144, 144] 144 #[.slice none 0 0, .slice (some ⟨(φ10 8), 0, none⟩) 1 1]), .look 0 [] [], .look 0 [] [], .store 0 [.o 0] [b]]), (fun φ10 xs10 => [.pointer (some ⟨b, 0, none⟩), .pointer (some ⟨b, 0, none⟩), .pointer (some ⟨b, 0, none⟩), .pointer (some ⟨b, 2, none⟩), .slice none 0 0, .int .u64 0, .int .u8 2, .agg #[.int .u8 2, .int .u8 0], .slice (some ⟨(φ10 8), 0, none⟩) 1 1, .slice (some ⟨(xs10 9).n 0, 0, none⟩) 1 ((xs10 9).n 1), .pointer (some ⟨b, 0, none⟩), .pointer (some ⟨b, 2, none⟩), undef]), (fun φ10 xs10 => [[(b, .cells #[.string ⟨#[40, 48, 44, 48, 44, 52, 41]⟩, .int .i64 3, .slice none 0 0, .int .i64 0] 146)], [(b, .cells #[.string ⟨#[40, 48, 44, 48, 44, 52, 41]⟩, .int .i64 3, .slice (some ⟨(xs10 9).n 0, 0, none⟩) 1 ((xs10 9).n 1), .int .i64 0] 146)]]), (fun φ10 xs10 => [[default, default, default, default, default, default, default, default, .cells #[.int .u8 2, .int .u8 0] 152, default, default, default, default], [default, default, default, default, default, default, default, default, .cells #[.int .u8 2, .int .u8 0] 152, default, default, default, default]]), [12], [1, 1, 1, 1, 1, 1, 3, 1, 2, 7, 1, 1, 4]⟩ (fun j => ([MP.any, MP.any, MP.any, MP.any, MP.any, MP.any, MP.any, MP.any, MP.any, MP.any, MP.any, MP.any, MP.any] : List MP).getD j MP.any) 9 [] (fun x F => RowH 152 2 (.slice (some ⟨x.n 0, 0, none⟩) 1 (x.n 1)) 1 [.int .u8 2, .int .u8 0] F) [6] [] [] 0 (fun φ10 xs10 => [(b, .cells #[.string ⟨#[40, 48, 44, 48, 44, 52, 41]⟩, .int .i64 3, .slice none 0 0, .int .i64 0] 146), ((φ10 8), .cells #[.int .u8 2, .int .u8 0] 152)]) (fun φ10 xs10 => (Builtin.append_ #[144, 144] 144 #[.slice none 0 0, .slice (some ⟨(φ10 8), 0, none⟩) 1 1] : Sem Value)) (fun φ10 xs10 => [[none, none, none, none, none, none, none, none, none, none, none, none, none]]) (fun φ10 xs10 => [(22, .pointer (some ⟨b, 0, none⟩)), (23, .pointer (some ⟨b, 0, none⟩)), (24, .pointer (some ⟨b, 0, none⟩)), (25, .pointer (some ⟨b, 2, none⟩)), (26, .slice none 0 0), (27, .int .u64 0), (28, .int .u8 2), (29, .agg #[.int .u8 2, .int .u8 0]), (30, .slice (some ⟨(φ10 8), 0, none⟩) 1 1), (31, .slice (some ⟨(xs10 9).n 0, 0, none⟩) 1 ((xs10 9).n 1)), (32, .pointer (some ⟨b, 0, none⟩)), (33, .pointer (some ⟨b, 2, none⟩))]) (fun φ10 xs10 => [(b, .cells #[.string ⟨#[40, 48, 44, 48, 44, 52, 41]⟩, .int .i64 3, .slice (some ⟨(xs10 9).n 0, 0, none⟩) 1 ((xs10 9).n 1), .int .i64 0] 146), ((φ10 8), .cells #[.int .u8 2, .int .u8 0] 152)]) (by decide) s trivial (by kernel_rfl) (by kernel_rfl) (fun _ _ => by kernel_rfl) (fun _ _ => by kernel_rfl) ⟨fun _ _ => by kernel_rfl, fun _ _ => by kernel_rfl, fun _ _ => by kernel_rfl, fun _ _ => by kernel_rfl⟩ (fun _ _ _ => by kernel_rfl) (fun _ _ => by kernel_rfl) (fun _ _ => by kernel_rfl) (fun _ _ => by kernel_rfl) (fun _ _ => by kernel_rfl) (fun _ _ => by kernel_rfl) trivial trivial (by kernel_rfl) (fun _ _ => by kernel_rfl) (fun _ _ => by kernel_rfl) ?row10 ⟨?c10_6, trivial⟩ ?k10
  case c10_6 =>
    refine kcast (A := ∀ (φ10 : Nat → Nat) (xs10 : Xs) (J6_10 : IM), I8.Le J6_10 → Fun Tryd.prog 120 #[.int .u64 0] J6_10 (fun v J' => ∃ x : UX, v = .int .u8 2 ∧ (True))) (by kernel_rfl) ?_
    intro φ10 xs10 J6_10 leJ
    exact Fun.mono (nodeShape0_c) (fun v J' _ h => ⟨UX.d, h, trivial⟩)
  case row10 =>
    refine kcast (A := ∀ (φ10 : Nat → Nat) (xs10 : Xs) (J : IM) (wz : World) (H2 : List OB), I8.Le J → (True) → (St w I [b] J wz (([(b, .cells #[.string ⟨#[40, 48, 44, 48, 44, 52, 41]⟩, .int .i64 3, .slice none 0 0, .int .i64 0] 146), ((φ10 8), .cells #[.int .u8 2, .int .u8 0] 152)] ++ H2) ++ [])) → ∃ (x : UX) (J' : IM) (w' : World) (F' : List OB), ((Builtin.append_ #[144, 144] 144 #[.slice none 0 0, .slice (some ⟨(φ10 8), 0, none⟩) 1 1]) : Sem Value).run Tryd.prog wz = .ok (.slice (some ⟨x.n 0, 0, none⟩) 1 (x.n 1)) w' ∧ J.Le J' ∧ St w I [b] J' w' (([(b, .cells #[.string ⟨#[40, 48, 44, 48, 44, 52, 41]⟩, .int .i64 3, .slice none 0 0, .int .i64 0] 146), ((φ10 8), .cells #[.int .u8 2, .int .u8 0] 152)] ++ H2) ++ F') ∧ RowH 152 2 (.slice (some ⟨x.n 0, 0, none⟩) 1 (x.n 1)) 1 [.int .u8 2, .int .u8 0] F') (by kernel_rfl) ?_
    intro φ10 xs10 J wz H2 leJ 
    rintro _
    intro s9
    obtain ⟨g9, cap9, w9, F9, hr9, s9, row9⟩ := append_rowS (H := [(b, .cells #[.string ⟨#[40, 48, 44, 48, 44, 52, 41]⟩, .int .i64 3, .slice none 0 0, .int .i64 0] 146), ((φ10 8), .cells #[.int .u8 2, .int .u8 0] 152)] ++ H2) s9 144 144 144 152 Tryd.t152 (.agg #[.int .u8 0, .int .u8 0]) 2 2 Tryd.underlying144 (by kernel_rfl) (by kernel_rfl) (by kernel_rfl) (by kernel_rfl) (by kernel_rfl) (by decide) (RowH.nil 152 2) (src_own s9 1 (φ10 8) #[.int .u8 2, .int .u8 0] 152 144 152 1 1 2 [.int .u8 2, .int .u8 0] (by kernel_rfl) Tryd.underlying144 (by kernel_rfl) (by kernel_rfl) (by kernel_rfl)) (by simp only [maxLen]; omega) (by omega) (by omega)
    exact ⟨{ UX.d with n := fun j => cond (Nat.beq j 0) g9 cap9 }, J, w9, F9, hr9, IM.Le.refl J, s9, row9⟩
  case k10 =>
    rintro φ10 xs10 I10 w10 F10 le10 s hrw10 _
    refine drawK_rule (C := []) ⟨(fun φ11 xs11 => [.look 0 [] [], .look 0 [] [], .look 0 [] [], .look 0 [] [], .look 0 [.o 0] [b], .look 0 [] [], .look 0 [] [], .look 0 [] [], .look 0 [.o 0] [b], .look 0 [] [], .look 0 [] [], .look 0 [] [], .look 0 [] [], .store 0 [.o 0] [b]]), (fun φ11 xs11 => [.pointer (some ⟨b, 0, none⟩), .pointer (some ⟨b, 0, none⟩), .pointer (some ⟨b, 0, none⟩), .pointer (some ⟨b, 3, none⟩), .int .i64 0, .pointer (some ⟨b, 0, none⟩), .pointer (some ⟨b, 0, none⟩), .pointer (some ⟨b, 2, none⟩), .slice (some ⟨(xs10 9).n 0, 0, none⟩) 1 ((xs10 9).n 1), .int .i64 1, .int .i64 1, .pointer (some ⟨b, 0, none⟩), .pointer (some ⟨b, 3, none⟩), undef]), (fun φ11 xs11 => [[(b, .cells #[.string ⟨#[40, 48, 44, 48, 44, 52, 41]⟩, .int .i64 3, .slice (some ⟨(xs10 9).n 0, 0, none⟩) 1 ((xs10 9).n 1), .int .i64 0] 146), ((φ10 8), .cells #[.int .u8 2, .int .u8 0] 152)], [(b, .cells #[.string ⟨#[40, 48, 44, 48, 44, 52, 41]⟩, .int .i64 3, .slice (some ⟨(xs10 9).n 0, 0, none⟩) 1 ((xs10 9).n 1), .int .i64 1] 146), ((φ10 8), .cells #[.int .u8 2, .int .u8 0] 152)]]), (fun φ11 xs11 => [[default, default, default, default, default, default, default, default, default, default, default, default, default, default], [default, default, default, default, default, default, default, default, default, default, default, default, default, default]]), [13], [1, 1, 1, 1, 1, 1, 1, 1, 1, 1, 1, 1, 1, 4]⟩ (fun j => ([MP.any, MP.any, MP.any, MP.any, MP.any, MP.any, MP.any, MP.any, MP.any, MP.any, MP.any, MP.any, MP.any, MP.any] : List MP).getD j MP.any) F10 [] [] [] (fun φ11 xs11 => [[none, none, none, none, none, none, none, none, none, none, none, none, none, none]]) (fun φ11 xs11 => [(34, .pointer (some ⟨b, 0, none⟩)), (35, .pointer (some ⟨b, 0, none⟩)), (36, .pointer (some ⟨b, 0, none⟩)), (37, .pointer (some ⟨b, 3, none⟩)), (38, .int .i64 0), (39, .pointer (some ⟨b, 0, none⟩)), (40, .pointer (some ⟨b, 0, none⟩)), (41, .pointer (some ⟨b, 2, none⟩)), (42, .slice (some ⟨(xs10 9).n 0, 0, none⟩) 1 ((xs10 9).n 1)), (43, .int .i64 1), (44, .int .i64 1), (45, .pointer (some ⟨b, 0, none⟩)), (46, .pointer (some ⟨b, 3, none⟩))]) (fun φ11 xs11 => [(b, .cells #[.string ⟨#[40, 48, 44, 48, 44, 52, 41]⟩, .int .i64 3, .slice (some ⟨(xs10 9).n 0, 0, none⟩) 1 ((xs10 9).n 1), .int .i64 1] 146), ((φ10 8), .cells #[.int .u8 2, .int .u8 0] 152)]) s trivial (by kernel_rfl) (by kernel_rfl) (fun _ _ => by kernel_rfl) (fun _ _ => by kernel_rfl) ⟨fun _ _ => by kernel_rfl, fun _ _ => by kernel_rfl, fun _ _ => by kernel_rfl, fun _ _ => by kernel_rfl⟩ (fun _ _ _ => by kernel_rfl) (fun _ _ => by kernel_rfl) (fun _ _ => by kernel_rfl) (fun _ _ => by kernel_rfl) (fun _ _ => by kernel_rfl) (fun _ _ => by kernel_rfl) trivial trivial (by kernel_rfl) trivial ?k11
    case k11 =>
      rintro φ11 xs11 I11 w11 le11 s 
      refine rounds_step (n := 1) ?_
      refine wp_seq ?_
      refine wp_seq ?_
      refine region_rule ?_
      refine ops_rule (C := []) [(b, .cells #[.string ⟨#[40, 48, 44, 48, 44, 52, 41]⟩, .int .i64 3, .slice (some ⟨(xs10 9).n 0, 0, none⟩) 1 ((xs10 9).n 1), .int .i64 1] 146), ((φ10 8), .cells #[.int .u8 2, .int .u8 0] 152)] F10 1 [] 0 (fun φ12 => [(8, .pointer (some ⟨b, 0, none⟩))]) (fun φ12 => [(b, .cells #[.string ⟨#[40, 48, 44, 48, 44, 52, 41]⟩, .int .i64 3, .slice (some ⟨(xs10 9).n 0, 0, none⟩) 1 ((xs10 9).n 1), .int .i64 1] 146), ((φ10 8), .cells #[.int .u8 2, .int .u8 0] 152)]) (fun φ12 => []) s trivial (fun φ12 => by kernel_rfl) ?_
      intro φ12 w12 s
      refine callB_rule (b := (b, .cells #[.string ⟨#[40, 48, 44, 48, 44, 52, 41]⟩, .int .i64 3, .slice (some ⟨(xs10 9).n 0, 0, none⟩) 1 ((xs10 9).n 1), .int .i64 1] 146)) (H := [(b, .cells #[.string ⟨#[40, 48, 44, 48, 44, 52, 41]⟩, .int .i64 3, .slice (some ⟨(xs10 9).n 0, 0, none⟩) 1 ((xs10 9).n 1), .int .i64 1] 146), ((φ10 8), .cells #[.int .u8 2, .int .u8 0] 152)]) (F := F10) (Hr := [((φ10 8), .cells #[.int .u8 2, .int .u8 0] 152)]) (some 9) 0 s (by kernel_rfl) (by kernel_rfl) (take_k (ov := .slice (some ⟨(xs10 9).n 0, 0, none⟩) 1 ((xs10 9).n 1)) (dv := .int .i64 1) (b := b) (p := 3) (c := 40) (ss := [40, 48, 44, 48, 44, 52, 41]) (r := false) (by decide) (by decide) (by kernel_rfl)) (by kernel_rfl) ?_
      rintro v13 I13 w13 b13 le13 - h13 s
      obtain ⟨rfl, rfl⟩ := h13
      refine ops_done (by kernel_rfl) ?_
      refine cond_false_rule (b := false) (by kernel_rfl) rfl ?_
      refine wp_exit ?_
      refine wp_seq ?_
      refine region_rule ?_
      refine ops_rule (C := []) [(b, .cells #[.string ⟨#[40, 48, 44, 48, 44, 52, 41]⟩, .int .i64 3, .slice (some ⟨(xs10 9).n 0, 0, none⟩) 1 ((xs10 9).n 1), .int .i64 1] 146), ((φ10 8), .cells #[.int .u8 2, .int .u8 0] 152)] F10 1 [] 0 (fun φ14 => [(48, .pointer (some ⟨b, 0, none⟩))]) (fun φ14 => [(b, .cells #[.string ⟨#[40, 48, 44, 48, 44, 52, 41]⟩, .int .i64 3, .slice (some ⟨(xs10 9).n 0, 0, none⟩) 1 ((xs10 9).n 1), .int .i64 1] 146), ((φ10 8), .cells #[.int .u8 2, .int .u8 0] 152)]) (fun φ14 => []) s trivial (fun φ14 => by kernel_rfl) ?_
      intro φ14 w14 s
      refine callB_rule (b := (b, .cells #[.string ⟨#[40, 48, 44, 48, 44, 52, 41]⟩, .int .i64 3, .slice (some ⟨(xs10 9).n 0, 0, none⟩) 1 ((xs10 9).n 1), .int .i64 1] 146)) (H := [(b, .cells #[.string ⟨#[40, 48, 44, 48, 44, 52, 41]⟩, .int .i64 3, .slice (some ⟨(xs10 9).n 0, 0, none⟩) 1 ((xs10 9).n 1), .int .i64 1] 146), ((φ10 8), .cells #[.int .u8 2, .int .u8 0] 152)]) (F := F10) (Hr := [((φ10 8), .cells #[.int .u8 2, .int .u8 0] 152)]) (some 49) 0 s (by kernel_rfl) (by kernel_rfl) (num119_c (ov := .slice (some ⟨(xs10 9).n 0, 0, none⟩) 1 ((xs10 9).n 1)) (dv := .int .i64 1) (b := b) (p := 3) (n := 0) (k := 1) (ok := true) (ss := [40, 48, 44, 48, 44, 52, 41]) (by decide) (by decide) (by kernel_rfl) (by decide)) (by kernel_rfl) ?_
      rintro v15 I15 w15 b15 le15 - h15 s
      obtain ⟨rfl, rfl⟩ := h15
      refine ops_rule (C := []) [(b, .cells #[.string ⟨#[40, 48, 44, 48, 44, 52, 41]⟩, .int .i64 4, .slice (some ⟨(xs10 9).n 0, 0, none⟩) 1 ((xs10 9).n 1), .int .i64 1] 146), ((φ10 8), .cells #[.int .u8 2, .int .u8 0] 152)] F10 5 [] 0 (fun φ16 => [(7, .bool true), (6, .int .u64 0), (51, .bool true), (50, .int .u64 0), (47, .tuple #[.int .u64 0, .bool true])]) (fun φ16 => [(b, .cells #[.string ⟨#[40, 48, 44, 48, 44, 52, 41]⟩, .int .i64 4, .slice (some ⟨(xs10 9).n 0, 0, none⟩) 1 ((xs10 9).n 1), .int .i64 1] 146), ((φ10 8), .cells #[.int .u8 2, .int .u8 0] 152)]) (fun φ16 => []) s trivial (fun φ16 => by kernel_rfl) ?_
      intro φ16 w16 s
      refine ops_done (by kernel_rfl) ?_
      refine wp_seq ?_
      refine region_rule ?_
      refine ops_rule (C := []) [(b, .cells #[.string ⟨#[40, 48, 44, 48, 44, 52, 41]⟩, .int .i64 4, .slice (some ⟨(xs10 9).n 0, 0, none⟩) 1 ((xs10 9).n 1), .int .i64 1] 146), ((φ10 8), .cells #[.int .u8 2, .int .u8 0] 152)] F10 1 [] 0 (fun φ17 => [(52, .int .u64 0)]) (fun φ17 => [(b, .cells #[.string ⟨#[40, 48, 44, 48, 44, 52, 41]⟩, .int .i64 4, .slice (some ⟨(xs10 9).n 0, 0, none⟩) 1 ((xs10 9).n 1), .int .i64 1] 146), ((φ10 8), .cells #[.int .u8 2, .int .u8 0] 152)]) (fun φ17 => []) s trivial (fun φ17 => by kernel_rfl) ?_
      intro φ17 w17 s
      refine call_rule (some 53) s (leafShape0_c) (by kernel_rfl) ?_
      intro v18 I18 w18 le18 h18 s
      obtain rfl := h18
      refine ops_rule (C := []) [(b, .cells #[.string ⟨#[40, 48, 44, 48, 44, 52, 41]⟩, .int .i64 4, .slice (some ⟨(xs10 9).n 0, 0, none⟩) 1 ((xs10 9).n 1), .int .i64 1] 146), ((φ10 8), .cells #[.int .u8 2, .int .u8 0] 152)] F10 3 [] 0 (fun φ19 => [(3, .bool true), (2, .int .u8 1), (54, .bool true)]) (fun φ19 => [(b, .cells #[.string ⟨#[40, 48, 44, 48, 44, 52, 41]⟩, .int .i64 4, .slice (some ⟨(xs10 9).n 0, 0, none⟩) 1 ((xs10 9).n 1), .int .i64 1] 146), ((φ10 8), .cells #[.int .u8 2, .int .u8 0] 152)]) (fun φ19 => []) s trivial (fun φ19 => by kernel_rfl) ?_
      intro φ19 w19 s
      refine ops_done (by kernel_rfl) ?_
      refine wp_ret ?_
      refine ret_rule (C := []) [(b, .cells #[.string ⟨#[40, 48, 44, 48, 44, 52, 41]⟩, .int .i64 4, .slice (some ⟨(xs10 9).n 0, 0, none⟩) 1 ((xs10 9).n 1), .int .i64 1] 146), ((φ10 8), .cells #[.int .u8 2, .int .u8 0] 152)] F10 (.tuple #[.int .u8 1, .bool true]) [] [] s trivial (by kernel_rfl) ?_
      replace s := s.drop (List.Sublist.append (List.Sublist.cons₂ _ (List.Sublist.cons _ List.Sublist.slnil)) (List.Sublist.refl F10))
      obtain ⟨rest, hF9⟩ := row_open hrw10
      subst hF9
      exact ⟨_, _, _, rfl, s, ⟨_, _, rfl, rfl, _, _, rest, rfl, rfl, rfl⟩⟩

set_option maxHeartbeats 2000000 in
theorem leafB1_c {I : IM} {b : Nat} {ov dv : Value} : FunM Tryd.prog 104 #[.pointer (some ⟨b, 0, none⟩)] I [(b, .cells #[.string ⟨#[40, 48, 44, 48, 44, 52, 41]⟩, .int .i64 5, ov, dv] 146)] (fun v J H' => ∃ b' : OB, H' = [b'] ∧ b'.1 = b ∧ v = .tuple #[.int .u8 3, .bool true] ∧ b' = (b, .cells #[.string ⟨#[40, 48, 44, 48, 44, 52, 41]⟩, .int .i64 6, ov, dv] 146)) := by
  refine enterM_rule 55 [(0, .pointer (some ⟨b, 0, none⟩))] Tryd.func104 rfl (by kernel_rfl) ?_
  intro w s
  refine wp_seq ?_
  refine region_rule ?_
  refine ops_rule (C := []) [(b, .cells #[.string ⟨#[40, 48, 44, 48, 44, 52, 41]⟩, .int .i64 5, ov, dv] 146)] [] 2 [] 0 (fun φ1 => [(3, .bool false), (2, .int .u8 0)]) (fun φ1 => [(b, .cells #[.string ⟨#[40, 48, 44, 48, 44, 52, 41]⟩, .int .i64 5, ov, dv] 146)]) (fun φ1 => []) s trivial (fun φ1 => by kernel_rfl) ?_
  intro φ1 w1 s
  refine ops_done (by kernel_rfl) ?_
  refine wp_seq ?_
  refine wp_block ?_
  refine Go.wp_loop_rounds 2 ?_
  refine rounds_step (n := 1) ?_
  refine wp_seq ?_
  refine wp_seq ?_
  refine region_rule ?_
  refine ops_rule (C := []) [(b, .cells #[.string ⟨#[40, 48, 44, 48, 44, 52, 41]⟩, .int .i64 5, ov, dv] 146)] [] 1 [] 0 (fun φ2 => [(8, .pointer (some ⟨b, 0, none⟩))]) (fun φ2 => [(b, .cells #[.string ⟨#[40, 48, 44, 48, 44, 52, 41]⟩, .int .i64 5, ov, dv] 146)]) (fun φ2 => []) s trivial (fun φ2 => by kernel_rfl) ?_
  intro φ2 w2 s
  refine callB_rule (b := (b, .cells #[.string ⟨#[40, 48, 44, 48, 44, 52, 41]⟩, .int .i64 5, ov, dv] 146)) (H := [(b, .cells #[.string ⟨#[40, 48, 44, 48, 44, 52, 41]⟩, .int .i64 5, ov, dv] 146)]) (F := []) (Hr := []) (some 9) 0 s (by kernel_rfl) (by kernel_rfl) (take_k (ov := ov) (dv := dv) (b := b) (p := 5) (c := 40) (ss := [40, 48, 44, 48, 44, 52, 41]) (r := false) (by decide) (by decide) (by kernel_rfl)) (by kernel_rfl) ?_
  rintro v3 I3 w3 b3 le3 - h3 s
  obtain ⟨rfl, rfl⟩ := h3
  refine ops_done (by kernel_rfl) ?_
  refine cond_false_rule (b := false) (by kernel_rfl) rfl ?_
  refine wp_exit ?_
  refine wp_seq ?_
  refine region_rule ?_
  refine ops_rule (C := []) [(b, .cells #[.string ⟨#[40, 48, 44, 48, 44, 52, 41]⟩, .int .i64 5, ov, dv] 146)] [] 1 [] 0 (fun φ4 => [(48, .pointer (some ⟨b, 0, none⟩))]) (fun φ4 => [(b, .cells #[.string ⟨#[40, 48, 44, 48, 44, 52, 41]⟩, .int .i64 5, ov, dv] 146)]) (fun φ4 => []) s trivial (fun φ4 => by kernel_rfl) ?_
  intro φ4 w4 s
  refine callB_rule (b := (b, .cells #[.string ⟨#[40, 48, 44, 48, 44, 52, 41]⟩, .int .i64 5, ov, dv] 146)) (H := [(b, .cells #[.string ⟨#[40, 48, 44, 48, 44, 52, 41]⟩, .int .i64 5, ov, dv] 146)]) (F := []) (Hr := []) (some 49) 0 s (by kernel_rfl) (by kernel_rfl) (num119_c (ov := ov) (dv := dv) (b := b) (p := 5) (n := 4) (k := 1) (ok := true) (ss := [40, 48, 44, 48, 44, 52, 41]) (by decide) (by decide) (by kernel_rfl) (by decide)) (by kernel_rfl) ?_
  rintro v5 I5 w5 b5 le5 - h5 s
  obtain ⟨rfl, rfl⟩ := h5
  refine ops_rule (C := []) [(b, .cells #[.string ⟨#[40, 48, 44, 48, 44, 52, 41]⟩, .int .i64 6, ov, dv] 146)] [] 5 [] 0 (fun φ6 => [(7, .bool true), (6, .int .u64 4), (51, .bool true), (50, .int .u64 4), (47, .tuple #[.int .u64 4, .bool true])]) (fun φ6 => [(b, .cells #[.string ⟨#[40, 48, 44, 48, 44, 52, 41]⟩, .int .i64 6, ov, dv] 146)]) (fun φ6 => []) s trivial (fun φ6 => by kernel_rfl) ?_
  intro φ6 w6 s
  refine ops_done (by kernel_rfl) ?_
  refine wp_seq ?_
  refine region_rule ?_
  refine ops_rule (C := []) [(b, .cells #[.string ⟨#[40, 48, 44, 48, 44, 52, 41]⟩, .int .i64 6, ov, dv] 146)] [] 1 [] 0 (fun φ7 => [(52, .int .u64 4)]) (fun φ7 => [(b, .cells #[.string ⟨#[40, 48, 44, 48, 44, 52, 41]⟩, .int .i64 6, ov, dv] 146)]) (fun φ7 => []) s trivial (fun φ7 => by kernel_rfl) ?_
  intro φ7 w7 s
  refine call_rule (some 53) s (leafShape4_c) (by kernel_rfl) ?_
  intro v8 I8 w8 le8 h8 s
  obtain rfl := h8
  refine ops_rule (C := []) [(b, .cells #[.string ⟨#[40, 48, 44, 48, 44, 52, 41]⟩, .int .i64 6, ov, dv] 146)] [] 3 [] 0 (fun φ9 => [(3, .bool true), (2, .int .u8 3), (54, .bool true)]) (fun φ9 => [(b, .cells #[.string ⟨#[40, 48, 44, 48, 44, 52, 41]⟩, .int .i64 6, ov, dv] 146)]) (fun φ9 => []) s trivial (fun φ9 => by kernel_rfl) ?_
  intro φ9 w9 s
  refine ops_done (by kernel_rfl) ?_
  refine wp_ret ?_
  refine ret_rule (C := []) [(b, .cells #[.string ⟨#[40, 48, 44, 48, 44, 52, 41]⟩, .int .i64 6, ov, dv] 146)] [] (.tuple #[.int .u8 3, .bool true]) [] [] s trivial (by kernel_rfl) ?_
  replace s := s.drop (List.Sublist.append (List.Sublist.cons₂ _ List.Sublist.slnil) (List.Sublist.refl []))
  exact ⟨_, _, _, rfl, s, ⟨_, rfl, rfl, rfl, rfl⟩⟩

set_option maxHeartbeats 2000000 in
theorem closeA1_c {I : IM} {b g cap : Nat} {rest : List Value} : FunM Tryd.prog 105 #[.pointer (some ⟨b, 0, none⟩), .int .u8 1] I [(b, .cells #[.string ⟨#[40, 48, 44, 48, 44, 52, 41]⟩, .int .i64 4, .slice (some ⟨g, 0, none⟩) 1 cap, .int .i64 1] 146), (g, .cells ⟨.int .u8 2 :: .int .u8 0 :: rest⟩ 152)] (fun v J H' => ∃ (b' : OB) (F' : List OB), H' = b' :: F' ∧ b'.1 = b ∧ v = .tuple #[.int .u8 1, .bool true] ∧ b' = (b, .cells #[.string ⟨#[40, 48, 44, 48, 44, 52, 41]⟩, .int .i64 4, .slice (some ⟨g, 0, none⟩) 1 cap, .int .i64 1] 146) ∧ F' = [(g, .cells ⟨.int .u8 2 :: .int .u8 0 :: rest⟩ 152)]) := by
  refine enterM_rule 62 [(0, .pointer (some ⟨b, 0, none⟩)), (1, .int .u8 1)] Tryd.func105 rfl (by kernel_rfl) ?_
  intro w s
  refine wp_seq ?_
  refine region_rule ?_
  refine ops_rule (C := []) [(b, .cells #[.string ⟨#[40, 48, 44, 48, 44, 52, 41]⟩, .int .i64 4, .slice (some ⟨g, 0, none⟩) 1 cap, .int .i64 1] 146), (g, .cells ⟨.int .u8 2 :: .int .u8 0 :: rest⟩ 152)] [] 2 [] 0 (fun φ1 => [(5, .bool false), (4, .int .u8 0)]) (fun φ1 => [(b, .cells #[.string ⟨#[40, 48, 44, 48, 44, 52, 41]⟩, .int .i64 4, .slice (some ⟨g, 0, none⟩) 1 cap, .int .i64 1] 146), (g, .cells ⟨.int .u8 2 :: .int .u8 0 :: rest⟩ 152)]) (fun φ1 => []) s trivial (fun φ1 => by kernel_rfl) ?_
  intro φ1 w1 s
  refine ops_done (by kernel_rfl) ?_
  refine wp_seq ?_
  refine wp_seq ?_
  refine region_rule ?_
  refine ops_rule (C := []) [(b, .cells #[.string ⟨#[40, 48, 44, 48, 44, 52, 41]⟩, .int .i64 4, .slice (some ⟨g, 0, none⟩) 1 cap, .int .i64 1] 146), (g, .cells ⟨.int .u8 2 :: .int .u8 0 :: rest⟩ 152)] [] 7 [.o 0] 0 (fun φ2 => [(6, .int .i64 0), (12, .int .i64 0), (11, .int .i64 1), (10, .slice (some ⟨g, 0, none⟩) 1 cap), (9, .pointer (some ⟨b, 2, none⟩)), (8, .pointer (some ⟨b, 0, none⟩)), (7, .pointer (some ⟨b, 0, none⟩))]) (fun φ2 => [(b, .cells #[.string ⟨#[40, 48, 44, 48, 44, 52, 41]⟩, .int .i64 4, .slice (some ⟨g, 0, none⟩) 1 cap, .int .i64 1] 146), (g, .cells ⟨.int .u8 2 :: .int .u8 0 :: rest⟩ 152)]) (fun φ2 => [b]) s trivial (fun φ2 => by kernel_rfl) ?_
  intro φ2 w2 s
  refine ops_done (by kernel_rfl) ?_
  refine wp_block ?_
  refine Go.wp_loop_rounds 3 ?_
  refine rounds_step (n := 2) ?_
  refine wp_seq ?_
  refine wp_seq ?_
  refine region_rule ?_
  refine ops_rule (C := []) [(b, .cells #[.string ⟨#[40, 48, 44, 48, 44, 52, 41]⟩, .int .i64 4, .slice (some ⟨g, 0, none⟩) 1 cap, .int .i64 1] 146), (g, .cells ⟨.int .u8 2 :: .int .u8 0 :: rest⟩ 152)] [] 13 [.o 0, .o 1] 0 (fun φ3 => [(25, .bool false), (24, .bool false), (23, .int .u8 0), (22, .pointer (some ⟨g, 1, none⟩)), (21, .pointer (some ⟨g, 0, none⟩)), (20, .int .i64 0), (19, .slice (some ⟨g, 0, none⟩) 1 cap), (18, .pointer (some ⟨b, 2, none⟩)), (17, .pointer (some ⟨b, 0, none⟩)), (16, .pointer (some ⟨b, 0, none⟩)), (15, .bool true), (14, .bool true), (13, .int .i64 0)]) (fun φ3 => [(b, .cells #[.string ⟨#[40, 48, 44, 48, 44, 52, 41]⟩, .int .i64 4, .slice (some ⟨g, 0, none⟩) 1 cap, .int .i64 1] 146), (g, .cells ⟨.int .u8 2 :: .int .u8 0 :: rest⟩ 152)]) (fun φ3 => [b, g]) s trivial (fun φ3 => by kernel_rfl) ?_
  intro φ3 w3 s
  refine ops_done (by kernel_rfl) ?_
  refine cond_false_rule (b := false) (by kernel_rfl) rfl ?_
  refine wp_exit ?_
  refine wp_seq ?_
  refine region_rule ?_
  refine ops_rule (C := []) [(b, .cells #[.string ⟨#[40, 48, 44, 48, 44, 52, 41]⟩, .int .i64 4, .slice (some ⟨g, 0, none⟩) 1 cap, .int .i64 1] 146), (g, .cells ⟨.int .u8 2 :: .int .u8 0 :: rest⟩ 152)] [] 3 [] 0 (fun φ4 => [(5, .bool true), (4, .int .u8 1), (61, .int .u8 1)]) (fun φ4 => [(b, .cells #[.string ⟨#[40, 48, 44, 48, 44, 52, 41]⟩, .int .i64 4, .slice (some ⟨g, 0, none⟩) 1 cap, .int .i64 1] 146), (g, .cells ⟨.int .u8 2 :: .int .u8 0 :: rest⟩ 152)]) (fun φ4 => []) s trivial (fun φ4 => by kernel_rfl) ?_
  intro φ4 w4 s
  refine ops_done (by kernel_rfl) ?_
  refine wp_ret ?_
  refine ret_rule (C := []) [(b, .cells #[.string ⟨#[40, 48, 44, 48, 44, 52, 41]⟩, .int .i64 4, .slice (some ⟨g, 0, none⟩) 1 cap, .int .i64 1] 146), (g, .cells ⟨.int .u8 2 :: .int .u8 0 :: rest⟩ 152)] [] (.tuple #[.int .u8 1, .bool true]) [] [] s trivial (by kernel_rfl) ?_
  exact ⟨_, _, _, rfl, s, ⟨_, _, rfl, rfl, rfl, rfl, rfl⟩⟩

set_option maxHeartbeats 2000000 in
theorem closeB1_c {I : IM} {b g cap : Nat} {rest : List Value} : FunM Tryd.prog 105 #[.pointer (some ⟨b, 0, none⟩), .int .u8 3] I [(b, .cells #[.string ⟨#[40, 48, 44, 48, 44, 52, 41]⟩, .int .i64 6, .slice (some ⟨g, 0, none⟩) 1 cap, .int .i64 1] 146), (g, .cells ⟨.int .u8 2 :: .int .u8 1 :: rest⟩ 152)] (fun v J H' => ∃ (b' : OB) (F' : List OB), H' = b' :: F' ∧ b'.1 = b ∧ v = .tuple #[.int .u8 2, .bool true] ∧ b' = (b, .cells #[.string ⟨#[40, 48, 44, 48, 44, 52, 41]⟩, .int .i64 7, .slice (some ⟨g, 0, none⟩) 0 cap, .int .i64 1] 146) ∧ F' = [(g, .cells ⟨.int .u8 2 :: .int .u8 1 :: rest⟩ 152)]) := by
  refine enterM_rule 62 [(0, .pointer (some ⟨b, 0, none⟩)), (1, .int .u8 3)] Tryd.func105 rfl (by kernel_rfl) ?_
  intro w s
  refine wp_seq ?_
  refine region_rule ?_
  refine ops_rule (C := []) [(b, .cells #[.string ⟨#[40, 48, 44, 48, 44, 52, 41]⟩, .int .i64 6, .slice (some ⟨g, 0, none⟩) 1 cap, .int .i64 1] 146), (g, .cells ⟨.int .u8 2 :: .int .u8 1 :: rest⟩ 152)] [] 2 [] 0 (fun φ1 => [(5, .bool false), (4, .int .u8 0)]) (fun φ1 => [(b, .cells #[.string ⟨#[40, 48, 44, 48, 44, 52, 41]⟩, .int .i64 6, .slice (some ⟨g, 0, none⟩) 1 cap, .int .i64 1] 146), (g, .cells ⟨.int .u8 2 :: .int .u8 1 :: rest⟩ 152)]) (fun φ1 => []) s trivial (fun φ1 => by kernel_rfl) ?_
  intro φ1 w1 s
  refine ops_done (by kernel_rfl) ?_
  refine wp_seq ?_
  refine wp_seq ?_
  refine region_rule ?_
  refine ops_rule (C := []) [(b, .cells #[.string ⟨#[40, 48, 44, 48, 44, 52, 41]⟩, .int .i64 6, .slice (some ⟨g, 0, none⟩) 1 cap, .int .i64 1] 146), (g, .cells ⟨.int .u8 2 :: .int .u8 1 :: rest⟩ 152)] [] 7 [.o 0] 0 (fun φ2 => [(6, .int .i64 0), (12, .int .i64 0), (11, .int .i64 1), (10, .slice (some ⟨g, 0, none⟩) 1 cap), (9, .pointer (some ⟨b, 2, none⟩)), (8, .pointer (some ⟨b, 0, none⟩)), (7, .pointer (some ⟨b, 0, none⟩))]) (fun φ2 => [(b, .cells #[.string ⟨#[40, 48, 44, 48, 44, 52, 41]⟩, .int .i64 6, .slice (some ⟨g, 0, none⟩) 1 cap, .int .i64 1] 146), (g, .cells ⟨.int .u8 2 :: .int .u8 1 :: rest⟩ 152)]) (fun φ2 => [b]) s trivial (fun φ2 => by kernel_rfl) ?_
  intro φ2 w2 s
  refine ops_done (by kernel_rfl) ?_
  refine wp_block ?_
  refine Go.wp_loop_rounds 3 ?_
  refine rounds_step (n := 2) ?_
  refine wp_seq ?_
  refine wp_seq ?_
  refine region_rule ?_
  refine ops_rule (C := []) [(b, .cells #[.string ⟨#[40, 48, 44, 48, 44, 52, 41]⟩, .int .i64 6, .slice (some ⟨g, 0, none⟩) 1 cap, .int .i64 1] 146), (g, .cells ⟨.int .u8 2 :: .int .u8 1 :: rest⟩ 152)] [] 13 [.o 0, .o 1] 0 (fun φ3 => [(25, .bool true), (24, .bool true), (23, .int .u8 1), (22, .pointer (some ⟨g, 1, none⟩)), (21, .pointer (some ⟨g, 0, none⟩)), (20, .int .i64 0), (19, .slice (some ⟨g, 0, none⟩) 1 cap), (18, .pointer (some ⟨b, 2, none⟩)), (17, .pointer (some ⟨b, 0, none⟩)), (16, .pointer (some ⟨b, 0, none⟩)), (15, .bool true), (14, .bool true), (13, .int .i64 0)]) (fun φ3 => [(b, .cells #[.string ⟨#[40, 48, 44, 48, 44, 52, 41]⟩, .int .i64 6, .slice (some ⟨g, 0, none⟩) 1 cap, .int .i64 1] 146), (g, .cells ⟨.int .u8 2 :: .int .u8 1 :: rest⟩ 152)]) (fun φ3 => [b, g]) s trivial (fun φ3 => by kernel_rfl) ?_
  intro φ3 w3 s
  refine ops_done (by kernel_rfl) ?_
  refine cond_true_rule (b := true) (by kernel_rfl) rfl ?_
  refine wp_skip ?_
  refine wp_seq ?_
  refine wp_block ?_
  refine wp_seq ?_
  refine wp_seq ?_
  refine region_rule ?_
  refine ops_rule (C := []) [(b, .cells #[.string ⟨#[40, 48, 44, 48, 44, 52, 41]⟩, .int .i64 6, .slice (some ⟨g, 0, none⟩) 1 cap, .int .i64 1] 146), (g, .cells ⟨.int .u8 2 :: .int .u8 1 :: rest⟩ 152)] [] 1 [] 0 (fun φ4 => [(28, .pointer (some ⟨b, 0, none⟩))]) (fun φ4 => [(b, .cells #[.string ⟨#[40, 48, 44, 48, 44, 52, 41]⟩, .int .i64 6, .slice (some ⟨g, 0, none⟩) 1 cap, .int .i64 1] 146), (g, .cells ⟨.int .u8 2 :: .int .u8 1 :: rest⟩ 152)]) (fun φ4 => []) s trivial (fun φ4 => by kernel_rfl) ?_
  intro φ4 w4 s
  refine callB_rule (b := (b, .cells #[.string ⟨#[40, 48, 44, 48, 44, 52, 41]⟩, .int .i64 6, .slice (some ⟨g, 0, none⟩) 1 cap, .int .i64 1] 146)) (H := [(b, .cells #[.string ⟨#[40, 48, 44, 48, 44, 52, 41]⟩, .int .i64 6, .slice (some ⟨g, 0, none⟩) 1 cap, .int .i64 1] 146), (g, .cells ⟨.int .u8 2 :: .int .u8 1 :: rest⟩ 152)]) (F := []) (Hr := [(g, .cells ⟨.int .u8 2 :: .int .u8 1 :: rest⟩ 152)]) (some 29) 0 s (by kernel_rfl) (by kernel_rfl) (take_k (ov := .slice (some ⟨g, 0, none⟩) 1 cap) (dv := .int .i64 1) (b := b) (p := 6) (c := 41) (ss := [40, 48, 44, 48, 44, 52, 41]) (r := true) (by decide) (by decide) (by kernel_rfl)) (by kernel_rfl) ?_
  rintro v5 I5 w5 b5 le5 - h5 s
  obtain ⟨rfl, rfl⟩ := h5
  refine ops_rule (C := []) [(b, .cells #[.string ⟨#[40, 48, 44, 48, 44, 52, 41]⟩, .int .i64 7, .slice (some ⟨g, 0, none⟩) 1 cap, .int .i64 1] 146), (g, .cells ⟨.int .u8 2 :: .int .u8 1 :: rest⟩ 152)] [] 11 [.o 0, .o 1] 0 (fun φ6 => [(40, .int .u8 3), (39, .int .u8 1), (38, .pointer (some ⟨g, 1, none⟩)), (37, .pointer (some ⟨g, 0, none⟩)), (36, .int .i64 0), (35, .slice (some ⟨g, 0, none⟩) 1 cap), (34, .pointer (some ⟨b, 2, none⟩)), (33, .pointer (some ⟨b, 0, none⟩)), (32, .pointer (some ⟨b, 0, none⟩)), (31, .bool false), (30, .bool false)]) (fun φ6 => [(b, .cells #[.string ⟨#[40, 48, 44, 48, 44, 52, 41]⟩, .int .i64 7, .slice (some ⟨g, 0, none⟩) 1 cap, .int .i64 1] 146), (g, .cells ⟨.int .u8 2 :: .int .u8 1 :: rest⟩ 152)]) (fun φ6 => [b, g]) s trivial (fun φ6 => by kernel_rfl) ?_
  intro φ6 w6 s
  refine call_rule (some 41) s (mayPair1_3_c) (by kernel_rfl) ?_
  intro v7 I7 w7 le7 h7 s
  obtain rfl := h7
  refine ops_rule (C := []) [(b, .cells #[.string ⟨#[40, 48, 44, 48, 44, 52, 41]⟩, .int .i64 7, .slice (some ⟨g, 0, none⟩) 1 cap, .int .i64 1] 146), (g, .cells ⟨.int .u8 2 :: .int .u8 1 :: rest⟩ 152)] [] 2 [] 0 (fun φ8 => [(43, .bool false), (42, .bool false)]) (fun φ8 => [(b, .cells #[.string ⟨#[40, 48, 44, 48, 44, 52, 41]⟩, .int .i64 7, .slice (some ⟨g, 0, none⟩) 1 cap, .int .i64 1] 146), (g, .cells ⟨.int .u8 2 :: .int .u8 1 :: rest⟩ 152)]) (fun φ8 => []) s trivial (fun φ8 => by kernel_rfl) ?_
  intro φ8 w8 s
  refine ops_done (by kernel_rfl) ?_
  refine cond_false_rule (b := false) (by kernel_rfl) rfl ?_
  refine wp_skip ?_
  refine wp_seq ?_
  refine region_rule ?_
  refine ops_rule (C := []) [(b, .cells #[.string ⟨#[40, 48, 44, 48, 44, 52, 41]⟩, .int .i64 7, .slice (some ⟨g, 0, none⟩) 1 cap, .int .i64 1] 146), (g, .cells ⟨.int .u8 2 :: .int .u8 1 :: rest⟩ 152)] [] 9 [.o 0, .o 1] 0 (fun φ9 => [(1, .int .u8 2), (51, .int .u8 2), (50, .pointer (some ⟨g, 0, none⟩)), (49, .pointer (some ⟨g, 0, none⟩)), (48, .int .i64 0), (47, .slice (some ⟨g, 0, none⟩) 1 cap), (46, .pointer (some ⟨b, 2, none⟩)), (45, .pointer (some ⟨b, 0, none⟩)), (44, .pointer (some ⟨b, 0, none⟩))]) (fun φ9 => [(b, .cells #[.string ⟨#[40, 48, 44, 48, 44, 52, 41]⟩, .int .i64 7, .slice (some ⟨g, 0, none⟩) 1 cap, .int .i64 1] 146), (g, .cells ⟨.int .u8 2 :: .int .u8 1 :: rest⟩ 152)]) (fun φ9 => [b, g]) s trivial (fun φ9 => by kernel_rfl) ?_
  intro φ9 w9 s
  refine ops_done (by kernel_rfl) ?_
  refine region_rule ?_
  refine ops_rule (C := []) [(b, .cells #[.string ⟨#[40, 48, 44, 48, 44, 52, 41]⟩, .int .i64 7, .slice (some ⟨g, 0, none⟩) 1 cap, .int .i64 1] 146), (g, .cells ⟨.int .u8 2 :: .int .u8 1 :: rest⟩ 152)] [] 6 [.o 0] 0 (fun φ10 => [(57, .int .i64 0), (56, .slice (some ⟨g, 0, none⟩) 1 cap), (55, .pointer (some ⟨b, 2, none⟩)), (54, .pointer (some ⟨b, 0, none⟩)), (53, .pointer (some ⟨b, 0, none⟩)), (52, .pointer (some ⟨b, 0, none⟩))]) (fun φ10 => [(b, .cells #[.string ⟨#[40, 48, 44, 48, 44, 52, 41]⟩, .int .i64 7, .slice (some ⟨g, 0, none⟩) 1 cap, .int .i64 1] 146), (g, .cells ⟨.int .u8 2 :: .int .u8 1 :: rest⟩ 152)]) (fun φ10 => [b]) s trivial (fun φ10 => by kernel_rfl) ?_
  intro φ10 w10 s
  refine sem_rule (Instr.sliceAt 144 (.slice (some ⟨g, 0, none⟩) 1 cap) none (some (.int .i64 ((0 : Nat) : Int))) none) (some 58) (.slice (some ⟨g, 0, none⟩) 0 cap) (by kernel_rfl) (run_cutRow) ?_
  refine ops_rule (C := []) [(b, .cells #[.string ⟨#[40, 48, 44, 48, 44, 52, 41]⟩, .int .i64 7, .slice (some ⟨g, 0, none⟩) 1 cap, .int .i64 1] 146), (g, .cells ⟨.int .u8 2 :: .int .u8 1 :: rest⟩ 152)] [] 3 [.o 0] 0 (fun φ11 => [(60, .pointer (some ⟨b, 2, none⟩)), (59, .pointer (some ⟨b, 0, none⟩))]) (fun φ11 => [(b, .cells #[.string ⟨#[40, 48, 44, 48, 44, 52, 41]⟩, .int .i64 7, .slice (some ⟨g, 0, none⟩) 0 cap, .int .i64 1] 146), (g, .cells ⟨.int .u8 2 :: .int .u8 1 :: rest⟩ 152)]) (fun φ11 => [b]) s trivial (fun φ11 => by kernel_rfl) ?_
  intro φ11 w11 s
  refine ops_done (by kernel_rfl) ?_
  refine region_rule ?_
  refine ops_rule (C := []) [(b, .cells #[.string ⟨#[40, 48, 44, 48, 44, 52, 41]⟩, .int .i64 7, .slice (some ⟨g, 0, none⟩) 0 cap, .int .i64 1] 146), (g, .cells ⟨.int .u8 2 :: .int .u8 1 :: rest⟩ 152)] [] 3 [] 0 (fun φ12 => [(6, .int .i64 (-1)), (27, .int .i64 (-1)), (26, .int .i64 0)]) (fun φ12 => [(b, .cells #[.string ⟨#[40, 48, 44, 48, 44, 52, 41]⟩, .int .i64 7, .slice (some ⟨g, 0, none⟩) 0 cap, .int .i64 1] 146), (g, .cells ⟨.int .u8 2 :: .int .u8 1 :: rest⟩ 152)]) (fun φ12 => []) s trivial (fun φ12 => by kernel_rfl) ?_
  intro φ12 w12 s
  refine ops_done (by kernel_rfl) ?_
  refine rounds_step (n := 1) ?_
  refine wp_seq ?_
  refine wp_seq ?_
  refine region_rule ?_
  refine ops_rule (C := []) [(b, .cells #[.string ⟨#[40, 48, 44, 48, 44, 52, 41]⟩, .int .i64 7, .slice (some ⟨g, 0, none⟩) 0 cap, .int .i64 1] 146), (g, .cells ⟨.int .u8 2 :: .int .u8 1 :: rest⟩ 152)] [] 13 [] 0 (fun φ13 => [(25, .bool false), (24, undef), (23, undef), (22, undef), (21, undef), (20, undef), (19, undef), (18, undef), (17, undef), (16, undef), (15, .bool false), (14, .bool false), (13, .int .i64 (-1))]) (fun φ13 => [(b, .cells #[.string ⟨#[40, 48, 44, 48, 44, 52, 41]⟩, .int .i64 7, .slice (some ⟨g, 0, none⟩) 0 cap, .int .i64 1] 146), (g, .cells ⟨.int .u8 2 :: .int .u8 1 :: rest⟩ 152)]) (fun φ13 => []) s trivial (fun φ13 => by kernel_rfl) ?_
  intro φ13 w13 s
  refine ops_done (by kernel_rfl) ?_
  refine cond_false_rule (b := false) (by kernel_rfl) rfl ?_
  refine wp_exit ?_
  refine wp_seq ?_
  refine region_rule ?_
  refine ops_rule (C := []) [(b, .cells #[.string ⟨#[40, 48, 44, 48, 44, 52, 41]⟩, .int .i64 7, .slice (some ⟨g, 0, none⟩) 0 cap, .int .i64 1] 146), (g, .cells ⟨.int .u8 2 :: .int .u8 1 :: rest⟩ 152)] [] 3 [] 0 (fun φ14 => [(5, .bool true), (4, .int .u8 2), (61, .int .u8 2)]) (fun φ14 => [(b, .cells #[.string ⟨#[40, 48, 44, 48, 44, 52, 41]⟩, .int .i64 7, .slice (some ⟨g, 0, none⟩) 0 cap, .int .i64 1] 146), (g, .cells ⟨.int .u8 2 :: .int .u8 1 :: rest⟩ 152)]) (fun φ14 => []) s trivial (fun φ14 => by kernel_rfl) ?_
  intro φ14 w14 s
  refine ops_done (by kernel_rfl) ?_
  refine wp_ret ?_
  refine ret_rule (C := []) [(b, .cells #[.string ⟨#[40, 48, 44, 48, 44, 52, 41]⟩, .int .i64 7, .slice (some ⟨g, 0, none⟩) 0 cap, .int .i64 1] 146), (g, .cells ⟨.int .u8 2 :: .int .u8 1 :: rest⟩ 152)] [] (.tuple #[.int .u8 2, .bool true]) [] [] s trivial (by kernel_rfl) ?_
  exact ⟨_, _, _, rfl, s, ⟨_, _, rfl, rfl, rfl, rfl, rfl⟩⟩

set_option maxHeartbeats 2000000 in
theorem scan1_c {I : IM} : Fun Tryd.prog 76 #[.string ⟨#[40, 48, 44, 48, 44, 52, 41]⟩] I (fun v J => v = .tuple #[.int .i64 1, .bool true]) := by
  refine enter_rule 44 [(0, .string ⟨#[40, 48, 44, 48, 44, 52, 41]⟩)] Tryd.func76 rfl (by kernel_rfl) ?_
  intro w s
  refine wp_seq ?_
  refine region_rule ?_
  refine ops_rule (C := []) [] [] 2 [] 0 (fun φ1 => [(3, .bool false), (2, .int .i64 0)]) (fun φ1 => []) (fun φ1 => []) s trivial (fun φ1 => by kernel_rfl) ?_
  intro φ1 w1 s
  refine ops_done (by kernel_rfl) ?_
  refine wp_seq ?_
  refine region_rule ?_
  refine ops_rule (C := []) [] [] 4 [.o 0, .o 0, .o 0, .o 0] 1 (fun φ2 => [(4, .pointer (some ⟨(φ2 0), 0, none⟩)), (9, .agg #[.string ⟨#[40, 48, 44, 48, 44, 52, 41]⟩, .int .i64 0, .slice none 0 0, .int .i64 0]), (8, .string ⟨#[40, 48, 44, 48, 44, 52, 41]⟩)]) (fun φ2 => [((φ2 0), .cells #[.string ⟨#[40, 48, 44, 48, 44, 52, 41]⟩, .int .i64 0, .slice none 0 0, .int .i64 0] 146)]) (fun φ2 => [(φ2 0), (φ2 0), (φ2 0), (φ2 0)]) s trivial (fun φ2 => by kernel_rfl) ?_
  intro φ2 w2 s
  refine ops_done (by kernel_rfl) ?_
  refine wp_block ?_
  refine Go.wp_loop_rounds 3 ?_
  refine rounds_step (n := 2) ?_
  refine wp_block ?_
  refine wp_seq ?_
  refine region_rule ?_
  refine callH_rule (b := ((φ2 0), .cells #[.string ⟨#[40, 48, 44, 48, 44, 52, 41]⟩, .int .i64 0, .slice none 0 0, .int .i64 0] 146)) (H := [((φ2 0), .cells #[.string ⟨#[40, 48, 44, 48, 44, 52, 41]⟩, .int .i64 0, .slice none 0 0, .int .i64 0] 146)]) (F := []) (Hr := []) (some 11) 0 s (by kernel_rfl) (by kernel_rfl) (leafA1_c (b := (φ2 0))) (by kernel_rfl) ?_
  rintro v3 I3 w3 b3 F3 le3 - h3 s
  obtain ⟨g3, cap3, rest3, rfl, rfl, rfl⟩ := h3
  refine ops_rule (C := []) [((φ2 0), .cells #[.string ⟨#[40, 48, 44, 48, 44, 52, 41]⟩, .int .i64 4, .slice (some ⟨g3, 0, none⟩) 1 cap3, .int .i64 1] 146), (g3, .cells ⟨.int .u8 2 :: .int .u8 0 :: rest3⟩ 152)] [] 5 [] 0 (fun φ4 => [(6, .bool true), (5, .int .u8 1), (13, .bool true), (12, .int .u8 1), (10, .tuple #[.int .u8 1, .bool true])]) (fun φ4 => [((φ2 0), .cells #[.string ⟨#[40, 48, 44, 48, 44, 52, 41]⟩, .int .i64 4, .slice (some ⟨g3, 0, none⟩) 1 cap3, .int .i64 1] 146), (g3, .cells ⟨.int .u8 2 :: .int .u8 0 :: rest3⟩ 152)]) (fun φ4 => []) s trivial (fun φ4 => by kernel_rfl) ?_
  intro φ4 w4 s
  refine ops_done (by kernel_rfl) ?_
  refine wp_seq ?_
  refine wp_seq ?_
  refine region_rule ?_
  refine ops_rule (C := []) [((φ2 0), .cells #[.string ⟨#[40, 48, 44, 48, 44, 52, 41]⟩, .int .i64 4, .slice (some ⟨g3, 0, none⟩) 1 cap3, .int .i64 1] 146), (g3, .cells ⟨.int .u8 2 :: .int .u8 0 :: rest3⟩ 152)] [] 2 [] 0 (fun φ5 => [(15, .bool false), (14, .bool true)]) (fun φ5 => [((φ2 0), .cells #[.string ⟨#[40, 48, 44, 48, 44, 52, 41]⟩, .int .i64 4, .slice (some ⟨g3, 0, none⟩) 1 cap3, .int .i64 1] 146), (g3, .cells ⟨.int .u8 2 :: .int .u8 0 :: rest3⟩ 152)]) (fun φ5 => []) s trivial (fun φ5 => by kernel_rfl) ?_
  intro φ5 w5 s
  refine ops_done (by kernel_rfl) ?_
  refine cond_false_rule (b := false) (by kernel_rfl) rfl ?_
  refine wp_skip ?_
  refine wp_seq ?_
  refine region_rule ?_
  refine ops_rule (C := []) [((φ2 0), .cells #[.string ⟨#[40, 48, 44, 48, 44, 52, 41]⟩, .int .i64 4, .slice (some ⟨g3, 0, none⟩) 1 cap3, .int .i64 1] 146), (g3, .cells ⟨.int .u8 2 :: .int .u8 0 :: rest3⟩ 152)] [] 1 [] 0 (fun φ6 => [(17, .int .u8 1)]) (fun φ6 => [((φ2 0), .cells #[.string ⟨#[40, 48, 44, 48, 44, 52, 41]⟩, .int .i64 4, .slice (some ⟨g3, 0, none⟩) 1 cap3, .int .i64 1] 146), (g3, .cells ⟨.int .u8 2 :: .int .u8 0 :: rest3⟩ 152)]) (fun φ6 => []) s trivial (fun φ6 => by kernel_rfl) ?_
  intro φ6 w6 s
  refine callH_rule (b := ((φ2 0), .cells #[.string ⟨#[40, 48, 44, 48, 44, 52, 41]⟩, .int .i64 4, .slice (some ⟨g3, 0, none⟩) 1 cap3, .int .i64 1] 146)) (H := [((φ2 0), .cells #[.string ⟨#[40, 48, 44, 48, 44, 52, 41]⟩, .int .i64 4, .slice (some ⟨g3, 0, none⟩) 1 cap3, .int .i64 1] 146)]) (F := [(g3, .cells ⟨.int .u8 2 :: .int .u8 0 :: rest3⟩ 152)]) (Hr := []) (some 18) 0 s (by kernel_rfl) (by kernel_rfl) (closeA1_c (b := (φ2 0)) (g := g3) (cap := cap3) (rest := rest3)) (by kernel_rfl) ?_
  rintro v7 I7 w7 b7 F7 le7 - h7 s
  obtain ⟨rfl, rfl, rfl⟩ := h7
  refine ops_rule (C := []) [((φ2 0), .cells #[.string ⟨#[40, 48, 44, 48, 44, 52, 41]⟩, .int .i64 4, .slice (some ⟨g3, 0, none⟩) 1 cap3, .int .i64 1] 146), (g3, .cells ⟨.int .u8 2 :: .int .u8 0 :: rest3⟩ 152)] [] 5 [] 0 (fun φ8 => [(6, .bool true), (5, .int .u8 1), (20, .bool true), (19, .int .u8 1), (16, .tuple #[.int .u8 1, .bool true])]) (fun φ8 => [((φ2 0), .cells #[.string ⟨#[40, 48, 44, 48, 44, 52, 41]⟩, .int .i64 4, .slice (some ⟨g3, 0, none⟩) 1 cap3, .int .i64 1] 146), (g3, .cells ⟨.int .u8 2 :: .int .u8 0 :: rest3⟩ 152)]) (fun φ8 => []) s trivial (fun φ8 => by kernel_rfl) ?_
  intro φ8 w8 s
  refine ops_done (by kernel_rfl) ?_
  refine wp_seq ?_
  refine wp_seq ?_
  refine region_rule ?_
  refine ops_rule (C := []) [((φ2 0), .cells #[.string ⟨#[40, 48, 44, 48, 44, 52, 41]⟩, .int .i64 4, .slice (some ⟨g3, 0, none⟩) 1 cap3, .int .i64 1] 146), (g3, .cells ⟨.int .u8 2 :: .int .u8 0 :: rest3⟩ 152)] [] 2 [] 0 (fun φ9 => [(22, .bool false), (21, .bool true)]) (fun φ9 => [((φ2 0), .cells #[.string ⟨#[40, 48, 44, 48, 44, 52, 41]⟩, .int .i64 4, .slice (some ⟨g3, 0, none⟩) 1 cap3, .int .i64 1] 146), (g3, .cells ⟨.int .u8 2 :: .int .u8 0 :: rest3⟩ 152)]) (fun φ9 => []) s trivial (fun φ9 => by kernel_rfl) ?_
  intro φ9 w9 s
  refine ops_done (by kernel_rfl) ?_
  refine cond_false_rule (b := false) (by kernel_rfl) rfl ?_
  refine wp_skip ?_
  refine wp_seq ?_
  refine region_rule ?_
  refine ops_rule (C := []) [((φ2 0), .cells #[.string ⟨#[40, 48, 44, 48, 44, 52, 41]⟩, .int .i64 4, .slice (some ⟨g3, 0, none⟩) 1 cap3, .int .i64 1] 146), (g3, .cells ⟨.int .u8 2 :: .int .u8 0 :: rest3⟩ 152)] [] 5 [.o 0] 0 (fun φ10 => [(7, .int .i64 0), (26, .int .i64 0), (25, .int .i64 1), (24, .slice (some ⟨g3, 0, none⟩) 1 cap3), (23, .pointer (some ⟨(φ2 0), 2, none⟩))]) (fun φ10 => [((φ2 0), .cells #[.string ⟨#[40, 48, 44, 48, 44, 52, 41]⟩, .int .i64 4, .slice (some ⟨g3, 0, none⟩) 1 cap3, .int .i64 1] 146), (g3, .cells ⟨.int .u8 2 :: .int .u8 0 :: rest3⟩ 152)]) (fun φ10 => [(φ2 0)]) s trivial (fun φ10 => by kernel_rfl) ?_
  intro φ10 w10 s
  refine ops_done (by kernel_rfl) ?_
  refine wp_seq ?_
  refine wp_seq ?_
  refine region_rule ?_
  refine ops_rule (C := []) [((φ2 0), .cells #[.string ⟨#[40, 48, 44, 48, 44, 52, 41]⟩, .int .i64 4, .slice (some ⟨g3, 0, none⟩) 1 cap3, .int .i64 1] 146), (g3, .cells ⟨.int .u8 2 :: .int .u8 0 :: rest3⟩ 152)] [] 2 [] 0 (fun φ11 => [(28, .bool false), (27, .int .i64 0)]) (fun φ11 => [((φ2 0), .cells #[.string ⟨#[40, 48, 44, 48, 44, 52, 41]⟩, .int .i64 4, .slice (some ⟨g3, 0, none⟩) 1 cap3, .int .i64 1] 146), (g3, .cells ⟨.int .u8 2 :: .int .u8 0 :: rest3⟩ 152)]) (fun φ11 => []) s trivial (fun φ11 => by kernel_rfl) ?_
  intro φ11 w11 s
  refine ops_done (by kernel_rfl) ?_
  refine cond_false_rule (b := false) (by kernel_rfl) rfl ?_
  refine wp_skip ?_
  refine wp_seq ?_
  refine region_rule ?_
  refine ops_rule (C := []) [((φ2 0), .cells #[.string ⟨#[40, 48, 44, 48, 44, 52, 41]⟩, .int .i64 4, .slice (some ⟨g3, 0, none⟩) 1 cap3, .int .i64 1] 146), (g3, .cells ⟨.int .u8 2 :: .int .u8 0 :: rest3⟩ 152)] [] 7 [.o 0, .o 1] 0 (fun φ12 => [(41, .pointer (some ⟨g3, 1, none⟩)), (40, .pointer (some ⟨g3, 0, none⟩)), (39, .int .u8 1), (38, .int .i64 0), (37, .slice (some ⟨g3, 0, none⟩) 1 cap3), (36, .pointer (some ⟨(φ2 0), 2, none⟩))]) (fun φ12 => [((φ2 0), .cells #[.string ⟨#[40, 48, 44, 48, 44, 52, 41]⟩, .int .i64 4, .slice (some ⟨g3, 0, none⟩) 1 cap3, .int .i64 1] 146), (g3, .cells ⟨.int .u8 2 :: .int .u8 1 :: rest3⟩ 152)]) (fun φ12 => [(φ2 0), g3]) s trivial (fun φ12 => by kernel_rfl) ?_
  intro φ12 w12 s
  refine ops_done (by kernel_rfl) ?_
  refine wp_seq ?_
  refine region_rule ?_
  refine callB_rule (b := ((φ2 0), .cells #[.string ⟨#[40, 48, 44, 48, 44, 52, 41]⟩, .int .i64 4, .slice (some ⟨g3, 0, none⟩) 1 cap3, .int .i64 1] 146)) (H := [((φ2 0), .cells #[.string ⟨#[40, 48, 44, 48, 44, 52, 41]⟩, .int .i64 4, .slice (some ⟨g3, 0, none⟩) 1 cap3, .int .i64 1] 146), (g3, .cells ⟨.int .u8 2 :: .int .u8 1 :: rest3⟩ 152)]) (F := []) (Hr := [(g3, .cells ⟨.int .u8 2 :: .int .u8 1 :: rest3⟩ 152)]) (some 42) 0 s (by kernel_rfl) (by kernel_rfl) (take_k (ov := .slice (some ⟨g3, 0, none⟩) 1 cap3) (dv := .int .i64 1) (b := (φ2 0)) (p := 4) (c := 44) (ss := [40, 48, 44, 48, 44, 52, 41]) (r := true) (by decide) (by decide) (by kernel_rfl)) (by kernel_rfl) ?_
  rintro v13 I13 w13 b13 le13 - h13 s
  obtain ⟨rfl, rfl⟩ := h13
  refine ops_rule (C := []) [((φ2 0), .cells #[.string ⟨#[40, 48, 44, 48, 44, 52, 41]⟩, .int .i64 5, .slice (some ⟨g3, 0, none⟩) 1 cap3, .int .i64 1] 146), (g3, .cells ⟨.int .u8 2 :: .int .u8 1 :: rest3⟩ 152)] [] 1 [] 0 (fun φ14 => [(43, .bool false)]) (fun φ14 => [((φ2 0), .cells #[.string ⟨#[40, 48, 44, 48, 44, 52, 41]⟩, .int .i64 5, .slice (some ⟨g3, 0, none⟩) 1 cap3, .int .i64 1] 146), (g3, .cells ⟨.int .u8 2 :: .int .u8 1 :: rest3⟩ 152)]) (fun φ14 => []) s trivial (fun φ14 => by kernel_rfl) ?_
  intro φ14 w14 s
  refine ops_done (by kernel_rfl) ?_
  refine cond_false_rule (b := false) (by kernel_rfl) rfl ?_
  refine wp_skip ?_
  refine rounds_step (n := 1) ?_
  refine wp_block ?_
  refine wp_seq ?_
  refine region_rule ?_
  refine callB_rule (b := ((φ2 0), .cells #[.string ⟨#[40, 48, 44, 48, 44, 52, 41]⟩, .int .i64 5, .slice (some ⟨g3, 0, none⟩) 1 cap3, .int .i64 1] 146)) (H := [((φ2 0), .cells #[.string ⟨#[40, 48, 44, 48, 44, 52, 41]⟩, .int .i64 5, .slice (some ⟨g3, 0, none⟩) 1 cap3, .int .i64 1] 146), (g3, .cells ⟨.int .u8 2 :: .int .u8 1 :: rest3⟩ 152)]) (F := []) (Hr := [(g3, .cells ⟨.int .u8 2 :: .int .u8 1 :: rest3⟩ 152)]) (some 11) 0 s (by kernel_rfl) (by kernel_rfl) (leafB1_c (ov := .slice (some ⟨g3, 0, none⟩) 1 cap3) (dv := .int .i64 1) (b := (φ2 0))) (by kernel_rfl) ?_
  rintro v15 I15 w15 b15 le15 - h15 s
  obtain ⟨rfl, rfl⟩ := h15
  refine ops_rule (C := []) [((φ2 0), .cells #[.string ⟨#[40, 48, 44, 48, 44, 52, 41]⟩, .int .i64 6, .slice (some ⟨g3, 0, none⟩) 1 cap3, .int .i64 1] 146), (g3, .cells ⟨.int .u8 2 :: .int .u8 1 :: rest3⟩ 152)] [] 5 [] 0 (fun φ16 => [(6, .bool true), (5, .int .u8 3), (13, .bool true), (12, .int .u8 3), (10, .tuple #[.int .u8 3, .bool true])]) (fun φ16 => [((φ2 0), .cells #[.string ⟨#[40, 48, 44, 48, 44, 52, 41]⟩, .int .i64 6, .slice (some ⟨g3, 0, none⟩) 1 cap3, .int .i64 1] 146), (g3, .cells ⟨.int .u8 2 :: .int .u8 1 :: rest3⟩ 152)]) (fun φ16 => []) s trivial (fun φ16 => by kernel_rfl) ?_
  intro φ16 w16 s
  refine ops_done (by kernel_rfl) ?_
  refine wp_seq ?_
  refine wp_seq ?_
  refine region_rule ?_
  refine ops_rule (C := []) [((φ2 0), .cells #[.string ⟨#[40, 48, 44, 48, 44, 52, 41]⟩, .int .i64 6, .slice (some ⟨g3, 0, none⟩) 1 cap3, .int .i64 1] 146), (g3, .cells ⟨.int .u8 2 :: .int .u8 1 :: rest3⟩ 152)] [] 2 [] 0 (fun φ17 => [(15, .bool false), (14, .bool true)]) (fun φ17 => [((φ2 0), .cells #[.string ⟨#[40, 48, 44, 48, 44, 52, 41]⟩, .int .i64 6, .slice (some ⟨g3, 0, none⟩) 1 cap3, .int .i64 1] 146), (g3, .cells ⟨.int .u8 2 :: .int .u8 1 :: rest3⟩ 152)]) (fun φ17 => []) s trivial (fun φ17 => by kernel_rfl) ?_
  intro φ17 w17 s
  refine ops_done (by kernel_rfl) ?_
  refine cond_false_rule (b := false) (by kernel_rfl) rfl ?_
  refine wp_skip ?_
  refine wp_seq ?_
  refine region_rule ?_
  refine ops_rule (C := []) [((φ2 0), .cells #[.string ⟨#[40, 48, 44, 48, 44, 52, 41]⟩, .int .i64 6, .slice (some ⟨g3, 0, none⟩) 1 cap3, .int .i64 1] 146), (g3, .cells ⟨.int .u8 2 :: .int .u8 1 :: rest3⟩ 152)] [] 1 [] 0 (fun φ18 => [(17, .int .u8 3)]) (fun φ18 => [((φ2 0), .cells #[.string ⟨#[40, 48, 44, 48, 44, 52, 41]⟩, .int .i64 6, .slice (some ⟨g3, 0, none⟩) 1 cap3, .int .i64 1] 146), (g3, .cells ⟨.int .u8 2 :: .int .u8 1 :: rest3⟩ 152)]) (fun φ18 => []) s trivial (fun φ18 => by kernel_rfl) ?_
  intro φ18 w18 s
  refine callH_rule (b := ((φ2 0), .cells #[.string ⟨#[40, 48, 44, 48, 44, 52, 41]⟩, .int .i64 6, .slice (some ⟨g3, 0, none⟩) 1 cap3, .int .i64 1] 146)) (H := [((φ2 0), .cells #[.string ⟨#[40, 48, 44, 48, 44, 52, 41]⟩, .int .i64 6, .slice (some ⟨g3, 0, none⟩) 1 cap3, .int .i64 1] 146)]) (F := [(g3, .cells ⟨.int .u8 2 :: .int .u8 1 :: rest3⟩ 152)]) (Hr := []) (some 18) 0 s (by kernel_rfl) (by kernel_rfl) (closeB1_c (b := (φ2 0)) (g := g3) (cap := cap3) (rest := rest3)) (by kernel_rfl) ?_
  rintro v19 I19 w19 b19 F19 le19 - h19 s
  obtain ⟨rfl, rfl, rfl⟩ := h19
  refine ops_rule (C := []) [((φ2 0), .cells #[.string ⟨#[40, 48, 44, 48, 44, 52, 41]⟩, .int .i64 7, .slice (some ⟨g3, 0, none⟩) 0 cap3, .int .i64 1] 146), (g3, .cells ⟨.int .u8 2 :: .int .u8 1 :: rest3⟩ 152)] [] 5 [] 0 (fun φ20 => [(6, .bool true), (5, .int .u8 2), (20, .bool true), (19, .int .u8 2), (16, .tuple #[.int .u8 2, .bool true])]) (fun φ20 => [((φ2 0), .cells #[.string ⟨#[40, 48, 44, 48, 44, 52, 41]⟩, .int .i64 7, .slice (some ⟨g3, 0, none⟩) 0 cap3, .int .i64 1] 146), (g3, .cells ⟨.int .u8 2 :: .int .u8 1 :: rest3⟩ 152)]) (fun φ20 => []) s trivial (fun φ20 => by kernel_rfl) ?_
  intro φ20 w20 s
  refine ops_done (by kernel_rfl) ?_
  refine wp_seq ?_
  refine wp_seq ?_
  refine region_rule ?_
  refine ops_rule (C := []) [((φ2 0), .cells #[.string ⟨#[40, 48, 44, 48, 44, 52, 41]⟩, .int .i64 7, .slice (some ⟨g3, 0, none⟩) 0 cap3, .int .i64 1] 146), (g3, .cells ⟨.int .u8 2 :: .int .u8 1 :: rest3⟩ 152)] [] 2 [] 0 (fun φ21 => [(22, .bool false), (21, .bool true)]) (fun φ21 => [((φ2 0), .cells #[.string ⟨#[40, 48, 44, 48, 44, 52, 41]⟩, .int .i64 7, .slice (some ⟨g3, 0, none⟩) 0 cap3, .int .i64 1] 146), (g3, .cells ⟨.int .u8 2 :: .int .u8 1 :: rest3⟩ 152)]) (fun φ21 => []) s trivial (fun φ21 => by kernel_rfl) ?_
  intro φ21 w21 s
  refine ops_done (by kernel_rfl) ?_
  refine cond_false_rule (b := false) (by kernel_rfl) rfl ?_
  refine wp_skip ?_
  refine wp_seq ?_
  refine region_rule ?_
  refine ops_rule (C := []) [((φ2 0), .cells #[.string ⟨#[40, 48, 44, 48, 44, 52, 41]⟩, .int .i64 7, .slice (some ⟨g3, 0, none⟩) 0 cap3, .int .i64 1] 146), (g3, .cells ⟨.int .u8 2 :: .int .u8 1 :: rest3⟩ 152)] [] 5 [.o 0] 0 (fun φ22 => [(7, .int .i64 (-1)), (26, .int .i64 (-1)), (25, .int .i64 0), (24, .slice (some ⟨g3, 0, none⟩) 0 cap3), (23, .pointer (some ⟨(φ2 0), 2, none⟩))]) (fun φ22 => [((φ2 0), .cells #[.string ⟨#[40, 48, 44, 48, 44, 52, 41]⟩, .int .i64 7, .slice (some ⟨g3, 0, none⟩) 0 cap3, .int .i64 1] 146), (g3, .cells ⟨.int .u8 2 :: .int .u8 1 :: rest3⟩ 152)]) (fun φ22 => [(φ2 0)]) s trivial (fun φ22 => by kernel_rfl) ?_
  intro φ22 w22 s
  refine ops_done (by kernel_rfl) ?_
  refine wp_seq ?_
  refine wp_seq ?_
  refine region_rule ?_
  refine ops_rule (C := []) [((φ2 0), .cells #[.string ⟨#[40, 48, 44, 48, 44, 52, 41]⟩, .int .i64 7, .slice (some ⟨g3, 0, none⟩) 0 cap3, .int .i64 1] 146), (g3, .cells ⟨.int .u8 2 :: .int .u8 1 :: rest3⟩ 152)] [] 2 [] 0 (fun φ23 => [(28, .bool true), (27, .int .i64 (-1))]) (fun φ23 => [((φ2 0), .cells #[.string ⟨#[40, 48, 44, 48, 44, 52, 41]⟩, .int .i64 7, .slice (some ⟨g3, 0, none⟩) 0 cap3, .int .i64 1] 146), (g3, .cells ⟨.int .u8 2 :: .int .u8 1 :: rest3⟩ 152)]) (fun φ23 => []) s trivial (fun φ23 => by kernel_rfl) ?_
  intro φ23 w23 s
  refine ops_done (by kernel_rfl) ?_
  refine cond_true_rule (b := true) (by kernel_rfl) rfl ?_
  refine wp_seq ?_
  refine draw_rule (C := []) ⟨(fun φ24 xs24 => [.look 0 [] [], .look 0 [.o 0] [(φ2 0)], .look 0 [] [], .look 0 [.o 0] [(φ2 0)], .look 0 [] [], .look 0 [] [], .look 0 [] [], .look 0 [] [], .look 0 [] []]), (fun φ24 xs24 => [.pointer (some ⟨(φ2 0), 3, none⟩), .int .i64 1, .pointer (some ⟨(φ2 0), 1, none⟩), .int .i64 7, .string ⟨#[40, 48, 44, 48, 44, 52, 41]⟩, .int .i64 7, .bool true, .int .i64 1, .bool true]), (fun φ24 xs24 => [[((φ2 0), .cells #[.string ⟨#[40, 48, 44, 48, 44, 52, 41]⟩, .int .i64 7, .slice (some ⟨g3, 0, none⟩) 0 cap3, .int .i64 1] 146), (g3, .cells ⟨.int .u8 2 :: .int .u8 1 :: rest3⟩ 152)]]), (fun φ24 xs24 => [[default, default, default, default, default, default, default, default, default]]), [], [1, 1, 1, 1, 1, 1, 1, 1, 1]⟩ (fun j => ([MP.any, MP.any, MP.any, MP.any, MP.any, MP.any, MP.any, MP.any, MP.any] : List MP).getD j MP.any) [] [] [] (fun φ24 xs24 => []) (fun φ24 xs24 => [(29, .pointer (some ⟨(φ2 0), 3, none⟩)), (30, .int .i64 1), (31, .pointer (some ⟨(φ2 0), 1, none⟩)), (32, .int .i64 7), (33, .string ⟨#[40, 48, 44, 48, 44, 52, 41]⟩), (34, .int .i64 7), (35, .bool true), (2, .int .i64 1), (3, .bool true)]) (fun φ24 xs24 => [((φ2 0), .cells #[.string ⟨#[40, 48, 44, 48, 44, 52, 41]⟩, .int .i64 7, .slice (some ⟨g3, 0, none⟩) 0 cap3, .int .i64 1] 146), (g3, .cells ⟨.int .u8 2 :: .int .u8 1 :: rest3⟩ 152)]) s trivial (by kernel_rfl) (by kernel_rfl) (fun _ _ => by kernel_rfl) (fun _ _ => by kernel_rfl) ⟨fun _ _ => by kernel_rfl, fun _ _ => by kernel_rfl, fun _ _ => by kernel_rfl, fun _ _ => by kernel_rfl⟩ (fun _ _ _ => by kernel_rfl) (fun _ _ => by kernel_rfl) (fun _ _ => by kernel_rfl) (fun _ _ => by kernel_rfl) (fun _ _ => by kernel_rfl) (fun _ _ => by kernel_rfl) trivial trivial (by kernel_rfl) trivial ?k24
  case k24 =>
    rintro φ24 xs24 I24 w24 le24 s 
    refine wp_ret ?_
    refine ret_rule (C := []) [((φ2 0), .cells #[.string ⟨#[40, 48, 44, 48, 44, 52, 41]⟩, .int .i64 7, .slice (some ⟨g3, 0, none⟩) 0 cap3, .int .i64 1] 146), (g3, .cells ⟨.int .u8 2 :: .int .u8 1 :: rest3⟩ 152)] [] (.tuple #[.int .i64 1, .bool true]) [] [] s trivial (by kernel_rfl) ?_
    exact ⟨_, _, _, rfl, s, rfl⟩

end Go.Proofs.YtgdickihjaomjaaDoor
