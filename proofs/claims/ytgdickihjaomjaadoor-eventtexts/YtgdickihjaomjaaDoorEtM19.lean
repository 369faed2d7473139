/- Any text is read: the scanner. -/
import Derived.Test.YtgdickihjaomjaaDoorEtM18
set_option linter.all false
set_option maxRecDepth 100000
namespace Go.Proofs.YtgdickihjaomjaaDoor
open Go.RowKit Go.Sep
attribute [local irreducible] Go.wpList Go.Code.wp
def nodeSh (n : Nat) : Nat := if n = 0 then 2 else 3
def leafSh (n : Nat) : Nat := if n = 0 then 1 else 3
def mayP (l r : Nat) : Bool := decide (l ≠ r ∨ l = 2)
def tkP (ss : List UInt8) (p c : Nat) : Nat := p + (tkB ss p c).toNat
def nuV (ss : List UInt8) (p : Nat) : Nat := (numR (ss.drop p)).1
def nuP (ss : List UInt8) (p : Nat) : Nat := p + (numR (ss.drop p)).2.1
def nuO (ss : List UInt8) (p : Nat) : Bool := (numR (ss.drop p)).2.2
theorem tkP_le {ss : List UInt8} {p : Nat} (c : Nat) (h : p ≤ ss.length) : tkP ss p c ≤ ss.length := by
  unfold tkP
  cases e : tkB ss p c with
  | false => exact h
  | true =>
    have := (of_decide_eq_true e).1
    show p + 1 ≤ _; omega
theorem nuP_le {ss : List UInt8} {p : Nat} (h : p ≤ ss.length) : nuP ss p ≤ ss.length := by
  have := numR_le (ss.drop p)
  rw [List.length_drop] at this
  unfold nuP; omega
theorem nuP_ge (ss : List UInt8) (p : Nat) : p ≤ nuP ss p := Nat.le_add_right _ _
theorem tkP_ge (ss : List UInt8) (p c : Nat) : p ≤ tkP ss p c := Nat.le_add_right _ _
theorem tkP_t {ss : List UInt8} {p c : Nat} (h : tkB ss p c = true) : tkP ss p c = p + 1 := by unfold tkP; rw [h]; rfl
theorem tkP_f {ss : List UInt8} {p c : Nat} (h : tkB ss p c = false) : tkP ss p c = p := by unfold tkP; rw [h]; rfl
def stV : List (Nat × Nat) → List Value
  | [] => []
  | a :: st => stV st ++ [.int .u8 ((a.1 : Nat) : Int), .int .u8 ((a.2 : Nat) : Int)]
theorem stV_len : ∀ (st : List (Nat × Nat)), (stV st).length = st.length * 2
  | [] => rfl
  | a :: st => by simp only [stV, List.length_append, stV_len st, List.length_cons, List.length_nil]; omega
/-- up to the next leaf -/
def lfG (ss : List UInt8) : Nat → Nat → List (Nat × Nat) → Nat → Nat × List (Nat × Nat) × Nat × Nat × Bool
  | 0, p, st, d => (p, st, d, 0, false)
  | f + 1, p, st, d => if tkB ss p 40 = true then
      (if nuO ss (tkP ss p 40) = true then
        (if tkB ss (nuP ss (tkP ss p 40)) 44 = true then lfG ss f (tkP ss (nuP ss (tkP ss p 40)) 44) ((nodeSh (nuV ss (tkP ss p 40)), 0) :: st) (max d (st.length + 1))
         else (tkP ss (nuP ss (tkP ss p 40)) 44, st, d, 0, false))
       else (nuP ss (tkP ss p 40), st, d, 0, false))
    else (nuP ss (tkP ss p 40), st, d, leafSh (nuV ss (tkP ss p 40)), nuO ss (tkP ss p 40))
section
variable {ss : List UInt8} {m p d : Nat} {st : List (Nat × Nat)}
theorem lf_go (hm : 0 < m) (h1 : tkB ss p 40 = true) (h2 : nuO ss (tkP ss p 40) = true) (h3 : tkB ss (nuP ss (tkP ss p 40)) 44 = true) :
    lfG ss m p st d = lfG ss (m - 1) (tkP ss (nuP ss (tkP ss p 40)) 44) ((nodeSh (nuV ss (tkP ss p 40)), 0) :: st) (max d (st.length + 1)) := by
  obtain ⟨f, rfl⟩ : ∃ f, m = f + 1 := ⟨m - 1, by omega⟩
  rw [lfG, if_pos h1, if_pos h2, if_pos h3]; rfl
theorem lf_noc (hm : 0 < m) (h1 : tkB ss p 40 = true) (h2 : nuO ss (tkP ss p 40) = true) (h3 : tkB ss (nuP ss (tkP ss p 40)) 44 = false) :
    lfG ss m p st d = (tkP ss (nuP ss (tkP ss p 40)) 44, st, d, 0, false) := by
  obtain ⟨f, rfl⟩ : ∃ f, m = f + 1 := ⟨m - 1, by omega⟩
  rw [lfG, if_pos h1, if_pos h2, if_neg (by rw [h3]; decide)]
theorem lf_non (hm : 0 < m) (h1 : tkB ss p 40 = true) (h2 : nuO ss (tkP ss p 40) = false) : lfG ss m p st d = (nuP ss (tkP ss p 40), st, d, 0, false) := by
  obtain ⟨f, rfl⟩ : ∃ f, m = f + 1 := ⟨m - 1, by omega⟩
  rw [lfG, if_pos h1, if_neg (by rw [h2]; decide)]
theorem lf_end (hm : 0 < m) (h1 : tkB ss p 40 = false) : lfG ss m p st d = (nuP ss (tkP ss p 40), st, d, leafSh (nuV ss (tkP ss p 40)), nuO ss (tkP ss p 40)) := by
  obtain ⟨f, rfl⟩ : ∃ f, m = f + 1 := ⟨m - 1, by omega⟩
  rw [lfG, if_neg (by rw [h1]; decide)]
end
/-- nodes that end here are closed -/
def clG (ss : List UInt8) : List (Nat × Nat) → Nat → Nat → Nat × List (Nat × Nat) × Nat × Bool
  | [], p, half => (p, [], half, true)
  | (o, l) :: st, p, half => if l = 0 then (p, (o, l) :: st, half, true) else
      (if tkB ss p 41 = true then (if mayP l half = true then clG ss st (tkP ss p 41) o else (tkP ss p 41, (o, l) :: st, 0, false))
       else (tkP ss p 41, (o, l) :: st, 0, false))
theorem takeP_c {I : IM} {b p c : Nat} {ss : List UInt8} {ov dv : Value} (hs : ss.length ≤ 1000000) (hp : p ≤ ss.length) : FunM Tryd.prog 106 #[.pointer (some ⟨b, 0, none⟩), .int .u8 ((c : Nat) : Int)] I [(b, .cells #[.string ⟨(ss).toArray⟩, .int .i64 ((p : Nat) : Int), ov, dv] 146)] (fun v J H' => ∃ b' : OB, H' = [b'] ∧ b'.1 = b ∧ v = .bool (tkB ss p c) ∧ b' = (b, .cells #[.string ⟨(ss).toArray⟩, .int .i64 ((tkP ss p c : Nat) : Int), ov, dv] 146)) := take_c hs hp
theorem numP_c {I : IM} {b p : Nat} {ss : List UInt8} {ov dv : Value} (hs : ss.length ≤ 1000000) (hp : p ≤ ss.length) : FunM Tryd.prog 119 #[.pointer (some ⟨b, 0, none⟩)] I [(b, .cells #[.string ⟨(ss).toArray⟩, .int .i64 ((p : Nat) : Int), ov, dv] 146)] (fun v J H' => ∃ b' : OB, H' = [b'] ∧ b'.1 = b ∧ v = .tuple #[.int .u64 ((nuV ss p : Nat) : Int), .bool (nuO ss p)] ∧ b' = (b, .cells #[.string ⟨(ss).toArray⟩, .int .i64 ((nuP ss p : Nat) : Int), ov, dv] 146)) :=
  num119_c (n := nuV ss p) (k := (numR (ss.drop p)).2.1) (ok := nuO ss p) hs hp rfl (by have := nuP_le hp; unfold nuP at this; omega)

set_option maxHeartbeats 400000 in
theorem nodeSh_c {I : IM} {n : Nat} : Fun Tryd.prog 120 #[.int .u64 ((n : Nat) : Int)] I (fun v J => v = .int .u8 ((nodeSh n : Nat) : Int)) := by
  refine enter_rule 5 [(0, .int .u64 ((n : Nat) : Int))] Tryd.func120 rfl (by kernel_rfl) ?_
  intro w s
  refine wp_seq ?_
  refine region_rule ?_
  refine ops_rule (C := []) [] [] 1 [] 0 (fun φ1 => [(2, .int .u8 0)]) (fun φ1 => []) (fun φ1 => []) s trivial (fun φ1 => by kernel_rfl) ?_
  intro φ1 w1 s
  refine ops_done (by kernel_rfl) ?_
  refine wp_seq ?_
  refine wp_seq ?_
  refine region_rule ?_
  refine ops_rule (C := []) [] [] 2 [] 0 (fun φ2 => [(4, .bool (((n : Nat) : Int) == ((0 : Nat) : Int))), (3, .int .u64 ((n : Nat) : Int))]) (fun φ2 => []) (fun φ2 => []) s trivial (fun φ2 => by kernel_rfl) ?_
  intro φ2 w2 s
  rw [nat_eql (a := n) (b := 0)]
  refine ops_done (by kernel_rfl) ?_
  rcases Bool.eq_false_or_eq_true (decide (n = 0)) with hc3 | hc3
  ·
    rw [hc3]
    refine cond_true_rule (b := true) (by kernel_rfl) rfl ?_
    refine wp_seq ?_
    refine region_rule ?_
    refine ops_rule (C := []) [] [] 1 [] 0 (fun φ4 => [(2, .int .u8 2)]) (fun φ4 => []) (fun φ4 => []) s trivial (fun φ4 => by kernel_rfl) ?_
    intro φ4 w4 s
    refine ops_done (by kernel_rfl) ?_
    refine wp_ret ?_
    refine ret_rule (C := []) [] [] (.int .u8 2) [] [] s trivial (by kernel_rfl) ?_
    exact ⟨_, _, _, rfl, s, (by rw [show nodeSh n = 2 from if_pos (of_decide_eq_true hc3)]; rfl)⟩
  ·
    rw [hc3]
    refine cond_false_rule (b := false) (by kernel_rfl) rfl ?_
    refine wp_skip ?_
    refine wp_seq ?_
    refine region_rule ?_
    refine ops_rule (C := []) [] [] 1 [] 0 (fun φ5 => [(2, .int .u8 3)]) (fun φ5 => []) (fun φ5 => []) s trivial (fun φ5 => by kernel_rfl) ?_
    intro φ5 w5 s
    refine ops_done (by kernel_rfl) ?_
    refine wp_ret ?_
    refine ret_rule (C := []) [] [] (.int .u8 3) [] [] s trivial (by kernel_rfl) ?_
    exact ⟨_, _, _, rfl, s, (by rw [show nodeSh n = 3 from if_neg (of_decide_eq_false hc3)]; rfl)⟩

set_option maxHeartbeats 400000 in
theorem leafSh_c {I : IM} {n : Nat} : Fun Tryd.prog 121 #[.int .u64 ((n : Nat) : Int)] I (fun v J => v = .int .u8 ((leafSh n : Nat) : Int)) := by
  refine enter_rule 5 [(0, .int .u64 ((n : Nat) : Int))] Tryd.func121 rfl (by kernel_rfl) ?_
  intro w s
  refine wp_seq ?_
  refine region_rule ?_
  refine ops_rule (C := []) [] [] 1 [] 0 (fun φ1 => [(2, .int .u8 0)]) (fun φ1 => []) (fun φ1 => []) s trivial (fun φ1 => by kernel_rfl) ?_
  intro φ1 w1 s
  refine ops_done (by kernel_rfl) ?_
  refine wp_seq ?_
  refine wp_seq ?_
  refine region_rule ?_
  refine ops_rule (C := []) [] [] 2 [] 0 (fun φ2 => [(4, .bool (((n : Nat) : Int) == ((0 : Nat) : Int))), (3, .int .u64 ((n : Nat) : Int))]) (fun φ2 => []) (fun φ2 => []) s trivial (fun φ2 => by kernel_rfl) ?_
  intro φ2 w2 s
  rw [nat_eql (a := n) (b := 0)]
  refine ops_done (by kernel_rfl) ?_
  rcases Bool.eq_false_or_eq_true (decide (n = 0)) with hc3 | hc3
  ·
    rw [hc3]
    refine cond_true_rule (b := true) (by kernel_rfl) rfl ?_
    refine wp_seq ?_
    refine region_rule ?_
    refine ops_rule (C := []) [] [] 1 [] 0 (fun φ4 => [(2, .int .u8 1)]) (fun φ4 => []) (fun φ4 => []) s trivial (fun φ4 => by kernel_rfl) ?_
    intro φ4 w4 s
    refine ops_done (by kernel_rfl) ?_
    refine wp_ret ?_
    refine ret_rule (C := []) [] [] (.int .u8 1) [] [] s trivial (by kernel_rfl) ?_
    exact ⟨_, _, _, rfl, s, (by rw [show leafSh n = 1 from if_pos (of_decide_eq_true hc3)]; rfl)⟩
  ·
    rw [hc3]
    refine cond_false_rule (b := false) (by kernel_rfl) rfl ?_
    refine wp_skip ?_
    refine wp_seq ?_
    refine region_rule ?_
    refine ops_rule (C := []) [] [] 1 [] 0 (fun φ5 => [(2, .int .u8 3)]) (fun φ5 => []) (fun φ5 => []) s trivial (fun φ5 => by kernel_rfl) ?_
    intro φ5 w5 s
    refine ops_done (by kernel_rfl) ?_
    refine wp_ret ?_
    refine ret_rule (C := []) [] [] (.int .u8 3) [] [] s trivial (by kernel_rfl) ?_
    exact ⟨_, _, _, rfl, s, (by rw [show leafSh n = 3 from if_neg (of_decide_eq_false hc3)]; rfl)⟩

set_option maxHeartbeats 400000 in
theorem mayP_c {I : IM} {l r : Nat} : Fun Tryd.prog 122 #[.int .u8 ((l : Nat) : Int), .int .u8 ((r : Nat) : Int)] I (fun v J => v = .bool (mayP l r)) := by
  refine enter_rule 12 [(0, .int .u8 ((l : Nat) : Int)), (1, .int .u8 ((r : Nat) : Int))] Tryd.func122 rfl (by kernel_rfl) ?_
  intro w s
  refine wp_seq ?_
  refine region_rule ?_
  refine ops_rule (C := []) [] [] 1 [] 0 (fun φ1 => [(4, .bool false)]) (fun φ1 => []) (fun φ1 => []) s trivial (fun φ1 => by kernel_rfl) ?_
  intro φ1 w1 s
  refine ops_done (by kernel_rfl) ?_
  refine wp_seq ?_
  refine region_rule ?_
  refine ops_rule (C := []) [] [] 4 [] 0 (fun φ2 => [(8, .bool (((l : Nat) : Int) != ((r : Nat) : Int))), (7, .bool (((l : Nat) : Int) != ((r : Nat) : Int))), (6, .int .u8 ((r : Nat) : Int)), (5, .int .u8 ((l : Nat) : Int))]) (fun φ2 => []) (fun φ2 => []) s trivial (fun φ2 => by kernel_rfl) ?_
  intro φ2 w2 s
  rw [nat_neq (a := l) (b := r)]
  rcases Bool.eq_false_or_eq_true (decide (l ≠ r)) with hc3 | hc3
  ·
    rw [hc3]
    refine ops_rule (C := []) [] [] 4 [] 0 (fun φ4 => [(4, .bool true), (11, .bool true), (10, undef), (9, undef)]) (fun φ4 => []) (fun φ4 => []) s trivial (fun φ4 => by kernel_rfl) ?_
    intro φ4 w4 s
    refine ops_done (by kernel_rfl) ?_
    refine wp_ret ?_
    refine ret_rule (C := []) [] [] (.bool true) [] [] s trivial (by kernel_rfl) ?_
    exact ⟨_, _, _, rfl, s, (by rw [show mayP l r = true from decide_eq_true (.inl (of_decide_eq_true hc3))])⟩
  ·
    rw [hc3]
    refine ops_rule (C := []) [] [] 4 [] 0 (fun φ5 => [(4, .bool (((l : Nat) : Int) == ((2 : Nat) : Int))), (11, .bool (((l : Nat) : Int) == ((2 : Nat) : Int))), (10, .bool (((l : Nat) : Int) == ((2 : Nat) : Int))), (9, .int .u8 ((l : Nat) : Int))]) (fun φ5 => []) (fun φ5 => []) s trivial (fun φ5 => by kernel_rfl) ?_
    intro φ5 w5 s
    rw [nat_eql (a := l) (b := 2)]
    refine ops_done (by kernel_rfl) ?_
    refine wp_ret ?_
    refine ret_rule (C := []) [] [] (.bool (decide (l = 2))) [] [] s trivial (by kernel_rfl) ?_
    exact ⟨_, _, _, rfl, s, (congrArg Value.bool (decide_eq_decide.2 ⟨.inr, fun q => q.elim (fun q => absurd (Decidable.not_not.1 (of_decide_eq_false hc3)) q) id⟩))⟩

set_option maxHeartbeats 2000000 in
theorem leafG_c {I : IM} {b p d : Nat} {ss : List UInt8} {st : List (Nat × Nat)} {v : Value} {F : List OB} {p' d' sh : Nat} {st' : List (Nat × Nat)} {ok : Bool} (hs : ss.length ≤ 1000000) (hp : p ≤ ss.length) (hrow : RowH 152 2 v st.length (stV st) F) (hst : st.length ≤ p) (hd : d ≤ 1000000) (hL : lfG ss (ss.length + 1) p st d = (p', st', d', sh, ok)) :
    FunM Tryd.prog 104 #[.pointer (some ⟨b, 0, none⟩)] I ((b, .cells #[.string ⟨(ss).toArray⟩, .int .i64 ((p : Nat) : Int), v, .int .i64 ((d : Nat) : Int)] 146) :: F) (fun v J H' => ∃ (b' : OB) (F' : List OB), H' = b' :: F' ∧ b'.1 = b ∧ ∃ v' : Value, v = .tuple #[.int .u8 ((sh : Nat) : Int), .bool ok] ∧ b' = (b, .cells #[.string ⟨(ss).toArray⟩, .int .i64 ((p' : Nat) : Int), v', .int .i64 ((d' : Nat) : Int)] 146) ∧ RowH 152 2 v' st'.length (stV st') F') := by
  refine enterM_rule 55 [(0, .pointer (some ⟨b, 0, none⟩))] Tryd.func104 rfl (by kernel_rfl) ?_
  intro w s
  refine wp_seq ?_
  refine region_rule ?_
  refine ops_rule (C := []) [(b, .cells #[.string ⟨(ss).toArray⟩, .int .i64 ((p : Nat) : Int), v, .int .i64 ((d : Nat) : Int)] 146)] F 2 [] 0 (fun φ1 => [(3, .bool false), (2, .int .u8 0)]) (fun φ1 => [(b, .cells #[.string ⟨(ss).toArray⟩, .int .i64 ((p : Nat) : Int), v, .int .i64 ((d : Nat) : Int)] 146)]) (fun φ1 => []) s trivial (fun φ1 => by kernel_rfl) ?_
  intro φ1 w1 s
  refine ops_done (by kernel_rfl) ?_
  refine wp_seq ?_
  refine wp_block ?_
  have hle2 := IM.Le.refl I
  refine loop_rule (fun (x : Nat × List (Nat × Nat) × Nat × Value × List OB) => [(0, .pointer (some ⟨b, 0, none⟩))]) (fun (x : Nat × List (Nat × Nat) × Nat × Value × List OB) => (b, .cells #[.string ⟨(ss).toArray⟩, .int .i64 ((x.1 : Nat) : Int), x.2.2.2.1, .int .i64 ((x.2.2.1 : Nat) : Int)] 146) :: x.2.2.2.2) (fun m (x : Nat × List (Nat × Nat) × Nat × Value × List OB) J => IM.Le I J ∧ lfG ss m x.1 x.2.1 x.2.2.1 = lfG ss (ss.length + 1) p st d ∧ x.1 ≤ ss.length ∧ ss.length < x.1 + m ∧ RowH 152 2 x.2.2.2.1 x.2.1.length (stV x.2.1) x.2.2.2.2 ∧ x.2.1.length ≤ x.1 ∧ x.2.2.1 ≤ 1000000) (ss.length + 1) (p, st, d, v, F) s (by kernel_rfl) (List.Sublist.refl _) ⟨IM.Le.refl _, rfl, hp, by omega, hrow, hst, hd⟩ ?_
  rintro m3 ⟨p3, st3, d3, v3, F3⟩ I3 w3 evj s ⟨le3, hL3, hp3, hm3, hrow3, hst3, hd3⟩
  dsimp only at s hL3 hp3 hm3 hrow3 hst3 hd3
  replace hle2 := leMono9 le3 hle2
  refine wp_seq ?_
  refine wp_seq ?_
  refine region_rule ?_
  refine ops_rule (C := []) [(b, .cells #[.string ⟨(ss).toArray⟩, .int .i64 ((p3 : Nat) : Int), v3, .int .i64 ((d3 : Nat) : Int)] 146)] F3 1 [] 0 (fun φ4 => [(8, .pointer (some ⟨b, 0, none⟩))]) (fun φ4 => [(b, .cells #[.string ⟨(ss).toArray⟩, .int .i64 ((p3 : Nat) : Int), v3, .int .i64 ((d3 : Nat) : Int)] 146)]) (fun φ4 => []) s trivial (fun φ4 => by kernel_rfl) ?_
  intro φ4 w4 s
  refine callB_rule (b := (b, .cells #[.string ⟨(ss).toArray⟩, .int .i64 ((p3 : Nat) : Int), v3, .int .i64 ((d3 : Nat) : Int)] 146)) (H := [(b, .cells #[.string ⟨(ss).toArray⟩, .int .i64 ((p3 : Nat) : Int), v3, .int .i64 ((d3 : Nat) : Int)] 146)]) (F := F3) (Hr := []) (some 9) 0 s (by kernel_rfl) (by kernel_rfl) (takeP_c (ov := v3) (dv := .int .i64 ((d3 : Nat) : Int)) (b := b) (p := p3) (c := 40) (ss := ss) hs hp3) (by kernel_rfl) ?_
  rintro v5 I5 w5 b5 le5 - h5 s
  replace hle2 := leMono9 le5 hle2
  obtain ⟨rfl, rfl⟩ := h5
  refine ops_done (by kernel_rfl) ?_
  rcases Bool.eq_false_or_eq_true (tkB ss p3 40) with hc6 | hc6
  ·
    rw [hc6]
    refine cond_true_rule (b := true) (by kernel_rfl) rfl ?_
    refine wp_skip ?_
    refine wp_block ?_
    refine wp_seq ?_
    refine region_rule ?_
    refine ops_rule (C := []) [(b, .cells #[.string ⟨(ss).toArray⟩, .int .i64 ((tkP ss p3 40 : Nat) : Int), v3, .int .i64 ((d3 : Nat) : Int)] 146)] F3 1 [] 0 (fun φ7 => [(11, .pointer (some ⟨b, 0, none⟩))]) (fun φ7 => [(b, .cells #[.string ⟨(ss).toArray⟩, .int .i64 ((tkP ss p3 40 : Nat) : Int), v3, .int .i64 ((d3 : Nat) : Int)] 146)]) (fun φ7 => []) s trivial (fun φ7 => by kernel_rfl) ?_
    intro φ7 w7 s
    refine callB_rule (b := (b, .cells #[.string ⟨(ss).toArray⟩, .int .i64 ((tkP ss p3 40 : Nat) : Int), v3, .int .i64 ((d3 : Nat) : Int)] 146)) (H := [(b, .cells #[.string ⟨(ss).toArray⟩, .int .i64 ((tkP ss p3 40 : Nat) : Int), v3, .int .i64 ((d3 : Nat) : Int)] 146)]) (F := F3) (Hr := []) (some 12) 0 s (by kernel_rfl) (by kernel_rfl) (numP_c (ov := v3) (dv := .int .i64 ((d3 : Nat) : Int)) (b := b) (p := tkP ss p3 40) (ss := ss) hs (tkP_le 40 hp3)) (by kernel_rfl) ?_
    rintro v8 I8 w8 b8 le8 - h8 s
    replace hle2 := leMono9 le8 hle2
    obtain ⟨rfl, rfl⟩ := h8
    refine ops_rule (C := []) [(b, .cells #[.string ⟨(ss).toArray⟩, .int .i64 ((nuP ss (tkP ss p3 40) : Nat) : Int), v3, .int .i64 ((d3 : Nat) : Int)] 146)] F3 5 [] 0 (fun φ9 => [(5, .bool (nuO ss (tkP ss p3 40))), (4, .int .u64 ((nuV ss (tkP ss p3 40) : Nat) : Int)), (14, .bool (nuO ss (tkP ss p3 40))), (13, .int .u64 ((nuV ss (tkP ss p3 40) : Nat) : Int)), (10, .tuple #[.int .u64 ((nuV ss (tkP ss p3 40) : Nat) : Int), .bool (nuO ss (tkP ss p3 40))])]) (fun φ9 => [(b, .cells #[.string ⟨(ss).toArray⟩, .int .i64 ((nuP ss (tkP ss p3 40) : Nat) : Int), v3, .int .i64 ((d3 : Nat) : Int)] 146)]) (fun φ9 => []) s trivial (fun φ9 => by kernel_rfl) ?_
    intro φ9 w9 s
    refine ops_done (by kernel_rfl) ?_
    refine wp_seq ?_
    refine wp_seq ?_
    refine region_rule ?_
    refine ops_rule (C := []) [(b, .cells #[.string ⟨(ss).toArray⟩, .int .i64 ((nuP ss (tkP ss p3 40) : Nat) : Int), v3, .int .i64 ((d3 : Nat) : Int)] 146)] F3 3 [] 0 (fun φ10 => [(17, .bool (!(nuO ss (tkP ss p3 40)))), (16, .bool (!(nuO ss (tkP ss p3 40)))), (15, .bool (nuO ss (tkP ss p3 40)))]) (fun φ10 => [(b, .cells #[.string ⟨(ss).toArray⟩, .int .i64 ((nuP ss (tkP ss p3 40) : Nat) : Int), v3, .int .i64 ((d3 : Nat) : Int)] 146)]) (fun φ10 => []) s trivial (fun φ10 => by kernel_rfl) ?_
    intro φ10 w10 s
    rcases Bool.eq_false_or_eq_true (nuO ss (tkP ss p3 40)) with hc11 | hc11
    ·
      rw [hc11]
      refine ops_rule (C := []) [(b, .cells #[.string ⟨(ss).toArray⟩, .int .i64 ((nuP ss (tkP ss p3 40) : Nat) : Int), v3, .int .i64 ((d3 : Nat) : Int)] 146)] F3 1 [] 0 (fun φ12 => [(18, .pointer (some ⟨b, 0, none⟩))]) (fun φ12 => [(b, .cells #[.string ⟨(ss).toArray⟩, .int .i64 ((nuP ss (tkP ss p3 40) : Nat) : Int), v3, .int .i64 ((d3 : Nat) : Int)] 146)]) (fun φ12 => []) s trivial (fun φ12 => by kernel_rfl) ?_
      intro φ12 w12 s
      refine callB_rule (b := (b, .cells #[.string ⟨(ss).toArray⟩, .int .i64 ((nuP ss (tkP ss p3 40) : Nat) : Int), v3, .int .i64 ((d3 : Nat) : Int)] 146)) (H := [(b, .cells #[.string ⟨(ss).toArray⟩, .int .i64 ((nuP ss (tkP ss p3 40) : Nat) : Int), v3, .int .i64 ((d3 : Nat) : Int)] 146)]) (F := F3) (Hr := []) (some 19) 0 s (by kernel_rfl) (by kernel_rfl) (takeP_c (ov := v3) (dv := .int .i64 ((d3 : Nat) : Int)) (b := b) (p := nuP ss (tkP ss p3 40)) (c := 44) (ss := ss) hs (nuP_le (tkP_le 40 hp3))) (by kernel_rfl) ?_
      rintro v13 I13 w13 b13 le13 - h13 s
      replace hle2 := leMono9 le13 hle2
      obtain ⟨rfl, rfl⟩ := h13
      refine ops_rule (C := []) [(b, .cells #[.string ⟨(ss).toArray⟩, .int .i64 ((tkP ss (nuP ss (tkP ss p3 40)) 44 : Nat) : Int), v3, .int .i64 ((d3 : Nat) : Int)] 146)] F3 2 [] 0 (fun φ14 => [(21, .bool (!(tkB ss (nuP ss (tkP ss p3 40)) 44))), (20, .bool (!(tkB ss (nuP ss (tkP ss p3 40)) 44)))]) (fun φ14 => [(b, .cells #[.string ⟨(ss).toArray⟩, .int .i64 ((tkP ss (nuP ss (tkP ss p3 40)) 44 : Nat) : Int), v3, .int .i64 ((d3 : Nat) : Int)] 146)]) (fun φ14 => []) s trivial (fun φ14 => by kernel_rfl) ?_
      intro φ14 w14 s
      refine ops_done (by kernel_rfl) ?_
      rcases Bool.eq_false_or_eq_true (tkB ss (nuP ss (tkP ss p3 40)) 44) with hc15 | hc15
      ·
        rw [hc15]
        refine cond_false_rule (b := false) (by kernel_rfl) rfl ?_
        refine wp_skip ?_
        refine wp_seq ?_
        refine drawF_rule (C := []) ⟨(fun φ16 xs16 => [.look 0 [] [], .look 0 [] [], .look 0 [] [], .look 0 [] [], .look 0 [.o 0] [b], .look 0 [] [], .call 120 #[.int .u64 ((nuV ss (tkP ss p3 40) : Nat) : Int)], .look 0 [] [], .new, .row 0 (Builtin.append_ #[144, 144] 144 #[v3, .slice (some ⟨(φ16 8), 0, none⟩) 1 1]), .look 0 [] [], .look 0 [] [], .store 0 [.o 0] [b]]), (fun φ16 xs16 => [.pointer (some ⟨b, 0, none⟩), .pointer (some ⟨b, 0, none⟩), .pointer (some ⟨b, 0, none⟩), .pointer (some ⟨b, 2, none⟩), v3, .int .u64 ((nuV ss (tkP ss p3 40) : Nat) : Int), .int .u8 ((nodeSh (nuV ss (tkP ss p3 40)) : Nat) : Int), .agg #[.int .u8 ((nodeSh (nuV ss (tkP ss p3 40)) : Nat) : Int), .int .u8 0], .slice (some ⟨(φ16 8), 0, none⟩) 1 1, .slice (some ⟨(xs16 9).n 0, 0, none⟩) ((List.length st3) + 1) ((xs16 9).n 1), .pointer (some ⟨b, 0, none⟩), .pointer (some ⟨b, 2, none⟩), undef]), (fun φ16 xs16 => [[(b, .cells #[.string ⟨(ss).toArray⟩, .int .i64 ((tkP ss (nuP ss (tkP ss p3 40)) 44 : Nat) : Int), v3, .int .i64 ((d3 : Nat) : Int)] 146)], [(b, .cells #[.string ⟨(ss).toArray⟩, .int .i64 ((tkP ss (nuP ss (tkP ss p3 40)) 44 : Nat) : Int), .slice (some ⟨(xs16 9).n 0, 0, none⟩) ((List.length st3) + 1) ((xs16 9).n 1), .int .i64 ((d3 : Nat) : Int)] 146)]]), (fun φ16 xs16 => [[default, default, default, default, default, default, default, default, .cells #[.int .u8 ((nodeSh (nuV ss (tkP ss p3 40)) : Nat) : Int), .int .u8 0] 152, default, default, default, default], [default, default, default, default, default, default, default, default, .cells #[.int .u8 ((nodeSh (nuV ss (tkP ss p3 40)) : Nat) : Int), .int .u8 0] 152, default, default, default, default]]), [12], [1, 1, 1, 1, 1, 1, 3, 1, 2, 7, 1, 1, 4]⟩ (fun j => ([MP.any, MP.any, MP.any, MP.any, MP.any, MP.any, MP.any, MP.any, MP.any, MP.any, MP.any, MP.any, MP.any] : List MP).getD j MP.any) 9 F3 (fun x F => RowH 152 2 (.slice (some ⟨x.n 0, 0, none⟩) ((List.length st3) + 1) (x.n 1)) ((List.length st3) + 1) ((stV st3) ++ [.int .u8 ((nodeSh (nuV ss (tkP ss p3 40)) : Nat) : Int), .int .u8 0]) F) [6] [] [] 0 (fun φ16 xs16 => [(b, .cells #[.string ⟨(ss).toArray⟩, .int .i64 ((tkP ss (nuP ss (tkP ss p3 40)) 44 : Nat) : Int), v3, .int .i64 ((d3 : Nat) : Int)] 146), ((φ16 8), .cells #[.int .u8 ((nodeSh (nuV ss (tkP ss p3 40)) : Nat) : Int), .int .u8 0] 152)]) (fun φ16 xs16 => (Builtin.append_ #[144, 144] 144 #[v3, .slice (some ⟨(φ16 8), 0, none⟩) 1 1] : Sem Value)) (fun φ16 xs16 => [[none, none, none, none, none, none, none, none, none, none, none, none, none]]) (fun φ16 xs16 => [(22, .pointer (some ⟨b, 0, none⟩)), (23, .pointer (some ⟨b, 0, none⟩)), (24, .pointer (some ⟨b, 0, none⟩)), (25, .pointer (some ⟨b, 2, none⟩)), (26, v3), (27, .int .u64 ((nuV ss (tkP ss p3 40) : Nat) : Int)), (28, .int .u8 ((nodeSh (nuV ss (tkP ss p3 40)) : Nat) : Int)), (29, .agg #[.int .u8 ((nodeSh (nuV ss (tkP ss p3 40)) : Nat) : Int), .int .u8 0]), (30, .slice (some ⟨(φ16 8), 0, none⟩) 1 1), (31, .slice (some ⟨(xs16 9).n 0, 0, none⟩) ((List.length st3) + 1) ((xs16 9).n 1)), (32, .pointer (some ⟨b, 0, none⟩)), (33, .pointer (some ⟨b, 2, none⟩))]) (fun φ16 xs16 => [(b, .cells #[.string ⟨(ss).toArray⟩, .int .i64 ((tkP ss (nuP ss (tkP ss p3 40)) 44 : Nat) : Int), .slice (some ⟨(xs16 9).n 0, 0, none⟩) ((List.length st3) + 1) ((xs16 9).n 1), .int .i64 ((d3 : Nat) : Int)] 146), ((φ16 8), .cells #[.int .u8 ((nodeSh (nuV ss (tkP ss p3 40)) : Nat) : Int), .int .u8 0] 152)]) (by decide) s trivial (by kernel_rfl) (by kernel_rfl) (fun _ _ => by kernel_rfl) (fun _ _ => by kernel_rfl) ⟨fun _ _ => by kernel_rfl, fun _ _ => by kernel_rfl, fun _ _ => by kernel_rfl, fun _ _ => by kernel_rfl⟩ (fun _ _ _ => by kernel_rfl) (fun _ _ => by kernel_rfl) (fun _ _ => by kernel_rfl) (fun _ _ => by kernel_rfl) (fun _ _ => by kernel_rfl) (fun _ _ => by kernel_rfl) trivial trivial (by kernel_rfl) (fun _ _ => by kernel_rfl) (fun _ _ => by kernel_rfl) ?row16 ⟨?c16_6, trivial⟩ ?k16
        case c16_6 =>
          refine kcast (A := ∀ (φ16 : Nat → Nat) (xs16 : Xs) (J6_16 : IM), I13.Le J6_16 → Fun Tryd.prog 120 #[.int .u64 ((nuV ss (tkP ss p3 40) : Nat) : Int)] J6_16 (fun v J' => ∃ x : UX, v = .int .u8 ((nodeSh (nuV ss (tkP ss p3 40)) : Nat) : Int) ∧ (True))) (by kernel_rfl) ?_
          intro φ16 xs16 J6_16 leJ
          exact Fun.mono (nodeSh_c (n := nuV ss (tkP ss p3 40))) (fun v J' _ h => ⟨UX.d, h, trivial⟩)
        case row16 =>
          refine kcast (A := ∀ (φ16 : Nat → Nat) (xs16 : Xs) (J : IM) (wz : World) (H2 : List OB), I13.Le J → (True) → (St w I (b :: F.map (·.1)) J wz (([(b, .cells #[.string ⟨(ss).toArray⟩, .int .i64 ((tkP ss (nuP ss (tkP ss p3 40)) 44 : Nat) : Int), v3, .int .i64 ((d3 : Nat) : Int)] 146), ((φ16 8), .cells #[.int .u8 ((nodeSh (nuV ss (tkP ss p3 40)) : Nat) : Int), .int .u8 0] 152)] ++ H2) ++ F3)) → ∃ (x : UX) (J' : IM) (w' : World) (F' : List OB), ((Builtin.append_ #[144, 144] 144 #[v3, .slice (some ⟨(φ16 8), 0, none⟩) 1 1]) : Sem Value).run Tryd.prog wz = .ok (.slice (some ⟨x.n 0, 0, none⟩) ((List.length st3) + 1) (x.n 1)) w' ∧ J.Le J' ∧ St w I (b :: F.map (·.1)) J' w' (([(b, .cells #[.string ⟨(ss).toArray⟩, .int .i64 ((tkP ss (nuP ss (tkP ss p3 40)) 44 : Nat) : Int), v3, .int .i64 ((d3 : Nat) : Int)] 146), ((φ16 8), .cells #[.int .u8 ((nodeSh (nuV ss (tkP ss p3 40)) : Nat) : Int), .int .u8 0] 152)] ++ H2) ++ F') ∧ RowH 152 2 (.slice (some ⟨x.n 0, 0, none⟩) ((List.length st3) + 1) (x.n 1)) ((List.length st3) + 1) ((stV st3) ++ [.int .u8 ((nodeSh (nuV ss (tkP ss p3 40)) : Nat) : Int), .int .u8 0]) F') (by kernel_rfl) ?_
          intro φ16 xs16 J wz H2 leJ 
          rintro _
          intro s9
          obtain ⟨g9, cap9, w9, F9, hr9, s9, row9⟩ := append_rowS (H := [(b, .cells #[.string ⟨(ss).toArray⟩, .int .i64 ((tkP ss (nuP ss (tkP ss p3 40)) 44 : Nat) : Int), v3, .int .i64 ((d3 : Nat) : Int)] 146), ((φ16 8), .cells #[.int .u8 ((nodeSh (nuV ss (tkP ss p3 40)) : Nat) : Int), .int .u8 0] 152)] ++ H2) s9 144 144 144 152 Tryd.t152 (.agg #[.int .u8 0, .int .u8 0]) 2 2 Tryd.underlying144 (by kernel_rfl) (by kernel_rfl) (by kernel_rfl) (by kernel_rfl) (by kernel_rfl) (by decide) hrow3 (src_own s9 1 (φ16 8) #[.int .u8 ((nodeSh (nuV ss (tkP ss p3 40)) : Nat) : Int), .int .u8 0] 152 144 152 1 1 2 [.int .u8 ((nodeSh (nuV ss (tkP ss p3 40)) : Nat) : Int), .int .u8 0] (by kernel_rfl) Tryd.underlying144 (by kernel_rfl) (by kernel_rfl) (by kernel_rfl)) (by simp only [maxLen]; omega) (by omega) (by omega)
          exact ⟨{ UX.d with n := fun j => cond (Nat.beq j 0) g9 cap9 }, J, w9, F9, hr9, IM.Le.refl J, s9, row9⟩
        case k16 =>
          rintro φ16 xs16 I16 w16 F16 le16 s hrw16 _
          replace hle2 := leMono9 le16 hle2
          refine drawK_rule (C := []) ⟨(fun φ17 xs17 => [.look 0 [] [], .look 0 [] [], .look 0 [] [], .look 0 [] [], .look 0 [.o 0] [b], .look 0 [] [], .look 0 [] [], .look 0 [] [], .look 0 [.o 0] [b], .look 0 [] [], .sub 0 [] [] (.int .i64 (if ((((List.length st3) + 1) : Nat) : Int) > ((d3 : Nat) : Int) then ((((List.length st3) + 1) : Nat) : Int) else ((d3 : Nat) : Int))), .look 0 [] [], .look 0 [] [], .store 0 [.o 0] [b]]), (fun φ17 xs17 => [.pointer (some ⟨b, 0, none⟩), .pointer (some ⟨b, 0, none⟩), .pointer (some ⟨b, 0, none⟩), .pointer (some ⟨b, 3, none⟩), .int .i64 ((d3 : Nat) : Int), .pointer (some ⟨b, 0, none⟩), .pointer (some ⟨b, 0, none⟩), .pointer (some ⟨b, 2, none⟩), .slice (some ⟨(xs16 9).n 0, 0, none⟩) ((List.length st3) + 1) ((xs16 9).n 1), .int .i64 ((((List.length st3) + 1) : Nat) : Int), .int .i64 ((max d3 ((List.length st3) + 1) : Nat) : Int), .pointer (some ⟨b, 0, none⟩), .pointer (some ⟨b, 3, none⟩), undef]), (fun φ17 xs17 => [[(b, .cells #[.string ⟨(ss).toArray⟩, .int .i64 ((tkP ss (nuP ss (tkP ss p3 40)) 44 : Nat) : Int), .slice (some ⟨(xs16 9).n 0, 0, none⟩) ((List.length st3) + 1) ((xs16 9).n 1), .int .i64 ((d3 : Nat) : Int)] 146), ((φ16 8), .cells #[.int .u8 ((nodeSh (nuV ss (tkP ss p3 40)) : Nat) : Int), .int .u8 0] 152)], [(b, .cells #[.string ⟨(ss).toArray⟩, .int .i64 ((tkP ss (nuP ss (tkP ss p3 40)) 44 : Nat) : Int), .slice (some ⟨(xs16 9).n 0, 0, none⟩) ((List.length st3) + 1) ((xs16 9).n 1), .int .i64 ((max d3 ((List.length st3) + 1) : Nat) : Int)] 146), ((φ16 8), .cells #[.int .u8 ((nodeSh (nuV ss (tkP ss p3 40)) : Nat) : Int), .int .u8 0] 152)]]), (fun φ17 xs17 => [[default, default, default, default, default, default, default, default, default, default, default, default, default, default], [default, default, default, default, default, default, default, default, default, default, default, default, default, default]]), [13], [1, 1, 1, 1, 1, 1, 1, 1, 1, 1, 5, 1, 1, 4]⟩ (fun j => ([MP.any, MP.any, MP.any, MP.any, MP.any, MP.any, MP.any, MP.any, MP.any, MP.any, MP.any, MP.any, MP.any, MP.any] : List MP).getD j MP.any) F16 [] [10] [] (fun φ17 xs17 => [[none, none, none, none, none, none, none, none, none, none, none, none, none, none]]) (fun φ17 xs17 => [(34, .pointer (some ⟨b, 0, none⟩)), (35, .pointer (some ⟨b, 0, none⟩)), (36, .pointer (some ⟨b, 0, none⟩)), (37, .pointer (some ⟨b, 3, none⟩)), (38, .int .i64 ((d3 : Nat) : Int)), (39, .pointer (some ⟨b, 0, none⟩)), (40, .pointer (some ⟨b, 0, none⟩)), (41, .pointer (some ⟨b, 2, none⟩)), (42, .slice (some ⟨(xs16 9).n 0, 0, none⟩) ((List.length st3) + 1) ((xs16 9).n 1)), (43, .int .i64 ((((List.length st3) + 1) : Nat) : Int)), (44, .int .i64 ((max d3 ((List.length st3) + 1) : Nat) : Int)), (45, .pointer (some ⟨b, 0, none⟩)), (46, .pointer (some ⟨b, 3, none⟩))]) (fun φ17 xs17 => [(b, .cells #[.string ⟨(ss).toArray⟩, .int .i64 ((tkP ss (nuP ss (tkP ss p3 40)) 44 : Nat) : Int), .slice (some ⟨(xs16 9).n 0, 0, none⟩) ((List.length st3) + 1) ((xs16 9).n 1), .int .i64 ((max d3 ((List.length st3) + 1) : Nat) : Int)] 146), ((φ16 8), .cells #[.int .u8 ((nodeSh (nuV ss (tkP ss p3 40)) : Nat) : Int), .int .u8 0] 152)]) s trivial (by kernel_rfl) (by kernel_rfl) (fun _ _ => by kernel_rfl) (fun _ _ => by kernel_rfl) ⟨fun _ _ => by kernel_rfl, fun _ _ => by kernel_rfl, fun _ _ => by kernel_rfl, fun _ _ => by kernel_rfl⟩ (fun _ _ _ => by kernel_rfl) (fun _ _ => by kernel_rfl) (fun _ _ => by kernel_rfl) (fun _ _ => by kernel_rfl) (fun _ _ => by kernel_rfl) (fun _ _ => by kernel_rfl) ⟨kcast (A := ∀ (φ17 : Nat → Nat) (xs17 : Xs), (.int .i64 (if ((((List.length st3) + 1) : Nat) : Int) > ((d3 : Nat) : Int) then ((((List.length st3) + 1) : Nat) : Int) else ((d3 : Nat) : Int)) : Value) = .int .i64 ((max d3 ((List.length st3) + 1) : Nat) : Int)) (by kernel_rfl) (fun φ17 xs17 => congrArg (Value.int .i64) ((nat_max (a := d3) (b := ((List.length st3) + 1))))), trivial⟩ trivial (by kernel_rfl) trivial ?k17
          case k17 =>
            rintro φ17 xs17 I17 w17 le17 s 
            replace hle2 := leMono9 le17 hle2
            have hv9 := tkP_t hc6
            have hv8 := tkP_t hc15
            have hq9 := tkP_ge ss p3 40
            have hr9 := nuP_ge ss (tkP ss p3 40)
            have hg9 := (lf_go (m := m3) (p := p3) (d := d3) (st := st3) (by omega) hc6 hc11 hc15).symm.trans hL3
            have ht9 := tkP_le 40 hp3
            exact ⟨⟨m3 - 1, (tkP ss (nuP ss (tkP ss p3 40)) 44, (nodeSh (nuV ss (tkP ss p3 40)), 0) :: st3, max d3 ((List.length st3) + 1), .slice (some ⟨(xs16 9).n 0, 0, none⟩) ((List.length st3) + 1) ((xs16 9).n 1), F16), _, _, _, by omega, rfl, s, (List.Sublist.cons₂ _ (List.Sublist.cons _ (List.Sublist.refl _))), by kernel_rfl, hle2, hg9, (tkP_le 44 (nuP_le (tkP_le 40 hp3))), by simp only; omega, hrw16, by simp only [List.length_cons]; omega, by simp only; omega⟩⟩
      ·
        rw [hc15]
        refine cond_true_rule (b := true) (by kernel_rfl) rfl ?_
        refine wp_seq ?_
        refine region_rule ?_
        refine ops_rule (C := []) [(b, .cells #[.string ⟨(ss).toArray⟩, .int .i64 ((tkP ss (nuP ss (tkP ss p3 40)) 44 : Nat) : Int), v3, .int .i64 ((d3 : Nat) : Int)] 146)] F3 2 [] 0 (fun φ18 => [(3, .bool false), (2, .int .u8 0)]) (fun φ18 => [(b, .cells #[.string ⟨(ss).toArray⟩, .int .i64 ((tkP ss (nuP ss (tkP ss p3 40)) 44 : Nat) : Int), v3, .int .i64 ((d3 : Nat) : Int)] 146)]) (fun φ18 => []) s trivial (fun φ18 => by kernel_rfl) ?_
        intro φ18 w18 s
        refine ops_done (by kernel_rfl) ?_
        refine wp_ret ?_
        refine ret_rule (C := []) [(b, .cells #[.string ⟨(ss).toArray⟩, .int .i64 ((tkP ss (nuP ss (tkP ss p3 40)) 44 : Nat) : Int), v3, .int .i64 ((d3 : Nat) : Int)] 146)] F3 (.tuple #[.int .u8 0, .bool false]) [] [] s trivial (by kernel_rfl) ?_
        replace s := s.drop (List.Sublist.append (List.Sublist.cons₂ _ List.Sublist.slnil) (List.Sublist.refl F3))
        have hg9 := (lf_noc (m := m3) (p := p3) (d := d3) (st := st3) (by omega) hc6 hc11 hc15).symm.trans (hL3.trans hL)
        cases hg9
        exact ⟨_, _, _, rfl, s, ⟨_, _, rfl, rfl, _, rfl, rfl, hrow3⟩⟩
    ·
      rw [hc11]
      refine ops_rule (C := []) [(b, .cells #[.string ⟨(ss).toArray⟩, .int .i64 ((nuP ss (tkP ss p3 40) : Nat) : Int), v3, .int .i64 ((d3 : Nat) : Int)] 146)] F3 4 [] 0 (fun φ19 => [(21, .bool true), (20, undef), (19, undef), (18, undef)]) (fun φ19 => [(b, .cells #[.string ⟨(ss).toArray⟩, .int .i64 ((nuP ss (tkP ss p3 40) : Nat) : Int), v3, .int .i64 ((d3 : Nat) : Int)] 146)]) (fun φ19 => []) s trivial (fun φ19 => by kernel_rfl) ?_
      intro φ19 w19 s
      refine ops_done (by kernel_rfl) ?_
      refine cond_true_rule (b := true) (by kernel_rfl) rfl ?_
      refine wp_seq ?_
      refine region_rule ?_
      refine ops_rule (C := []) [(b, .cells #[.string ⟨(ss).toArray⟩, .int .i64 ((nuP ss (tkP ss p3 40) : Nat) : Int), v3, .int .i64 ((d3 : Nat) : Int)] 146)] F3 2 [] 0 (fun φ20 => [(3, .bool false), (2, .int .u8 0)]) (fun φ20 => [(b, .cells #[.string ⟨(ss).toArray⟩, .int .i64 ((nuP ss (tkP ss p3 40) : Nat) : Int), v3, .int .i64 ((d3 : Nat) : Int)] 146)]) (fun φ20 => []) s trivial (fun φ20 => by kernel_rfl) ?_
      intro φ20 w20 s
      refine ops_done (by kernel_rfl) ?_
      refine wp_ret ?_
      refine ret_rule (C := []) [(b, .cells #[.string ⟨(ss).toArray⟩, .int .i64 ((nuP ss (tkP ss p3 40) : Nat) : Int), v3, .int .i64 ((d3 : Nat) : Int)] 146)] F3 (.tuple #[.int .u8 0, .bool false]) [] [] s trivial (by kernel_rfl) ?_
      replace s := s.drop (List.Sublist.append (List.Sublist.cons₂ _ List.Sublist.slnil) (List.Sublist.refl F3))
      have hg9 := (lf_non (m := m3) (p := p3) (d := d3) (st := st3) (by omega) hc6 hc11).symm.trans (hL3.trans hL)
      cases hg9
      exact ⟨_, _, _, rfl, s, ⟨_, _, rfl, rfl, _, rfl, rfl, hrow3⟩⟩
  ·
    rw [hc6]
    refine cond_false_rule (b := false) (by kernel_rfl) rfl ?_
    refine wp_exit ?_
    refine wp_seq ?_
    refine region_rule ?_
    refine ops_rule (C := []) [(b, .cells #[.string ⟨(ss).toArray⟩, .int .i64 ((tkP ss p3 40 : Nat) : Int), v3, .int .i64 ((d3 : Nat) : Int)] 146)] F3 1 [] 0 (fun φ21 => [(48, .pointer (some ⟨b, 0, none⟩))]) (fun φ21 => [(b, .cells #[.string ⟨(ss).toArray⟩, .int .i64 ((tkP ss p3 40 : Nat) : Int), v3, .int .i64 ((d3 : Nat) : Int)] 146)]) (fun φ21 => []) s trivial (fun φ21 => by kernel_rfl) ?_
    intro φ21 w21 s
    refine callB_rule (b := (b, .cells #[.string ⟨(ss).toArray⟩, .int .i64 ((tkP ss p3 40 : Nat) : Int), v3, .int .i64 ((d3 : Nat) : Int)] 146)) (H := [(b, .cells #[.string ⟨(ss).toArray⟩, .int .i64 ((tkP ss p3 40 : Nat) : Int), v3, .int .i64 ((d3 : Nat) : Int)] 146)]) (F := F3) (Hr := []) (some 49) 0 s (by kernel_rfl) (by kernel_rfl) (numP_c (ov := v3) (dv := .int .i64 ((d3 : Nat) : Int)) (b := b) (p := tkP ss p3 40) (ss := ss) hs (tkP_le 40 hp3)) (by kernel_rfl) ?_
    rintro v22 I22 w22 b22 le22 - h22 s
    replace hle2 := leMono9 le22 hle2
    obtain ⟨rfl, rfl⟩ := h22
    refine ops_rule (C := []) [(b, .cells #[.string ⟨(ss).toArray⟩, .int .i64 ((nuP ss (tkP ss p3 40) : Nat) : Int), v3, .int .i64 ((d3 : Nat) : Int)] 146)] F3 5 [] 0 (fun φ23 => [(7, .bool (nuO ss (tkP ss p3 40))), (6, .int .u64 ((nuV ss (tkP ss p3 40) : Nat) : Int)), (51, .bool (nuO ss (tkP ss p3 40))), (50, .int .u64 ((nuV ss (tkP ss p3 40) : Nat) : Int)), (47, .tuple #[.int .u64 ((nuV ss (tkP ss p3 40) : Nat) : Int), .bool (nuO ss (tkP ss p3 40))])]) (fun φ23 => [(b, .cells #[.string ⟨(ss).toArray⟩, .int .i64 ((nuP ss (tkP ss p3 40) : Nat) : Int), v3, .int .i64 ((d3 : Nat) : Int)] 146)]) (fun φ23 => []) s trivial (fun φ23 => by kernel_rfl) ?_
    intro φ23 w23 s
    refine ops_done (by kernel_rfl) ?_
    refine wp_seq ?_
    refine region_rule ?_
    refine ops_rule (C := []) [(b, .cells #[.string ⟨(ss).toArray⟩, .int .i64 ((nuP ss (tkP ss p3 40) : Nat) : Int), v3, .int .i64 ((d3 : Nat) : Int)] 146)] F3 1 [] 0 (fun φ24 => [(52, .int .u64 ((nuV ss (tkP ss p3 40) : Nat) : Int))]) (fun φ24 => [(b, .cells #[.string ⟨(ss).toArray⟩, .int .i64 ((nuP ss (tkP ss p3 40) : Nat) : Int), v3, .int .i64 ((d3 : Nat) : Int)] 146)]) (fun φ24 => []) s trivial (fun φ24 => by kernel_rfl) ?_
    intro φ24 w24 s
    refine call_rule (some 53) s (leafSh_c (n := nuV ss (tkP ss p3 40))) (by kernel_rfl) ?_
    intro v25 I25 w25 le25 h25 s
    replace hle2 := leMono9 le25 hle2
    obtain rfl := h25
    refine ops_rule (C := []) [(b, .cells #[.string ⟨(ss).toArray⟩, .int .i64 ((nuP ss (tkP ss p3 40) : Nat) : Int), v3, .int .i64 ((d3 : Nat) : Int)] 146)] F3 3 [] 0 (fun φ26 => [(3, .bool (nuO ss (tkP ss p3 40))), (2, .int .u8 ((leafSh (nuV ss (tkP ss p3 40)) : Nat) : Int)), (54, .bool (nuO ss (tkP ss p3 40)))]) (fun φ26 => [(b, .cells #[.string ⟨(ss).toArray⟩, .int .i64 ((nuP ss (tkP ss p3 40) : Nat) : Int), v3, .int .i64 ((d3 : Nat) : Int)] 146)]) (fun φ26 => []) s trivial (fun φ26 => by kernel_rfl) ?_
    intro φ26 w26 s
    refine ops_done (by kernel_rfl) ?_
    refine wp_ret ?_
    refine ret_rule (C := []) [(b, .cells #[.string ⟨(ss).toArray⟩, .int .i64 ((nuP ss (tkP ss p3 40) : Nat) : Int), v3, .int .i64 ((d3 : Nat) : Int)] 146)] F3 (.tuple #[.int .u8 ((leafSh (nuV ss (tkP ss p3 40)) : Nat) : Int), .bool (nuO ss (tkP ss p3 40))]) [] [] s trivial (by kernel_rfl) ?_
    replace s := s.drop (List.Sublist.append (List.Sublist.cons₂ _ List.Sublist.slnil) (List.Sublist.refl F3))
    have hg9 := (lf_end (m := m3) (p := p3) (d := d3) (st := st3) (by omega) hc6).symm.trans (hL3.trans hL)
    cases hg9
    exact ⟨_, _, _, rfl, s, ⟨_, _, rfl, rfl, _, rfl, rfl, hrow3⟩⟩

end Go.Proofs.YtgdickihjaomjaaDoor
/- Any text is read: nodes are closed. -/
set_option linter.all false
set_option maxRecDepth 100000
namespace Go.Proofs.YtgdickihjaomjaaDoor
open Go.RowKit Go.Sep
attribute [local irreducible] Go.wpList Go.Code.wp
def lastI : List (Nat × Nat) → Int
  | [] => -1
  | _ :: st => ((st.length : Nat) : Int)
theorem last_sub {st : List (Nat × Nat)} (h : st.length ≤ 1000000) : IntKind.wrap .i64 (((st.length : Nat) : Int) - ((1 : Nat) : Int)) = lastI st := by
  cases st with
  | nil => rfl
  | cons a st =>
    simp only [List.length_cons] at h
    show _ = ((st.length : Nat) : Int)
    rw [nat_subI (by simp only [List.length_cons]; omega) (by simp only [List.length_cons]; omega)]
    simp only [List.length_cons]; omega
theorem size152 (w : World) : (sizeOf 152).run Tryd.prog w = .ok 2 w := by kernel_rfl
theorem run_idx144 {w : World} {g n c k : Nat} (h : k < n) : (Instr.indexAt 144 (.slice (some ⟨g, 0, none⟩) n c) (.int .i64 ((k : Nat) : Int))).run Tryd.prog w = .ok (.pointer (some ⟨g, k * 2, none⟩)) w := by
  have h2 : (k : Int) < (n : Int) := by omega
  simp [Instr.indexAt, asIntOf, run_underlying under144, size152, h2, addr_add]
  intro h3; omega
theorem run_cutRowG {w : World} {g n cap k : Nat} (hk : k ≤ cap) :
    (Instr.sliceAt 144 (.slice (some ⟨g, 0, none⟩) n cap) none (some (.int .i64 ((k : Nat) : Int))) none).run Tryd.prog w = .ok (.slice (some ⟨g, 0, none⟩) k cap) w := by
  have hb : (Instr.sliceBound (.int .i64 ((k : Nat) : Int)) cap .sliceAcap).run Tryd.prog w = .ok k w := run_bound (k := k) hk
  simp [Instr.sliceAt, run_underlying under144, Instr.slice, Instr.sliceBounds, hb]
  intro _; rfl
theorem run_load147 {w : World} {g j : Nat} {v : Value} (h : w.cell? ⟨g, j, none⟩ = some v) : (Instr.loadAt 147 (.pointer (some ⟨g, j, none⟩))).run Tryd.prog w = .ok v w := by
  have e : (Instr.loadAt 147 (.pointer (some ⟨g, j, none⟩))).run Tryd.prog w = (load ⟨g, j, none⟩).run Tryd.prog w := by kernel_rfl
  rw [e]; simp only [load, Sem.run, h]
theorem st_own {o l : Nat} {st : List (Nat × Nat)} : (stV ((o, l) :: st))[st.length * 2]? = some (.int .u8 ((o : Nat) : Int)) := by
  rw [stV, List.getElem?_append_right (by rw [stV_len]; exact Nat.le_refl _), stV_len, Nat.sub_self]; rfl
theorem st_left {o l : Nat} {st : List (Nat × Nat)} : (stV ((o, l) :: st))[st.length * 2 + 1]? = some (.int .u8 ((l : Nat) : Int)) := by
  rw [stV, List.getElem?_append_right (by rw [stV_len]; omega), stV_len, show st.length * 2 + 1 - st.length * 2 = 1 by omega]; rfl
theorem st_cut {o l g cap : Nat} {st : List (Nat × Nat)} {F : List OB} (h : RowH 152 2 (.slice (some ⟨g, 0, none⟩) (st.length + 1) cap) (st.length + 1) (stV ((o, l) :: st)) F) : RowH 152 2 (.slice (some ⟨g, 0, none⟩) st.length cap) st.length (stV st) F := by
  have := RowH.take (k := st.length) h (by omega)
  rw [stV, ← stV_len, List.take_left'] at this
  · exact this
  · rfl
theorem row_cap {n g cap : Nat} {xs : List Value} {F : List OB} (h : RowH 152 2 (.slice (some ⟨g, 0, none⟩) n cap) n xs F) : n ≤ cap := by
  rcases h.2 with ⟨h, _⟩ | ⟨g', cap', cur, h, hF, hnc, _⟩
  · cases h
  · cases h; exact hnc
section
variable {ss : List UInt8} {p o l half : Nat} {st : List (Nat × Nat)}
theorem cl_stop (h : l = 0) : clG ss ((o, l) :: st) p half = (p, (o, l) :: st, half, true) := by rw [clG, if_pos h]
theorem cl_go (h : ¬ l = 0) (h1 : tkB ss p 41 = true) (h2 : mayP l half = true) : clG ss ((o, l) :: st) p half = clG ss st (tkP ss p 41) o := by rw [clG, if_neg h, if_pos h1, if_pos h2]
theorem cl_bad (h : ¬ l = 0) (h1 : tkB ss p 41 = true) (h2 : mayP l half = false) : clG ss ((o, l) :: st) p half = (tkP ss p 41, (o, l) :: st, 0, false) := by rw [clG, if_neg h, if_pos h1, if_neg (by rw [h2]; decide)]
theorem cl_no (h : ¬ l = 0) (h1 : tkB ss p 41 = false) : clG ss ((o, l) :: st) p half = (tkP ss p 41, (o, l) :: st, 0, false) := by rw [clG, if_neg h, if_neg (by rw [h1]; decide)]
end

set_option maxHeartbeats 2000000 in
theorem closeR_c {I : IM} {b p half : Nat} {ss : List UInt8} {st : List (Nat × Nat)} {dv : Value} {F : List OB} {p' half' : Nat} {st' : List (Nat × Nat)} {ok : Bool} {g cap : Nat} (hs : ss.length ≤ 1000000) (hp : p ≤ ss.length) (hrow : RowH 152 2 (.slice (some ⟨g, 0, none⟩) st.length cap) st.length (stV st) F) (hlen : st.length ≤ 1000000) (hC : clG ss st p half = (p', st', half', ok)) :
    FunM Tryd.prog 105 #[.pointer (some ⟨b, 0, none⟩), .int .u8 ((half : Nat) : Int)] I ((b, .cells #[.string ⟨(ss).toArray⟩, .int .i64 ((p : Nat) : Int), .slice (some ⟨g, 0, none⟩) (List.length st) cap, dv] 146) :: F) (fun v J H' => ∃ (b' : OB) (F' : List OB), H' = b' :: F' ∧ b'.1 = b ∧ ∃ v' : Value, v = .tuple #[.int .u8 ((half' : Nat) : Int), .bool ok] ∧ b' = (b, .cells #[.string ⟨(ss).toArray⟩, .int .i64 ((p' : Nat) : Int), v', dv] 146) ∧ RowH 152 2 v' st'.length (stV st') F') := by
  refine enterM_rule 62 [(0, .pointer (some ⟨b, 0, none⟩)), (1, .int .u8 ((half : Nat) : Int))] Tryd.func105 rfl (by kernel_rfl) ?_
  intro w s
  refine wp_seq ?_
  refine region_rule ?_
  refine ops_rule (C := []) [(b, .cells #[.string ⟨(ss).toArray⟩, .int .i64 ((p : Nat) : Int), .slice (some ⟨g, 0, none⟩) (List.length st) cap, dv] 146)] F 2 [] 0 (fun φ1 => [(5, .bool false), (4, .int .u8 0)]) (fun φ1 => [(b, .cells #[.string ⟨(ss).toArray⟩, .int .i64 ((p : Nat) : Int), .slice (some ⟨g, 0, none⟩) (List.length st) cap, dv] 146)]) (fun φ1 => []) s trivial (fun φ1 => by kernel_rfl) ?_
  intro φ1 w1 s
  refine ops_done (by kernel_rfl) ?_
  refine wp_seq ?_
  refine wp_seq ?_
  refine region_rule ?_
  refine ops_rule (C := []) [(b, .cells #[.string ⟨(ss).toArray⟩, .int .i64 ((p : Nat) : Int), .slice (some ⟨g, 0, none⟩) (List.length st) cap, dv] 146)] F 7 [.o 0] 0 (fun φ2 => [(6, .int .i64 (IntKind.wrap .i64 ((((List.length st) : Nat) : Int) - ((1 : Nat) : Int)))), (12, .int .i64 (IntKind.wrap .i64 ((((List.length st) : Nat) : Int) - ((1 : Nat) : Int)))), (11, .int .i64 (((List.length st) : Nat) : Int)), (10, .slice (some ⟨g, 0, none⟩) (List.length st) cap), (9, .pointer (some ⟨b, 2, none⟩)), (8, .pointer (some ⟨b, 0, none⟩)), (7, .pointer (some ⟨b, 0, none⟩))]) (fun φ2 => [(b, .cells #[.string ⟨(ss).toArray⟩, .int .i64 ((p : Nat) : Int), .slice (some ⟨g, 0, none⟩) (List.length st) cap, dv] 146)]) (fun φ2 => [b]) s trivial (fun φ2 => by kernel_rfl) ?_
  intro φ2 w2 s
  refine ops_done (by kernel_rfl) ?_
  refine wp_block ?_
  have hle3 := IM.Le.refl I
  rw [last_sub (st := st) hlen]
  refine loop_rule (fun (x : Nat × List (Nat × Nat) × Nat) => [(0, .pointer (some ⟨b, 0, none⟩)), (1, .int .u8 ((x.2.2 : Nat) : Int)), (6, .int .i64 (lastI x.2.1))]) (fun (x : Nat × List (Nat × Nat) × Nat) => (b, .cells #[.string ⟨(ss).toArray⟩, .int .i64 ((x.1 : Nat) : Int), .slice (some ⟨g, 0, none⟩) x.2.1.length cap, dv] 146) :: F) (fun m (x : Nat × List (Nat × Nat) × Nat) J => IM.Le I J ∧ clG ss x.2.1 x.1 x.2.2 = clG ss st p half ∧ x.1 ≤ ss.length ∧ RowH 152 2 (.slice (some ⟨g, 0, none⟩) x.2.1.length cap) x.2.1.length (stV x.2.1) F ∧ x.2.1.length = m ∧ m ≤ 1000000) st.length (p, st, half) s (by kernel_rfl) (List.Sublist.refl _) ⟨IM.Le.refl _, rfl, hp, hrow, rfl, hlen⟩ ?_
  rintro m4 ⟨p4, st4, h4⟩ I4 w4 evj s ⟨le4, hI4, hp4, hrow4, hm4, hb4⟩
  dsimp only at s hI4 hp4 hrow4 hm4 hb4
  replace hle3 := leMono9 le4 hle3
  rcases st4 with _ | ⟨⟨o4, l4⟩, st4⟩
  ·
    replace hI4 : (p4, ([] : List (Nat × Nat)), h4, true) = clG ss st p half := hI4
    replace s : St w I (b :: F.map (·.1)) I4 w4 ([(b, .cells #[.string ⟨(ss).toArray⟩, .int .i64 ((p4 : Nat) : Int), .slice (some ⟨g, 0, none⟩) 0 cap, dv] 146)] ++ F) := s
    change Code.wp Tryd.prog _ _ (ActOf _ ([(0, .pointer (some ⟨b, 0, none⟩)), (1, .int .u8 ((h4 : Nat) : Int)), (6, .int .i64 (-1))] ++ evj)) w4
    refine wp_seq ?_
    refine wp_seq ?_
    refine region_rule ?_
    refine ops_rule (C := []) [(b, .cells #[.string ⟨(ss).toArray⟩, .int .i64 ((p4 : Nat) : Int), .slice (some ⟨g, 0, none⟩) 0 cap, dv] 146)] F 13 [] 0 (fun φ5 => [(25, .bool false), (24, undef), (23, undef), (22, undef), (21, undef), (20, undef), (19, undef), (18, undef), (17, undef), (16, undef), (15, .bool false), (14, .bool false), (13, .int .i64 (-1))]) (fun φ5 => [(b, .cells #[.string ⟨(ss).toArray⟩, .int .i64 ((p4 : Nat) : Int), .slice (some ⟨g, 0, none⟩) 0 cap, dv] 146)]) (fun φ5 => []) s trivial (fun φ5 => by kernel_rfl) ?_
    intro φ5 w5 s
    refine ops_done (by kernel_rfl) ?_
    refine cond_false_rule (b := false) (by kernel_rfl) rfl ?_
    refine wp_exit ?_
    refine wp_seq ?_
    refine region_rule ?_
    refine ops_rule (C := []) [(b, .cells #[.string ⟨(ss).toArray⟩, .int .i64 ((p4 : Nat) : Int), .slice (some ⟨g, 0, none⟩) 0 cap, dv] 146)] F 3 [] 0 (fun φ6 => [(5, .bool true), (4, .int .u8 ((h4 : Nat) : Int)), (61, .int .u8 ((h4 : Nat) : Int))]) (fun φ6 => [(b, .cells #[.string ⟨(ss).toArray⟩, .int .i64 ((p4 : Nat) : Int), .slice (some ⟨g, 0, none⟩) 0 cap, dv] 146)]) (fun φ6 => []) s trivial (fun φ6 => by kernel_rfl) ?_
    intro φ6 w6 s
    refine ops_done (by kernel_rfl) ?_
    refine wp_ret ?_
    refine ret_rule (C := []) [(b, .cells #[.string ⟨(ss).toArray⟩, .int .i64 ((p4 : Nat) : Int), .slice (some ⟨g, 0, none⟩) 0 cap, dv] 146)] F (.tuple #[.int .u8 ((h4 : Nat) : Int), .bool true]) [] [] s trivial (by kernel_rfl) ?_
    replace s := s.drop (List.Sublist.append (List.Sublist.cons₂ _ List.Sublist.slnil) (List.Sublist.refl F))
    have hg9 := hI4.trans hC
    cases hg9
    exact ⟨_, _, _, rfl, s, ⟨_, _, rfl, rfl, _, rfl, rfl, hrow4⟩⟩
  ·
    simp only [List.length_cons] at hm4
    have hc4 := row_cap hrow4
    simp only [List.length_cons] at hc4
    replace s : St w I (b :: F.map (·.1)) I4 w4 ([(b, .cells #[.string ⟨(ss).toArray⟩, .int .i64 ((p4 : Nat) : Int), .slice (some ⟨g, 0, none⟩) (List.length st4 + 1) cap, dv] 146)] ++ F) := s
    change Code.wp Tryd.prog _ _ (ActOf _ ([(0, .pointer (some ⟨b, 0, none⟩)), (1, .int .u8 ((h4 : Nat) : Int)), (6, .int .i64 ((List.length st4 : Nat) : Int))] ++ evj)) w4
    refine wp_seq ?_
    refine wp_seq ?_
    refine region_rule ?_
    refine ops_rule (C := []) [(b, .cells #[.string ⟨(ss).toArray⟩, .int .i64 ((p4 : Nat) : Int), .slice (some ⟨g, 0, none⟩) (List.length st4 + 1) cap, dv] 146)] F 3 [] 0 (fun φ7 => [(15, .bool (decide (((List.length st4 : Nat) : Int) ≥ ((0 : Nat) : Int)))), (14, .bool (decide (((List.length st4 : Nat) : Int) ≥ ((0 : Nat) : Int)))), (13, .int .i64 ((List.length st4 : Nat) : Int))]) (fun φ7 => [(b, .cells #[.string ⟨(ss).toArray⟩, .int .i64 ((p4 : Nat) : Int), .slice (some ⟨g, 0, none⟩) (List.length st4 + 1) cap, dv] 146)]) (fun φ7 => []) s trivial (fun φ7 => by kernel_rfl) ?_
    intro φ7 w7 s
    rw [nat_geq (a := (List.length st4)) (b := 0)]
    rcases Bool.eq_false_or_eq_true (decide (0 ≤ (List.length st4))) with hc8 | hc8
    ·
      rw [hc8]
      refine ops_rule (C := []) [(b, .cells #[.string ⟨(ss).toArray⟩, .int .i64 ((p4 : Nat) : Int), .slice (some ⟨g, 0, none⟩) (List.length st4 + 1) cap, dv] 146)] F 5 [.o 0] 0 (fun φ9 => [(20, .int .i64 ((List.length st4 : Nat) : Int)), (19, .slice (some ⟨g, 0, none⟩) (List.length st4 + 1) cap), (18, .pointer (some ⟨b, 2, none⟩)), (17, .pointer (some ⟨b, 0, none⟩)), (16, .pointer (some ⟨b, 0, none⟩))]) (fun φ9 => [(b, .cells #[.string ⟨(ss).toArray⟩, .int .i64 ((p4 : Nat) : Int), .slice (some ⟨g, 0, none⟩) (List.length st4 + 1) cap, dv] 146)]) (fun φ9 => [b]) s trivial (fun φ9 => by kernel_rfl) ?_
      intro φ9 w9 s
      refine sem_rule (Instr.indexAt 144 (.slice (some ⟨g, 0, none⟩) (List.length st4 + 1) cap) (.int .i64 ((List.length st4 : Nat) : Int))) (some 21) (.pointer (some ⟨g, (List.length st4 * 2), none⟩)) (by kernel_rfl) (run_idx144 (by omega)) ?_
      refine ops_rule (C := []) [(b, .cells #[.string ⟨(ss).toArray⟩, .int .i64 ((p4 : Nat) : Int), .slice (some ⟨g, 0, none⟩) (List.length st4 + 1) cap, dv] 146)] F 1 [] 0 (fun φ10 => [(22, .pointer (some ⟨g, ((List.length st4 * 2) + 1), none⟩))]) (fun φ10 => [(b, .cells #[.string ⟨(ss).toArray⟩, .int .i64 ((p4 : Nat) : Int), .slice (some ⟨g, 0, none⟩) (List.length st4 + 1) cap, dv] 146)]) (fun φ10 => []) s trivial (fun φ10 => by kernel_rfl) ?_
      intro φ10 w10 s
      refine sem_rule (Instr.loadAt 147 (.pointer (some ⟨g, ((List.length st4 * 2) + 1), none⟩))) (some 23) (.int .u8 ((l4 : Nat) : Int)) (by kernel_rfl) (run_load147 (row_cell (H := [(b, .cells #[.string ⟨(ss).toArray⟩, .int .i64 ((p4 : Nat) : Int), .slice (some ⟨g, 0, none⟩) (List.length st4 + 1) cap, dv] 146)]) (F := F) s hrow4 st_left)) ?_
      refine ops_rule (C := []) [(b, .cells #[.string ⟨(ss).toArray⟩, .int .i64 ((p4 : Nat) : Int), .slice (some ⟨g, 0, none⟩) (List.length st4 + 1) cap, dv] 146)] F 2 [] 0 (fun φ11 => [(25, .bool (((l4 : Nat) : Int) != ((0 : Nat) : Int))), (24, .bool (((l4 : Nat) : Int) != ((0 : Nat) : Int)))]) (fun φ11 => [(b, .cells #[.string ⟨(ss).toArray⟩, .int .i64 ((p4 : Nat) : Int), .slice (some ⟨g, 0, none⟩) (List.length st4 + 1) cap, dv] 146)]) (fun φ11 => []) s trivial (fun φ11 => by kernel_rfl) ?_
      intro φ11 w11 s
      rw [nat_neq (a := l4) (b := 0)]
      refine ops_done (by kernel_rfl) ?_
      rcases Bool.eq_false_or_eq_true (decide (l4 ≠ 0)) with hc12 | hc12
      ·
        rw [hc12]
        refine cond_true_rule (b := true) (by kernel_rfl) rfl ?_
        refine wp_skip ?_
        refine wp_seq ?_
        refine wp_block ?_
        refine wp_seq ?_
        refine wp_seq ?_
        refine region_rule ?_
        refine ops_rule (C := []) [(b, .cells #[.string ⟨(ss).toArray⟩, .int .i64 ((p4 : Nat) : Int), .slice (some ⟨g, 0, none⟩) (List.length st4 + 1) cap, dv] 146)] F 1 [] 0 (fun φ13 => [(28, .pointer (some ⟨b, 0, none⟩))]) (fun φ13 => [(b, .cells #[.string ⟨(ss).toArray⟩, .int .i64 ((p4 : Nat) : Int), .slice (some ⟨g, 0, none⟩) (List.length st4 + 1) cap, dv] 146)]) (fun φ13 => []) s trivial (fun φ13 => by kernel_rfl) ?_
        intro φ13 w13 s
        refine callB_rule (b := (b, .cells #[.string ⟨(ss).toArray⟩, .int .i64 ((p4 : Nat) : Int), .slice (some ⟨g, 0, none⟩) (List.length st4 + 1) cap, dv] 146)) (H := [(b, .cells #[.string ⟨(ss).toArray⟩, .int .i64 ((p4 : Nat) : Int), .slice (some ⟨g, 0, none⟩) (List.length st4 + 1) cap, dv] 146)]) (F := F) (Hr := []) (some 29) 0 s (by kernel_rfl) (by kernel_rfl) (takeP_c (ov := .slice (some ⟨g, 0, none⟩) (List.length st4 + 1) cap) (dv := dv) (b := b) (p := p4) (c := 41) (ss := ss) hs hp4) (by kernel_rfl) ?_
        rintro v14 I14 w14 b14 le14 - h14 s
        replace hle3 := leMono9 le14 hle3
        obtain ⟨rfl, rfl⟩ := h14
        refine ops_rule (C := []) [(b, .cells #[.string ⟨(ss).toArray⟩, .int .i64 ((tkP ss p4 41 : Nat) : Int), .slice (some ⟨g, 0, none⟩) (List.length st4 + 1) cap, dv] 146)] F 2 [] 0 (fun φ15 => [(31, .bool (!(tkB ss p4 41))), (30, .bool (!(tkB ss p4 41)))]) (fun φ15 => [(b, .cells #[.string ⟨(ss).toArray⟩, .int .i64 ((tkP ss p4 41 : Nat) : Int), .slice (some ⟨g, 0, none⟩) (List.length st4 + 1) cap, dv] 146)]) (fun φ15 => []) s trivial (fun φ15 => by kernel_rfl) ?_
        intro φ15 w15 s
        rcases Bool.eq_false_or_eq_true (tkB ss p4 41) with hc16 | hc16
        ·
          rw [hc16]
          refine ops_rule (C := []) [(b, .cells #[.string ⟨(ss).toArray⟩, .int .i64 ((tkP ss p4 41 : Nat) : Int), .slice (some ⟨g, 0, none⟩) (List.length st4 + 1) cap, dv] 146)] F 5 [.o 0] 0 (fun φ17 => [(36, .int .i64 ((List.length st4 : Nat) : Int)), (35, .slice (some ⟨g, 0, none⟩) (List.length st4 + 1) cap), (34, .pointer (some ⟨b, 2, none⟩)), (33, .pointer (some ⟨b, 0, none⟩)), (32, .pointer (some ⟨b, 0, none⟩))]) (fun φ17 => [(b, .cells #[.string ⟨(ss).toArray⟩, .int .i64 ((tkP ss p4 41 : Nat) : Int), .slice (some ⟨g, 0, none⟩) (List.length st4 + 1) cap, dv] 146)]) (fun φ17 => [b]) s trivial (fun φ17 => by kernel_rfl) ?_
          intro φ17 w17 s
          refine sem_rule (Instr.indexAt 144 (.slice (some ⟨g, 0, none⟩) (List.length st4 + 1) cap) (.int .i64 ((List.length st4 : Nat) : Int))) (some 37) (.pointer (some ⟨g, (List.length st4 * 2), none⟩)) (by kernel_rfl) (run_idx144 (by omega)) ?_
          refine ops_rule (C := []) [(b, .cells #[.string ⟨(ss).toArray⟩, .int .i64 ((tkP ss p4 41 : Nat) : Int), .slice (some ⟨g, 0, none⟩) (List.length st4 + 1) cap, dv] 146)] F 1 [] 0 (fun φ18 => [(38, .pointer (some ⟨g, ((List.length st4 * 2) + 1), none⟩))]) (fun φ18 => [(b, .cells #[.string ⟨(ss).toArray⟩, .int .i64 ((tkP ss p4 41 : Nat) : Int), .slice (some ⟨g, 0, none⟩) (List.length st4 + 1) cap, dv] 146)]) (fun φ18 => []) s trivial (fun φ18 => by kernel_rfl) ?_
          intro φ18 w18 s
          refine sem_rule (Instr.loadAt 147 (.pointer (some ⟨g, ((List.length st4 * 2) + 1), none⟩))) (some 39) (.int .u8 ((l4 : Nat) : Int)) (by kernel_rfl) (run_load147 (row_cell (H := [(b, .cells #[.string ⟨(ss).toArray⟩, .int .i64 ((tkP ss p4 41 : Nat) : Int), .slice (some ⟨g, 0, none⟩) (List.length st4 + 1) cap, dv] 146)]) (F := F) s hrow4 st_left)) ?_
          refine ops_rule (C := []) [(b, .cells #[.string ⟨(ss).toArray⟩, .int .i64 ((tkP ss p4 41 : Nat) : Int), .slice (some ⟨g, 0, none⟩) (List.length st4 + 1) cap, dv] 146)] F 1 [] 0 (fun φ19 => [(40, .int .u8 ((h4 : Nat) : Int))]) (fun φ19 => [(b, .cells #[.string ⟨(ss).toArray⟩, .int .i64 ((tkP ss p4 41 : Nat) : Int), .slice (some ⟨g, 0, none⟩) (List.length st4 + 1) cap, dv] 146)]) (fun φ19 => []) s trivial (fun φ19 => by kernel_rfl) ?_
          intro φ19 w19 s
          refine call_rule (some 41) s (mayP_c (l := l4) (r := h4)) (by kernel_rfl) ?_
          intro v20 I20 w20 le20 h20 s
          replace hle3 := leMono9 le20 hle3
          obtain rfl := h20
          refine ops_rule (C := []) [(b, .cells #[.string ⟨(ss).toArray⟩, .int .i64 ((tkP ss p4 41 : Nat) : Int), .slice (some ⟨g, 0, none⟩) (List.length st4 + 1) cap, dv] 146)] F 2 [] 0 (fun φ21 => [(43, .bool (!(mayP l4 h4))), (42, .bool (!(mayP l4 h4)))]) (fun φ21 => [(b, .cells #[.string ⟨(ss).toArray⟩, .int .i64 ((tkP ss p4 41 : Nat) : Int), .slice (some ⟨g, 0, none⟩) (List.length st4 + 1) cap, dv] 146)]) (fun φ21 => []) s trivial (fun φ21 => by kernel_rfl) ?_
          intro φ21 w21 s
          refine ops_done (by kernel_rfl) ?_
          rcases Bool.eq_false_or_eq_true (mayP l4 h4) with hc22 | hc22
          ·
            rw [hc22]
            refine cond_false_rule (b := false) (by kernel_rfl) rfl ?_
            refine wp_skip ?_
            refine wp_seq ?_
            refine region_rule ?_
            refine ops_rule (C := []) [(b, .cells #[.string ⟨(ss).toArray⟩, .int .i64 ((tkP ss p4 41 : Nat) : Int), .slice (some ⟨g, 0, none⟩) (List.length st4 + 1) cap, dv] 146)] F 5 [.o 0] 0 (fun φ23 => [(48, .int .i64 ((List.length st4 : Nat) : Int)), (47, .slice (some ⟨g, 0, none⟩) (List.length st4 + 1) cap), (46, .pointer (some ⟨b, 2, none⟩)), (45, .pointer (some ⟨b, 0, none⟩)), (44, .pointer (some ⟨b, 0, none⟩))]) (fun φ23 => [(b, .cells #[.string ⟨(ss).toArray⟩, .int .i64 ((tkP ss p4 41 : Nat) : Int), .slice (some ⟨g, 0, none⟩) (List.length st4 + 1) cap, dv] 146)]) (fun φ23 => [b]) s trivial (fun φ23 => by kernel_rfl) ?_
            intro φ23 w23 s
            refine sem_rule (Instr.indexAt 144 (.slice (some ⟨g, 0, none⟩) (List.length st4 + 1) cap) (.int .i64 ((List.length st4 : Nat) : Int))) (some 49) (.pointer (some ⟨g, (List.length st4 * 2), none⟩)) (by kernel_rfl) (run_idx144 (by omega)) ?_
            refine ops_rule (C := []) [(b, .cells #[.string ⟨(ss).toArray⟩, .int .i64 ((tkP ss p4 41 : Nat) : Int), .slice (some ⟨g, 0, none⟩) (List.length st4 + 1) cap, dv] 146)] F 1 [] 0 (fun φ24 => [(50, .pointer (some ⟨g, (List.length st4 * 2), none⟩))]) (fun φ24 => [(b, .cells #[.string ⟨(ss).toArray⟩, .int .i64 ((tkP ss p4 41 : Nat) : Int), .slice (some ⟨g, 0, none⟩) (List.length st4 + 1) cap, dv] 146)]) (fun φ24 => []) s trivial (fun φ24 => by kernel_rfl) ?_
            intro φ24 w24 s
            refine sem_rule (Instr.loadAt 147 (.pointer (some ⟨g, (List.length st4 * 2), none⟩))) (some 51) (.int .u8 ((o4 : Nat) : Int)) (by kernel_rfl) (run_load147 (row_cell (H := [(b, .cells #[.string ⟨(ss).toArray⟩, .int .i64 ((tkP ss p4 41 : Nat) : Int), .slice (some ⟨g, 0, none⟩) (List.length st4 + 1) cap, dv] 146)]) (F := F) s hrow4 st_own)) ?_
            refine ops_rule (C := []) [(b, .cells #[.string ⟨(ss).toArray⟩, .int .i64 ((tkP ss p4 41 : Nat) : Int), .slice (some ⟨g, 0, none⟩) (List.length st4 + 1) cap, dv] 146)] F 1 [] 0 (fun φ25 => [(1, .int .u8 ((o4 : Nat) : Int))]) (fun φ25 => [(b, .cells #[.string ⟨(ss).toArray⟩, .int .i64 ((tkP ss p4 41 : Nat) : Int), .slice (some ⟨g, 0, none⟩) (List.length st4 + 1) cap, dv] 146)]) (fun φ25 => []) s trivial (fun φ25 => by kernel_rfl) ?_
            intro φ25 w25 s
            refine ops_done (by kernel_rfl) ?_
            refine region_rule ?_
            refine ops_rule (C := []) [(b, .cells #[.string ⟨(ss).toArray⟩, .int .i64 ((tkP ss p4 41 : Nat) : Int), .slice (some ⟨g, 0, none⟩) (List.length st4 + 1) cap, dv] 146)] F 6 [.o 0] 0 (fun φ26 => [(57, .int .i64 ((List.length st4 : Nat) : Int)), (56, .slice (some ⟨g, 0, none⟩) (List.length st4 + 1) cap), (55, .pointer (some ⟨b, 2, none⟩)), (54, .pointer (some ⟨b, 0, none⟩)), (53, .pointer (some ⟨b, 0, none⟩)), (52, .pointer (some ⟨b, 0, none⟩))]) (fun φ26 => [(b, .cells #[.string ⟨(ss).toArray⟩, .int .i64 ((tkP ss p4 41 : Nat) : Int), .slice (some ⟨g, 0, none⟩) (List.length st4 + 1) cap, dv] 146)]) (fun φ26 => [b]) s trivial (fun φ26 => by kernel_rfl) ?_
            intro φ26 w26 s
            refine sem_rule (Instr.sliceAt 144 (.slice (some ⟨g, 0, none⟩) (List.length st4 + 1) cap) none (some (.int .i64 ((List.length st4 : Nat) : Int))) none) (some 58) (.slice (some ⟨g, 0, none⟩) (List.length st4) cap) (by kernel_rfl) (run_cutRowG (by have := row_cap hrow4; omega)) ?_
            refine ops_rule (C := []) [(b, .cells #[.string ⟨(ss).toArray⟩, .int .i64 ((tkP ss p4 41 : Nat) : Int), .slice (some ⟨g, 0, none⟩) (List.length st4 + 1) cap, dv] 146)] F 3 [.o 0] 0 (fun φ27 => [(60, .pointer (some ⟨b, 2, none⟩)), (59, .pointer (some ⟨b, 0, none⟩))]) (fun φ27 => [(b, .cells #[.string ⟨(ss).toArray⟩, .int .i64 ((tkP ss p4 41 : Nat) : Int), .slice (some ⟨g, 0, none⟩) (List.length st4) cap, dv] 146)]) (fun φ27 => [b]) s trivial (fun φ27 => by kernel_rfl) ?_
            intro φ27 w27 s
            refine ops_done (by kernel_rfl) ?_
            refine region_rule ?_
            refine ops_rule (C := []) [(b, .cells #[.string ⟨(ss).toArray⟩, .int .i64 ((tkP ss p4 41 : Nat) : Int), .slice (some ⟨g, 0, none⟩) (List.length st4) cap, dv] 146)] F 3 [] 0 (fun φ28 => [(6, .int .i64 (IntKind.wrap .i64 (((List.length st4 : Nat) : Int) - ((1 : Nat) : Int)))), (27, .int .i64 (IntKind.wrap .i64 (((List.length st4 : Nat) : Int) - ((1 : Nat) : Int)))), (26, .int .i64 ((List.length st4 : Nat) : Int))]) (fun φ28 => [(b, .cells #[.string ⟨(ss).toArray⟩, .int .i64 ((tkP ss p4 41 : Nat) : Int), .slice (some ⟨g, 0, none⟩) (List.length st4) cap, dv] 146)]) (fun φ28 => []) s trivial (fun φ28 => by kernel_rfl) ?_
            intro φ28 w28 s
            refine ops_done (by kernel_rfl) ?_
            rw [last_sub (st := st4) (by omega)]
            have hg9 := (cl_go ((of_decide_eq_true hc12)) hc16 hc22).symm.trans hI4
            exact ⟨⟨m4 - 1, (tkP ss p4 41, st4, o4), _, _, _, by omega, rfl, s, List.Sublist.refl _, by kernel_rfl, hle3, hg9, (tkP_le 41 hp4), st_cut hrow4, by simp only; omega, by omega⟩⟩
          ·
            rw [hc22]
            refine cond_true_rule (b := true) (by kernel_rfl) rfl ?_
            refine wp_seq ?_
            refine region_rule ?_
            refine ops_rule (C := []) [(b, .cells #[.string ⟨(ss).toArray⟩, .int .i64 ((tkP ss p4 41 : Nat) : Int), .slice (some ⟨g, 0, none⟩) (List.length st4 + 1) cap, dv] 146)] F 2 [] 0 (fun φ29 => [(5, .bool false), (4, .int .u8 0)]) (fun φ29 => [(b, .cells #[.string ⟨(ss).toArray⟩, .int .i64 ((tkP ss p4 41 : Nat) : Int), .slice (some ⟨g, 0, none⟩) (List.length st4 + 1) cap, dv] 146)]) (fun φ29 => []) s trivial (fun φ29 => by kernel_rfl) ?_
            intro φ29 w29 s
            refine ops_done (by kernel_rfl) ?_
            refine wp_ret ?_
            refine ret_rule (C := []) [(b, .cells #[.string ⟨(ss).toArray⟩, .int .i64 ((tkP ss p4 41 : Nat) : Int), .slice (some ⟨g, 0, none⟩) (List.length st4 + 1) cap, dv] 146)] F (.tuple #[.int .u8 0, .bool false]) [] [] s trivial (by kernel_rfl) ?_
            replace s := s.drop (List.Sublist.append (List.Sublist.cons₂ _ List.Sublist.slnil) (List.Sublist.refl F))
            have hg9 := (cl_bad (of_decide_eq_true hc12) hc16 hc22).symm.trans (hI4.trans hC)
            cases hg9
            exact ⟨_, _, _, rfl, s, ⟨_, _, rfl, rfl, _, rfl, rfl, hrow4⟩⟩
        ·
          rw [hc16]
          refine ops_rule (C := []) [(b, .cells #[.string ⟨(ss).toArray⟩, .int .i64 ((tkP ss p4 41 : Nat) : Int), .slice (some ⟨g, 0, none⟩) (List.length st4 + 1) cap, dv] 146)] F 12 [] 0 (fun φ30 => [(43, .bool true), (42, undef), (41, undef), (40, undef), (39, undef), (38, undef), (37, undef), (36, undef), (35, undef), (34, undef), (33, undef), (32, undef)]) (fun φ30 => [(b, .cells #[.string ⟨(ss).toArray⟩, .int .i64 ((tkP ss p4 41 : Nat) : Int), .slice (some ⟨g, 0, none⟩) (List.length st4 + 1) cap, dv] 146)]) (fun φ30 => []) s trivial (fun φ30 => by kernel_rfl) ?_
          intro φ30 w30 s
          refine ops_done (by kernel_rfl) ?_
          refine cond_true_rule (b := true) (by kernel_rfl) rfl ?_
          refine wp_seq ?_
          refine region_rule ?_
          refine ops_rule (C := []) [(b, .cells #[.string ⟨(ss).toArray⟩, .int .i64 ((tkP ss p4 41 : Nat) : Int), .slice (some ⟨g, 0, none⟩) (List.length st4 + 1) cap, dv] 146)] F 2 [] 0 (fun φ31 => [(5, .bool false), (4, .int .u8 0)]) (fun φ31 => [(b, .cells #[.string ⟨(ss).toArray⟩, .int .i64 ((tkP ss p4 41 : Nat) : Int), .slice (some ⟨g, 0, none⟩) (List.length st4 + 1) cap, dv] 146)]) (fun φ31 => []) s trivial (fun φ31 => by kernel_rfl) ?_
          intro φ31 w31 s
          refine ops_done (by kernel_rfl) ?_
          refine wp_ret ?_
          refine ret_rule (C := []) [(b, .cells #[.string ⟨(ss).toArray⟩, .int .i64 ((tkP ss p4 41 : Nat) : Int), .slice (some ⟨g, 0, none⟩) (List.length st4 + 1) cap, dv] 146)] F (.tuple #[.int .u8 0, .bool false]) [] [] s trivial (by kernel_rfl) ?_
          replace s := s.drop (List.Sublist.append (List.Sublist.cons₂ _ List.Sublist.slnil) (List.Sublist.refl F))
          have hg9 := (cl_no (of_decide_eq_true hc12) hc16).symm.trans (hI4.trans hC)
          cases hg9
          exact ⟨_, _, _, rfl, s, ⟨_, _, rfl, rfl, _, rfl, rfl, hrow4⟩⟩
      ·
        rw [hc12]
        refine cond_false_rule (b := false) (by kernel_rfl) rfl ?_
        refine wp_exit ?_
        refine wp_seq ?_
        refine region_rule ?_
        refine ops_rule (C := []) [(b, .cells #[.string ⟨(ss).toArray⟩, .int .i64 ((p4 : Nat) : Int), .slice (some ⟨g, 0, none⟩) (List.length st4 + 1) cap, dv] 146)] F 3 [] 0 (fun φ32 => [(5, .bool true), (4, .int .u8 ((h4 : Nat) : Int)), (61, .int .u8 ((h4 : Nat) : Int))]) (fun φ32 => [(b, .cells #[.string ⟨(ss).toArray⟩, .int .i64 ((p4 : Nat) : Int), .slice (some ⟨g, 0, none⟩) (List.length st4 + 1) cap, dv] 146)]) (fun φ32 => []) s trivial (fun φ32 => by kernel_rfl) ?_
        intro φ32 w32 s
        refine ops_done (by kernel_rfl) ?_
        refine wp_ret ?_
        refine ret_rule (C := []) [(b, .cells #[.string ⟨(ss).toArray⟩, .int .i64 ((p4 : Nat) : Int), .slice (some ⟨g, 0, none⟩) (List.length st4 + 1) cap, dv] 146)] F (.tuple #[.int .u8 ((h4 : Nat) : Int), .bool true]) [] [] s trivial (by kernel_rfl) ?_
        replace s := s.drop (List.Sublist.append (List.Sublist.cons₂ _ List.Sublist.slnil) (List.Sublist.refl F))
        have hg9 := (cl_stop (Decidable.not_not.1 (of_decide_eq_false hc12))).symm.trans (hI4.trans hC)
        cases hg9
        exact ⟨_, _, _, rfl, s, ⟨_, _, rfl, rfl, _, rfl, rfl, hrow4⟩⟩
    ·
      exact absurd (Nat.zero_le _) (of_decide_eq_false hc8)

set_option maxHeartbeats 2000000 in
theorem closeN_c {I : IM} {b p half : Nat} {ss : List UInt8} {dv : Value} :
    FunM Tryd.prog 105 #[.pointer (some ⟨b, 0, none⟩), .int .u8 ((half : Nat) : Int)] I [(b, .cells #[.string ⟨(ss).toArray⟩, .int .i64 ((p : Nat) : Int), .slice none 0 0, dv] 146)] (fun v J H' => ∃ (b' : OB) (F' : List OB), H' = b' :: F' ∧ b'.1 = b ∧ ∃ v' : Value, v = .tuple #[.int .u8 ((half : Nat) : Int), .bool true] ∧ b' = (b, .cells #[.string ⟨(ss).toArray⟩, .int .i64 ((p : Nat) : Int), v', dv] 146) ∧ RowH 152 2 v' ([] : List (Nat × Nat)).length (stV ([] : List (Nat × Nat))) F') := by
  refine enterM_rule 62 [(0, .pointer (some ⟨b, 0, none⟩)), (1, .int .u8 ((half : Nat) : Int))] Tryd.func105 rfl (by kernel_rfl) ?_
  intro w s
  refine wp_seq ?_
  refine region_rule ?_
  refine ops_rule (C := []) [(b, .cells #[.string ⟨(ss).toArray⟩, .int .i64 ((p : Nat) : Int), .slice none 0 0, dv] 146)] [] 2 [] 0 (fun φ1 => [(5, .bool false), (4, .int .u8 0)]) (fun φ1 => [(b, .cells #[.string ⟨(ss).toArray⟩, .int .i64 ((p : Nat) : Int), .slice none 0 0, dv] 146)]) (fun φ1 => []) s trivial (fun φ1 => by kernel_rfl) ?_
  intro φ1 w1 s
  refine ops_done (by kernel_rfl) ?_
  refine wp_seq ?_
  refine wp_seq ?_
  refine region_rule ?_
  refine ops_rule (C := []) [(b, .cells #[.string ⟨(ss).toArray⟩, .int .i64 ((p : Nat) : Int), .slice none 0 0, dv] 146)] [] 7 [.o 0] 0 (fun φ2 => [(6, .int .i64 (-1)), (12, .int .i64 (-1)), (11, .int .i64 0), (10, .slice none 0 0), (9, .pointer (some ⟨b, 2, none⟩)), (8, .pointer (some ⟨b, 0, none⟩)), (7, .pointer (some ⟨b, 0, none⟩))]) (fun φ2 => [(b, .cells #[.string ⟨(ss).toArray⟩, .int .i64 ((p : Nat) : Int), .slice none 0 0, dv] 146)]) (fun φ2 => [b]) s trivial (fun φ2 => by kernel_rfl) ?_
  intro φ2 w2 s
  refine ops_done (by kernel_rfl) ?_
  refine wp_block ?_
  refine Go.wp_loop_rounds 1 ?_
  refine rounds_step (n := 0) ?_
  refine wp_seq ?_
  refine wp_seq ?_
  refine region_rule ?_
  refine ops_rule (C := []) [(b, .cells #[.string ⟨(ss).toArray⟩, .int .i64 ((p : Nat) : Int), .slice none 0 0, dv] 146)] [] 13 [] 0 (fun φ3 => [(25, .bool false), (24, undef), (23, undef), (22, undef), (21, undef), (20, undef), (19, undef), (18, undef), (17, undef), (16, undef), (15, .bool false), (14, .bool false), (13, .int .i64 (-1))]) (fun φ3 => [(b, .cells #[.string ⟨(ss).toArray⟩, .int .i64 ((p : Nat) : Int), .slice none 0 0, dv] 146)]) (fun φ3 => []) s trivial (fun φ3 => by kernel_rfl) ?_
  intro φ3 w3 s
  refine ops_done (by kernel_rfl) ?_
  refine cond_false_rule (b := false) (by kernel_rfl) rfl ?_
  refine wp_exit ?_
  refine wp_seq ?_
  refine region_rule ?_
  refine ops_rule (C := []) [(b, .cells #[.string ⟨(ss).toArray⟩, .int .i64 ((p : Nat) : Int), .slice none 0 0, dv] 146)] [] 3 [] 0 (fun φ4 => [(5, .bool true), (4, .int .u8 ((half : Nat) : Int)), (61, .int .u8 ((half : Nat) : Int))]) (fun φ4 => [(b, .cells #[.string ⟨(ss).toArray⟩, .int .i64 ((p : Nat) : Int), .slice none 0 0, dv] 146)]) (fun φ4 => []) s trivial (fun φ4 => by kernel_rfl) ?_
  intro φ4 w4 s
  refine ops_done (by kernel_rfl) ?_
  refine wp_ret ?_
  refine ret_rule (C := []) [(b, .cells #[.string ⟨(ss).toArray⟩, .int .i64 ((p : Nat) : Int), .slice none 0 0, dv] 146)] [] (.tuple #[.int .u8 ((half : Nat) : Int), .bool true]) [] [] s trivial (by kernel_rfl) ?_
  replace s := s.drop (List.Sublist.append (List.Sublist.cons₂ _ List.Sublist.slnil) (List.Sublist.refl []))
  exact ⟨_, _, _, rfl, s, ⟨_, _, rfl, rfl, _, rfl, rfl, RowH.nil 152 2⟩⟩

theorem closeG_c {I : IM} {b p half : Nat} {ss : List UInt8} {st : List (Nat × Nat)} {dv : Value} {F : List OB} {p' half' : Nat} {st' : List (Nat × Nat)} {ok : Bool} {v : Value} (hs : ss.length ≤ 1000000) (hp : p ≤ ss.length) (hrow : RowH 152 2 v st.length (stV st) F) (hlen : st.length ≤ 1000000) (hC : clG ss st p half = (p', st', half', ok)) :
    FunM Tryd.prog 105 #[.pointer (some ⟨b, 0, none⟩), .int .u8 ((half : Nat) : Int)] I ((b, .cells #[.string ⟨(ss).toArray⟩, .int .i64 ((p : Nat) : Int), v, dv] 146) :: F) (fun v J H' => ∃ (b' : OB) (F' : List OB), H' = b' :: F' ∧ b'.1 = b ∧ ∃ v' : Value, v = .tuple #[.int .u8 ((half' : Nat) : Int), .bool ok] ∧ b' = (b, .cells #[.string ⟨(ss).toArray⟩, .int .i64 ((p' : Nat) : Int), v', dv] 146) ∧ RowH 152 2 v' st'.length (stV st') F') := by
  rcases hrow.2 with ⟨hv, h0, hF⟩ | ⟨g, cap, cur, hv, hF, _⟩
  · cases st with
    | nil =>
      subst hv hF
      rw [clG] at hC
      cases hC
      exact closeN_c
    | cons a st => cases h0
  · subst hv
    exact closeR_c hs hp hrow hlen hC

end Go.Proofs.YtgdickihjaomjaaDoor
