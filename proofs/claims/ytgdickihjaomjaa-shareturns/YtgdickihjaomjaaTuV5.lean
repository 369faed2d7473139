/- ids: closePairs -/
import Derived.Test.YtgdickihjaomjaaTuV4
import Derived.LoopN
set_option linter.all false
set_option maxRecDepth 100000
namespace Go.Proofs.Ytgdickihjaomjaa
open Go.RowKit Go.Sep
attribute [local irreducible] Go.wpList Go.Code.wp
theorem rounds_step {P : Program} {c : Code} {Q : Exit → Act → World → Prop} {n : Nat} {a : Act} {w : World} (h : c.wp P (Exit.then (Code.rounds P c Q n) Q) a w) : Code.rounds P c Q (n + 1) a w := by
  rw [Go.rounds_succ]; exact h
def mayI (l r : Nat) : Bool := decide (l ≠ r ∨ l = 40)
def clG (ss : List UInt8) : List Nat → Nat → Nat → Nat × List Nat × Nat × Bool
  | [], p, half => (p, [], half, true)
  | l :: st, p, half => if l = 32 then (p, l :: st, half, true) else
      (if tkB ss p 41 = true then (if mayI l half = true then clG ss st (tkP ss p 41) 40 else (tkP ss p 41, l :: st, 32, false))
       else (tkP ss p 41, l :: st, 32, false))
def lastI : List Nat → Int
  | [] => -1
  | _ :: st => ((st.length : Nat) : Int)
theorem last_sub {st : List Nat} (h : st.length ≤ 1000000) : IntKind.wrap .i64 (((st.length : Nat) : Int) - ((1 : Nat) : Int)) = lastI st := by
  cases st with
  | nil => rfl
  | cons a st =>
    simp only [List.length_cons] at h
    show _ = ((st.length : Nat) : Int)
    rw [nat_subI (by simp only [List.length_cons]; omega) (by simp only [List.length_cons]; omega)]
    simp only [List.length_cons]; omega
theorem size5 (w : World) : (sizeOf 5).run Try.prog w = .ok 1 w := by kernel_rfl
theorem addr_add (b k : Nat) : (⟨b, 0, none⟩ : Addr).add k = ⟨b, k, none⟩ := by unfold Addr.add; split <;> simp_all
theorem run_idx22 {w : World} {g n c k : Nat} (h : k < n) : (Instr.indexAt 22 (.slice (some ⟨g, 0, none⟩) n c) (.int .i64 ((k : Nat) : Int))).run Try.prog w = .ok (.pointer (some ⟨g, k, none⟩)) w := by
  have h2 : (k : Int) < (n : Int) := by omega
  simp [Instr.indexAt, asIntOf, run_underlying under22, size5, h2, addr_add]
  intro h3; omega
theorem run_cutRowG {w : World} {g n cap k : Nat} (hk : k ≤ cap) :
    (Instr.sliceAt 22 (.slice (some ⟨g, 0, none⟩) n cap) none (some (.int .i64 ((k : Nat) : Int))) none).run Try.prog w = .ok (.slice (some ⟨g, 0, none⟩) k cap) w := by
  have hb : (Instr.sliceBound (.int .i64 ((k : Nat) : Int)) cap .sliceAcap).run Try.prog w = .ok k w := run_bound (k := k) hk
  simp [Instr.sliceAt, run_underlying under22, Instr.slice, Instr.sliceBounds, hb]
  intro _; rfl
theorem run_load5 {w : World} {g j : Nat} {v : Value} (h : w.cell? ⟨g, j, none⟩ = some v) : (Instr.loadAt 5 (.pointer (some ⟨g, j, none⟩))).run Try.prog w = .ok v w := by
  have e : (Instr.loadAt 5 (.pointer (some ⟨g, j, none⟩))).run Try.prog w = (load ⟨g, j, none⟩).run Try.prog w := by kernel_rfl
  rw [e]; simp only [load, Sem.run, h]
theorem st_left {l : Nat} {st : List Nat} : (stV (l :: st))[st.length]? = some (.int .u8 ((l : Nat) : Int)) := by
  have h := stV_len st
  rw [Nat.mul_one] at h
  rw [stV, List.getElem?_append_right (by rw [h]; exact Nat.le_refl _), h, Nat.sub_self]; rfl
theorem st_cut {l g cap : Nat} {st : List Nat} {F : List OB} (h : RowH 5 1 (.slice (some ⟨g, 0, none⟩) (st.length + 1) cap) (st.length + 1) (stV (l :: st)) F) : RowH 5 1 (.slice (some ⟨g, 0, none⟩) st.length cap) st.length (stV st) F := by
  have := RowH.take (k := st.length) h (by omega)
  rw [stV, ← stV_len, List.take_left'] at this
  · exact this
  · rfl
theorem row_cap {n g cap : Nat} {xs : List Value} {F : List OB} (h : RowH 5 1 (.slice (some ⟨g, 0, none⟩) n cap) n xs F) : n ≤ cap := by
  rcases h.2 with ⟨h, _⟩ | ⟨g', cap', cur, h, hF, hnc, _⟩
  · cases h
  · cases h; exact hnc
section
variable {ss : List UInt8} {p l half : Nat} {st : List Nat}
theorem cl_stop (h : l = 32) : clG ss (l :: st) p half = (p, l :: st, half, true) := by rw [clG, if_pos h]
theorem cl_go (h : ¬ l = 32) (h1 : tkB ss p 41 = true) (h2 : mayI l half = true) : clG ss (l :: st) p half = clG ss st (tkP ss p 41) 40 := by rw [clG, if_neg h, if_pos h1, if_pos h2]
theorem cl_bad (h : ¬ l = 32) (h1 : tkB ss p 41 = true) (h2 : mayI l half = false) : clG ss (l :: st) p half = (tkP ss p 41, l :: st, 32, false) := by rw [clG, if_neg h, if_pos h1, if_neg (by rw [h2]; decide)]
theorem cl_no (h : ¬ l = 32) (h1 : tkB ss p 41 = false) : clG ss (l :: st) p half = (tkP ss p 41, l :: st, 32, false) := by rw [clG, if_neg h, if_neg (by rw [h1]; decide)]
end

set_option maxHeartbeats 1000000 in
theorem mayI_c {I : IM} {l r : Nat} : Fun Try.prog 72 #[.int .u8 ((l : Nat) : Int), .int .u8 ((r : Nat) : Int)] I (fun v J => v = .bool (mayI l r)) := by
  refine enter_rule 12 [(0, .int .u8 ((l : Nat) : Int)), (1, .int .u8 ((r : Nat) : Int))] Try.func72 rfl (by kernel_rfl) ?_
  intro w s
  refine wp_seq ?_
  refine region_rule ?_
  refine ops_rule (C := []) [] [] 1 [] 0 (fun φ1 => [(4, .bool false)]) (fun φ1 => []) (fun φ1 => []) s trivial (fun φ1 => by kernel_rfl) ?_
  intro φ1 w1 s
  refine ops_done (by kernel_rfl) ?_
  refine wp_seq ?_
  refine region_rule ?_
  refine ops_rule (C := []) [] [] 4 [] 0 (fun φ2 => [(8, .bool (((l : Nat) : Int) != ((r : Nat) : Int))), (7, .bool (((l : Nat) : Int) != ((r : Nat) : Int))), (6, .int .u8 ((r : Nat) : Int)), (5, .int .u8 ((l : Nat) : Int))]) (fun φ2 => []) (fun φ2 => []) s trivial (fun φ2 => by kernel_rfl) ?_
  intro φ2 w2 s
  rw [nat_neq (a := l) (b := r)]
  rcases Bool.eq_false_or_eq_true (decide (l ≠ r)) with hc3 | hc3
  ·
    rw [hc3]
    refine ops_rule (C := []) [] [] 4 [] 0 (fun φ4 => [(4, .bool true), (11, .bool true), (10, undef), (9, undef)]) (fun φ4 => []) (fun φ4 => []) s trivial (fun φ4 => by kernel_rfl) ?_
    intro φ4 w4 s
    refine ops_done (by kernel_rfl) ?_
    refine wp_ret ?_
    refine ret_rule (C := []) [] [] (.bool true) [] [] s trivial (by kernel_rfl) ?_
    exact ⟨_, _, _, rfl, s, (by rw [show mayI l r = true from decide_eq_true (.inl (of_decide_eq_true hc3))])⟩
  ·
    rw [hc3]
    refine ops_rule (C := []) [] [] 4 [] 0 (fun φ5 => [(4, .bool (((l : Nat) : Int) == ((40 : Nat) : Int))), (11, .bool (((l : Nat) : Int) == ((40 : Nat) : Int))), (10, .bool (((l : Nat) : Int) == ((40 : Nat) : Int))), (9, .int .u8 ((l : Nat) : Int))]) (fun φ5 => []) (fun φ5 => []) s trivial (fun φ5 => by kernel_rfl) ?_
    intro φ5 w5 s
    rw [nat_eql (a := l) (b := 40)]
    refine ops_done (by kernel_rfl) ?_
    refine wp_ret ?_
    refine ret_rule (C := []) [] [] (.bool (decide (l = 40))) [] [] s trivial (by kernel_rfl) ?_
    exact ⟨_, _, _, rfl, s, (congrArg Value.bool (decide_eq_decide.2 ⟨.inr, fun q => q.elim (fun q => absurd (Decidable.not_not.1 (of_decide_eq_false hc3)) q) id⟩))⟩

set_option maxHeartbeats 2000000 in
theorem closeR_c {I : IM} {b p half : Nat} {ss : List UInt8} {st : List Nat} {dv : Value} {F : List OB} {p' half' : Nat} {st' : List Nat} {ok : Bool} {g cap : Nat} (hs : ss.length ≤ 1000000) (hp : p ≤ ss.length) (hrow : RowH 5 1 (.slice (some ⟨g, 0, none⟩) st.length cap) st.length (stV st) F) (hlen : st.length ≤ 1000000) (hC : clG ss st p half = (p', st', half', ok)) : FunM Try.prog 70 #[.pointer (some ⟨b, 0, none⟩), .int .u8 ((half : Nat) : Int)] I ((b, .cells #[.string ⟨(ss).toArray⟩, .int .i64 ((p : Nat) : Int), .slice (some ⟨g, 0, none⟩) (List.length st) cap, dv] 105) :: F) (fun v J H' => ∃ (b' : OB) (F' : List OB), H' = b' :: F' ∧ b'.1 = b ∧ ∃ v' : Value, v = .tuple #[.int .u8 ((half' : Nat) : Int), .bool ok] ∧ b' = (b, .cells #[.string ⟨(ss).toArray⟩, .int .i64 ((p' : Nat) : Int), v', dv] 105) ∧ RowH 5 1 v' st'.length (stV st') F') := by
  refine enterM_rule 52 [(0, .pointer (some ⟨b, 0, none⟩)), (1, .int .u8 ((half : Nat) : Int))] Try.func70 rfl (by kernel_rfl) ?_
  intro w s
  refine wp_seq ?_
  refine region_rule ?_
  refine ops_rule (C := []) [(b, .cells #[.string ⟨(ss).toArray⟩, .int .i64 ((p : Nat) : Int), .slice (some ⟨g, 0, none⟩) (List.length st) cap, dv] 105)] F 2 [] 0 (fun φ1 => [(5, .bool false), (4, .int .u8 0)]) (fun φ1 => [(b, .cells #[.string ⟨(ss).toArray⟩, .int .i64 ((p : Nat) : Int), .slice (some ⟨g, 0, none⟩) (List.length st) cap, dv] 105)]) (fun φ1 => []) s trivial (fun φ1 => by kernel_rfl) ?_
  intro φ1 w1 s
  refine ops_done (by kernel_rfl) ?_
  refine wp_seq ?_
  refine wp_seq ?_
  refine region_rule ?_
  refine ops_rule (C := []) [(b, .cells #[.string ⟨(ss).toArray⟩, .int .i64 ((p : Nat) : Int), .slice (some ⟨g, 0, none⟩) (List.length st) cap, dv] 105)] F 7 [.o 0] 0 (fun φ2 => [(6, .int .i64 (IntKind.wrap .i64 ((((List.length st) : Nat) : Int) - ((1 : Nat) : Int)))), (12, .int .i64 (IntKind.wrap .i64 ((((List.length st) : Nat) : Int) - ((1 : Nat) : Int)))), (11, .int .i64 (((List.length st) : Nat) : Int)), (10, .slice (some ⟨g, 0, none⟩) (List.length st) cap), (9, .pointer (some ⟨b, 2, none⟩)), (8, .pointer (some ⟨b, 0, none⟩)), (7, .pointer (some ⟨b, 0, none⟩))]) (fun φ2 => [(b, .cells #[.string ⟨(ss).toArray⟩, .int .i64 ((p : Nat) : Int), .slice (some ⟨g, 0, none⟩) (List.length st) cap, dv] 105)]) (fun φ2 => [b]) s trivial (fun φ2 => by kernel_rfl) ?_
  intro φ2 w2 s
  refine ops_done (by kernel_rfl) ?_
  refine wp_block ?_
  have hle3 := IM.Le.refl I
  rw [last_sub (st := st) hlen]
  refine loop_rule (fun (x : Nat × List Nat × Nat) => [(0, .pointer (some ⟨b, 0, none⟩)), (1, .int .u8 ((x.2.2 : Nat) : Int)), (6, .int .i64 (lastI x.2.1))]) (fun (x : Nat × List Nat × Nat) => (b, .cells #[.string ⟨(ss).toArray⟩, .int .i64 ((x.1 : Nat) : Int), .slice (some ⟨g, 0, none⟩) x.2.1.length cap, dv] 105) :: F) (fun m (x : Nat × List Nat × Nat) J => IM.Le I J ∧ clG ss x.2.1 x.1 x.2.2 = clG ss st p half ∧ x.1 ≤ ss.length ∧ RowH 5 1 (.slice (some ⟨g, 0, none⟩) x.2.1.length cap) x.2.1.length (stV x.2.1) F ∧ x.2.1.length = m ∧ m ≤ 1000000) st.length (p, st, half) s (by kernel_rfl) (List.Sublist.refl _) ⟨IM.Le.refl _, rfl, hp, hrow, rfl, hlen⟩ ?_
  rintro m4 ⟨p4, st4, h4⟩ I4 w4 evj s ⟨le4, hI4, hp4, hrow4, hm4, hb4⟩
  dsimp only at s hI4 hp4 hrow4 hm4 hb4
  replace hle3 := leMono9 le4 hle3
  rcases st4 with _ | ⟨l4, st4⟩
  ·
    replace hI4 : (p4, ([] : List Nat), h4, true) = clG ss st p half := hI4
    replace s : St w I (b :: F.map (·.1)) I4 w4 ([(b, .cells #[.string ⟨(ss).toArray⟩, .int .i64 ((p4 : Nat) : Int), .slice (some ⟨g, 0, none⟩) 0 cap, dv] 105)] ++ F) := s
    change Code.wp Try.prog _ _ (ActOf _ ([(0, .pointer (some ⟨b, 0, none⟩)), (1, .int .u8 ((h4 : Nat) : Int)), (6, .int .i64 (-1))] ++ evj)) w4
    refine wp_seq ?_
    refine wp_seq ?_
    refine region_rule ?_
    refine ops_rule (C := []) [(b, .cells #[.string ⟨(ss).toArray⟩, .int .i64 ((p4 : Nat) : Int), .slice (some ⟨g, 0, none⟩) 0 cap, dv] 105)] F 12 [] 0 (fun φ5 => [(24, .bool false), (23, undef), (22, undef), (21, undef), (20, undef), (19, undef), (18, undef), (17, undef), (16, undef), (15, .bool false), (14, .bool false), (13, .int .i64 (-1))]) (fun φ5 => [(b, .cells #[.string ⟨(ss).toArray⟩, .int .i64 ((p4 : Nat) : Int), .slice (some ⟨g, 0, none⟩) 0 cap, dv] 105)]) (fun φ5 => []) s trivial (fun φ5 => by kernel_rfl) ?_
    intro φ5 w5 s
    refine ops_done (by kernel_rfl) ?_
    refine cond_false_rule (b := false) (by kernel_rfl) rfl ?_
    refine wp_exit ?_
    refine wp_seq ?_
    refine region_rule ?_
    refine ops_rule (C := []) [(b, .cells #[.string ⟨(ss).toArray⟩, .int .i64 ((p4 : Nat) : Int), .slice (some ⟨g, 0, none⟩) 0 cap, dv] 105)] F 3 [] 0 (fun φ6 => [(5, .bool true), (4, .int .u8 ((h4 : Nat) : Int)), (51, .int .u8 ((h4 : Nat) : Int))]) (fun φ6 => [(b, .cells #[.string ⟨(ss).toArray⟩, .int .i64 ((p4 : Nat) : Int), .slice (some ⟨g, 0, none⟩) 0 cap, dv] 105)]) (fun φ6 => []) s trivial (fun φ6 => by kernel_rfl) ?_
    intro φ6 w6 s
    refine ops_done (by kernel_rfl) ?_
    refine wp_ret ?_
    refine ret_rule (C := []) [(b, .cells #[.string ⟨(ss).toArray⟩, .int .i64 ((p4 : Nat) : Int), .slice (some ⟨g, 0, none⟩) 0 cap, dv] 105)] F (.tuple #[.int .u8 ((h4 : Nat) : Int), .bool true]) [] [] s trivial (by kernel_rfl) ?_
    replace s := s.drop (List.Sublist.append (List.Sublist.cons₂ _ List.Sublist.slnil) (List.Sublist.refl F))
    have hg9 := hI4.trans hC
    cases hg9
    exact ⟨_, _, _, rfl, s, ⟨_, _, rfl, rfl, _, rfl, rfl, hrow4⟩⟩
  ·
    simp only [List.length_cons] at hm4
    have hc4 := row_cap hrow4
    simp only [List.length_cons] at hc4
    replace s : St w I (b :: F.map (·.1)) I4 w4 ([(b, .cells #[.string ⟨(ss).toArray⟩, .int .i64 ((p4 : Nat) : Int), .slice (some ⟨g, 0, none⟩) (List.length st4 + 1) cap, dv] 105)] ++ F) := s
    change Code.wp Try.prog _ _ (ActOf _ ([(0, .pointer (some ⟨b, 0, none⟩)), (1, .int .u8 ((h4 : Nat) : Int)), (6, .int .i64 ((List.length st4 : Nat) : Int))] ++ evj)) w4
    refine wp_seq ?_
    refine wp_seq ?_
    refine region_rule ?_
    refine ops_rule (C := []) [(b, .cells #[.string ⟨(ss).toArray⟩, .int .i64 ((p4 : Nat) : Int), .slice (some ⟨g, 0, none⟩) (List.length st4 + 1) cap, dv] 105)] F 3 [] 0 (fun φ7 => [(15, .bool (decide (((List.length st4 : Nat) : Int) ≥ ((0 : Nat) : Int)))), (14, .bool (decide (((List.length st4 : Nat) : Int) ≥ ((0 : Nat) : Int)))), (13, .int .i64 ((List.length st4 : Nat) : Int))]) (fun φ7 => [(b, .cells #[.string ⟨(ss).toArray⟩, .int .i64 ((p4 : Nat) : Int), .slice (some ⟨g, 0, none⟩) (List.length st4 + 1) cap, dv] 105)]) (fun φ7 => []) s trivial (fun φ7 => by kernel_rfl) ?_
    intro φ7 w7 s
    rw [nat_geq (a := (List.length st4)) (b := 0)]
    rcases Bool.eq_false_or_eq_true (decide (0 ≤ (List.length st4))) with hc8 | hc8
    ·
      rw [hc8]
      refine ops_rule (C := []) [(b, .cells #[.string ⟨(ss).toArray⟩, .int .i64 ((p4 : Nat) : Int), .slice (some ⟨g, 0, none⟩) (List.length st4 + 1) cap, dv] 105)] F 5 [.o 0] 0 (fun φ9 => [(20, .int .i64 ((List.length st4 : Nat) : Int)), (19, .slice (some ⟨g, 0, none⟩) (List.length st4 + 1) cap), (18, .pointer (some ⟨b, 2, none⟩)), (17, .pointer (some ⟨b, 0, none⟩)), (16, .pointer (some ⟨b, 0, none⟩))]) (fun φ9 => [(b, .cells #[.string ⟨(ss).toArray⟩, .int .i64 ((p4 : Nat) : Int), .slice (some ⟨g, 0, none⟩) (List.length st4 + 1) cap, dv] 105)]) (fun φ9 => [b]) s trivial (fun φ9 => by kernel_rfl) ?_
      intro φ9 w9 s
      refine sem_rule (Instr.indexAt 22 (.slice (some ⟨g, 0, none⟩) (List.length st4 + 1) cap) (.int .i64 ((List.length st4 : Nat) : Int))) (some 21) (.pointer (some ⟨g, (List.length st4), none⟩)) (by kernel_rfl) (run_idx22 (by omega)) ?_
      refine sem_rule (Instr.loadAt 5 (.pointer (some ⟨g, (List.length st4), none⟩))) (some 22) (.int .u8 ((l4 : Nat) : Int)) (by kernel_rfl) (run_load5 (row_cell (H := [(b, .cells #[.string ⟨(ss).toArray⟩, .int .i64 ((p4 : Nat) : Int), .slice (some ⟨g, 0, none⟩) (List.length st4 + 1) cap, dv] 105)]) (F := F) s hrow4 st_left)) ?_
      refine ops_rule (C := []) [(b, .cells #[.string ⟨(ss).toArray⟩, .int .i64 ((p4 : Nat) : Int), .slice (some ⟨g, 0, none⟩) (List.length st4 + 1) cap, dv] 105)] F 2 [] 0 (fun φ10 => [(24, .bool (((l4 : Nat) : Int) != ((32 : Nat) : Int))), (23, .bool (((l4 : Nat) : Int) != ((32 : Nat) : Int)))]) (fun φ10 => [(b, .cells #[.string ⟨(ss).toArray⟩, .int .i64 ((p4 : Nat) : Int), .slice (some ⟨g, 0, none⟩) (List.length st4 + 1) cap, dv] 105)]) (fun φ10 => []) s trivial (fun φ10 => by kernel_rfl) ?_
      intro φ10 w10 s
      rw [nat_neq (a := l4) (b := 32)]
      refine ops_done (by kernel_rfl) ?_
      rcases Bool.eq_false_or_eq_true (decide (l4 ≠ 32)) with hc11 | hc11
      ·
        rw [hc11]
        refine cond_true_rule (b := true) (by kernel_rfl) rfl ?_
        refine wp_skip ?_
        refine wp_seq ?_
        refine wp_block ?_
        refine wp_seq ?_
        refine wp_seq ?_
        refine region_rule ?_
        refine ops_rule (C := []) [(b, .cells #[.string ⟨(ss).toArray⟩, .int .i64 ((p4 : Nat) : Int), .slice (some ⟨g, 0, none⟩) (List.length st4 + 1) cap, dv] 105)] F 1 [] 0 (fun φ12 => [(27, .pointer (some ⟨b, 0, none⟩))]) (fun φ12 => [(b, .cells #[.string ⟨(ss).toArray⟩, .int .i64 ((p4 : Nat) : Int), .slice (some ⟨g, 0, none⟩) (List.length st4 + 1) cap, dv] 105)]) (fun φ12 => []) s trivial (fun φ12 => by kernel_rfl) ?_
        intro φ12 w12 s
        refine callB_rule (b := (b, .cells #[.string ⟨(ss).toArray⟩, .int .i64 ((p4 : Nat) : Int), .slice (some ⟨g, 0, none⟩) (List.length st4 + 1) cap, dv] 105)) (H := [(b, .cells #[.string ⟨(ss).toArray⟩, .int .i64 ((p4 : Nat) : Int), .slice (some ⟨g, 0, none⟩) (List.length st4 + 1) cap, dv] 105)]) (F := F) (Hr := []) (some 28) 0 s (by kernel_rfl) (by kernel_rfl) (takeP_c (ov := .slice (some ⟨g, 0, none⟩) (List.length st4 + 1) cap) (dv := dv) (b := b) (p := p4) (c := 41) (ss := ss) hs hp4) (by kernel_rfl) ?_
        rintro v13 I13 w13 b13 le13 - h13 s
        replace hle3 := leMono9 le13 hle3
        obtain ⟨rfl, rfl⟩ := h13
        refine ops_rule (C := []) [(b, .cells #[.string ⟨(ss).toArray⟩, .int .i64 ((tkP ss p4 41 : Nat) : Int), .slice (some ⟨g, 0, none⟩) (List.length st4 + 1) cap, dv] 105)] F 2 [] 0 (fun φ14 => [(30, .bool (!(tkB ss p4 41))), (29, .bool (!(tkB ss p4 41)))]) (fun φ14 => [(b, .cells #[.string ⟨(ss).toArray⟩, .int .i64 ((tkP ss p4 41 : Nat) : Int), .slice (some ⟨g, 0, none⟩) (List.length st4 + 1) cap, dv] 105)]) (fun φ14 => []) s trivial (fun φ14 => by kernel_rfl) ?_
        intro φ14 w14 s
        rcases Bool.eq_false_or_eq_true (tkB ss p4 41) with hc15 | hc15
        ·
          rw [hc15]
          refine ops_rule (C := []) [(b, .cells #[.string ⟨(ss).toArray⟩, .int .i64 ((tkP ss p4 41 : Nat) : Int), .slice (some ⟨g, 0, none⟩) (List.length st4 + 1) cap, dv] 105)] F 5 [.o 0] 0 (fun φ16 => [(35, .int .i64 ((List.length st4 : Nat) : Int)), (34, .slice (some ⟨g, 0, none⟩) (List.length st4 + 1) cap), (33, .pointer (some ⟨b, 2, none⟩)), (32, .pointer (some ⟨b, 0, none⟩)), (31, .pointer (some ⟨b, 0, none⟩))]) (fun φ16 => [(b, .cells #[.string ⟨(ss).toArray⟩, .int .i64 ((tkP ss p4 41 : Nat) : Int), .slice (some ⟨g, 0, none⟩) (List.length st4 + 1) cap, dv] 105)]) (fun φ16 => [b]) s trivial (fun φ16 => by kernel_rfl) ?_
          intro φ16 w16 s
          refine sem_rule (Instr.indexAt 22 (.slice (some ⟨g, 0, none⟩) (List.length st4 + 1) cap) (.int .i64 ((List.length st4 : Nat) : Int))) (some 36) (.pointer (some ⟨g, (List.length st4), none⟩)) (by kernel_rfl) (run_idx22 (by omega)) ?_
          refine sem_rule (Instr.loadAt 5 (.pointer (some ⟨g, (List.length st4), none⟩))) (some 37) (.int .u8 ((l4 : Nat) : Int)) (by kernel_rfl) (run_load5 (row_cell (H := [(b, .cells #[.string ⟨(ss).toArray⟩, .int .i64 ((tkP ss p4 41 : Nat) : Int), .slice (some ⟨g, 0, none⟩) (List.length st4 + 1) cap, dv] 105)]) (F := F) s hrow4 st_left)) ?_
          refine ops_rule (C := []) [(b, .cells #[.string ⟨(ss).toArray⟩, .int .i64 ((tkP ss p4 41 : Nat) : Int), .slice (some ⟨g, 0, none⟩) (List.length st4 + 1) cap, dv] 105)] F 1 [] 0 (fun φ17 => [(38, .int .u8 ((h4 : Nat) : Int))]) (fun φ17 => [(b, .cells #[.string ⟨(ss).toArray⟩, .int .i64 ((tkP ss p4 41 : Nat) : Int), .slice (some ⟨g, 0, none⟩) (List.length st4 + 1) cap, dv] 105)]) (fun φ17 => []) s trivial (fun φ17 => by kernel_rfl) ?_
          intro φ17 w17 s
          refine call_rule (some 39) s (mayI_c (l := l4) (r := h4)) (by kernel_rfl) ?_
          intro v18 I18 w18 le18 h18 s
          replace hle3 := leMono9 le18 hle3
          obtain rfl := h18
          refine ops_rule (C := []) [(b, .cells #[.string ⟨(ss).toArray⟩, .int .i64 ((tkP ss p4 41 : Nat) : Int), .slice (some ⟨g, 0, none⟩) (List.length st4 + 1) cap, dv] 105)] F 2 [] 0 (fun φ19 => [(41, .bool (!(mayI l4 h4))), (40, .bool (!(mayI l4 h4)))]) (fun φ19 => [(b, .cells #[.string ⟨(ss).toArray⟩, .int .i64 ((tkP ss p4 41 : Nat) : Int), .slice (some ⟨g, 0, none⟩) (List.length st4 + 1) cap, dv] 105)]) (fun φ19 => []) s trivial (fun φ19 => by kernel_rfl) ?_
          intro φ19 w19 s
          refine ops_done (by kernel_rfl) ?_
          rcases Bool.eq_false_or_eq_true (mayI l4 h4) with hc20 | hc20
          ·
            rw [hc20]
            refine cond_false_rule (b := false) (by kernel_rfl) rfl ?_
            refine wp_skip ?_
            refine wp_seq ?_
            refine region_rule ?_
            refine ops_rule (C := []) [(b, .cells #[.string ⟨(ss).toArray⟩, .int .i64 ((tkP ss p4 41 : Nat) : Int), .slice (some ⟨g, 0, none⟩) (List.length st4 + 1) cap, dv] 105)] F 6 [.o 0] 0 (fun φ21 => [(47, .int .i64 ((List.length st4 : Nat) : Int)), (46, .slice (some ⟨g, 0, none⟩) (List.length st4 + 1) cap), (45, .pointer (some ⟨b, 2, none⟩)), (44, .pointer (some ⟨b, 0, none⟩)), (43, .pointer (some ⟨b, 0, none⟩)), (42, .pointer (some ⟨b, 0, none⟩))]) (fun φ21 => [(b, .cells #[.string ⟨(ss).toArray⟩, .int .i64 ((tkP ss p4 41 : Nat) : Int), .slice (some ⟨g, 0, none⟩) (List.length st4 + 1) cap, dv] 105)]) (fun φ21 => [b]) s trivial (fun φ21 => by kernel_rfl) ?_
            intro φ21 w21 s
            refine sem_rule (Instr.sliceAt 22 (.slice (some ⟨g, 0, none⟩) (List.length st4 + 1) cap) none (some (.int .i64 ((List.length st4 : Nat) : Int))) none) (some 48) (.slice (some ⟨g, 0, none⟩) (List.length st4) cap) (by kernel_rfl) (run_cutRowG (by have := row_cap hrow4; omega)) ?_
            refine ops_rule (C := []) [(b, .cells #[.string ⟨(ss).toArray⟩, .int .i64 ((tkP ss p4 41 : Nat) : Int), .slice (some ⟨g, 0, none⟩) (List.length st4 + 1) cap, dv] 105)] F 3 [.o 0] 0 (fun φ22 => [(50, .pointer (some ⟨b, 2, none⟩)), (49, .pointer (some ⟨b, 0, none⟩))]) (fun φ22 => [(b, .cells #[.string ⟨(ss).toArray⟩, .int .i64 ((tkP ss p4 41 : Nat) : Int), .slice (some ⟨g, 0, none⟩) (List.length st4) cap, dv] 105)]) (fun φ22 => [b]) s trivial (fun φ22 => by kernel_rfl) ?_
            intro φ22 w22 s
            refine ops_done (by kernel_rfl) ?_
            refine region_rule ?_
            refine ops_rule (C := []) [(b, .cells #[.string ⟨(ss).toArray⟩, .int .i64 ((tkP ss p4 41 : Nat) : Int), .slice (some ⟨g, 0, none⟩) (List.length st4) cap, dv] 105)] F 1 [] 0 (fun φ23 => [(1, .int .u8 40)]) (fun φ23 => [(b, .cells #[.string ⟨(ss).toArray⟩, .int .i64 ((tkP ss p4 41 : Nat) : Int), .slice (some ⟨g, 0, none⟩) (List.length st4) cap, dv] 105)]) (fun φ23 => []) s trivial (fun φ23 => by kernel_rfl) ?_
            intro φ23 w23 s
            refine ops_done (by kernel_rfl) ?_
            refine region_rule ?_
            refine ops_rule (C := []) [(b, .cells #[.string ⟨(ss).toArray⟩, .int .i64 ((tkP ss p4 41 : Nat) : Int), .slice (some ⟨g, 0, none⟩) (List.length st4) cap, dv] 105)] F 3 [] 0 (fun φ24 => [(6, .int .i64 (IntKind.wrap .i64 (((List.length st4 : Nat) : Int) - ((1 : Nat) : Int)))), (26, .int .i64 (IntKind.wrap .i64 (((List.length st4 : Nat) : Int) - ((1 : Nat) : Int)))), (25, .int .i64 ((List.length st4 : Nat) : Int))]) (fun φ24 => [(b, .cells #[.string ⟨(ss).toArray⟩, .int .i64 ((tkP ss p4 41 : Nat) : Int), .slice (some ⟨g, 0, none⟩) (List.length st4) cap, dv] 105)]) (fun φ24 => []) s trivial (fun φ24 => by kernel_rfl) ?_
            intro φ24 w24 s
            refine ops_done (by kernel_rfl) ?_
            rw [last_sub (st := st4) (by omega)]
            have hg9 := (cl_go (fun q => (of_decide_eq_true hc11) q) hc15 hc20).symm.trans hI4
            exact ⟨⟨m4 - 1, (tkP ss p4 41, st4, 40), _, _, _, by omega, rfl, s, List.Sublist.refl _, by kernel_rfl, hle3, hg9, (tkP_le 41 hp4), st_cut hrow4, by simp only; omega, by omega⟩⟩
          ·
            rw [hc20]
            refine cond_true_rule (b := true) (by kernel_rfl) rfl ?_
            refine wp_seq ?_
            refine region_rule ?_
            refine ops_rule (C := []) [(b, .cells #[.string ⟨(ss).toArray⟩, .int .i64 ((tkP ss p4 41 : Nat) : Int), .slice (some ⟨g, 0, none⟩) (List.length st4 + 1) cap, dv] 105)] F 2 [] 0 (fun φ25 => [(5, .bool false), (4, .int .u8 32)]) (fun φ25 => [(b, .cells #[.string ⟨(ss).toArray⟩, .int .i64 ((tkP ss p4 41 : Nat) : Int), .slice (some ⟨g, 0, none⟩) (List.length st4 + 1) cap, dv] 105)]) (fun φ25 => []) s trivial (fun φ25 => by kernel_rfl) ?_
            intro φ25 w25 s
            refine ops_done (by kernel_rfl) ?_
            refine wp_ret ?_
            refine ret_rule (C := []) [(b, .cells #[.string ⟨(ss).toArray⟩, .int .i64 ((tkP ss p4 41 : Nat) : Int), .slice (some ⟨g, 0, none⟩) (List.length st4 + 1) cap, dv] 105)] F (.tuple #[.int .u8 32, .bool false]) [] [] s trivial (by kernel_rfl) ?_
            replace s := s.drop (List.Sublist.append (List.Sublist.cons₂ _ List.Sublist.slnil) (List.Sublist.refl F))
            have hg9 := (cl_bad (fun q => (of_decide_eq_true hc11) q) hc15 hc20).symm.trans (hI4.trans hC)
            cases hg9
            exact ⟨_, _, _, rfl, s, ⟨_, _, rfl, rfl, _, rfl, rfl, hrow4⟩⟩
        ·
          rw [hc15]
          refine ops_rule (C := []) [(b, .cells #[.string ⟨(ss).toArray⟩, .int .i64 ((tkP ss p4 41 : Nat) : Int), .slice (some ⟨g, 0, none⟩) (List.length st4 + 1) cap, dv] 105)] F 11 [] 0 (fun φ26 => [(41, .bool true), (40, undef), (39, undef), (38, undef), (37, undef), (36, undef), (35, undef), (34, undef), (33, undef), (32, undef), (31, undef)]) (fun φ26 => [(b, .cells #[.string ⟨(ss).toArray⟩, .int .i64 ((tkP ss p4 41 : Nat) : Int), .slice (some ⟨g, 0, none⟩) (List.length st4 + 1) cap, dv] 105)]) (fun φ26 => []) s trivial (fun φ26 => by kernel_rfl) ?_
          intro φ26 w26 s
          refine ops_done (by kernel_rfl) ?_
          refine cond_true_rule (b := true) (by kernel_rfl) rfl ?_
          refine wp_seq ?_
          refine region_rule ?_
          refine ops_rule (C := []) [(b, .cells #[.string ⟨(ss).toArray⟩, .int .i64 ((tkP ss p4 41 : Nat) : Int), .slice (some ⟨g, 0, none⟩) (List.length st4 + 1) cap, dv] 105)] F 2 [] 0 (fun φ27 => [(5, .bool false), (4, .int .u8 32)]) (fun φ27 => [(b, .cells #[.string ⟨(ss).toArray⟩, .int .i64 ((tkP ss p4 41 : Nat) : Int), .slice (some ⟨g, 0, none⟩) (List.length st4 + 1) cap, dv] 105)]) (fun φ27 => []) s trivial (fun φ27 => by kernel_rfl) ?_
          intro φ27 w27 s
          refine ops_done (by kernel_rfl) ?_
          refine wp_ret ?_
          refine ret_rule (C := []) [(b, .cells #[.string ⟨(ss).toArray⟩, .int .i64 ((tkP ss p4 41 : Nat) : Int), .slice (some ⟨g, 0, none⟩) (List.length st4 + 1) cap, dv] 105)] F (.tuple #[.int .u8 32, .bool false]) [] [] s trivial (by kernel_rfl) ?_
          replace s := s.drop (List.Sublist.append (List.Sublist.cons₂ _ List.Sublist.slnil) (List.Sublist.refl F))
          have hg9 := (cl_no (fun q => (of_decide_eq_true hc11) q) hc15).symm.trans (hI4.trans hC)
          cases hg9
          exact ⟨_, _, _, rfl, s, ⟨_, _, rfl, rfl, _, rfl, rfl, hrow4⟩⟩
      ·
        rw [hc11]
        refine cond_false_rule (b := false) (by kernel_rfl) rfl ?_
        refine wp_exit ?_
        refine wp_seq ?_
        refine region_rule ?_
        refine ops_rule (C := []) [(b, .cells #[.string ⟨(ss).toArray⟩, .int .i64 ((p4 : Nat) : Int), .slice (some ⟨g, 0, none⟩) (List.length st4 + 1) cap, dv] 105)] F 3 [] 0 (fun φ28 => [(5, .bool true), (4, .int .u8 ((h4 : Nat) : Int)), (51, .int .u8 ((h4 : Nat) : Int))]) (fun φ28 => [(b, .cells #[.string ⟨(ss).toArray⟩, .int .i64 ((p4 : Nat) : Int), .slice (some ⟨g, 0, none⟩) (List.length st4 + 1) cap, dv] 105)]) (fun φ28 => []) s trivial (fun φ28 => by kernel_rfl) ?_
        intro φ28 w28 s
        refine ops_done (by kernel_rfl) ?_
        refine wp_ret ?_
        refine ret_rule (C := []) [(b, .cells #[.string ⟨(ss).toArray⟩, .int .i64 ((p4 : Nat) : Int), .slice (some ⟨g, 0, none⟩) (List.length st4 + 1) cap, dv] 105)] F (.tuple #[.int .u8 ((h4 : Nat) : Int), .bool true]) [] [] s trivial (by kernel_rfl) ?_
        replace s := s.drop (List.Sublist.append (List.Sublist.cons₂ _ List.Sublist.slnil) (List.Sublist.refl F))
        have hg9 := (cl_stop (Decidable.not_not.1 (of_decide_eq_false hc11))).symm.trans (hI4.trans hC)
        cases hg9
        exact ⟨_, _, _, rfl, s, ⟨_, _, rfl, rfl, _, rfl, rfl, hrow4⟩⟩
    ·
      exact absurd (Nat.zero_le _) (of_decide_eq_false hc8)

set_option maxHeartbeats 2000000 in
theorem closeN_c {I : IM} {b p half : Nat} {ss : List UInt8} {dv : Value} : FunM Try.prog 70 #[.pointer (some ⟨b, 0, none⟩), .int .u8 ((half : Nat) : Int)] I [(b, .cells #[.string ⟨(ss).toArray⟩, .int .i64 ((p : Nat) : Int), .slice none 0 0, dv] 105)] (fun v J H' => ∃ (b' : OB) (F' : List OB), H' = b' :: F' ∧ b'.1 = b ∧ ∃ v' : Value, v = .tuple #[.int .u8 ((half : Nat) : Int), .bool true] ∧ b' = (b, .cells #[.string ⟨(ss).toArray⟩, .int .i64 ((p : Nat) : Int), v', dv] 105) ∧ RowH 5 1 v' ([] : List Nat).length (stV ([] : List Nat)) F') := by
  refine enterM_rule 52 [(0, .pointer (some ⟨b, 0, none⟩)), (1, .int .u8 ((half : Nat) : Int))] Try.func70 rfl (by kernel_rfl) ?_
  intro w s
  refine wp_seq ?_
  refine region_rule ?_
  refine ops_rule (C := []) [(b, .cells #[.string ⟨(ss).toArray⟩, .int .i64 ((p : Nat) : Int), .slice none 0 0, dv] 105)] [] 2 [] 0 (fun φ1 => [(5, .bool false), (4, .int .u8 0)]) (fun φ1 => [(b, .cells #[.string ⟨(ss).toArray⟩, .int .i64 ((p : Nat) : Int), .slice none 0 0, dv] 105)]) (fun φ1 => []) s trivial (fun φ1 => by kernel_rfl) ?_
  intro φ1 w1 s
  refine ops_done (by kernel_rfl) ?_
  refine wp_seq ?_
  refine wp_seq ?_
  refine region_rule ?_
  refine ops_rule (C := []) [(b, .cells #[.string ⟨(ss).toArray⟩, .int .i64 ((p : Nat) : Int), .slice none 0 0, dv] 105)] [] 7 [.o 0] 0 (fun φ2 => [(6, .int .i64 (-1)), (12, .int .i64 (-1)), (11, .int .i64 0), (10, .slice none 0 0), (9, .pointer (some ⟨b, 2, none⟩)), (8, .pointer (some ⟨b, 0, none⟩)), (7, .pointer (some ⟨b, 0, none⟩))]) (fun φ2 => [(b, .cells #[.string ⟨(ss).toArray⟩, .int .i64 ((p : Nat) : Int), .slice none 0 0, dv] 105)]) (fun φ2 => [b]) s trivial (fun φ2 => by kernel_rfl) ?_
  intro φ2 w2 s
  refine ops_done (by kernel_rfl) ?_
  refine wp_block ?_
  refine Go.wp_loop_rounds 1 ?_
  refine rounds_step (n := 0) ?_
  refine wp_seq ?_
  refine wp_seq ?_
  refine region_rule ?_
  refine ops_rule (C := []) [(b, .cells #[.string ⟨(ss).toArray⟩, .int .i64 ((p : Nat) : Int), .slice none 0 0, dv] 105)] [] 12 [] 0 (fun φ3 => [(24, .bool false), (23, undef), (22, undef), (21, undef), (20, undef), (19, undef), (18, undef), (17, undef), (16, undef), (15, .bool false), (14, .bool false), (13, .int .i64 (-1))]) (fun φ3 => [(b, .cells #[.string ⟨(ss).toArray⟩, .int .i64 ((p : Nat) : Int), .slice none 0 0, dv] 105)]) (fun φ3 => []) s trivial (fun φ3 => by kernel_rfl) ?_
  intro φ3 w3 s
  refine ops_done (by kernel_rfl) ?_
  refine cond_false_rule (b := false) (by kernel_rfl) rfl ?_
  refine wp_exit ?_
  refine wp_seq ?_
  refine region_rule ?_
  refine ops_rule (C := []) [(b, .cells #[.string ⟨(ss).toArray⟩, .int .i64 ((p : Nat) : Int), .slice none 0 0, dv] 105)] [] 3 [] 0 (fun φ4 => [(5, .bool true), (4, .int .u8 ((half : Nat) : Int)), (51, .int .u8 ((half : Nat) : Int))]) (fun φ4 => [(b, .cells #[.string ⟨(ss).toArray⟩, .int .i64 ((p : Nat) : Int), .slice none 0 0, dv] 105)]) (fun φ4 => []) s trivial (fun φ4 => by kernel_rfl) ?_
  intro φ4 w4 s
  refine ops_done (by kernel_rfl) ?_
  refine wp_ret ?_
  refine ret_rule (C := []) [(b, .cells #[.string ⟨(ss).toArray⟩, .int .i64 ((p : Nat) : Int), .slice none 0 0, dv] 105)] [] (.tuple #[.int .u8 ((half : Nat) : Int), .bool true]) [] [] s trivial (by kernel_rfl) ?_
  replace s := s.drop (List.Sublist.append (List.Sublist.cons₂ _ List.Sublist.slnil) (List.Sublist.refl []))
  exact ⟨_, _, _, rfl, s, ⟨_, _, rfl, rfl, _, rfl, rfl, RowH.nil 5 1⟩⟩

theorem closeG_c {I : IM} {b p half : Nat} {ss : List UInt8} {st : List Nat} {dv : Value} {F : List OB} {p' half' : Nat} {st' : List Nat} {ok : Bool} {v : Value} (hs : ss.length ≤ 1000000) (hp : p ≤ ss.length) (hrow : RowH 5 1 v st.length (stV st) F) (hlen : st.length ≤ 1000000) (hC : clG ss st p half = (p', st', half', ok)) :
    FunM Try.prog 70 #[.pointer (some ⟨b, 0, none⟩), .int .u8 ((half : Nat) : Int)] I ((b, .cells #[.string ⟨(ss).toArray⟩, .int .i64 ((p : Nat) : Int), v, dv] 105) :: F) (fun v J H' => ∃ (b' : OB) (F' : List OB), H' = b' :: F' ∧ b'.1 = b ∧ ∃ v' : Value, v = .tuple #[.int .u8 ((half' : Nat) : Int), .bool ok] ∧ b' = (b, .cells #[.string ⟨(ss).toArray⟩, .int .i64 ((p' : Nat) : Int), v', dv] 105) ∧ RowH 5 1 v' st'.length (stV st') F') := by
  rcases hrow.2 with ⟨hv, h0, hF⟩ | ⟨g, cap, cur, hv, hF, _⟩
  · cases st with
    | nil =>
      subst hv hF
      rw [clG] at hC
      cases hC
      exact closeN_c
    | cons a st => cases h0
  · subst hv
    exact closeR_c hs hp hrow hlen hC

end Go.Proofs.Ytgdickihjaomjaa
