/- ids: scan -/
import Derived.Test.YtgdickihjaomjaaTuV5
set_option linter.all false
set_option maxRecDepth 100000
namespace Go.Proofs.Ytgdickihjaomjaa
open Go.RowKit Go.Sep
attribute [local irreducible] Go.wpList Go.Code.wp
section
variable {P : Program} {Q : Exit → Act → World → Prop}
attribute [local semireducible] Go.wpList Go.Code.wp
/-- RULE: an operation that answers nothing. -/
theorem semU_rule {N : Nat} {ops : Array Oper} {ev : Ev} {l : List Oper} {w w' : World} (s0 : Sem Unit) (d : Option Tmp)
    (h : semOf N ops ev l = some (s0.bind fun _ => .pure .skip, d)) (hr : s0.run P w = .ok () w') (k : wpList P ops Q l.tail (ActOf N (putE d undef ev)) w') : wpList P ops Q l (ActOf N ev) w := by
  cases l with
  | nil => simp [semOf] at h
  | cons o l' =>
    simp only [semOf] at h
    split at h
    · rename_i hw
      simp only [Option.some.injEq, Prod.mk.injEq] at h
      obtain ⟨h1, rfl⟩ := h
      refine wpList_step fun K hK => ?_
      rw [ActOf_yield, if_pos hw]
      unfold Oper.wp
      rw [ActOf_eval, h1]
      have : (s0.bind fun _ => Sem.pure Next.skip).run P w = .ok .skip w' := by
        rw [show (s0.bind fun _ => Sem.pure Next.skip) = (s0 >>= fun _ => pure Next.skip) from rfl, Sem.run_bind, hr]; rfl
      rw [this]
      simp only [Oper.upon]
      refine hK _ _ ?_
      rw [ActOf_put]; exact k
    · cases h
end
theorem row_form {e : TypeId} {size : Nat} {v : Value} {n : Nat} {xs : List Value} {F : List OB} (h : RowH e size v n xs F) : ∃ a cap, v = .slice a n cap := by
  rcases h.2 with ⟨hv, h0, _⟩ | ⟨g, cap, cur, hv, _⟩
  · subst h0; exact ⟨_, _, hv⟩
  · exact ⟨_, _, hv⟩
theorem st_set {l x : Nat} {st : List Nat} : (stV (l :: st)).set st.length (.int .u8 ((x : Nat) : Int)) = stV (x :: st) := by
  have h := stV_len st
  rw [Nat.mul_one] at h
  rw [stV, List.set_append_right _ _ (by rw [h]; exact Nat.le_refl _), h, Nat.sub_self]; rfl
theorem row_put {w0 : World} {I0 : IM} {m : List Nat} {I : IM} {w : World} {H F : List OB} {l x g cap : Nat} {st : List Nat} (s : St w0 I0 m I w (H ++ F)) (h : RowH 5 1 (.slice (some ⟨g, 0, none⟩) (st.length + 1) cap) (st.length + 1) (stV (l :: st)) F) :
    ∃ w' F', (Instr.storeAt 5 (.pointer (some ⟨g, st.length, none⟩)) (.int .u8 ((x : Nat) : Int))).run Try.prog w = .ok () w' ∧ St w0 I0 m I w' (H ++ F') ∧ RowH 5 1 (.slice (some ⟨g, 0, none⟩) (st.length + 1) cap) (st.length + 1) (stV (x :: st)) F' := by
  have hcell := row_cell s h st_left
  have hx : (stV (x :: st)).length = (st.length + 1) * 1 := stV_len _
  rcases h.2 with ⟨hv, _⟩ | ⟨g', cap', cur, hv, hF, hnc, hcm, hcs, ht⟩
  · cases hv
  cases hv
  subst hF
  have hb : w.heap[g]? = some (.cells cur 5 (0, 0)) := s.own (g, _) (by simp)
  have hi : st.length < cur.size := by rw [hcs]; omega
  have hfz : w.frozen? ⟨g, st.length, none⟩ = false := by rw [Go.Sep.run_frozen (a := ⟨g, st.length, none⟩) hb rfl]; simp
  have e : (Instr.storeAt 5 (.pointer (some ⟨g, st.length, none⟩)) (.int .u8 ((x : Nat) : Int))).run Try.prog w = (store ⟨g, st.length, none⟩ (.int .u8 ((x : Nat) : Int))).run Try.prog w := by kernel_rfl
  have hq : (H ++ [(g, Obj.cells cur 5)])[H.length]? = some (g, .cells cur 5) := by simp
  refine ⟨w.setCell ⟨g, st.length, none⟩ (.int .u8 ((x : Nat) : Int)), [(g, .cells (cur.setIfInBounds st.length (.int .u8 ((x : Nat) : Int))) 5)], ?_, ?_, ?_⟩
  · rw [e]; simp only [store, Sem.run, hcell, hfz]; rfl
  · have st' := St.set (w' := w.setCell ⟨g, st.length, none⟩ (.int .u8 ((x : Nat) : Int))) (o' := .cells (cur.setIfInBounds st.length (.int .u8 ((x : Nat) : Int))) 5) s hq rfl rfl rfl (by simp [World.setCell]) (by
        show (w.heap.modify g _)[g]? = _
        rw [Array.getElem?_modify]; simp [hb]) (fun z hz => by
        show (w.heap.modify g _)[z]? = _
        rw [Array.getElem?_modify, if_neg (fun h => hz h.symm)])
    simpa using st'
  · refine ⟨hx, .inr ⟨g, cap, _, rfl, rfl, hnc, hcm, by rw [Array.size_setIfInBounds]; exact hcs, ?_⟩⟩
    rw [Array.toList_setIfInBounds, List.take_set, ht, st_set]
def scG (ss : List UInt8) : Nat → Nat → List Nat → Nat → Nat × Bool
  | 0, _, _, _ => (0, false)
  | f + 1, p, st, d => match lfG ss (ss.length + 1) p st d with
    | (_, _, _, _, false) => (0, false)
    | (p1, st1, d1, sh, true) => match clG ss st1 p1 sh with
      | (_, _, _, false) => (0, false)
      | (p2, [], _, true) => (d1, decide (p2 = ss.length))
      | (p2, _ :: st3, half, true) => if tkB ss p2 44 = true then scG ss f (tkP ss p2 44) (half :: st3) d1 else (0, false)
section
variable {ss : List UInt8} {m p d p1 d1 sh p2 half l : Nat} {st st1 st2 st3 : List Nat}
theorem sc_leaf (hm : 0 < m) (h : lfG ss (ss.length + 1) p st d = (p1, st1, d1, sh, false)) : scG ss m p st d = (0, false) := by
  obtain ⟨f, rfl⟩ : ∃ f, m = f + 1 := ⟨m - 1, by omega⟩
  rw [scG, h]
theorem sc_close (hm : 0 < m) (h : lfG ss (ss.length + 1) p st d = (p1, st1, d1, sh, true)) (h2 : clG ss st1 p1 sh = (p2, st2, half, false)) : scG ss m p st d = (0, false) := by
  obtain ⟨f, rfl⟩ : ∃ f, m = f + 1 := ⟨m - 1, by omega⟩
  rw [scG, h]; simp only [h2]
theorem sc_end (hm : 0 < m) (h : lfG ss (ss.length + 1) p st d = (p1, st1, d1, sh, true)) (h2 : clG ss st1 p1 sh = (p2, [], half, true)) : scG ss m p st d = (d1, decide (p2 = ss.length)) := by
  obtain ⟨f, rfl⟩ : ∃ f, m = f + 1 := ⟨m - 1, by omega⟩
  rw [scG, h]; simp only [h2]
theorem sc_go (hm : 0 < m) (h : lfG ss (ss.length + 1) p st d = (p1, st1, d1, sh, true)) (h2 : clG ss st1 p1 sh = (p2, l :: st3, half, true)) (h3 : tkB ss p2 44 = true) : scG ss m p st d = scG ss (m - 1) (tkP ss p2 44) (half :: st3) d1 := by
  obtain ⟨f, rfl⟩ : ∃ f, m = f + 1 := ⟨m - 1, by omega⟩
  rw [scG, h]; simp only [h2, h3, if_true]; rfl
theorem sc_no (hm : 0 < m) (h : lfG ss (ss.length + 1) p st d = (p1, st1, d1, sh, true)) (h2 : clG ss st1 p1 sh = (p2, l :: st3, half, true)) (h3 : tkB ss p2 44 = false) : scG ss m p st d = (0, false) := by
  obtain ⟨f, rfl⟩ : ∃ f, m = f + 1 := ⟨m - 1, by omega⟩
  rw [scG, h]; simp only [h2, h3]; rfl
end
theorem lf_inv {ss : List UInt8} (hs : ss.length ≤ 1000000) : ∀ (f p : Nat) (st : List Nat) (d : Nat), p ≤ ss.length → st.length ≤ p → d ≤ 1000000 → p ≤ (lfG ss f p st d).1 ∧ (lfG ss f p st d).1 ≤ ss.length ∧ (lfG ss f p st d).2.1.length ≤ (lfG ss f p st d).1 ∧ (lfG ss f p st d).2.2.1 ≤ 1000000
  | 0, p, st, d, hp, hl, hd => ⟨Nat.le_refl _, hp, hl, hd⟩
  | f + 1, p, st, d, hp, hl, hd => by
    have a1 := tkP_ge ss p 40
    have a2 := tkP_ge ss (tkP ss p 40) 48
    have a3 := tkP_ge ss (tkP ss (tkP ss p 40) 48) 49
    have b1 := tkP_le 40 hp
    have b2 := tkP_le 48 b1
    have b3 := tkP_le 49 b2
    rw [lfG]
    split
    · rename_i h1
      have c1 := tkP_t h1
      have := lf_inv hs f (tkP ss p 40) (32 :: st) (max d (st.length + 1)) b1 (by simp only [List.length_cons]; omega) (by omega)
      exact ⟨by omega, this.2⟩
    · split
      · exact ⟨by simp only; omega, b2, by simp only; omega, hd⟩
      · exact ⟨by simp only; omega, b3, by simp only; omega, hd⟩
theorem cl_inv {ss : List UInt8} : ∀ (st : List Nat) (p half : Nat), p ≤ ss.length → st.length ≤ p → p ≤ (clG ss st p half).1 ∧ (clG ss st p half).1 ≤ ss.length ∧ (clG ss st p half).2.1.length ≤ (clG ss st p half).1
  | [], p, half, hp, hl => ⟨Nat.le_refl _, hp, Nat.zero_le _⟩
  | l :: st, p, half, hp, hl => by
    have a1 := tkP_ge ss p 41
    have b1 := tkP_le 41 hp
    simp only [List.length_cons] at hl
    rw [clG]
    split
    · exact ⟨Nat.le_refl _, hp, by simp only [List.length_cons]; omega⟩
    · split
      · split
        · have := cl_inv st (tkP ss p 41) 40 b1 (by omega)
          exact ⟨by omega, this.2⟩
        · exact ⟨a1, b1, by simp only [List.length_cons]; omega⟩
      · exact ⟨a1, b1, by simp only [List.length_cons]; omega⟩
set_option maxHeartbeats 2000000 in
theorem scanG_c {I : IM} {ss : List UInt8} {dd : Nat} {ok : Bool} (hs : ss.length ≤ 1000000) (hS : scG ss (ss.length + 1) 0 [] 0 = (dd, ok)) : Fun Try.prog 56 #[.string ⟨(ss).toArray⟩] I (fun v J => v = .tuple #[.int .i64 ((dd : Nat) : Int), .bool ok]) := by
  refine enter_rule 43 [(0, .string ⟨(ss).toArray⟩)] Try.func56 rfl (by kernel_rfl) ?_
  intro w s
  refine wp_seq ?_
  refine region_rule ?_
  refine ops_rule (C := []) [] [] 2 [] 0 (fun φ1 => [(3, .bool false), (2, .int .i64 0)]) (fun φ1 => []) (fun φ1 => []) s trivial (fun φ1 => by kernel_rfl) ?_
  intro φ1 w1 s
  refine ops_done (by kernel_rfl) ?_
  refine wp_seq ?_
  refine region_rule ?_
  refine ops_rule (C := []) [] [] 4 [.o 0, .o 0, .o 0, .o 0] 1 (fun φ2 => [(4, .pointer (some ⟨(φ2 0), 0, none⟩)), (9, .agg #[.string ⟨(ss).toArray⟩, .int .i64 0, .slice none 0 0, .int .i64 0]), (8, .string ⟨(ss).toArray⟩)]) (fun φ2 => [((φ2 0), .cells #[.string ⟨(ss).toArray⟩, .int .i64 0, .slice none 0 0, .int .i64 0] 105)]) (fun φ2 => [(φ2 0), (φ2 0), (φ2 0), (φ2 0)]) s trivial (fun φ2 => by kernel_rfl) ?_
  intro φ2 w2 s
  refine ops_done (by kernel_rfl) ?_
  refine wp_block ?_
  have hle3 := IM.Le.refl I
  refine loop_rule (fun (x : Nat × List Nat × Nat × Value × List OB) => [(0, .string ⟨(ss).toArray⟩), (4, .pointer (some ⟨(φ2 0), 0, none⟩))]) (fun (x : Nat × List Nat × Nat × Value × List OB) => ((φ2 0), .cells #[.string ⟨(ss).toArray⟩, .int .i64 ((x.1 : Nat) : Int), x.2.2.2.1, .int .i64 ((x.2.2.1 : Nat) : Int)] 105) :: x.2.2.2.2) (fun m (x : Nat × List Nat × Nat × Value × List OB) J => IM.Le I J ∧ scG ss m x.1 x.2.1 x.2.2.1 = scG ss (ss.length + 1) 0 [] 0 ∧ x.1 ≤ ss.length ∧ ss.length < x.1 + m ∧ RowH 5 1 x.2.2.2.1 x.2.1.length (stV x.2.1) x.2.2.2.2 ∧ x.2.1.length ≤ x.1 ∧ x.2.2.1 ≤ 1000000) (ss.length + 1) (0, [], 0, .slice none 0 0, []) s (by kernel_rfl) (List.Sublist.refl _) ⟨IM.Le.refl _, rfl, Nat.zero_le _, by simp only; omega, RowH.nil 5 1, Nat.le_refl _, Nat.zero_le _⟩ ?_
  rintro m4 ⟨p4, st4, d4, v4, F4⟩ I4 w4 evj s ⟨le4, hI4, hp4, hm4, hrow4, hst4, hd4⟩
  dsimp only at s hI4 hp4 hm4 hrow4 hst4 hd4
  replace hle3 := leMono9 le4 hle3
  obtain ⟨p1, st1, d1, sh1, ok1, hL1⟩ : ∃ a b c e f, lfG ss (ss.length + 1) p4 st4 d4 = (a, b, c, e, f) := ⟨_, _, _, _, _, rfl⟩
  have hA := lf_inv hs (ss.length + 1) p4 st4 d4 hp4 hst4 hd4
  rw [hL1] at hA
  dsimp only at hA
  obtain ⟨p2, st2, hf2, ok2, hC2⟩ : ∃ a b c e, clG ss st1 p1 sh1 = (a, b, c, e) := ⟨_, _, _, _, rfl⟩
  have hB := cl_inv st1 p1 sh1 hA.2.1 hA.2.2.1
  rw [hC2] at hB
  dsimp only at hB
  have hm0 : 0 < m4 := by omega
  refine wp_block ?_
  refine wp_seq ?_
  refine region_rule ?_
  refine callH_rule (b := ((φ2 0), .cells #[.string ⟨(ss).toArray⟩, .int .i64 ((p4 : Nat) : Int), v4, .int .i64 ((d4 : Nat) : Int)] 105)) (H := [((φ2 0), .cells #[.string ⟨(ss).toArray⟩, .int .i64 ((p4 : Nat) : Int), v4, .int .i64 ((d4 : Nat) : Int)] 105)]) (F := F4) (Hr := []) (some 11) 0 s (by kernel_rfl) (by kernel_rfl) (leafG_c (b := (φ2 0)) (v := v4) hs hp4 hrow4 hst4 hd4 hL1) (by kernel_rfl) ?_
  rintro v5 I5 w5 b5 F5 le5 - h5 s
  replace hle3 := leMono9 le5 hle3
  obtain ⟨v5, rfl, rfl, hr5⟩ := h5
  refine ops_rule (C := []) [((φ2 0), .cells #[.string ⟨(ss).toArray⟩, .int .i64 ((p1 : Nat) : Int), v5, .int .i64 ((d1 : Nat) : Int)] 105)] F5 5 [] 0 (fun φ6 => [(6, .bool ok1), (5, .int .u8 ((sh1 : Nat) : Int)), (13, .bool ok1), (12, .int .u8 ((sh1 : Nat) : Int)), (10, .tuple #[.int .u8 ((sh1 : Nat) : Int), .bool ok1])]) (fun φ6 => [((φ2 0), .cells #[.string ⟨(ss).toArray⟩, .int .i64 ((p1 : Nat) : Int), v5, .int .i64 ((d1 : Nat) : Int)] 105)]) (fun φ6 => []) s trivial (fun φ6 => by kernel_rfl) ?_
  intro φ6 w6 s
  refine ops_done (by kernel_rfl) ?_
  refine wp_seq ?_
  refine wp_seq ?_
  refine region_rule ?_
  refine ops_rule (C := []) [((φ2 0), .cells #[.string ⟨(ss).toArray⟩, .int .i64 ((p1 : Nat) : Int), v5, .int .i64 ((d1 : Nat) : Int)] 105)] F5 2 [] 0 (fun φ7 => [(15, .bool (!(ok1))), (14, .bool ok1)]) (fun φ7 => [((φ2 0), .cells #[.string ⟨(ss).toArray⟩, .int .i64 ((p1 : Nat) : Int), v5, .int .i64 ((d1 : Nat) : Int)] 105)]) (fun φ7 => []) s trivial (fun φ7 => by kernel_rfl) ?_
  intro φ7 w7 s
  refine ops_done (by kernel_rfl) ?_
  rcases Bool.eq_false_or_eq_true (ok1) with hc8 | hc8
  ·
    rw [hc8]
    refine cond_false_rule (b := false) (by kernel_rfl) rfl ?_
    refine wp_skip ?_
    refine wp_seq ?_
    refine region_rule ?_
    refine ops_rule (C := []) [((φ2 0), .cells #[.string ⟨(ss).toArray⟩, .int .i64 ((p1 : Nat) : Int), v5, .int .i64 ((d1 : Nat) : Int)] 105)] F5 1 [] 0 (fun φ9 => [(17, .int .u8 ((sh1 : Nat) : Int))]) (fun φ9 => [((φ2 0), .cells #[.string ⟨(ss).toArray⟩, .int .i64 ((p1 : Nat) : Int), v5, .int .i64 ((d1 : Nat) : Int)] 105)]) (fun φ9 => []) s trivial (fun φ9 => by kernel_rfl) ?_
    intro φ9 w9 s
    refine callH_rule (b := ((φ2 0), .cells #[.string ⟨(ss).toArray⟩, .int .i64 ((p1 : Nat) : Int), v5, .int .i64 ((d1 : Nat) : Int)] 105)) (H := [((φ2 0), .cells #[.string ⟨(ss).toArray⟩, .int .i64 ((p1 : Nat) : Int), v5, .int .i64 ((d1 : Nat) : Int)] 105)]) (F := F5) (Hr := []) (some 18) 0 s (by kernel_rfl) (by kernel_rfl) (closeG_c (b := (φ2 0)) (dv := .int .i64 ((d1 : Nat) : Int)) (v := v5) hs hA.2.1 hr5 (by omega) hC2) (by kernel_rfl) ?_
    rintro v10 I10 w10 b10 F10 le10 - h10 s
    replace hle3 := leMono9 le10 hle3
    obtain ⟨v10, rfl, rfl, hr10⟩ := h10
    rcases st2 with _ | ⟨l2, st3⟩
    ·
      obtain ⟨a9, cap9, rfl⟩ := row_form hr10
      replace s : St w I [] I10 w10 ([((φ2 0), .cells #[.string ⟨(ss).toArray⟩, .int .i64 ((p2 : Nat) : Int), .slice a9 0 cap9, .int .i64 ((d1 : Nat) : Int)] 105)] ++ F10) := s
      refine ops_rule (C := []) [((φ2 0), .cells #[.string ⟨(ss).toArray⟩, .int .i64 ((p2 : Nat) : Int), .slice a9 0 cap9, .int .i64 ((d1 : Nat) : Int)] 105)] F10 5 [] 0 (fun φ11 => [(6, .bool ok2), (5, .int .u8 ((hf2 : Nat) : Int)), (20, .bool ok2), (19, .int .u8 ((hf2 : Nat) : Int)), (16, .tuple #[.int .u8 ((hf2 : Nat) : Int), .bool ok2])]) (fun φ11 => [((φ2 0), .cells #[.string ⟨(ss).toArray⟩, .int .i64 ((p2 : Nat) : Int), .slice a9 0 cap9, .int .i64 ((d1 : Nat) : Int)] 105)]) (fun φ11 => []) s trivial (fun φ11 => by kernel_rfl) ?_
      intro φ11 w11 s
      refine ops_done (by kernel_rfl) ?_
      refine wp_seq ?_
      refine wp_seq ?_
      refine region_rule ?_
      refine ops_rule (C := []) [((φ2 0), .cells #[.string ⟨(ss).toArray⟩, .int .i64 ((p2 : Nat) : Int), .slice a9 0 cap9, .int .i64 ((d1 : Nat) : Int)] 105)] F10 2 [] 0 (fun φ12 => [(22, .bool (!(ok2))), (21, .bool ok2)]) (fun φ12 => [((φ2 0), .cells #[.string ⟨(ss).toArray⟩, .int .i64 ((p2 : Nat) : Int), .slice a9 0 cap9, .int .i64 ((d1 : Nat) : Int)] 105)]) (fun φ12 => []) s trivial (fun φ12 => by kernel_rfl) ?_
      intro φ12 w12 s
      refine ops_done (by kernel_rfl) ?_
      rcases Bool.eq_false_or_eq_true (ok2) with hc13 | hc13
      ·
        rw [hc13]
        refine cond_false_rule (b := false) (by kernel_rfl) rfl ?_
        refine wp_skip ?_
        refine wp_seq ?_
        refine region_rule ?_
        refine ops_rule (C := []) [((φ2 0), .cells #[.string ⟨(ss).toArray⟩, .int .i64 ((p2 : Nat) : Int), .slice a9 0 cap9, .int .i64 ((d1 : Nat) : Int)] 105)] F10 5 [.o 0] 0 (fun φ14 => [(7, .int .i64 (-1)), (26, .int .i64 (-1)), (25, .int .i64 0), (24, .slice a9 0 cap9), (23, .pointer (some ⟨(φ2 0), 2, none⟩))]) (fun φ14 => [((φ2 0), .cells #[.string ⟨(ss).toArray⟩, .int .i64 ((p2 : Nat) : Int), .slice a9 0 cap9, .int .i64 ((d1 : Nat) : Int)] 105)]) (fun φ14 => [(φ2 0)]) s trivial (fun φ14 => by kernel_rfl) ?_
        intro φ14 w14 s
        refine ops_done (by kernel_rfl) ?_
        refine wp_seq ?_
        refine wp_seq ?_
        refine region_rule ?_
        refine ops_rule (C := []) [((φ2 0), .cells #[.string ⟨(ss).toArray⟩, .int .i64 ((p2 : Nat) : Int), .slice a9 0 cap9, .int .i64 ((d1 : Nat) : Int)] 105)] F10 2 [] 0 (fun φ15 => [(28, .bool true), (27, .int .i64 (-1))]) (fun φ15 => [((φ2 0), .cells #[.string ⟨(ss).toArray⟩, .int .i64 ((p2 : Nat) : Int), .slice a9 0 cap9, .int .i64 ((d1 : Nat) : Int)] 105)]) (fun φ15 => []) s trivial (fun φ15 => by kernel_rfl) ?_
        intro φ15 w15 s
        refine ops_done (by kernel_rfl) ?_
        refine cond_true_rule (b := true) (by kernel_rfl) rfl ?_
        refine wp_seq ?_
        refine drawK_rule (C := []) ⟨(fun φ16 xs16 => [.look 0 [] [], .look 0 [.o 0] [(φ2 0)], .look 0 [] [], .look 0 [.o 0] [(φ2 0)], .look 0 [] [], .look 0 [] [], .sub 0 [] [] (.bool (((p2 : Nat) : Int) == (((ss).length : Nat) : Int))), .look 0 [] [], .look 0 [] []]), (fun φ16 xs16 => [.pointer (some ⟨(φ2 0), 3, none⟩), .int .i64 ((d1 : Nat) : Int), .pointer (some ⟨(φ2 0), 1, none⟩), .int .i64 ((p2 : Nat) : Int), .string ⟨(ss).toArray⟩, .int .i64 (((ss).length : Nat) : Int), .bool (decide (p2 = ((ss).length))), .int .i64 ((d1 : Nat) : Int), .bool (decide (p2 = ((ss).length)))]), (fun φ16 xs16 => [[((φ2 0), .cells #[.string ⟨(ss).toArray⟩, .int .i64 ((p2 : Nat) : Int), .slice a9 0 cap9, .int .i64 ((d1 : Nat) : Int)] 105)]]), (fun φ16 xs16 => [[default, default, default, default, default, default, default, default, default]]), [], [1, 1, 1, 1, 1, 1, 5, 1, 1]⟩ (fun j => ([MP.any, MP.any, MP.any, MP.any, MP.any, MP.any, MP.any, MP.any, MP.any] : List MP).getD j MP.any) F10 [] [6] [] (fun φ16 xs16 => []) (fun φ16 xs16 => [(29, .pointer (some ⟨(φ2 0), 3, none⟩)), (30, .int .i64 ((d1 : Nat) : Int)), (31, .pointer (some ⟨(φ2 0), 1, none⟩)), (32, .int .i64 ((p2 : Nat) : Int)), (33, .string ⟨(ss).toArray⟩), (34, .int .i64 (((ss).length : Nat) : Int)), (35, .bool (decide (p2 = ((ss).length)))), (2, .int .i64 ((d1 : Nat) : Int)), (3, .bool (decide (p2 = ((ss).length))))]) (fun φ16 xs16 => [((φ2 0), .cells #[.string ⟨(ss).toArray⟩, .int .i64 ((p2 : Nat) : Int), .slice a9 0 cap9, .int .i64 ((d1 : Nat) : Int)] 105)]) s trivial (by kernel_rfl) (by kernel_rfl) (fun _ _ => by kernel_rfl) (fun _ _ => by kernel_rfl) ⟨fun _ _ => by kernel_rfl, fun _ _ => by kernel_rfl, fun _ _ => by kernel_rfl, fun _ _ => by kernel_rfl⟩ (fun _ _ _ => by kernel_rfl) (fun _ _ => by kernel_rfl) (fun _ _ => by kernel_rfl) (fun _ _ => by kernel_rfl) (fun _ _ => by kernel_rfl) (fun _ _ => by kernel_rfl) ⟨kcast (A := ∀ (φ16 : Nat → Nat) (xs16 : Xs), (.bool (((p2 : Nat) : Int) == (((ss).length : Nat) : Int)) : Value) = .bool (decide (p2 = ((ss).length)))) (by kernel_rfl) (fun φ16 xs16 => congrArg Value.bool ((nat_eql (a := p2) (b := ((ss).length))))), trivial⟩ trivial (by kernel_rfl) trivial ?k16
        case k16 =>
          rintro φ16 xs16 I16 w16 le16 s 
          replace hle3 := leMono9 le16 hle3
          refine wp_ret ?_
          refine ret_rule (C := []) [((φ2 0), .cells #[.string ⟨(ss).toArray⟩, .int .i64 ((p2 : Nat) : Int), .slice a9 0 cap9, .int .i64 ((d1 : Nat) : Int)] 105)] F10 (.tuple #[.int .i64 ((d1 : Nat) : Int), .bool (decide (p2 = ((ss).length)))]) [] [] s trivial (by kernel_rfl) ?_
          have hg9 := (sc_end hm0 (hL1.trans (by rw [hc8])) (hC2.trans (by rw [hc13]))).symm.trans (hI4.trans hS)
          cases hg9
          exact ⟨_, _, _, rfl, s, rfl⟩
      ·
        rw [hc13]
        refine cond_true_rule (b := true) (by kernel_rfl) rfl ?_
        refine wp_seq ?_
        refine region_rule ?_
        refine ops_rule (C := []) [((φ2 0), .cells #[.string ⟨(ss).toArray⟩, .int .i64 ((p2 : Nat) : Int), .slice a9 0 cap9, .int .i64 ((d1 : Nat) : Int)] 105)] F10 2 [] 0 (fun φ17 => [(3, .bool false), (2, .int .i64 0)]) (fun φ17 => [((φ2 0), .cells #[.string ⟨(ss).toArray⟩, .int .i64 ((p2 : Nat) : Int), .slice a9 0 cap9, .int .i64 ((d1 : Nat) : Int)] 105)]) (fun φ17 => []) s trivial (fun φ17 => by kernel_rfl) ?_
        intro φ17 w17 s
        refine ops_done (by kernel_rfl) ?_
        refine wp_ret ?_
        refine ret_rule (C := []) [((φ2 0), .cells #[.string ⟨(ss).toArray⟩, .int .i64 ((p2 : Nat) : Int), .slice a9 0 cap9, .int .i64 ((d1 : Nat) : Int)] 105)] F10 (.tuple #[.int .i64 0, .bool false]) [] [] s trivial (by kernel_rfl) ?_
        have hg9 := (sc_close hm0 (hL1.trans (by rw [hc8])) (hC2.trans (by rw [hc13]))).symm.trans (hI4.trans hS)
        cases hg9
        exact ⟨_, _, _, rfl, s, rfl⟩
    ·
      obtain ⟨g9, cap9, rfl⟩ := row_some hr10 (Nat.succ_pos _)
      have hB9 : st3.length + 1 ≤ p2 := hB.2.2
      replace s : St w I [] I10 w10 ([((φ2 0), .cells #[.string ⟨(ss).toArray⟩, .int .i64 ((p2 : Nat) : Int), .slice (some ⟨g9, 0, none⟩) (List.length st3 + 1) cap9, .int .i64 ((d1 : Nat) : Int)] 105)] ++ F10) := s
      refine ops_rule (C := []) [((φ2 0), .cells #[.string ⟨(ss).toArray⟩, .int .i64 ((p2 : Nat) : Int), .slice (some ⟨g9, 0, none⟩) (List.length st3 + 1) cap9, .int .i64 ((d1 : Nat) : Int)] 105)] F10 5 [] 0 (fun φ18 => [(6, .bool ok2), (5, .int .u8 ((hf2 : Nat) : Int)), (20, .bool ok2), (19, .int .u8 ((hf2 : Nat) : Int)), (16, .tuple #[.int .u8 ((hf2 : Nat) : Int), .bool ok2])]) (fun φ18 => [((φ2 0), .cells #[.string ⟨(ss).toArray⟩, .int .i64 ((p2 : Nat) : Int), .slice (some ⟨g9, 0, none⟩) (List.length st3 + 1) cap9, .int .i64 ((d1 : Nat) : Int)] 105)]) (fun φ18 => []) s trivial (fun φ18 => by kernel_rfl) ?_
      intro φ18 w18 s
      refine ops_done (by kernel_rfl) ?_
      refine wp_seq ?_
      refine wp_seq ?_
      refine region_rule ?_
      refine ops_rule (C := []) [((φ2 0), .cells #[.string ⟨(ss).toArray⟩, .int .i64 ((p2 : Nat) : Int), .slice (some ⟨g9, 0, none⟩) (List.length st3 + 1) cap9, .int .i64 ((d1 : Nat) : Int)] 105)] F10 2 [] 0 (fun φ19 => [(22, .bool (!(ok2))), (21, .bool ok2)]) (fun φ19 => [((φ2 0), .cells #[.string ⟨(ss).toArray⟩, .int .i64 ((p2 : Nat) : Int), .slice (some ⟨g9, 0, none⟩) (List.length st3 + 1) cap9, .int .i64 ((d1 : Nat) : Int)] 105)]) (fun φ19 => []) s trivial (fun φ19 => by kernel_rfl) ?_
      intro φ19 w19 s
      refine ops_done (by kernel_rfl) ?_
      rcases Bool.eq_false_or_eq_true (ok2) with hc20 | hc20
      ·
        rw [hc20]
        refine cond_false_rule (b := false) (by kernel_rfl) rfl ?_
        refine wp_skip ?_
        refine wp_seq ?_
        refine region_rule ?_
        refine ops_rule (C := []) [((φ2 0), .cells #[.string ⟨(ss).toArray⟩, .int .i64 ((p2 : Nat) : Int), .slice (some ⟨g9, 0, none⟩) (List.length st3 + 1) cap9, .int .i64 ((d1 : Nat) : Int)] 105)] F10 5 [.o 0] 0 (fun φ21 => [(7, .int .i64 (IntKind.wrap .i64 ((((List.length st3 + 1) : Nat) : Int) - ((1 : Nat) : Int)))), (26, .int .i64 (IntKind.wrap .i64 ((((List.length st3 + 1) : Nat) : Int) - ((1 : Nat) : Int)))), (25, .int .i64 (((List.length st3 + 1) : Nat) : Int)), (24, .slice (some ⟨g9, 0, none⟩) (List.length st3 + 1) cap9), (23, .pointer (some ⟨(φ2 0), 2, none⟩))]) (fun φ21 => [((φ2 0), .cells #[.string ⟨(ss).toArray⟩, .int .i64 ((p2 : Nat) : Int), .slice (some ⟨g9, 0, none⟩) (List.length st3 + 1) cap9, .int .i64 ((d1 : Nat) : Int)] 105)]) (fun φ21 => [(φ2 0)]) s trivial (fun φ21 => by kernel_rfl) ?_
        intro φ21 w21 s
        rw [nat_subI (a := (List.length st3 + 1)) (b := 1) (by omega) (by omega)]
        refine ops_done (by kernel_rfl) ?_
        refine wp_seq ?_
        refine wp_seq ?_
        refine region_rule ?_
        refine ops_rule (C := []) [((φ2 0), .cells #[.string ⟨(ss).toArray⟩, .int .i64 ((p2 : Nat) : Int), .slice (some ⟨g9, 0, none⟩) (List.length st3 + 1) cap9, .int .i64 ((d1 : Nat) : Int)] 105)] F10 2 [] 0 (fun φ22 => [(28, .bool (decide ((((List.length st3 + 1) - 1 : Nat) : Int) < ((0 : Nat) : Int)))), (27, .int .i64 (((List.length st3 + 1) - 1 : Nat) : Int))]) (fun φ22 => [((φ2 0), .cells #[.string ⟨(ss).toArray⟩, .int .i64 ((p2 : Nat) : Int), .slice (some ⟨g9, 0, none⟩) (List.length st3 + 1) cap9, .int .i64 ((d1 : Nat) : Int)] 105)]) (fun φ22 => []) s trivial (fun φ22 => by kernel_rfl) ?_
        intro φ22 w22 s
        rw [nat_lss (a := ((List.length st3 + 1) - 1)) (b := 0)]
        refine ops_done (by kernel_rfl) ?_
        rcases Bool.eq_false_or_eq_true (decide (((List.length st3 + 1) - 1) < 0)) with hc23 | hc23
        ·
          exact absurd (of_decide_eq_true hc23) (Nat.not_lt_zero _)
        ·
          rw [hc23]
          refine cond_false_rule (b := false) (by kernel_rfl) rfl ?_
          refine wp_skip ?_
          refine wp_seq ?_
          refine region_rule ?_
          refine ops_rule (C := []) [((φ2 0), .cells #[.string ⟨(ss).toArray⟩, .int .i64 ((p2 : Nat) : Int), .slice (some ⟨g9, 0, none⟩) (List.length st3 + 1) cap9, .int .i64 ((d1 : Nat) : Int)] 105)] F10 4 [.o 0] 0 (fun φ24 => [(39, .int .u8 ((hf2 : Nat) : Int)), (38, .int .i64 (((List.length st3 + 1) - 1 : Nat) : Int)), (37, .slice (some ⟨g9, 0, none⟩) (List.length st3 + 1) cap9), (36, .pointer (some ⟨(φ2 0), 2, none⟩))]) (fun φ24 => [((φ2 0), .cells #[.string ⟨(ss).toArray⟩, .int .i64 ((p2 : Nat) : Int), .slice (some ⟨g9, 0, none⟩) (List.length st3 + 1) cap9, .int .i64 ((d1 : Nat) : Int)] 105)]) (fun φ24 => [(φ2 0)]) s trivial (fun φ24 => by kernel_rfl) ?_
          intro φ24 w24 s
          refine sem_rule (Instr.indexAt 22 (.slice (some ⟨g9, 0, none⟩) (List.length st3 + 1) cap9) (.int .i64 (((List.length st3 + 1) - 1 : Nat) : Int))) (some 40) (.pointer (some ⟨g9, ((List.length st3 + 1) - 1), none⟩)) (by kernel_rfl) (run_idx22 (by omega)) ?_
          obtain ⟨w25, F25, hr25, s, hrow25⟩ := row_put (H := [((φ2 0), .cells #[.string ⟨(ss).toArray⟩, .int .i64 ((p2 : Nat) : Int), .slice (some ⟨g9, 0, none⟩) (List.length st3 + 1) cap9, .int .i64 ((d1 : Nat) : Int)] 105)]) (F := F10) (x := hf2) s hr10
          refine semU_rule (Instr.storeAt 5 (.pointer (some ⟨g9, ((List.length st3 + 1) - 1), none⟩)) (.int .u8 ((hf2 : Nat) : Int))) none (by kernel_rfl) hr25 ?_
          refine ops_done (by kernel_rfl) ?_
          refine wp_seq ?_
          refine region_rule ?_
          refine callB_rule (b := ((φ2 0), .cells #[.string ⟨(ss).toArray⟩, .int .i64 ((p2 : Nat) : Int), .slice (some ⟨g9, 0, none⟩) (List.length st3 + 1) cap9, .int .i64 ((d1 : Nat) : Int)] 105)) (H := [((φ2 0), .cells #[.string ⟨(ss).toArray⟩, .int .i64 ((p2 : Nat) : Int), .slice (some ⟨g9, 0, none⟩) (List.length st3 + 1) cap9, .int .i64 ((d1 : Nat) : Int)] 105)]) (F := F25) (Hr := []) (some 41) 0 s (by kernel_rfl) (by kernel_rfl) (takeP_c (ov := .slice (some ⟨g9, 0, none⟩) (List.length st3 + 1) cap9) (dv := .int .i64 ((d1 : Nat) : Int)) (b := (φ2 0)) (p := p2) (c := 44) (ss := ss) hs hB.2.1) (by kernel_rfl) ?_
          rintro v26 I26 w26 b26 le26 - h26 s
          replace hle3 := leMono9 le26 hle3
          obtain ⟨rfl, rfl⟩ := h26
          refine ops_rule (C := []) [((φ2 0), .cells #[.string ⟨(ss).toArray⟩, .int .i64 ((tkP ss p2 44 : Nat) : Int), .slice (some ⟨g9, 0, none⟩) (List.length st3 + 1) cap9, .int .i64 ((d1 : Nat) : Int)] 105)] F25 1 [] 0 (fun φ27 => [(42, .bool (!(tkB ss p2 44)))]) (fun φ27 => [((φ2 0), .cells #[.string ⟨(ss).toArray⟩, .int .i64 ((tkP ss p2 44 : Nat) : Int), .slice (some ⟨g9, 0, none⟩) (List.length st3 + 1) cap9, .int .i64 ((d1 : Nat) : Int)] 105)]) (fun φ27 => []) s trivial (fun φ27 => by kernel_rfl) ?_
          intro φ27 w27 s
          refine ops_done (by kernel_rfl) ?_
          rcases Bool.eq_false_or_eq_true (tkB ss p2 44) with hc28 | hc28
          ·
            rw [hc28]
            refine cond_false_rule (b := false) (by kernel_rfl) rfl ?_
            refine wp_skip ?_
            have hv9 := tkP_t hc28
            have hg9 := (sc_go hm0 (hL1.trans (by rw [hc8])) (hC2.trans (by rw [hc20])) hc28).symm.trans hI4
            simp only [List.length_cons] at hB
            exact ⟨⟨m4 - 1, (tkP ss p2 44, hf2 :: st3, d1, .slice (some ⟨g9, 0, none⟩) (List.length st3 + 1) cap9, F25), _, _, _, by omega, rfl, s, List.Sublist.refl _, by kernel_rfl, hle3, hg9, (tkP_le 44 hB.2.1), by simp only; omega, hrow25, by simp only [List.length_cons]; omega, hA.2.2.2⟩⟩
          ·
            rw [hc28]
            refine cond_true_rule (b := true) (by kernel_rfl) rfl ?_
            refine wp_seq ?_
            refine region_rule ?_
            refine ops_rule (C := []) [((φ2 0), .cells #[.string ⟨(ss).toArray⟩, .int .i64 ((tkP ss p2 44 : Nat) : Int), .slice (some ⟨g9, 0, none⟩) (List.length st3 + 1) cap9, .int .i64 ((d1 : Nat) : Int)] 105)] F25 2 [] 0 (fun φ29 => [(3, .bool false), (2, .int .i64 0)]) (fun φ29 => [((φ2 0), .cells #[.string ⟨(ss).toArray⟩, .int .i64 ((tkP ss p2 44 : Nat) : Int), .slice (some ⟨g9, 0, none⟩) (List.length st3 + 1) cap9, .int .i64 ((d1 : Nat) : Int)] 105)]) (fun φ29 => []) s trivial (fun φ29 => by kernel_rfl) ?_
            intro φ29 w29 s
            refine ops_done (by kernel_rfl) ?_
            refine wp_ret ?_
            refine ret_rule (C := []) [((φ2 0), .cells #[.string ⟨(ss).toArray⟩, .int .i64 ((tkP ss p2 44 : Nat) : Int), .slice (some ⟨g9, 0, none⟩) (List.length st3 + 1) cap9, .int .i64 ((d1 : Nat) : Int)] 105)] F25 (.tuple #[.int .i64 0, .bool false]) [] [] s trivial (by kernel_rfl) ?_
            have hg9 := (sc_no hm0 (hL1.trans (by rw [hc8])) (hC2.trans (by rw [hc20])) hc28).symm.trans (hI4.trans hS)
            cases hg9
            exact ⟨_, _, _, rfl, s, rfl⟩
      ·
        rw [hc20]
        refine cond_true_rule (b := true) (by kernel_rfl) rfl ?_
        refine wp_seq ?_
        refine region_rule ?_
        refine ops_rule (C := []) [((φ2 0), .cells #[.string ⟨(ss).toArray⟩, .int .i64 ((p2 : Nat) : Int), .slice (some ⟨g9, 0, none⟩) (List.length st3 + 1) cap9, .int .i64 ((d1 : Nat) : Int)] 105)] F10 2 [] 0 (fun φ30 => [(3, .bool false), (2, .int .i64 0)]) (fun φ30 => [((φ2 0), .cells #[.string ⟨(ss).toArray⟩, .int .i64 ((p2 : Nat) : Int), .slice (some ⟨g9, 0, none⟩) (List.length st3 + 1) cap9, .int .i64 ((d1 : Nat) : Int)] 105)]) (fun φ30 => []) s trivial (fun φ30 => by kernel_rfl) ?_
        intro φ30 w30 s
        refine ops_done (by kernel_rfl) ?_
        refine wp_ret ?_
        refine ret_rule (C := []) [((φ2 0), .cells #[.string ⟨(ss).toArray⟩, .int .i64 ((p2 : Nat) : Int), .slice (some ⟨g9, 0, none⟩) (List.length st3 + 1) cap9, .int .i64 ((d1 : Nat) : Int)] 105)] F10 (.tuple #[.int .i64 0, .bool false]) [] [] s trivial (by kernel_rfl) ?_
        have hg9 := (sc_close hm0 (hL1.trans (by rw [hc8])) (hC2.trans (by rw [hc20]))).symm.trans (hI4.trans hS)
        cases hg9
        exact ⟨_, _, _, rfl, s, rfl⟩
  ·
    rw [hc8]
    refine cond_true_rule (b := true) (by kernel_rfl) rfl ?_
    refine wp_seq ?_
    refine region_rule ?_
    refine ops_rule (C := []) [((φ2 0), .cells #[.string ⟨(ss).toArray⟩, .int .i64 ((p1 : Nat) : Int), v5, .int .i64 ((d1 : Nat) : Int)] 105)] F5 2 [] 0 (fun φ31 => [(3, .bool false), (2, .int .i64 0)]) (fun φ31 => [((φ2 0), .cells #[.string ⟨(ss).toArray⟩, .int .i64 ((p1 : Nat) : Int), v5, .int .i64 ((d1 : Nat) : Int)] 105)]) (fun φ31 => []) s trivial (fun φ31 => by kernel_rfl) ?_
    intro φ31 w31 s
    refine ops_done (by kernel_rfl) ?_
    refine wp_ret ?_
    refine ret_rule (C := []) [((φ2 0), .cells #[.string ⟨(ss).toArray⟩, .int .i64 ((p1 : Nat) : Int), v5, .int .i64 ((d1 : Nat) : Int)] 105)] F5 (.tuple #[.int .i64 0, .bool false]) [] [] s trivial (by kernel_rfl) ?_
    have hg9 := (sc_leaf hm0 (hL1.trans (by rw [hc8]))).symm.trans (hI4.trans hS)
    cases hg9
    exact ⟨_, _, _, rfl, s, rfl⟩

theorem scanK_c {I : IM} : Fun Try.prog 56 #[.string ⟨#[40, 49, 44, 40, 48, 44, 49, 41, 41]⟩] I (fun v J => v = .tuple #[.int .i64 2, .bool true]) := scanG_c (ss := [40, 49, 44, 40, 48, 44, 49, 41, 41]) (dd := 2) (ok := true) (by decide) (by kernel_rfl)

end Go.Proofs.Ytgdickihjaomjaa
