/- Any text is read: the scanner as a whole. -/
import Derived.Test.YtgdickihjaomjaaDoorEtM19
set_option linter.all false
set_option maxRecDepth 100000
namespace Go.Proofs.YtgdickihjaomjaaDoor
open Go.RowKit Go.Sep
section
variable {P : Program} {Q : Exit → Act → World → Prop}
/-- RULE: an operation that answers nothing. -/
theorem semU_rule {N : Nat} {ops : Array Oper} {ev : Ev} {l : List Oper} {w w' : World} (s0 : Sem Unit) (d : Option Tmp)
    (h : semOf N ops ev l = some (s0.bind fun _ => .pure .skip, d)) (hr : s0.run P w = .ok () w') (k : wpList P ops Q l.tail (ActOf N (putE d undef ev)) w') : wpList P ops Q l (ActOf N ev) w := by
  cases l with
  | nil => simp [semOf] at h
  | cons o l' =>
    simp only [semOf] at h
    split at h
    · rename_i hw
      simp only [Option.some.injEq, Prod.mk.injEq] at h
      obtain ⟨h1, rfl⟩ := h
      refine wpList_step fun K hK => ?_
      rw [ActOf_yield, if_pos hw]
      unfold Oper.wp
      rw [ActOf_eval, h1]
      have : (s0.bind fun _ => Sem.pure Next.skip).run P w = .ok .skip w' := by
        rw [show (s0.bind fun _ => Sem.pure Next.skip) = (s0 >>= fun _ => pure Next.skip) from rfl, Sem.run_bind, hr]; rfl
      rw [this]
      simp only [Oper.upon]
      refine hK _ _ ?_
      rw [ActOf_put]; exact k
    · cases h
end
attribute [local irreducible] Go.wpList Go.Code.wp
theorem row_form {e : TypeId} {size : Nat} {v : Value} {n : Nat} {xs : List Value} {F : List OB} (h : RowH e size v n xs F) : ∃ a cap, v = .slice a n cap := by
  rcases h.2 with ⟨hv, h0, _⟩ | ⟨g, cap, cur, hv, _⟩
  · subst h0; exact ⟨_, _, hv⟩
  · exact ⟨_, _, hv⟩
theorem st_set {o l x : Nat} {st : List (Nat × Nat)} : (stV ((o, l) :: st)).set (st.length * 2 + 1) (.int .u8 ((x : Nat) : Int)) = stV ((o, x) :: st) := by
  rw [stV, List.set_append_right _ _ (by rw [stV_len]; omega), stV_len, show st.length * 2 + 1 - st.length * 2 = 1 by omega]; rfl
theorem row_put {w0 : World} {I0 : IM} {m : List Nat} {I : IM} {w : World} {H F : List OB} {o l x g cap : Nat} {st : List (Nat × Nat)} (s : St w0 I0 m I w (H ++ F)) (h : RowH 152 2 (.slice (some ⟨g, 0, none⟩) (st.length + 1) cap) (st.length + 1) (stV ((o, l) :: st)) F) :
    ∃ w' F', (Instr.storeAt 147 (.pointer (some ⟨g, st.length * 2 + 1, none⟩)) (.int .u8 ((x : Nat) : Int))).run Tryd.prog w = .ok () w' ∧ St w0 I0 m I w' (H ++ F') ∧ RowH 152 2 (.slice (some ⟨g, 0, none⟩) (st.length + 1) cap) (st.length + 1) (stV ((o, x) :: st)) F' := by
  have hcell := row_cell s h st_left
  have hx : (stV ((o, x) :: st)).length = (st.length + 1) * 2 := stV_len _
  rcases h.2 with ⟨hv, _⟩ | ⟨g', cap', cur, hv, hF, hnc, hcm, hcs, ht⟩
  · cases hv
  cases hv
  subst hF
  have hb : w.heap[g]? = some (.cells cur 152 (0, 0)) := s.own (g, _) (by simp)
  have hi : st.length * 2 + 1 < cur.size := by rw [hcs]; omega
  have hfz : w.frozen? ⟨g, st.length * 2 + 1, none⟩ = false := by rw [Go.Sep.run_frozen (a := ⟨g, st.length * 2 + 1, none⟩) hb rfl]; simp
  have e : (Instr.storeAt 147 (.pointer (some ⟨g, st.length * 2 + 1, none⟩)) (.int .u8 ((x : Nat) : Int))).run Tryd.prog w = (store ⟨g, st.length * 2 + 1, none⟩ (.int .u8 ((x : Nat) : Int))).run Tryd.prog w := by kernel_rfl
  have hq : (H ++ [(g, Obj.cells cur 152)])[H.length]? = some (g, .cells cur 152) := by simp
  refine ⟨w.setCell ⟨g, st.length * 2 + 1, none⟩ (.int .u8 ((x : Nat) : Int)), [(g, .cells (cur.setIfInBounds (st.length * 2 + 1) (.int .u8 ((x : Nat) : Int))) 152)], ?_, ?_, ?_⟩
  · rw [e]; simp only [store, Sem.run, hcell, hfz]; rfl
  · have st' := St.set (w' := w.setCell ⟨g, st.length * 2 + 1, none⟩ (.int .u8 ((x : Nat) : Int))) (o' := .cells (cur.setIfInBounds (st.length * 2 + 1) (.int .u8 ((x : Nat) : Int))) 152) s hq rfl rfl rfl (by simp [World.setCell]) (by
        show (w.heap.modify g _)[g]? = _
        rw [Array.getElem?_modify]; simp [hb]) (fun z hz => by
        show (w.heap.modify g _)[z]? = _
        rw [Array.getElem?_modify, if_neg (fun h => hz h.symm)])
    simpa using st'
  · refine ⟨hx, .inr ⟨g, cap, _, rfl, rfl, hnc, hcm, by rw [Array.size_setIfInBounds]; exact hcs, ?_⟩⟩
    rw [Array.toList_setIfInBounds, List.take_set, ht, st_set]
/-- what the scanner says from a place on -/
def scG (ss : List UInt8) : Nat → Nat → List (Nat × Nat) → Nat → Nat × Bool
  | 0, _, _, _ => (0, false)
  | f + 1, p, st, d => match lfG ss (ss.length + 1) p st d with
    | (_, _, _, _, false) => (0, false)
    | (p1, st1, d1, sh, true) => match clG ss st1 p1 sh with
      | (_, _, _, false) => (0, false)
      | (p2, [], _, true) => (d1, decide (p2 = ss.length))
      | (p2, (o, _) :: st3, half, true) => if tkB ss p2 44 = true then scG ss f (tkP ss p2 44) ((o, half) :: st3) d1 else (0, false)
section
variable {ss : List UInt8} {m p d p1 d1 sh p2 half o l : Nat} {st st1 st2 st3 : List (Nat × Nat)}
theorem sc_leaf (hm : 0 < m) (h : lfG ss (ss.length + 1) p st d = (p1, st1, d1, sh, false)) : scG ss m p st d = (0, false) := by
  obtain ⟨f, rfl⟩ : ∃ f, m = f + 1 := ⟨m - 1, by omega⟩
  rw [scG, h]
theorem sc_close (hm : 0 < m) (h : lfG ss (ss.length + 1) p st d = (p1, st1, d1, sh, true)) (h2 : clG ss st1 p1 sh = (p2, st2, half, false)) : scG ss m p st d = (0, false) := by
  obtain ⟨f, rfl⟩ : ∃ f, m = f + 1 := ⟨m - 1, by omega⟩
  rw [scG, h]; simp only [h2]
theorem sc_end (hm : 0 < m) (h : lfG ss (ss.length + 1) p st d = (p1, st1, d1, sh, true)) (h2 : clG ss st1 p1 sh = (p2, [], half, true)) : scG ss m p st d = (d1, decide (p2 = ss.length)) := by
  obtain ⟨f, rfl⟩ : ∃ f, m = f + 1 := ⟨m - 1, by omega⟩
  rw [scG, h]; simp only [h2]
theorem sc_go (hm : 0 < m) (h : lfG ss (ss.length + 1) p st d = (p1, st1, d1, sh, true)) (h2 : clG ss st1 p1 sh = (p2, (o, l) :: st3, half, true)) (h3 : tkB ss p2 44 = true) : scG ss m p st d = scG ss (m - 1) (tkP ss p2 44) ((o, half) :: st3) d1 := by
  obtain ⟨f, rfl⟩ : ∃ f, m = f + 1 := ⟨m - 1, by omega⟩
  rw [scG, h]; simp only [h2, h3, if_true]; rfl
theorem sc_no (hm : 0 < m) (h : lfG ss (ss.length + 1) p st d = (p1, st1, d1, sh, true)) (h2 : clG ss st1 p1 sh = (p2, (o, l) :: st3, half, true)) (h3 : tkB ss p2 44 = false) : scG ss m p st d = (0, false) := by
  obtain ⟨f, rfl⟩ : ∃ f, m = f + 1 := ⟨m - 1, by omega⟩
  rw [scG, h]; simp only [h2, h3]; rfl
end
theorem lf_inv {ss : List UInt8} (hs : ss.length ≤ 1000000) : ∀ (f p : Nat) (st : List (Nat × Nat)) (d : Nat), p ≤ ss.length → st.length ≤ p → d ≤ 1000000 → p ≤ (lfG ss f p st d).1 ∧ (lfG ss f p st d).1 ≤ ss.length ∧ (lfG ss f p st d).2.1.length ≤ (lfG ss f p st d).1 ∧ (lfG ss f p st d).2.2.1 ≤ 1000000
  | 0, p, st, d, hp, hl, hd => ⟨Nat.le_refl _, hp, hl, hd⟩
  | f + 1, p, st, d, hp, hl, hd => by
    have a1 := tkP_ge ss p 40
    have a2 := nuP_ge ss (tkP ss p 40)
    have a3 := tkP_ge ss (nuP ss (tkP ss p 40)) 44
    have b1 := tkP_le 40 hp
    have b2 := nuP_le b1
    have b3 := tkP_le 44 b2
    rw [lfG]
    split
    · rename_i h1
      have c1 := tkP_t h1
      split
      · split
        · have := lf_inv hs f (tkP ss (nuP ss (tkP ss p 40)) 44) ((nodeSh (nuV ss (tkP ss p 40)), 0) :: st) (max d (st.length + 1)) b3 (by simp only [List.length_cons]; omega) (by omega)
          exact ⟨by omega, this.2⟩
        · exact ⟨by simp only; omega, b3, by simp only; omega, hd⟩
      · exact ⟨by simp only; omega, b2, by simp only; omega, hd⟩
    · exact ⟨by simp only; omega, b2, by simp only; omega, hd⟩
theorem cl_inv {ss : List UInt8} : ∀ (st : List (Nat × Nat)) (p half : Nat), p ≤ ss.length → st.length ≤ p → p ≤ (clG ss st p half).1 ∧ (clG ss st p half).1 ≤ ss.length ∧ (clG ss st p half).2.1.length ≤ (clG ss st p half).1
  | [], p, half, hp, hl => ⟨Nat.le_refl _, hp, Nat.zero_le _⟩
  | (o, l) :: st, p, half, hp, hl => by
    have a1 := tkP_ge ss p 41
    have b1 := tkP_le 41 hp
    simp only [List.length_cons] at hl
    rw [clG]
    split
    · exact ⟨Nat.le_refl _, hp, by simp only [List.length_cons]; omega⟩
    · split
      · split
        · have := cl_inv st (tkP ss p 41) o b1 (by omega)
          exact ⟨by omega, this.2⟩
        · exact ⟨a1, b1, by simp only [List.length_cons]; omega⟩
      · exact ⟨a1, b1, by simp only [List.length_cons]; omega⟩

set_option maxHeartbeats 2000000 in
theorem scanG_c {I : IM} {ss : List UInt8} {dd : Nat} {ok : Bool} (hs : ss.length ≤ 1000000) (hS : scG ss (ss.length + 1) 0 [] 0 = (dd, ok)) : Fun Tryd.prog 76 #[.string ⟨(ss).toArray⟩] I (fun v J => v = .tuple #[.int .i64 ((dd : Nat) : Int), .bool ok]) := by
  refine enter_rule 44 [(0, .string ⟨(ss).toArray⟩)] Tryd.func76 rfl (by kernel_rfl) ?_
  intro w s
  refine wp_seq ?_
  refine region_rule ?_
  refine ops_rule (C := []) [] [] 2 [] 0 (fun φ1 => [(3, .bool false), (2, .int .i64 0)]) (fun φ1 => []) (fun φ1 => []) s trivial (fun φ1 => by kernel_rfl) ?_
  intro φ1 w1 s
  refine ops_done (by kernel_rfl) ?_
  refine wp_seq ?_
  refine region_rule ?_
  refine ops_rule (C := []) [] [] 4 [.o 0, .o 0, .o 0, .o 0] 1 (fun φ2 => [(4, .pointer (some ⟨(φ2 0), 0, none⟩)), (9, .agg #[.string ⟨(ss).toArray⟩, .int .i64 0, .slice none 0 0, .int .i64 0]), (8, .string ⟨(ss).toArray⟩)]) (fun φ2 => [((φ2 0), .cells #[.string ⟨(ss).toArray⟩, .int .i64 0, .slice none 0 0, .int .i64 0] 146)]) (fun φ2 => [(φ2 0), (φ2 0), (φ2 0), (φ2 0)]) s trivial (fun φ2 => by kernel_rfl) ?_
  intro φ2 w2 s
  refine ops_done (by kernel_rfl) ?_
  refine wp_block ?_
  have hle3 := IM.Le.refl I
  refine loop_rule (fun (x : Nat × List (Nat × Nat) × Nat × Value × List OB) => [(0, .string ⟨(ss).toArray⟩), (4, .pointer (some ⟨(φ2 0), 0, none⟩))]) (fun (x : Nat × List (Nat × Nat) × Nat × Value × List OB) => ((φ2 0), .cells #[.string ⟨(ss).toArray⟩, .int .i64 ((x.1 : Nat) : Int), x.2.2.2.1, .int .i64 ((x.2.2.1 : Nat) : Int)] 146) :: x.2.2.2.2) (fun m (x : Nat × List (Nat × Nat) × Nat × Value × List OB) J => IM.Le I J ∧ scG ss m x.1 x.2.1 x.2.2.1 = scG ss (ss.length + 1) 0 [] 0 ∧ x.1 ≤ ss.length ∧ ss.length < x.1 + m ∧ RowH 152 2 x.2.2.2.1 x.2.1.length (stV x.2.1) x.2.2.2.2 ∧ x.2.1.length ≤ x.1 ∧ x.2.2.1 ≤ 1000000) (ss.length + 1) (0, [], 0, .slice none 0 0, []) s (by kernel_rfl) (List.Sublist.refl _) ⟨IM.Le.refl _, rfl, Nat.zero_le _, by simp only; omega, RowH.nil 152 2, Nat.le_refl _, Nat.zero_le _⟩ ?_
  rintro m4 ⟨p4, st4, d4, v4, F4⟩ I4 w4 evj s ⟨le4, hI4, hp4, hm4, hrow4, hst4, hd4⟩
  dsimp only at s hI4 hp4 hm4 hrow4 hst4 hd4
  replace hle3 := leMono9 le4 hle3
  obtain ⟨p1, st1, d1, sh1, ok1, hL1⟩ : ∃ a b c e f, lfG ss (ss.length + 1) p4 st4 d4 = (a, b, c, e, f) := ⟨_, _, _, _, _, rfl⟩
  have hA := lf_inv hs (ss.length + 1) p4 st4 d4 hp4 hst4 hd4
  rw [hL1] at hA
  dsimp only at hA
  obtain ⟨p2, st2, hf2, ok2, hC2⟩ : ∃ a b c e, clG ss st1 p1 sh1 = (a, b, c, e) := ⟨_, _, _, _, rfl⟩
  have hB := cl_inv st1 p1 sh1 hA.2.1 hA.2.2.1
  rw [hC2] at hB
  dsimp only at hB
  have hm0 : 0 < m4 := by omega
  refine wp_block ?_
  refine wp_seq ?_
  refine region_rule ?_
  refine callH_rule (b := ((φ2 0), .cells #[.string ⟨(ss).toArray⟩, .int .i64 ((p4 : Nat) : Int), v4, .int .i64 ((d4 : Nat) : Int)] 146)) (H := [((φ2 0), .cells #[.string ⟨(ss).toArray⟩, .int .i64 ((p4 : Nat) : Int), v4, .int .i64 ((d4 : Nat) : Int)] 146)]) (F := F4) (Hr := []) (some 11) 0 s (by kernel_rfl) (by kernel_rfl) (leafG_c (b := (φ2 0)) (v := v4) hs hp4 hrow4 hst4 hd4 hL1) (by kernel_rfl) ?_
  rintro v5 I5 w5 b5 F5 le5 - h5 s
  replace hle3 := leMono9 le5 hle3
  obtain ⟨v5, rfl, rfl, hr5⟩ := h5
  refine ops_rule (C := []) [((φ2 0), .cells #[.string ⟨(ss).toArray⟩, .int .i64 ((p1 : Nat) : Int), v5, .int .i64 ((d1 : Nat) : Int)] 146)] F5 5 [] 0 (fun φ6 => [(6, .bool ok1), (5, .int .u8 ((sh1 : Nat) : Int)), (13, .bool ok1), (12, .int .u8 ((sh1 : Nat) : Int)), (10, .tuple #[.int .u8 ((sh1 : Nat) : Int), .bool ok1])]) (fun φ6 => [((φ2 0), .cells #[.string ⟨(ss).toArray⟩, .int .i64 ((p1 : Nat) : Int), v5, .int .i64 ((d1 : Nat) : Int)] 146)]) (fun φ6 => []) s trivial (fun φ6 => by kernel_rfl) ?_
  intro φ6 w6 s
  refine ops_done (by kernel_rfl) ?_
  refine wp_seq ?_
  refine wp_seq ?_
  refine region_rule ?_
  refine ops_rule (C := []) [((φ2 0), .cells #[.string ⟨(ss).toArray⟩, .int .i64 ((p1 : Nat) : Int), v5, .int .i64 ((d1 : Nat) : Int)] 146)] F5 2 [] 0 (fun φ7 => [(15, .bool (!(ok1))), (14, .bool ok1)]) (fun φ7 => [((φ2 0), .cells #[.string ⟨(ss).toArray⟩, .int .i64 ((p1 : Nat) : Int), v5, .int .i64 ((d1 : Nat) : Int)] 146)]) (fun φ7 => []) s trivial (fun φ7 => by kernel_rfl) ?_
  intro φ7 w7 s
  refine ops_done (by kernel_rfl) ?_
  rcases Bool.eq_false_or_eq_true (ok1) with hc8 | hc8
  ·
    rw [hc8]
    refine cond_false_rule (b := false) (by kernel_rfl) rfl ?_
    refine wp_skip ?_
    refine wp_seq ?_
    refine region_rule ?_
    refine ops_rule (C := []) [((φ2 0), .cells #[.string ⟨(ss).toArray⟩, .int .i64 ((p1 : Nat) : Int), v5, .int .i64 ((d1 : Nat) : Int)] 146)] F5 1 [] 0 (fun φ9 => [(17, .int .u8 ((sh1 : Nat) : Int))]) (fun φ9 => [((φ2 0), .cells #[.string ⟨(ss).toArray⟩, .int .i64 ((p1 : Nat) : Int), v5, .int .i64 ((d1 : Nat) : Int)] 146)]) (fun φ9 => []) s trivial (fun φ9 => by kernel_rfl) ?_
    intro φ9 w9 s
    refine callH_rule (b := ((φ2 0), .cells #[.string ⟨(ss).toArray⟩, .int .i64 ((p1 : Nat) : Int), v5, .int .i64 ((d1 : Nat) : Int)] 146)) (H := [((φ2 0), .cells #[.string ⟨(ss).toArray⟩, .int .i64 ((p1 : Nat) : Int), v5, .int .i64 ((d1 : Nat) : Int)] 146)]) (F := F5) (Hr := []) (some 18) 0 s (by kernel_rfl) (by kernel_rfl) (closeG_c (b := (φ2 0)) (dv := .int .i64 ((d1 : Nat) : Int)) (v := v5) hs hA.2.1 hr5 (by omega) hC2) (by kernel_rfl) ?_
    rintro v10 I10 w10 b10 F10 le10 - h10 s
    replace hle3 := leMono9 le10 hle3
    obtain ⟨v10, rfl, rfl, hr10⟩ := h10
    rcases st2 with _ | ⟨⟨o2, l2⟩, st3⟩
    ·
      obtain ⟨a9, cap9, rfl⟩ := row_form hr10
      replace s : St w I [] I10 w10 ([((φ2 0), .cells #[.string ⟨(ss).toArray⟩, .int .i64 ((p2 : Nat) : Int), .slice a9 0 cap9, .int .i64 ((d1 : Nat) : Int)] 146)] ++ F10) := s
      refine ops_rule (C := []) [((φ2 0), .cells #[.string ⟨(ss).toArray⟩, .int .i64 ((p2 : Nat) : Int), .slice a9 0 cap9, .int .i64 ((d1 : Nat) : Int)] 146)] F10 5 [] 0 (fun φ11 => [(6, .bool ok2), (5, .int .u8 ((hf2 : Nat) : Int)), (20, .bool ok2), (19, .int .u8 ((hf2 : Nat) : Int)), (16, .tuple #[.int .u8 ((hf2 : Nat) : Int), .bool ok2])]) (fun φ11 => [((φ2 0), .cells #[.string ⟨(ss).toArray⟩, .int .i64 ((p2 : Nat) : Int), .slice a9 0 cap9, .int .i64 ((d1 : Nat) : Int)] 146)]) (fun φ11 => []) s trivial (fun φ11 => by kernel_rfl) ?_
      intro φ11 w11 s
      refine ops_done (by kernel_rfl) ?_
      refine wp_seq ?_
      refine wp_seq ?_
      refine region_rule ?_
      refine ops_rule (C := []) [((φ2 0), .cells #[.string ⟨(ss).toArray⟩, .int .i64 ((p2 : Nat) : Int), .slice a9 0 cap9, .int .i64 ((d1 : Nat) : Int)] 146)] F10 2 [] 0 (fun φ12 => [(22, .bool (!(ok2))), (21, .bool ok2)]) (fun φ12 => [((φ2 0), .cells #[.string ⟨(ss).toArray⟩, .int .i64 ((p2 : Nat) : Int), .slice a9 0 cap9, .int .i64 ((d1 : Nat) : Int)] 146)]) (fun φ12 => []) s trivial (fun φ12 => by kernel_rfl) ?_
      intro φ12 w12 s
      refine ops_done (by kernel_rfl) ?_
      rcases Bool.eq_false_or_eq_true (ok2) with hc13 | hc13
      ·
        rw [hc13]
        refine cond_false_rule (b := false) (by kernel_rfl) rfl ?_
        refine wp_skip ?_
        refine wp_seq ?_
        refine region_rule ?_
        refine ops_rule (C := []) [((φ2 0), .cells #[.string ⟨(ss).toArray⟩, .int .i64 ((p2 : Nat) : Int), .slice a9 0 cap9, .int .i64 ((d1 : Nat) : Int)] 146)] F10 5 [.o 0] 0 (fun φ14 => [(7, .int .i64 (-1)), (26, .int .i64 (-1)), (25, .int .i64 0), (24, .slice a9 0 cap9), (23, .pointer (some ⟨(φ2 0), 2, none⟩))]) (fun φ14 => [((φ2 0), .cells #[.string ⟨(ss).toArray⟩, .int .i64 ((p2 : Nat) : Int), .slice a9 0 cap9, .int .i64 ((d1 : Nat) : Int)] 146)]) (fun φ14 => [(φ2 0)]) s trivial (fun φ14 => by kernel_rfl) ?_
        intro φ14 w14 s
        refine ops_done (by kernel_rfl) ?_
        refine wp_seq ?_
        refine wp_seq ?_
        refine region_rule ?_
        refine ops_rule (C := []) [((φ2 0), .cells #[.string ⟨(ss).toArray⟩, .int .i64 ((p2 : Nat) : Int), .slice a9 0 cap9, .int .i64 ((d1 : Nat) : Int)] 146)] F10 2 [] 0 (fun φ15 => [(28, .bool true), (27, .int .i64 (-1))]) (fun φ15 => [((φ2 0), .cells #[.string ⟨(ss).toArray⟩, .int .i64 ((p2 : Nat) : Int), .slice a9 0 cap9, .int .i64 ((d1 : Nat) : Int)] 146)]) (fun φ15 => []) s trivial (fun φ15 => by kernel_rfl) ?_
        intro φ15 w15 s
        refine ops_done (by kernel_rfl) ?_
        refine cond_true_rule (b := true) (by kernel_rfl) rfl ?_
        refine wp_seq ?_
        refine drawK_rule (C := []) ⟨(fun φ16 xs16 => [.look 0 [] [], .look 0 [.o 0] [(φ2 0)], .look 0 [] [], .look 0 [.o 0] [(φ2 0)], .look 0 [] [], .look 0 [] [], .sub 0 [] [] (.bool (((p2 : Nat) : Int) == (((ss).length : Nat) : Int))), .look 0 [] [], .look 0 [] []]), (fun φ16 xs16 => [.pointer (some ⟨(φ2 0), 3, none⟩), .int .i64 ((d1 : Nat) : Int), .pointer (some ⟨(φ2 0), 1, none⟩), .int .i64 ((p2 : Nat) : Int), .string ⟨(ss).toArray⟩, .int .i64 (((ss).length : Nat) : Int), .bool (decide (p2 = ((ss).length))), .int .i64 ((d1 : Nat) : Int), .bool (decide (p2 = ((ss).length)))]), (fun φ16 xs16 => [[((φ2 0), .cells #[.string ⟨(ss).toArray⟩, .int .i64 ((p2 : Nat) : Int), .slice a9 0 cap9, .int .i64 ((d1 : Nat) : Int)] 146)]]), (fun φ16 xs16 => [[default, default, default, default, default, default, default, default, default]]), [], [1, 1, 1, 1, 1, 1, 5, 1, 1]⟩ (fun j => ([MP.any, MP.any, MP.any, MP.any, MP.any, MP.any, MP.any, MP.any, MP.any] : List MP).getD j MP.any) F10 [] [6] [] (fun φ16 xs16 => []) (fun φ16 xs16 => [(29, .pointer (some ⟨(φ2 0), 3, none⟩)), (30, .int .i64 ((d1 : Nat) : Int)), (31, .pointer (some ⟨(φ2 0), 1, none⟩)), (32, .int .i64 ((p2 : Nat) : Int)), (33, .string ⟨(ss).toArray⟩), (34, .int .i64 (((ss).length : Nat) : Int)), (35, .bool (decide (p2 = ((ss).length)))), (2, .int .i64 ((d1 : Nat) : Int)), (3, .bool (decide (p2 = ((ss).length))))]) (fun φ16 xs16 => [((φ2 0), .cells #[.string ⟨(ss).toArray⟩, .int .i64 ((p2 : Nat) : Int), .slice a9 0 cap9, .int .i64 ((d1 : Nat) : Int)] 146)]) s trivial (by kernel_rfl) (by kernel_rfl) (fun _ _ => by kernel_rfl) (fun _ _ => by kernel_rfl) ⟨fun _ _ => by kernel_rfl, fun _ _ => by kernel_rfl, fun _ _ => by kernel_rfl, fun _ _ => by kernel_rfl⟩ (fun _ _ _ => by kernel_rfl) (fun _ _ => by kernel_rfl) (fun _ _ => by kernel_rfl) (fun _ _ => by kernel_rfl) (fun _ _ => by kernel_rfl) (fun _ _ => by kernel_rfl) ⟨kcast (A := ∀ (φ16 : Nat → Nat) (xs16 : Xs), (.bool (((p2 : Nat) : Int) == (((ss).length : Nat) : Int)) : Value) = .bool (decide (p2 = ((ss).length)))) (by kernel_rfl) (fun φ16 xs16 => congrArg Value.bool ((nat_eql (a := p2) (b := ((ss).length))))), trivial⟩ trivial (by kernel_rfl) trivial ?k16
        case k16 =>
          rintro φ16 xs16 I16 w16 le16 s 
          replace hle3 := leMono9 le16 hle3
          refine wp_ret ?_
          refine ret_rule (C := []) [((φ2 0), .cells #[.string ⟨(ss).toArray⟩, .int .i64 ((p2 : Nat) : Int), .slice a9 0 cap9, .int .i64 ((d1 : Nat) : Int)] 146)] F10 (.tuple #[.int .i64 ((d1 : Nat) : Int), .bool (decide (p2 = ((ss).length)))]) [] [] s trivial (by kernel_rfl) ?_
          have hg9 := (sc_end hm0 (hL1.trans (by rw [hc8])) (hC2.trans (by rw [hc13]))).symm.trans (hI4.trans hS)
          cases hg9
          exact ⟨_, _, _, rfl, s, rfl⟩
      ·
        rw [hc13]
        refine cond_true_rule (b := true) (by kernel_rfl) rfl ?_
        refine wp_seq ?_
        refine region_rule ?_
        refine ops_rule (C := []) [((φ2 0), .cells #[.string ⟨(ss).toArray⟩, .int .i64 ((p2 : Nat) : Int), .slice a9 0 cap9, .int .i64 ((d1 : Nat) : Int)] 146)] F10 2 [] 0 (fun φ17 => [(3, .bool false), (2, .int .i64 0)]) (fun φ17 => [((φ2 0), .cells #[.string ⟨(ss).toArray⟩, .int .i64 ((p2 : Nat) : Int), .slice a9 0 cap9, .int .i64 ((d1 : Nat) : Int)] 146)]) (fun φ17 => []) s trivial (fun φ17 => by kernel_rfl) ?_
        intro φ17 w17 s
        refine ops_done (by kernel_rfl) ?_
        refine wp_ret ?_
        refine ret_rule (C := []) [((φ2 0), .cells #[.string ⟨(ss).toArray⟩, .int .i64 ((p2 : Nat) : Int), .slice a9 0 cap9, .int .i64 ((d1 : Nat) : Int)] 146)] F10 (.tuple #[.int .i64 0, .bool false]) [] [] s trivial (by kernel_rfl) ?_
        have hg9 := (sc_close hm0 (hL1.trans (by rw [hc8])) (hC2.trans (by rw [hc13]))).symm.trans (hI4.trans hS)
        cases hg9
        exact ⟨_, _, _, rfl, s, rfl⟩
    ·
      obtain ⟨g9, cap9, rfl⟩ := row_some hr10 (Nat.succ_pos _)
      have hB9 : st3.length + 1 ≤ p2 := hB.2.2
      replace s : St w I [] I10 w10 ([((φ2 0), .cells #[.string ⟨(ss).toArray⟩, .int .i64 ((p2 : Nat) : Int), .slice (some ⟨g9, 0, none⟩) (List.length st3 + 1) cap9, .int .i64 ((d1 : Nat) : Int)] 146)] ++ F10) := s
      refine ops_rule (C := []) [((φ2 0), .cells #[.string ⟨(ss).toArray⟩, .int .i64 ((p2 : Nat) : Int), .slice (some ⟨g9, 0, none⟩) (List.length st3 + 1) cap9, .int .i64 ((d1 : Nat) : Int)] 146)] F10 5 [] 0 (fun φ18 => [(6, .bool ok2), (5, .int .u8 ((hf2 : Nat) : Int)), (20, .bool ok2), (19, .int .u8 ((hf2 : Nat) : Int)), (16, .tuple #[.int .u8 ((hf2 : Nat) : Int), .bool ok2])]) (fun φ18 => [((φ2 0), .cells #[.string ⟨(ss).toArray⟩, .int .i64 ((p2 : Nat) : Int), .slice (some ⟨g9, 0, none⟩) (List.length st3 + 1) cap9, .int .i64 ((d1 : Nat) : Int)] 146)]) (fun φ18 => []) s trivial (fun φ18 => by kernel_rfl) ?_
      intro φ18 w18 s
      refine ops_done (by kernel_rfl) ?_
      refine wp_seq ?_
      refine wp_seq ?_
      refine region_rule ?_
      refine ops_rule (C := []) [((φ2 0), .cells #[.string ⟨(ss).toArray⟩, .int .i64 ((p2 : Nat) : Int), .slice (some ⟨g9, 0, none⟩) (List.length st3 + 1) cap9, .int .i64 ((d1 : Nat) : Int)] 146)] F10 2 [] 0 (fun φ19 => [(22, .bool (!(ok2))), (21, .bool ok2)]) (fun φ19 => [((φ2 0), .cells #[.string ⟨(ss).toArray⟩, .int .i64 ((p2 : Nat) : Int), .slice (some ⟨g9, 0, none⟩) (List.length st3 + 1) cap9, .int .i64 ((d1 : Nat) : Int)] 146)]) (fun φ19 => []) s trivial (fun φ19 => by kernel_rfl) ?_
      intro φ19 w19 s
      refine ops_done (by kernel_rfl) ?_
      rcases Bool.eq_false_or_eq_true (ok2) with hc20 | hc20
      ·
        rw [hc20]
        refine cond_false_rule (b := false) (by kernel_rfl) rfl ?_
        refine wp_skip ?_
        refine wp_seq ?_
        refine region_rule ?_
        refine ops_rule (C := []) [((φ2 0), .cells #[.string ⟨(ss).toArray⟩, .int .i64 ((p2 : Nat) : Int), .slice (some ⟨g9, 0, none⟩) (List.length st3 + 1) cap9, .int .i64 ((d1 : Nat) : Int)] 146)] F10 5 [.o 0] 0 (fun φ21 => [(7, .int .i64 (IntKind.wrap .i64 ((((List.length st3 + 1) : Nat) : Int) - ((1 : Nat) : Int)))), (26, .int .i64 (IntKind.wrap .i64 ((((List.length st3 + 1) : Nat) : Int) - ((1 : Nat) : Int)))), (25, .int .i64 (((List.length st3 + 1) : Nat) : Int)), (24, .slice (some ⟨g9, 0, none⟩) (List.length st3 + 1) cap9), (23, .pointer (some ⟨(φ2 0), 2, none⟩))]) (fun φ21 => [((φ2 0), .cells #[.string ⟨(ss).toArray⟩, .int .i64 ((p2 : Nat) : Int), .slice (some ⟨g9, 0, none⟩) (List.length st3 + 1) cap9, .int .i64 ((d1 : Nat) : Int)] 146)]) (fun φ21 => [(φ2 0)]) s trivial (fun φ21 => by kernel_rfl) ?_
        intro φ21 w21 s
        rw [nat_subI (a := (List.length st3 + 1)) (b := 1) (by omega) (by omega)]
        refine ops_done (by kernel_rfl) ?_
        refine wp_seq ?_
        refine wp_seq ?_
        refine region_rule ?_
        refine ops_rule (C := []) [((φ2 0), .cells #[.string ⟨(ss).toArray⟩, .int .i64 ((p2 : Nat) : Int), .slice (some ⟨g9, 0, none⟩) (List.length st3 + 1) cap9, .int .i64 ((d1 : Nat) : Int)] 146)] F10 2 [] 0 (fun φ22 => [(28, .bool (decide ((((List.length st3 + 1) - 1 : Nat) : Int) < ((0 : Nat) : Int)))), (27, .int .i64 (((List.length st3 + 1) - 1 : Nat) : Int))]) (fun φ22 => [((φ2 0), .cells #[.string ⟨(ss).toArray⟩, .int .i64 ((p2 : Nat) : Int), .slice (some ⟨g9, 0, none⟩) (List.length st3 + 1) cap9, .int .i64 ((d1 : Nat) : Int)] 146)]) (fun φ22 => []) s trivial (fun φ22 => by kernel_rfl) ?_
        intro φ22 w22 s
        rw [nat_lss (a := ((List.length st3 + 1) - 1)) (b := 0)]
        refine ops_done (by kernel_rfl) ?_
        rcases Bool.eq_false_or_eq_true (decide (((List.length st3 + 1) - 1) < 0)) with hc23 | hc23
        ·
          exact absurd (of_decide_eq_true hc23) (Nat.not_lt_zero _)
        ·
          rw [hc23]
          refine cond_false_rule (b := false) (by kernel_rfl) rfl ?_
          refine wp_skip ?_
          refine wp_seq ?_
          refine region_rule ?_
          refine ops_rule (C := []) [((φ2 0), .cells #[.string ⟨(ss).toArray⟩, .int .i64 ((p2 : Nat) : Int), .slice (some ⟨g9, 0, none⟩) (List.length st3 + 1) cap9, .int .i64 ((d1 : Nat) : Int)] 146)] F10 4 [.o 0] 0 (fun φ24 => [(39, .int .u8 ((hf2 : Nat) : Int)), (38, .int .i64 (((List.length st3 + 1) - 1 : Nat) : Int)), (37, .slice (some ⟨g9, 0, none⟩) (List.length st3 + 1) cap9), (36, .pointer (some ⟨(φ2 0), 2, none⟩))]) (fun φ24 => [((φ2 0), .cells #[.string ⟨(ss).toArray⟩, .int .i64 ((p2 : Nat) : Int), .slice (some ⟨g9, 0, none⟩) (List.length st3 + 1) cap9, .int .i64 ((d1 : Nat) : Int)] 146)]) (fun φ24 => [(φ2 0)]) s trivial (fun φ24 => by kernel_rfl) ?_
          intro φ24 w24 s
          refine sem_rule (Instr.indexAt 144 (.slice (some ⟨g9, 0, none⟩) (List.length st3 + 1) cap9) (.int .i64 (((List.length st3 + 1) - 1 : Nat) : Int))) (some 40) (.pointer (some ⟨g9, (((List.length st3 + 1) - 1) * 2), none⟩)) (by kernel_rfl) (run_idx144 (by omega)) ?_
          refine ops_rule (C := []) [((φ2 0), .cells #[.string ⟨(ss).toArray⟩, .int .i64 ((p2 : Nat) : Int), .slice (some ⟨g9, 0, none⟩) (List.length st3 + 1) cap9, .int .i64 ((d1 : Nat) : Int)] 146)] F10 1 [] 0 (fun φ25 => [(41, .pointer (some ⟨g9, ((((List.length st3 + 1) - 1) * 2) + 1), none⟩))]) (fun φ25 => [((φ2 0), .cells #[.string ⟨(ss).toArray⟩, .int .i64 ((p2 : Nat) : Int), .slice (some ⟨g9, 0, none⟩) (List.length st3 + 1) cap9, .int .i64 ((d1 : Nat) : Int)] 146)]) (fun φ25 => []) s trivial (fun φ25 => by kernel_rfl) ?_
          intro φ25 w25 s
          obtain ⟨w26, F26, hr26, s, hrow26⟩ := row_put (H := [((φ2 0), .cells #[.string ⟨(ss).toArray⟩, .int .i64 ((p2 : Nat) : Int), .slice (some ⟨g9, 0, none⟩) (List.length st3 + 1) cap9, .int .i64 ((d1 : Nat) : Int)] 146)]) (F := F10) (x := hf2) s hr10
          refine semU_rule (Instr.storeAt 147 (.pointer (some ⟨g9, ((((List.length st3 + 1) - 1) * 2) + 1), none⟩)) (.int .u8 ((hf2 : Nat) : Int))) none (by kernel_rfl) hr26 ?_
          refine ops_done (by kernel_rfl) ?_
          refine wp_seq ?_
          refine region_rule ?_
          refine callB_rule (b := ((φ2 0), .cells #[.string ⟨(ss).toArray⟩, .int .i64 ((p2 : Nat) : Int), .slice (some ⟨g9, 0, none⟩) (List.length st3 + 1) cap9, .int .i64 ((d1 : Nat) : Int)] 146)) (H := [((φ2 0), .cells #[.string ⟨(ss).toArray⟩, .int .i64 ((p2 : Nat) : Int), .slice (some ⟨g9, 0, none⟩) (List.length st3 + 1) cap9, .int .i64 ((d1 : Nat) : Int)] 146)]) (F := F26) (Hr := []) (some 42) 0 s (by kernel_rfl) (by kernel_rfl) (takeP_c (ov := .slice (some ⟨g9, 0, none⟩) (List.length st3 + 1) cap9) (dv := .int .i64 ((d1 : Nat) : Int)) (b := (φ2 0)) (p := p2) (c := 44) (ss := ss) hs hB.2.1) (by kernel_rfl) ?_
          rintro v27 I27 w27 b27 le27 - h27 s
          replace hle3 := leMono9 le27 hle3
          obtain ⟨rfl, rfl⟩ := h27
          refine ops_rule (C := []) [((φ2 0), .cells #[.string ⟨(ss).toArray⟩, .int .i64 ((tkP ss p2 44 : Nat) : Int), .slice (some ⟨g9, 0, none⟩) (List.length st3 + 1) cap9, .int .i64 ((d1 : Nat) : Int)] 146)] F26 1 [] 0 (fun φ28 => [(43, .bool (!(tkB ss p2 44)))]) (fun φ28 => [((φ2 0), .cells #[.string ⟨(ss).toArray⟩, .int .i64 ((tkP ss p2 44 : Nat) : Int), .slice (some ⟨g9, 0, none⟩) (List.length st3 + 1) cap9, .int .i64 ((d1 : Nat) : Int)] 146)]) (fun φ28 => []) s trivial (fun φ28 => by kernel_rfl) ?_
          intro φ28 w28 s
          refine ops_done (by kernel_rfl) ?_
          rcases Bool.eq_false_or_eq_true (tkB ss p2 44) with hc29 | hc29
          ·
            rw [hc29]
            refine cond_false_rule (b := false) (by kernel_rfl) rfl ?_
            refine wp_skip ?_
            have hv9 := tkP_t hc29
            have hg9 := (sc_go hm0 (hL1.trans (by rw [hc8])) (hC2.trans (by rw [hc20])) hc29).symm.trans hI4
            simp only [List.length_cons] at hB
            exact ⟨⟨m4 - 1, (tkP ss p2 44, (o2, hf2) :: st3, d1, .slice (some ⟨g9, 0, none⟩) (List.length st3 + 1) cap9, F26), _, _, _, by omega, rfl, s, List.Sublist.refl _, by kernel_rfl, hle3, hg9, (tkP_le 44 hB.2.1), by simp only; omega, hrow26, by simp only [List.length_cons]; omega, hA.2.2.2⟩⟩
          ·
            rw [hc29]
            refine cond_true_rule (b := true) (by kernel_rfl) rfl ?_
            refine wp_seq ?_
            refine region_rule ?_
            refine ops_rule (C := []) [((φ2 0), .cells #[.string ⟨(ss).toArray⟩, .int .i64 ((tkP ss p2 44 : Nat) : Int), .slice (some ⟨g9, 0, none⟩) (List.length st3 + 1) cap9, .int .i64 ((d1 : Nat) : Int)] 146)] F26 2 [] 0 (fun φ30 => [(3, .bool false), (2, .int .i64 0)]) (fun φ30 => [((φ2 0), .cells #[.string ⟨(ss).toArray⟩, .int .i64 ((tkP ss p2 44 : Nat) : Int), .slice (some ⟨g9, 0, none⟩) (List.length st3 + 1) cap9, .int .i64 ((d1 : Nat) : Int)] 146)]) (fun φ30 => []) s trivial (fun φ30 => by kernel_rfl) ?_
            intro φ30 w30 s
            refine ops_done (by kernel_rfl) ?_
            refine wp_ret ?_
            refine ret_rule (C := []) [((φ2 0), .cells #[.string ⟨(ss).toArray⟩, .int .i64 ((tkP ss p2 44 : Nat) : Int), .slice (some ⟨g9, 0, none⟩) (List.length st3 + 1) cap9, .int .i64 ((d1 : Nat) : Int)] 146)] F26 (.tuple #[.int .i64 0, .bool false]) [] [] s trivial (by kernel_rfl) ?_
            have hg9 := (sc_no hm0 (hL1.trans (by rw [hc8])) (hC2.trans (by rw [hc20])) hc29).symm.trans (hI4.trans hS)
            cases hg9
            exact ⟨_, _, _, rfl, s, rfl⟩
      ·
        rw [hc20]
        refine cond_true_rule (b := true) (by kernel_rfl) rfl ?_
        refine wp_seq ?_
        refine region_rule ?_
        refine ops_rule (C := []) [((φ2 0), .cells #[.string ⟨(ss).toArray⟩, .int .i64 ((p2 : Nat) : Int), .slice (some ⟨g9, 0, none⟩) (List.length st3 + 1) cap9, .int .i64 ((d1 : Nat) : Int)] 146)] F10 2 [] 0 (fun φ31 => [(3, .bool false), (2, .int .i64 0)]) (fun φ31 => [((φ2 0), .cells #[.string ⟨(ss).toArray⟩, .int .i64 ((p2 : Nat) : Int), .slice (some ⟨g9, 0, none⟩) (List.length st3 + 1) cap9, .int .i64 ((d1 : Nat) : Int)] 146)]) (fun φ31 => []) s trivial (fun φ31 => by kernel_rfl) ?_
        intro φ31 w31 s
        refine ops_done (by kernel_rfl) ?_
        refine wp_ret ?_
        refine ret_rule (C := []) [((φ2 0), .cells #[.string ⟨(ss).toArray⟩, .int .i64 ((p2 : Nat) : Int), .slice (some ⟨g9, 0, none⟩) (List.length st3 + 1) cap9, .int .i64 ((d1 : Nat) : Int)] 146)] F10 (.tuple #[.int .i64 0, .bool false]) [] [] s trivial (by kernel_rfl) ?_
        have hg9 := (sc_close hm0 (hL1.trans (by rw [hc8])) (hC2.trans (by rw [hc20]))).symm.trans (hI4.trans hS)
        cases hg9
        exact ⟨_, _, _, rfl, s, rfl⟩
  ·
    rw [hc8]
    refine cond_true_rule (b := true) (by kernel_rfl) rfl ?_
    refine wp_seq ?_
    refine region_rule ?_
    refine ops_rule (C := []) [((φ2 0), .cells #[.string ⟨(ss).toArray⟩, .int .i64 ((p1 : Nat) : Int), v5, .int .i64 ((d1 : Nat) : Int)] 146)] F5 2 [] 0 (fun φ32 => [(3, .bool false), (2, .int .i64 0)]) (fun φ32 => [((φ2 0), .cells #[.string ⟨(ss).toArray⟩, .int .i64 ((p1 : Nat) : Int), v5, .int .i64 ((d1 : Nat) : Int)] 146)]) (fun φ32 => []) s trivial (fun φ32 => by kernel_rfl) ?_
    intro φ32 w32 s
    refine ops_done (by kernel_rfl) ?_
    refine wp_ret ?_
    refine ret_rule (C := []) [((φ2 0), .cells #[.string ⟨(ss).toArray⟩, .int .i64 ((p1 : Nat) : Int), v5, .int .i64 ((d1 : Nat) : Int)] 146)] F5 (.tuple #[.int .i64 0, .bool false]) [] [] s trivial (by kernel_rfl) ?_
    have hg9 := (sc_leaf hm0 (hL1.trans (by rw [hc8]))).symm.trans (hI4.trans hS)
    cases hg9
    exact ⟨_, _, _, rfl, s, rfl⟩

end Go.Proofs.YtgdickihjaomjaaDoor
/- Any text is read: the scanner and the tree. -/
set_option linter.all false
set_option maxRecDepth 100000
namespace Go.Proofs.YtgdickihjaomjaaDoor
open Go.RowKit Go.Sep
def shE : E → Nat
  | .leaf n => leafSh n
  | .node n _ _ => nodeSh n
/-- the tree that a text begins with, as it is written, and what is left -/
def rdG : Nat → List UInt8 → Option (E × List UInt8)
  | 0, _ => none
  | f + 1, s => if tkB s 0 40 = true then
      (if (numR (s.drop 1)).2.2 = true ∧ tkB (s.drop ((numR (s.drop 1)).2.1 + 1)) 0 44 = true then
        (match rdG f (s.drop ((numR (s.drop 1)).2.1 + 2)) with
        | none => none
        | some (l, s2) => if tkB s2 0 44 = true then
            (match rdG f (s2.drop 1) with
            | none => none
            | some (r, s3) => if tkB s3 0 41 = true ∧ mayP (shE l) (shE r) = true then some (.node (numR (s.drop 1)).1 l r, s3.drop 1) else none)
          else none)
       else none)
    else (if (numR s).2.2 = true then some (.leaf (numR s).1, s.drop (numR s).2.1) else none)
theorem numR_pos {s : List UInt8} (h : (numR s).2.2 = true) : 1 ≤ (numR s).2.1 := by
  unfold numR at h ⊢
  cases e : numL s 0 0 with
  | none => rw [e] at h; cases h
  | some x =>
    obtain ⟨n, k⟩ := x
    rw [e] at h
    simp only at h ⊢
    split at h
    · cases h
    · rename_i h2
      rw [if_neg h2]
      show 1 ≤ k
      omega
theorem tk_drop {ss : List UInt8} {p c : Nat} (hp : p ≤ ss.length) : tkB (ss.drop p) 0 c = tkB ss p c := by
  unfold tkB
  have h1 : (ss.drop p).getD 0 0 = ss.getD p 0 := by simp [List.getD, List.getElem?_drop]
  rw [h1]
  refine decide_eq_decide.2 ?_
  rw [List.length_drop]
  constructor
  · rintro ⟨a, b⟩; exact ⟨by omega, b⟩
  · rintro ⟨a, b⟩; exact ⟨by omega, b⟩
theorem shE_ne (t : E) : ¬ shE t = 0 := by
  cases t with
  | leaf n => simp only [shE, leafSh]; split <;> decide
  | node n l r => simp only [shE, nodeSh]; split <;> decide
theorem lf_fuel {ss : List UInt8} : ∀ (f f' p : Nat) (st : List (Nat × Nat)) (d : Nat), p ≤ ss.length → ss.length < p + f → ss.length < p + f' → lfG ss f p st d = lfG ss f' p st d
  | 0, f', p, st, d, hp, h, h' => by omega
  | f + 1, 0, p, st, d, hp, h, h' => by omega
  | f + 1, f' + 1, p, st, d, hp, h, h' => by
    have b1 := tkP_le 40 hp
    have b2 := nuP_le b1
    have b3 := tkP_le 44 b2
    have a2 := nuP_ge ss (tkP ss p 40)
    have a3 := tkP_ge ss (nuP ss (tkP ss p 40)) 44
    rw [lfG, lfG]
    by_cases h1 : tkB ss p 40 = true
    · have c1 := tkP_t h1
      rw [if_pos h1, if_pos h1]
      rw [lf_fuel f f' (tkP ss (nuP ss (tkP ss p 40)) 44) _ _ b3 (by omega) (by omega)]
    · rw [if_neg h1, if_neg h1]
def kG (ss : List UInt8) (m q : Nat) (st : List (Nat × Nat)) (half d : Nat) : Nat × Bool := match clG ss st q half with
  | (_, _, _, false) => (0, false)
  | (p2, [], _, true) => (d, decide (p2 = ss.length))
  | (p2, (o, _) :: st3, half', true) => if tkB ss p2 44 = true then scG ss m (tkP ss p2 44) ((o, half') :: st3) d else (0, false)
section
variable {ss : List UInt8} {m p d q half o l : Nat} {st : List (Nat × Nat)}
theorem sc_open (hm : 0 < m) (hp : p ≤ ss.length) (h1 : tkB ss p 40 = true) (h2 : nuO ss (p + 1) = true) (h3 : tkB ss (nuP ss (p + 1)) 44 = true) :
    scG ss m p st d = scG ss m (nuP ss (p + 1) + 1) ((nodeSh (nuV ss (p + 1)), 0) :: st) (max d (st.length + 1)) := by
  obtain ⟨f, rfl⟩ : ∃ f, m = f + 1 := ⟨m - 1, by omega⟩
  have c1 := tkP_t h1
  have c3 := tkP_t h3
  have b2 := nuP_le (c1 ▸ tkP_le 40 hp)
  have b3 : nuP ss (p + 1) + 1 ≤ ss.length := c3 ▸ tkP_le 44 b2
  have a2 := nuP_ge ss (p + 1)
  have e : lfG ss (ss.length + 1) p st d = lfG ss (ss.length + 1) (nuP ss (p + 1) + 1) ((nodeSh (nuV ss (p + 1)), 0) :: st) (max d (st.length + 1)) := by
    rw [lf_go (Nat.succ_pos _) h1 (by rw [c1]; exact h2) (by rw [c1]; exact h3), c1, c3]
    exact lf_fuel _ _ _ _ _ b3 (by omega) (by omega)
  rw [scG, scG, e]
theorem sc_leafK (h1 : tkB ss p 40 = false) (h2 : nuO ss p = true) : scG ss (m + 1) p st d = kG ss m (nuP ss p) st (leafSh (nuV ss p)) d := by
  have c1 := tkP_f h1
  rw [scG, lf_end (Nat.succ_pos _) h1, c1, h2]
  rfl
theorem sc_leaf0 (hm : 0 < m) (h1 : tkB ss p 40 = false) (h2 : nuO ss p = false) : scG ss m p st d = (0, false) := by
  have c1 := tkP_f h1
  exact sc_leaf hm ((lf_end (Nat.succ_pos _) h1).trans (by rw [c1, h2]))
theorem sc_num0 (hm : 0 < m) (h1 : tkB ss p 40 = true) (h2 : nuO ss (p + 1) = false) : scG ss m p st d = (0, false) := by
  have c1 := tkP_t h1
  exact sc_leaf hm (lf_non (Nat.succ_pos _) h1 (by rw [c1]; exact h2))
theorem sc_com0 (hm : 0 < m) (h1 : tkB ss p 40 = true) (h2 : nuO ss (p + 1) = true) (h3 : tkB ss (nuP ss (p + 1)) 44 = false) : scG ss m p st d = (0, false) := by
  have c1 := tkP_t h1
  exact sc_leaf hm (lf_noc (Nat.succ_pos _) h1 (by rw [c1]; exact h2) (by rw [c1]; exact h3))
theorem k_first : kG ss m q ((o, 0) :: st) half d = if tkB ss q 44 = true then scG ss m (tkP ss q 44) ((o, half) :: st) d else (0, false) := by
  unfold kG; rw [cl_stop rfl]
theorem k_second (hl : ¬ l = 0) (h1 : tkB ss q 41 = true) (h2 : mayP l half = true) : kG ss m q ((o, l) :: st) half d = kG ss m (q + 1) st o d := by
  unfold kG; rw [cl_go hl h1 h2, tkP_t h1]
theorem k_no (hl : ¬ l = 0) (h : ¬ (tkB ss q 41 = true ∧ mayP l half = true)) : kG ss m q ((o, l) :: st) half d = (0, false) := by
  unfold kG
  cases h1 : tkB ss q 41 with
  | false => rw [cl_no hl h1]
  | true =>
    cases h2 : mayP l half with
    | false => rw [cl_bad hl h1 h2]
    | true => exact absurd ⟨h1, h2⟩ h
end
theorem scan_rd {ss : List UInt8} : ∀ (f p : Nat) (st : List (Nat × Nat)) (d m : Nat), p ≤ ss.length → st.length ≤ d → ss.length < p + f → ss.length < p + m →
    (∀ t rest, rdG f (ss.drop p) = some (t, rest) → ∃ q m', rest = ss.drop q ∧ p < q ∧ q ≤ ss.length ∧ ss.length < q + m' ∧ scG ss m p st d = kG ss m' q st (shE t) (max d (st.length + t.depth))) ∧
    (rdG f (ss.drop p) = none → (scG ss m p st d).2 = false)
  | 0, p, st, d, m, hp, hd, hf, hm => by omega
  | f + 1, p, st, d, m, hp, hd, hf, hm => by
    have hm0 : 0 < m := by omega
    have hdr : ∀ k, (ss.drop p).drop k = ss.drop (p + k) := fun k => by rw [List.drop_drop]
    rw [rdG, tk_drop hp]
    cases h1 : tkB ss p 40 with
    | false =>
      rw [if_neg (by decide)]
      cases h2 : nuO ss p with
      | false =>
        rw [if_neg (by rw [show (numR (ss.drop p)).2.2 = false from h2]; decide)]
        exact ⟨fun t rest h => (by cases h), fun _ => by rw [sc_leaf0 hm0 h1 h2]⟩
      | true =>
        rw [if_pos (show (numR (ss.drop p)).2.2 = true from h2)]
        refine ⟨fun t rest h => ?_, fun h => by cases h⟩
        simp only [Option.some.injEq, Prod.mk.injEq] at h
        obtain ⟨rfl, rfl⟩ := h
        have k1 : 1 ≤ (numR (ss.drop p)).2.1 := numR_pos h2
        have b1 := nuP_le hp
        obtain ⟨m, rfl⟩ : ∃ f, m = f + 1 := ⟨m - 1, by omega⟩
        refine ⟨nuP ss p, m, hdr _, ?_, b1, ?_, ?_⟩
        · show p < p + (numR (ss.drop p)).2.1; omega
        · have : nuP ss p = p + (numR (ss.drop p)).2.1 := rfl
          omega
        · rw [sc_leafK h1 h2]
          show _ = kG ss m (nuP ss p) st (leafSh (nuV ss p)) (max d (st.length + 0))
          rw [Nat.max_eq_left (by omega)]
    | true =>
      have c1 := tkP_t h1
      have p1 : p + 1 ≤ ss.length := c1 ▸ tkP_le 40 hp
      have q1 := nuP_le p1
      have q0 := nuP_ge ss (p + 1)
      have hN : numR ((ss.drop p).drop 1) = numR (ss.drop (p + 1)) := by rw [hdr]
      have hQ : nuP ss (p + 1) = p + 1 + (numR (ss.drop (p + 1))).2.1 := rfl
      rw [if_pos rfl, hN, hdr, hdr]
      have e1 : p + ((numR (ss.drop (p + 1))).2.1 + 1) = nuP ss (p + 1) := by omega
      have e2 : p + ((numR (ss.drop (p + 1))).2.1 + 2) = nuP ss (p + 1) + 1 := by omega
      rw [e1, e2, tk_drop q1]
      cases h2 : nuO ss (p + 1) with
      | false =>
        rw [if_neg (by rw [show (numR (ss.drop (p + 1))).2.2 = false from h2]; simp)]
        exact ⟨fun t rest h => (by cases h), fun _ => by rw [sc_num0 hm0 h1 h2]⟩
      | true =>
      cases h3 : tkB ss (nuP ss (p + 1)) 44 with
      | false =>
        rw [if_neg (by simp)]
        exact ⟨fun t rest h => (by cases h), fun _ => by rw [sc_com0 hm0 h1 h2 h3]⟩
      | true =>
      rw [if_pos ⟨h2, rfl⟩]
      have c3 := tkP_t h3
      have q2 : nuP ss (p + 1) + 1 ≤ ss.length := c3 ▸ tkP_le 44 q1
      rw [sc_open hm0 hp h1 h2 h3]
      have ih := scan_rd f (nuP ss (p + 1) + 1) ((nodeSh (nuV ss (p + 1)), 0) :: st) (max d (st.length + 1)) m q2 (by simp only [List.length_cons]; omega) (by omega) (by omega)
      cases hl : rdG f (ss.drop (nuP ss (p + 1) + 1)) with
      | none => exact ⟨fun t rest h => (by cases h), fun _ => ih.2 hl⟩
      | some x =>
      obtain ⟨l, s2⟩ := x
      obtain ⟨qa, ma, rfl, ha1, ha2, ha3, ha4⟩ := ih.1 l s2 hl
      rw [ha4, k_first]
      simp only [tk_drop ha2]
      cases h4 : tkB ss qa 44 with
      | false =>
        rw [if_neg (by decide), if_neg (by decide)]
        exact ⟨fun t rest h => (by cases h), fun _ => rfl⟩
      | true =>
      rw [if_pos rfl, if_pos rfl]
      have c4 := tkP_t h4
      have q4 : qa + 1 ≤ ss.length := c4 ▸ tkP_le 44 ha2
      rw [c4, List.drop_drop]
      have ihr := scan_rd f (qa + 1) ((nodeSh (nuV ss (p + 1)), shE l) :: st) (max (max d (st.length + 1)) (((nodeSh (nuV ss (p + 1)), 0) :: st).length + l.depth)) ma q4 (by simp only [List.length_cons]; omega) (by omega) (by omega)
      cases hr : rdG f (ss.drop (qa + 1)) with
      | none => exact ⟨fun t rest h => (by cases h), fun _ => ihr.2 hr⟩
      | some x =>
      obtain ⟨r, s3⟩ := x
      obtain ⟨qb, mb, rfl, hb1, hb2, hb3, hb4⟩ := ihr.1 r s3 hr
      rw [hb4]
      simp only [tk_drop hb2]
      by_cases h5 : tkB ss qb 41 = true ∧ mayP (shE l) (shE r) = true
      · rw [if_pos h5, k_second (shE_ne l) h5.1 h5.2]
        refine ⟨fun t rest h => ?_, fun h => by cases h⟩
        simp only [Option.some.injEq, Prod.mk.injEq] at h
        obtain ⟨rfl, rfl⟩ := h
        have c5 := tkP_t h5.1
        have q5 : qb + 1 ≤ ss.length := c5 ▸ tkP_le 41 hb2
        refine ⟨qb + 1, mb, by rw [List.drop_drop], by omega, q5, by omega, ?_⟩
        have e : max (max (max d (st.length + 1)) (((nodeSh (nuV ss (p + 1)), 0) :: st).length + l.depth)) (((nodeSh (nuV ss (p + 1)), shE l) :: st).length + r.depth) = max d (st.length + (E.node (numR (ss.drop (p + 1))).1 l r).depth) := by
          show _ = max d (st.length + (1 + max l.depth r.depth))
          simp only [List.length_cons]; omega
        rw [e]; rfl
      · rw [if_neg h5, k_no (shE_ne l) h5]
        exact ⟨fun t rest h => (by cases h), fun _ => rfl⟩
/-- what the scanner says of a text -/
theorem scan_all {ss : List UInt8} {dd : Nat} {ok : Bool} (h : scG ss (ss.length + 1) 0 [] 0 = (dd, ok)) :
    (ok = true → ∃ t, rdG (ss.length + 1) ss = some (t, []) ∧ dd = t.depth) ∧ (ok = false → ∀ t, ¬ rdG (ss.length + 1) ss = some (t, [])) := by
  have hs := scan_rd (ss := ss) (ss.length + 1) 0 [] 0 (ss.length + 1) (Nat.zero_le _) (Nat.le_refl _) (by omega) (by omega)
  rw [List.drop_zero] at hs
  cases e : rdG (ss.length + 1) ss with
  | none =>
    have := hs.2 e
    rw [h] at this
    have : ok = false := this
    subst this
    exact ⟨fun h => (by cases h), fun _ t h => by cases h⟩
  | some x =>
    obtain ⟨t, rest⟩ := x
    obtain ⟨q, m', rfl, h1, h2, h3, h4⟩ := hs.1 t rest e
    rw [h] at h4
    have h5 : (dd, ok) = (max 0 (0 + t.depth), decide (q = ss.length)) := h4
    simp only [Prod.mk.injEq] at h5
    obtain ⟨rfl, rfl⟩ := h5
    constructor
    · intro hq
      have hq := of_decide_eq_true hq
      refine ⟨t, ?_, by omega⟩
      rw [hq, List.drop_length]
    · intro hq t' h6
      have hq := of_decide_eq_false hq
      simp only [Option.some.injEq, Prod.mk.injEq] at h6
      have := congrArg List.length h6.2
      rw [List.length_drop] at this
      simp at this
      omega
end Go.Proofs.YtgdickihjaomjaaDoor
/- Any text is read: what was read is what stands there. -/
set_option linter.all false
set_option maxRecDepth 100000
namespace Go.Proofs.YtgdickihjaomjaaDoor
open Go.RowKit Go.Sep
def stepD (a : Nat) (c : UInt8) : Nat := a * 10 + (c.toNat - 48)
theorem numL_spec : ∀ (s : List UInt8) (n k : Nat) {n' k' : Nat}, numL s n k = some (n', k') → ∃ x r, s = x ++ r ∧ (∀ c ∈ x, isDg c) ∧ n' = x.foldl stepD n ∧ k' = k + x.length
  | [], n, k, n', k', h => by
    simp only [numL, Option.some.injEq, Prod.mk.injEq] at h
    exact ⟨[], [], rfl, fun c hc => (by cases hc), h.1.symm, h.2.symm⟩
  | c :: s, n, k, n', k', h => by
    unfold numL at h
    split at h
    · rename_i hd
      split at h
      · cases h
      · obtain ⟨x, r, rfl, h1, h2, h3⟩ := numL_spec s _ _ h
        refine ⟨c :: x, r, rfl, fun d hdm => ?_, h2, by simp only [List.length_cons]; omega⟩
        rcases List.mem_cons.1 hdm with rfl | hdm
        · exact hd
        · exact h1 d hdm
    · simp only [Option.some.injEq, Prod.mk.injEq] at h
      exact ⟨[], c :: s, rfl, fun c hc => (by cases hc), h.1.symm, h.2.symm⟩
theorem dec_val_aux : ∀ (m : Nat) (x : List UInt8), x.length = m → (∀ c ∈ x, isDg c) → 1 ≤ x.length → ¬ (1 < x.length ∧ (x.getD 0 0).toNat = 48) → Lib.decDigits (valD x) = x
  | 0, x, hm, _, h1, _ => by omega
  | m + 1, x, hm, hd, h1, h0 => by
    obtain ⟨y, c, rfl⟩ : ∃ y c, x = y ++ [c] := ⟨x.dropLast, x.getLast (by intro e; rw [e] at h1; simp at h1), (List.dropLast_concat_getLast _).symm⟩
    have hc : isDg c := hd c (by simp)
    have hv : valD (y ++ [c]) = valD y * 10 + (c.toNat - 48) := by unfold valD; rw [List.foldl_append]; rfl
    have hcc : 48 ≤ c.toNat ∧ c.toNat ≤ 57 := hc
    rw [hv]
    cases y with
    | nil =>
      have : valD [] = 0 := rfl
      rw [this, decDigits_small (by omega)]
      have : (48 + (0 * 10 + (c.toNat - 48)) % 10) = c.toNat := by omega
      rw [this]; simp
    | cons a y =>
      simp only [List.cons_append, List.length_cons, List.length_append, List.length_nil] at hm h0
      have ha : ¬ a.toNat = 48 := fun q => h0 ⟨by omega, by simpa using q⟩
      have ih := dec_val_aux m (a :: y) (by simp only [List.length_cons]; omega) (fun d hdm => hd d (List.mem_append_left _ hdm)) (by simp) (fun q => ha (by simpa using q.2))
      have hpos : 1 ≤ valD (a :: y) := by
        refine Nat.one_le_iff_ne_zero.2 fun q => ?_
        rw [q, decDigits_small (by omega)] at ih
        simp only [List.cons.injEq] at ih
        exact ha (by rw [← ih.1]; rfl)
      rw [decDigits_big (by omega)]
      have e1 : (valD (a :: y) * 10 + (c.toNat - 48)) / 10 = valD (a :: y) := by omega
      have e2 : 48 + (valD (a :: y) * 10 + (c.toNat - 48)) % 10 = c.toNat := by omega
      rw [e1, e2, ih]; simp
theorem numR_text {s : List UInt8} (h : (numR s).2.2 = true) : s = Lib.decDigits (numR s).1 ++ s.drop (numR s).2.1 := by
  unfold numR at h ⊢
  cases e : numL s 0 0 with
  | none => rw [e] at h; cases h
  | some x =>
    obtain ⟨n, k⟩ := x
    rw [e] at h
    simp only at h ⊢
    split at h
    · cases h
    · rename_i h2
      rw [if_neg h2]
      simp only
      obtain ⟨x, r, rfl, h3, h4, h5⟩ := numL_spec s 0 0 e
      have hk : k = x.length := by omega
      have hn : n = valD x := h4
      have hx : (x ++ r).getD 0 0 = x.getD 0 0 := by
        cases x with
        | nil => simp at hk; omega
        | cons a x => rfl
      rw [hx] at h2
      rw [hk, hn, dec_val_aux x.length x rfl h3 (by omega) (by omega), List.drop_left]
theorem tk_head {s : List UInt8} {c : UInt8} (h : tkB s 0 c.toNat = true) : s = c :: s.drop 1 := by
  have h := of_decide_eq_true h
  cases s with
  | nil => exact absurd rfl h.1
  | cons a s =>
    have h2 : a.toNat = c.toNat := h.2
    rw [UInt8.toNat_inj.1 h2]; rfl
theorem pair_nf {n : Nat} {l r : E} (h : mayP (shE l) (shE r) = true) : E.mk n l r = .node n l r := by
  have h := of_decide_eq_true h
  have hmin : min l.base r.base = 0 := by
    cases l <;> cases r <;> simp only [shE, leafSh, nodeSh, E.base] at h ⊢ <;> split at h <;> split at h <;> omega
  have hlf : ¬ (l.isLeaf = true ∧ r.isLeaf = true ∧ l.base = r.base) := by
    rintro ⟨a, b, c⟩
    cases l with
    | node => cases a
    | leaf x =>
      cases r with
      | node => cases b
      | leaf y =>
        have c : x = y := c
        subst c
        simp only [shE, leafSh] at h
        split at h <;> omega
  unfold E.mk
  rw [if_neg hlf]
  simp only [hmin]
  cases l <;> cases r <;> rfl
/-- what was read -/
theorem rd_text : ∀ (f : Nat) (s : List UInt8) {t : E} {rest : List UInt8}, rdG f s = some (t, rest) → s = textE t ++ rest ∧ t.nf
  | 0, s, t, rest, h => by cases h
  | f + 1, s, t, rest, h => by
    rw [rdG] at h
    by_cases h1 : tkB s 0 40 = true
    · rw [if_pos h1] at h
      by_cases h2 : (numR (s.drop 1)).2.2 = true ∧ tkB (s.drop ((numR (s.drop 1)).2.1 + 1)) 0 44 = true
      · rw [if_pos h2] at h
        split at h
        · cases h
        · rename_i l s2 hl
          by_cases h3 : tkB s2 0 44 = true
          · rw [if_pos h3] at h
            split at h
            · cases h
            · rename_i r s3 hr
              by_cases h4 : tkB s3 0 41 = true ∧ mayP (shE l) (shE r) = true
              · rw [if_pos h4] at h
                simp only [Option.some.injEq, Prod.mk.injEq] at h
                obtain ⟨rfl, rfl⟩ := h
                obtain ⟨e1, n1⟩ := rd_text f _ hl
                obtain ⟨e2, n2⟩ := rd_text f _ hr
                have a1 := tk_head (c := 40) h1
                have a2 := numR_text h2.1
                have a3 := tk_head (c := 44) h2.2
                have a4 := tk_head (c := 44) h3
                have a5 := tk_head (c := 41) h4.1
                rw [List.drop_drop] at a2 a3
                refine ⟨?_, n1, n2, pair_nf h4.2⟩
                rw [show 1 + (numR (s.drop 1)).2.1 = (numR (s.drop 1)).2.1 + 1 by omega] at a2
                rw [show (numR (s.drop 1)).2.1 + 1 + 1 = (numR (s.drop 1)).2.1 + 2 by omega, e1, a4, e2, a5] at a3
                rw [a3] at a2
                rw [a2] at a1
                refine a1.trans ?_
                simp [textE, List.append_assoc]
              · rw [if_neg h4] at h; cases h
          · rw [if_neg h3] at h; cases h
      · rw [if_neg h2] at h; cases h
    · rw [if_neg h1] at h
      by_cases h2 : (numR s).2.2 = true
      · rw [if_pos h2] at h
        simp only [Option.some.injEq, Prod.mk.injEq] at h
        obtain ⟨rfl, rfl⟩ := h
        exact ⟨numR_text h2, trivial⟩
      · rw [if_neg h2] at h; cases h
end Go.Proofs.YtgdickihjaomjaaDoor
/- Any text is read: the tree is built. -/
set_option linter.all false
set_option maxRecDepth 100000
namespace Go.Proofs.YtgdickihjaomjaaDoor
open Go.RowKit Go.Sep
attribute [local irreducible] Go.wpList Go.Code.wp
def errB (t : E) : Nat := if t.top ≤ 1048576 then 0 else 4
def okE (t : E) : E := if t.top ≤ 1048576 then t else .leaf 0
theorem okE_yes {t : E} (h : t.top ≤ 1048576) : okE t = t := if_pos h
theorem okE_no {t : E} (h : ¬ t.top ≤ 1048576) : okE t = .leaf 0 := if_neg h
theorem errB_yes {t : E} (h : t.top ≤ 1048576) : errB t = 0 := if_pos h
theorem errB_no {t : E} (h : ¬ t.top ≤ 1048576) : errB t = 4 := if_neg h
theorem errB_ok {t : E} (h : ¬ errB t ≠ 0) : t.top ≤ 1048576 := by
  by_cases q : t.top ≤ 1048576
  · exact q
  · exact absurd (by rw [errB_no q]; decide) h
theorem errB_bad {t : E} (h : errB t ≠ 0) : ¬ t.top ≤ 1048576 := fun q => h (errB_yes q)
theorem topN {n : Nat} {l r : E} : (E.node n l r).top = n + max l.top r.top := rfl
theorem bad_l {n : Nat} {l r : E} (h : ¬ l.top ≤ 1048576) : ¬ (E.node n l r).top ≤ 1048576 := by rw [topN]; omega
theorem bad_r {n : Nat} {l r : E} (h : ¬ r.top ≤ 1048576) : ¬ (E.node n l r).top ≤ 1048576 := by rw [topN]; omega
theorem leafB_c {I : IM} {n : Nat} : Fun Tryd.prog 33 #[.int .u64 ((n : Nat) : Int)] I (fun v J => ∃ b p, v = .tuple #[evv b p, .int .i64 ((errB (.leaf n) : Nat) : Int)] ∧ ERep J (okE (.leaf n)) b p) := by
  have h := leafR_c (I := I) (n := n)
  have e : leafR n = (okE (.leaf n), errB (.leaf n)) := by
    unfold leafR okE errB
    show (if 1048576 < n then _ else _) = (if n ≤ 1048576 then _ else _, if n ≤ 1048576 then _ else _)
    by_cases q : n ≤ 1048576
    · rw [if_neg (by omega), if_pos q, if_pos q]
    · rw [if_pos (by omega), if_neg q, if_neg q]
  rw [e] at h; exact h
theorem nodeB_c {I : IM} {n : Nat} {l r : E} {bl br : Nat} {pl pr : Option Addr} (hl : ERep I (okE l) bl pl) (hr : ERep I (okE r) br pr) (tl : l.top ≤ 1048576) (tr : r.top ≤ 1048576) (hm : E.mk n l r = .node n l r) (hd : (E.node n l r).depth ≤ 16) : Fun Tryd.prog 18 #[.int .u64 ((n : Nat) : Int), evv bl pl, evv br pr] I (fun v J => ∃ b p, v = .tuple #[evv b p, .int .i64 ((errB (.node n l r) : Nat) : Int)] ∧ ERep J (okE (.node n l r)) b p) := by
  rw [okE_yes tl] at hl
  rw [okE_yes tr] at hr
  have hd : 1 + max l.depth r.depth ≤ 16 := hd
  have h := nodeR_c (n := n) hl hr tl tr (by omega) (by omega)
  have e : nodeR n l r = (okE (.node n l r), errB (.node n l r)) := by
    unfold nodeR okE errB
    rw [topN, if_neg (by omega), hm]
    by_cases q : n + max l.top r.top ≤ 1048576
    · rw [if_neg (by omega), if_neg (by omega), if_pos q, if_pos q]
    · rw [if_neg q, if_neg q]
      by_cases q2 : 1048576 < n
      · rw [if_pos q2]
      · rw [if_neg q2, if_pos (by omega)]
  rw [e] at h; exact h
theorem tk_pos {s : List UInt8} {c : Nat} (h : tkB s 0 c = true) : 0 < s.length := by
  have := (of_decide_eq_true h).1; omega
theorem tk_get {s : List UInt8} {c : Nat} (h : tkB s 0 c = true) : (s.getD 0 0).toNat = c := (of_decide_eq_true h).2
theorem rd_inv {f : Nat} {s : List UInt8} {t : E} {rest : List UInt8} (h : rdG (f + 1) s = some (t, rest)) :
    (tkB s 0 40 = false ∧ ∃ n k, numR s = (n, k, true) ∧ t = .leaf n ∧ rest = s.drop k) ∨
    (tkB s 0 40 = true ∧ ∃ n k l r s2 s3, numR (s.drop 1) = (n, k, true) ∧ tkB (s.drop (k + 1)) 0 44 = true ∧ rdG f (s.drop (k + 2)) = some (l, s2) ∧ tkB s2 0 44 = true ∧ rdG f (s2.drop 1) = some (r, s3) ∧ tkB s3 0 41 = true ∧ mayP (shE l) (shE r) = true ∧ t = .node n l r ∧ rest = s3.drop 1) := by
  rw [rdG] at h
  by_cases h1 : tkB s 0 40 = true
  · rw [if_pos h1] at h
    by_cases h2 : (numR (s.drop 1)).2.2 = true ∧ tkB (s.drop ((numR (s.drop 1)).2.1 + 1)) 0 44 = true
    · rw [if_pos h2] at h
      split at h
      · cases h
      · rename_i l s2 hl
        by_cases h3 : tkB s2 0 44 = true
        · rw [if_pos h3] at h
          split at h
          · cases h
          · rename_i r s3 hr
            by_cases h4 : tkB s3 0 41 = true ∧ mayP (shE l) (shE r) = true
            · rw [if_pos h4] at h
              simp only [Option.some.injEq, Prod.mk.injEq] at h
              exact .inr ⟨h1, _, _, l, r, s2, s3, by rw [← h2.1], h2.2, hl, h3, hr, h4.1, h4.2, h.1.symm, h.2.symm⟩
            · rw [if_neg h4] at h; cases h
        · rw [if_neg h3] at h; cases h
    · rw [if_neg h2] at h; cases h
  · rw [if_neg h1] at h
    by_cases h2 : (numR s).2.2 = true
    · rw [if_pos h2] at h
      simp only [Option.some.injEq, Prod.mk.injEq] at h
      exact .inl ⟨by simpa using h1, _, _, by rw [← h2], h.1.symm, h.2.symm⟩
    · rw [if_neg h2] at h; cases h

set_option maxHeartbeats 2000000 in
theorem buildLf_c {I : IM} {ss : List UInt8} {n k : Nat} (hs : ss.length ≤ 1000000) (h0 : 0 < ss.length) (hne : ¬ (ss.getD 0 0).toNat = 40) (hN : numR ss = (n, k, true)) (hk : k ≤ ss.length) : Fun Tryd.prog 77 #[.string ⟨(ss).toArray⟩] I (fun v J => ∃ b p r', v = .tuple #[evv b p, .string ⟨(List.toArray r')⟩, .int .i64 ((errB (E.leaf n) : Nat) : Int)] ∧ ERep J (okE (E.leaf n)) b p ∧ (E.top (E.leaf n) ≤ 1048576 → r' = ss.drop k)) := by
  refine enter_rule 79 [(0, .string ⟨(ss).toArray⟩)] Tryd.func77 rfl (by kernel_rfl) ?_
  intro w s
  refine wp_seq ?_
  refine region_rule ?_
  refine ops_rule (C := []) [] [] 3 [] 1 (fun φ1 => [(4, .int .i64 0), (3, .string ⟨#[]⟩), (2, .pointer (some ⟨(φ1 0), 0, none⟩))]) (fun φ1 => [((φ1 0), .cells #[.int .u64 0, .pointer none] 27)]) (fun φ1 => []) s trivial (fun φ1 => by kernel_rfl) ?_
  intro φ1 w1 s
  refine ops_done (by kernel_rfl) ?_
  refine wp_seq ?_
  refine wp_seq ?_
  refine region_rule ?_
  refine ops_rule (C := []) [((φ1 0), .cells #[.int .u64 0, .pointer none] 27)] [] 1 [] 0 (fun φ2 => [(18, .string ⟨(ss).toArray⟩)]) (fun φ2 => [((φ1 0), .cells #[.int .u64 0, .pointer none] 27)]) (fun φ2 => []) s trivial (fun φ2 => by kernel_rfl) ?_
  intro φ2 w2 s
  refine sem_rule (Instr.index 9 (.string ⟨(ss).toArray⟩) (.int .i64 ((0 : Nat) : Int))) (some 19) (.int .u8 (((ss.getD 0 0).toNat : Nat) : Int)) (by kernel_rfl) (run_idxStr (s := ss) under9 (by omega)) ?_
  refine ops_rule (C := []) [((φ1 0), .cells #[.int .u64 0, .pointer none] 27)] [] 1 [] 0 (fun φ3 => [(20, .bool ((((ss.getD 0 0).toNat : Nat) : Int) != ((40 : Nat) : Int)))]) (fun φ3 => [((φ1 0), .cells #[.int .u64 0, .pointer none] 27)]) (fun φ3 => []) s trivial (fun φ3 => by kernel_rfl) ?_
  intro φ3 w3 s
  rw [nat_neq (a := ((ss.getD 0 0).toNat)) (b := 40)]
  refine ops_done (by kernel_rfl) ?_
  rcases Bool.eq_false_or_eq_true (decide (((ss.getD 0 0).toNat) ≠ 40)) with hc4 | hc4
  ·
    rw [hc4]
    refine cond_true_rule (b := true) (by kernel_rfl) rfl ?_
    refine wp_seq ?_
    refine region_rule ?_
    refine ops_rule (C := []) [((φ1 0), .cells #[.int .u64 0, .pointer none] 27)] [] 1 [] 0 (fun φ5 => [(22, .string ⟨(ss).toArray⟩)]) (fun φ5 => [((φ1 0), .cells #[.int .u64 0, .pointer none] 27)]) (fun φ5 => []) s trivial (fun φ5 => by kernel_rfl) ?_
    intro φ5 w5 s
    refine call_rule (some 23) s (number_k (ss := ss) (a := n) (b := k) (c := true) (by (try simp only [List.length_drop]); omega) hN) (by kernel_rfl) ?_
    intro v6 I6 w6 le6 h6 s
    obtain rfl := h6
    refine ops_rule (C := []) [((φ1 0), .cells #[.int .u64 0, .pointer none] 27)] [] 7 [] 0 (fun φ7 => [(7, .bool true), (6, .int .i64 ((k : Nat) : Int)), (5, .int .u64 ((n : Nat) : Int)), (26, .bool true), (25, .int .i64 ((k : Nat) : Int)), (24, .int .u64 ((n : Nat) : Int)), (21, .tuple #[.int .u64 ((n : Nat) : Int), .int .i64 ((k : Nat) : Int), .bool true])]) (fun φ7 => [((φ1 0), .cells #[.int .u64 0, .pointer none] 27)]) (fun φ7 => []) s trivial (fun φ7 => by kernel_rfl) ?_
    intro φ7 w7 s
    refine ops_done (by kernel_rfl) ?_
    refine wp_seq ?_
    refine region_rule ?_
    refine ops_rule (C := []) [((φ1 0), .cells #[.int .u64 0, .pointer none] 27)] [] 1 [] 0 (fun φ8 => [(28, .int .u64 ((n : Nat) : Int))]) (fun φ8 => [((φ1 0), .cells #[.int .u64 0, .pointer none] 27)]) (fun φ8 => []) s trivial (fun φ8 => by kernel_rfl) ?_
    intro φ8 w8 s
    refine call_rule (some 29) s (leafB_c (n := n)) (by kernel_rfl) ?_
    intro v9 I9 w9 le9 h9 s
    obtain ⟨b9, p9, rfl, h9_0⟩ := h9
    refine ops_rule (C := []) [((φ1 0), .cells #[.int .u64 0, .pointer none] 27)] [] 6 [.o 1, .o 1] 1 (fun φ10 => [(9, .int .i64 ((errB (E.leaf n) : Nat) : Int)), (8, .pointer (some ⟨(φ10 0), 0, none⟩)), (31, .int .i64 ((errB (E.leaf n) : Nat) : Int)), (30, .agg #[.int .u64 ((b9 : Nat) : Int), .pointer p9]), (27, .tuple #[.agg #[.int .u64 ((b9 : Nat) : Int), .pointer p9], .int .i64 ((errB (E.leaf n) : Nat) : Int)])]) (fun φ10 => [((φ1 0), .cells #[.int .u64 0, .pointer none] 27), ((φ10 0), .cells #[.int .u64 ((b9 : Nat) : Int), .pointer p9] 27)]) (fun φ10 => [(φ10 0), (φ10 0)]) s trivial (fun φ10 => by kernel_rfl) ?_
    intro φ10 w10 s
    refine ops_done (by kernel_rfl) ?_
    refine wp_seq ?_
    refine draw_rule (C := []) ⟨(fun φ11 xs11 => [.look 0 [.o 1, .o 1] [(φ10 0), (φ10 0)], .look 0 [] [], .look 0 [] [], .ran (Instr.sliceAt 9 (.string ⟨(ss).toArray⟩) (some (.int .i64 ((k : Nat) : Int))) none none), .look 0 [] [], .store 0 [.o 0, .o 0] [(φ1 0), (φ1 0)], .look 1 [] [], .look 1 [] []]), (fun φ11 xs11 => [.agg #[.int .u64 ((b9 : Nat) : Int), .pointer p9], .string ⟨(ss).toArray⟩, .int .i64 ((k : Nat) : Int), .string ⟨(ss.drop k).toArray⟩, .int .i64 ((errB (E.leaf n) : Nat) : Int), undef, .string ⟨(ss.drop k).toArray⟩, .int .i64 ((errB (E.leaf n) : Nat) : Int)]), (fun φ11 xs11 => [[((φ1 0), .cells #[.int .u64 0, .pointer none] 27), ((φ10 0), .cells #[.int .u64 ((b9 : Nat) : Int), .pointer p9] 27)], [((φ1 0), .cells #[.int .u64 ((b9 : Nat) : Int), .pointer p9] 27), ((φ10 0), .cells #[.int .u64 ((b9 : Nat) : Int), .pointer p9] 27)]]), (fun φ11 xs11 => [[default, default, default, default, default, default, default, default], [default, default, default, default, default, default, default, default]]), [5], [1, 1, 1, 6, 1, 4, 1, 1]⟩ (fun j => ([MP.any, MP.any, MP.any, MP.any, MP.any, MP.any, MP.any, MP.any] : List MP).getD j MP.any) [] [] [3] (fun φ11 xs11 => [[none, none, none, none, none, none, none, none]]) (fun φ11 xs11 => [(32, .agg #[.int .u64 ((b9 : Nat) : Int), .pointer p9]), (33, .string ⟨(ss).toArray⟩), (34, .int .i64 ((k : Nat) : Int)), (35, .string ⟨(ss.drop k).toArray⟩), (36, .int .i64 ((errB (E.leaf n) : Nat) : Int)), (3, .string ⟨(ss.drop k).toArray⟩), (4, .int .i64 ((errB (E.leaf n) : Nat) : Int))]) (fun φ11 xs11 => [((φ1 0), .cells #[.int .u64 ((b9 : Nat) : Int), .pointer p9] 27), ((φ10 0), .cells #[.int .u64 ((b9 : Nat) : Int), .pointer p9] 27)]) s trivial (by kernel_rfl) (by kernel_rfl) (fun _ _ => by kernel_rfl) (fun _ _ => by kernel_rfl) ⟨fun _ _ => by kernel_rfl, fun _ _ => by kernel_rfl, fun _ _ => by kernel_rfl, fun _ _ => by kernel_rfl⟩ (fun _ _ _ => by kernel_rfl) (fun _ _ => by kernel_rfl) (fun _ _ => by kernel_rfl) (fun _ _ => by kernel_rfl) (fun _ _ => by kernel_rfl) (fun _ _ => by kernel_rfl) trivial ⟨kcast (A := ∀ (φ11 : Nat → Nat) (xs11 : Xs) (J : IM) (w : World), I9.Le J → J.Sub w → ((Instr.sliceAt 9 (.string ⟨(ss).toArray⟩) (some (.int .i64 ((k : Nat) : Int))) none none) : Sem Value).run Tryd.prog w = .ok (.string ⟨(ss.drop k).toArray⟩) w) (by kernel_rfl) (fun φ11 xs11 J w hJ hS => run_dropStr (s := ss) (lo := k) under9 (by omega)), trivial⟩ (by kernel_rfl) trivial ?k11
    case k11 =>
      rintro φ11 xs11 I11 w11 le11 s 
      replace h9_0 := ERep.mono le11 h9_0
      refine wp_ret ?_
      refine ret_rule (C := []) [((φ1 0), .cells #[.int .u64 ((b9 : Nat) : Int), .pointer p9] 27), ((φ10 0), .cells #[.int .u64 ((b9 : Nat) : Int), .pointer p9] 27)] [] (.tuple #[.agg #[.int .u64 ((b9 : Nat) : Int), .pointer p9], .string ⟨(ss.drop k).toArray⟩, .int .i64 ((errB (E.leaf n) : Nat) : Int)]) [.o 0, .o 0] [(φ1 0), (φ1 0)] s trivial (by kernel_rfl) ?_
      exact ⟨_, _, _, rfl, s, ⟨_, _, _, rfl, h9_0, fun _ => rfl⟩⟩
  ·
    exact absurd (Decidable.not_not.1 (of_decide_eq_false hc4)) hne

set_option maxHeartbeats 2000000 in
theorem buildNd_c {I : IM} {f : Nat} {ss s2 s3 : List UInt8} {n k : Nat} {l r : E} (ih : ∀ {J : IM} {s : List UInt8} {t : E} {rest : List UInt8}, rdG f s = some (t, rest) → t.depth ≤ 16 → s.length ≤ 1000000 → Fun Tryd.prog 77 #[.string ⟨(s).toArray⟩] J (fun v J => ∃ b p r', v = .tuple #[evv b p, .string ⟨(List.toArray r')⟩, .int .i64 ((errB t : Nat) : Int)] ∧ ERep J (okE t) b p ∧ (E.top t ≤ 1048576 → r' = rest))) (hs : ss.length ≤ 1000000) (h0 : 0 < ss.length) (h40 : tkB ss 0 40 = true) (hN : numR (ss.drop 1) = (n, k, true)) (hk : k + 2 ≤ ss.length) (hl : rdG f (ss.drop (k + 2)) = some (l, s2)) (h44 : tkB s2 0 44 = true) (hr : rdG f (s2.drop 1) = some (r, s3)) (h41 : tkB s3 0 41 = true) (hm : E.mk n l r = .node n l r) (hd : (E.node n l r).depth ≤ 16) (hdl : l.depth ≤ 16) (hdr : r.depth ≤ 16) (hs2 : s2.length ≤ 1000000) : Fun Tryd.prog 77 #[.string ⟨(ss).toArray⟩] I (fun v J => ∃ b p r', v = .tuple #[evv b p, .string ⟨(List.toArray r')⟩, .int .i64 ((errB (E.node n l r) : Nat) : Int)] ∧ ERep J (okE (E.node n l r)) b p ∧ (E.top (E.node n l r) ≤ 1048576 → r' = s3.drop 1)) := by
  refine enter_rule 79 [(0, .string ⟨(ss).toArray⟩)] Tryd.func77 rfl (by kernel_rfl) ?_
  intro w s
  refine wp_seq ?_
  refine region_rule ?_
  refine ops_rule (C := []) [] [] 3 [] 1 (fun φ1 => [(4, .int .i64 0), (3, .string ⟨#[]⟩), (2, .pointer (some ⟨(φ1 0), 0, none⟩))]) (fun φ1 => [((φ1 0), .cells #[.int .u64 0, .pointer none] 27)]) (fun φ1 => []) s trivial (fun φ1 => by kernel_rfl) ?_
  intro φ1 w1 s
  refine ops_done (by kernel_rfl) ?_
  refine wp_seq ?_
  refine wp_seq ?_
  refine region_rule ?_
  refine ops_rule (C := []) [((φ1 0), .cells #[.int .u64 0, .pointer none] 27)] [] 1 [] 0 (fun φ2 => [(18, .string ⟨(ss).toArray⟩)]) (fun φ2 => [((φ1 0), .cells #[.int .u64 0, .pointer none] 27)]) (fun φ2 => []) s trivial (fun φ2 => by kernel_rfl) ?_
  intro φ2 w2 s
  refine sem_rule (Instr.index 9 (.string ⟨(ss).toArray⟩) (.int .i64 ((0 : Nat) : Int))) (some 19) (.int .u8 (((ss.getD 0 0).toNat : Nat) : Int)) (by kernel_rfl) (run_idxStr (s := ss) under9 (by omega)) ?_
  refine ops_rule (C := []) [((φ1 0), .cells #[.int .u64 0, .pointer none] 27)] [] 1 [] 0 (fun φ3 => [(20, .bool ((((ss.getD 0 0).toNat : Nat) : Int) != ((40 : Nat) : Int)))]) (fun φ3 => [((φ1 0), .cells #[.int .u64 0, .pointer none] 27)]) (fun φ3 => []) s trivial (fun φ3 => by kernel_rfl) ?_
  intro φ3 w3 s
  rw [nat_neq (a := ((ss.getD 0 0).toNat)) (b := 40)]
  refine ops_done (by kernel_rfl) ?_
  rcases Bool.eq_false_or_eq_true (decide (((ss.getD 0 0).toNat) ≠ 40)) with hc4 | hc4
  ·
    exact absurd (tk_get h40) (of_decide_eq_true hc4)
  ·
    rw [hc4]
    refine cond_false_rule (b := false) (by kernel_rfl) rfl ?_
    refine wp_skip ?_
    refine wp_seq ?_
    refine region_rule ?_
    refine ops_rule (C := []) [((φ1 0), .cells #[.int .u64 0, .pointer none] 27)] [] 1 [] 0 (fun φ5 => [(38, .string ⟨(ss).toArray⟩)]) (fun φ5 => [((φ1 0), .cells #[.int .u64 0, .pointer none] 27)]) (fun φ5 => []) s trivial (fun φ5 => by kernel_rfl) ?_
    intro φ5 w5 s
    refine sem_rule (Instr.sliceAt 9 (.string ⟨(ss).toArray⟩) (some (.int .i64 ((1 : Nat) : Int))) none none) (some 39) (.string ⟨(ss.drop 1).toArray⟩) (by kernel_rfl) (run_dropStr (s := ss) (lo := 1) under9 (by omega)) ?_
    refine call_rule (some 40) s (number_k (ss := ss.drop 1) (a := n) (b := k) (c := true) (by (try simp only [List.length_drop]); omega) hN) (by kernel_rfl) ?_
    intro v6 I6 w6 le6 h6 s
    obtain rfl := h6
    refine ops_rule (C := []) [((φ1 0), .cells #[.int .u64 0, .pointer none] 27)] [] 7 [] 0 (fun φ7 => [(12, .bool true), (11, .int .i64 ((k : Nat) : Int)), (10, .int .u64 ((n : Nat) : Int)), (43, .bool true), (42, .int .i64 ((k : Nat) : Int)), (41, .int .u64 ((n : Nat) : Int)), (37, .tuple #[.int .u64 ((n : Nat) : Int), .int .i64 ((k : Nat) : Int), .bool true])]) (fun φ7 => [((φ1 0), .cells #[.int .u64 0, .pointer none] 27)]) (fun φ7 => []) s trivial (fun φ7 => by kernel_rfl) ?_
    intro φ7 w7 s
    refine ops_done (by kernel_rfl) ?_
    refine wp_seq ?_
    refine region_rule ?_
    refine ops_rule (C := []) [((φ1 0), .cells #[.int .u64 0, .pointer none] 27)] [] 3 [] 0 (fun φ8 => [(47, .int .i64 (IntKind.wrap .i64 (((k : Nat) : Int) + ((2 : Nat) : Int)))), (46, .int .i64 ((k : Nat) : Int)), (45, .string ⟨(ss).toArray⟩)]) (fun φ8 => [((φ1 0), .cells #[.int .u64 0, .pointer none] 27)]) (fun φ8 => []) s trivial (fun φ8 => by kernel_rfl) ?_
    intro φ8 w8 s
    rw [nat_addI (a := k) (b := 2) (by omega)]
    refine sem_rule (Instr.sliceAt 9 (.string ⟨(ss).toArray⟩) (some (.int .i64 ((k + 2 : Nat) : Int))) none none) (some 48) (.string ⟨(ss.drop (k + 2)).toArray⟩) (by kernel_rfl) (run_dropStr (s := ss) (lo := k + 2) under9 (by omega)) ?_
    refine call_rule (some 49) s (ih hl hdl (by simp only [List.length_drop]; omega)) (by kernel_rfl) ?_
    intro v9 I9 w9 le9 h9 s
    obtain ⟨b9, p9, q9, rfl, h9_0, h9_1⟩ := h9
    refine ops_rule (C := []) [((φ1 0), .cells #[.int .u64 0, .pointer none] 27)] [] 8 [.o 1, .o 1] 1 (fun φ10 => [(15, .int .i64 ((errB l : Nat) : Int)), (14, .string ⟨(q9).toArray⟩), (13, .pointer (some ⟨(φ10 0), 0, none⟩)), (52, .int .i64 ((errB l : Nat) : Int)), (51, .string ⟨(q9).toArray⟩), (50, .agg #[.int .u64 ((b9 : Nat) : Int), .pointer p9]), (44, .tuple #[.agg #[.int .u64 ((b9 : Nat) : Int), .pointer p9], .string ⟨(q9).toArray⟩, .int .i64 ((errB l : Nat) : Int)])]) (fun φ10 => [((φ1 0), .cells #[.int .u64 0, .pointer none] 27), ((φ10 0), .cells #[.int .u64 ((b9 : Nat) : Int), .pointer p9] 27)]) (fun φ10 => [(φ10 0), (φ10 0)]) s trivial (fun φ10 => by kernel_rfl) ?_
    intro φ10 w10 s
    refine ops_done (by kernel_rfl) ?_
    refine wp_seq ?_
    refine wp_seq ?_
    refine region_rule ?_
    refine ops_rule (C := []) [((φ1 0), .cells #[.int .u64 0, .pointer none] 27), ((φ10 0), .cells #[.int .u64 ((b9 : Nat) : Int), .pointer p9] 27)] [] 2 [] 0 (fun φ11 => [(54, .bool (((errB l : Nat) : Int) != ((0 : Nat) : Int))), (53, .int .i64 ((errB l : Nat) : Int))]) (fun φ11 => [((φ1 0), .cells #[.int .u64 0, .pointer none] 27), ((φ10 0), .cells #[.int .u64 ((b9 : Nat) : Int), .pointer p9] 27)]) (fun φ11 => []) s trivial (fun φ11 => by kernel_rfl) ?_
    intro φ11 w11 s
    rw [nat_neq (a := (errB l)) (b := 0)]
    refine ops_done (by kernel_rfl) ?_
    rcases Bool.eq_false_or_eq_true (decide ((errB l) ≠ 0)) with hc12 | hc12
    ·
      rw [hc12]
      refine cond_true_rule (b := true) (by kernel_rfl) rfl ?_
      refine wp_seq ?_
      refine region_rule ?_
      refine ops_rule (C := []) [((φ1 0), .cells #[.int .u64 0, .pointer none] 27), ((φ10 0), .cells #[.int .u64 ((b9 : Nat) : Int), .pointer p9] 27)] [] 5 [.o 0, .o 0] 0 (fun φ13 => [(4, .int .i64 ((errB l : Nat) : Int)), (3, .string ⟨#[]⟩), (56, .int .i64 ((errB l : Nat) : Int)), (55, .agg #[.int .u64 0, .pointer none])]) (fun φ13 => [((φ1 0), .cells #[.int .u64 0, .pointer none] 27), ((φ10 0), .cells #[.int .u64 ((b9 : Nat) : Int), .pointer p9] 27)]) (fun φ13 => [(φ1 0), (φ1 0)]) s trivial (fun φ13 => by kernel_rfl) ?_
      intro φ13 w13 s
      refine ops_done (by kernel_rfl) ?_
      refine wp_ret ?_
      refine ret_rule (C := []) [((φ1 0), .cells #[.int .u64 0, .pointer none] 27), ((φ10 0), .cells #[.int .u64 ((b9 : Nat) : Int), .pointer p9] 27)] [] (.tuple #[.agg #[.int .u64 0, .pointer none], .string ⟨#[]⟩, .int .i64 ((errB l : Nat) : Int)]) [.o 0, .o 0] [(φ1 0), (φ1 0)] s trivial (by kernel_rfl) ?_
      have hb9 := errB_bad (of_decide_eq_true hc12)
      have hb8 := bad_l (n := n) (l := l) (r := r) hb9
      exact ⟨_, _, _, rfl, s, ⟨0, none, [], by rw [errB_no hb8, errB_no hb9]; rfl, by rw [okE_no hb8]; exact ERep.lf _ _, fun q => absurd q hb8⟩⟩
    ·
      have tl := errB_ok (of_decide_eq_false hc12)
      rw [hc12]
      refine cond_false_rule (b := false) (by kernel_rfl) rfl ?_
      refine wp_skip ?_
      refine wp_seq ?_
      refine region_rule ?_
      refine ops_rule (C := []) [((φ1 0), .cells #[.int .u64 0, .pointer none] 27), ((φ10 0), .cells #[.int .u64 ((b9 : Nat) : Int), .pointer p9] 27)] [] 1 [] 0 (fun φ14 => [(58, .string ⟨(q9).toArray⟩)]) (fun φ14 => [((φ1 0), .cells #[.int .u64 0, .pointer none] 27), ((φ10 0), .cells #[.int .u64 ((b9 : Nat) : Int), .pointer p9] 27)]) (fun φ14 => []) s trivial (fun φ14 => by kernel_rfl) ?_
      intro φ14 w14 s
      refine sem_rule (Instr.sliceAt 9 (.string ⟨(q9).toArray⟩) (some (.int .i64 ((1 : Nat) : Int))) none none) (some 59) (.string ⟨(q9.drop 1).toArray⟩) (by kernel_rfl) (run_dropStr (s := q9) (lo := 1) under9 (by rw [h9_1 tl]; exact tk_pos h44)) ?_
      refine call_rule (some 60) s (ih (show rdG f (q9.drop 1) = some (r, s3) by rw [h9_1 tl]; exact hr) hdr (show (q9.drop 1).length ≤ 1000000 by rw [h9_1 tl]; simp only [List.length_drop]; omega)) (by kernel_rfl) ?_
      intro v15 I15 w15 le15 h15 s
      replace h9_0 := ERep.mono le15 h9_0
      obtain ⟨b15, p15, q15, rfl, h15_0, h15_1⟩ := h15
      refine ops_rule (C := []) [((φ1 0), .cells #[.int .u64 0, .pointer none] 27), ((φ10 0), .cells #[.int .u64 ((b9 : Nat) : Int), .pointer p9] 27)] [] 8 [.o 2, .o 2] 1 (fun φ16 => [(15, .int .i64 ((errB r : Nat) : Int)), (14, .string ⟨(q15).toArray⟩), (16, .pointer (some ⟨(φ16 0), 0, none⟩)), (63, .int .i64 ((errB r : Nat) : Int)), (62, .string ⟨(q15).toArray⟩), (61, .agg #[.int .u64 ((b15 : Nat) : Int), .pointer p15]), (57, .tuple #[.agg #[.int .u64 ((b15 : Nat) : Int), .pointer p15], .string ⟨(q15).toArray⟩, .int .i64 ((errB r : Nat) : Int)])]) (fun φ16 => [((φ1 0), .cells #[.int .u64 0, .pointer none] 27), ((φ10 0), .cells #[.int .u64 ((b9 : Nat) : Int), .pointer p9] 27), ((φ16 0), .cells #[.int .u64 ((b15 : Nat) : Int), .pointer p15] 27)]) (fun φ16 => [(φ16 0), (φ16 0)]) s trivial (fun φ16 => by kernel_rfl) ?_
      intro φ16 w16 s
      refine ops_done (by kernel_rfl) ?_
      refine wp_seq ?_
      refine wp_seq ?_
      refine region_rule ?_
      refine ops_rule (C := []) [((φ1 0), .cells #[.int .u64 0, .pointer none] 27), ((φ10 0), .cells #[.int .u64 ((b9 : Nat) : Int), .pointer p9] 27), ((φ16 0), .cells #[.int .u64 ((b15 : Nat) : Int), .pointer p15] 27)] [] 2 [] 0 (fun φ17 => [(65, .bool (((errB r : Nat) : Int) != ((0 : Nat) : Int))), (64, .int .i64 ((errB r : Nat) : Int))]) (fun φ17 => [((φ1 0), .cells #[.int .u64 0, .pointer none] 27), ((φ10 0), .cells #[.int .u64 ((b9 : Nat) : Int), .pointer p9] 27), ((φ16 0), .cells #[.int .u64 ((b15 : Nat) : Int), .pointer p15] 27)]) (fun φ17 => []) s trivial (fun φ17 => by kernel_rfl) ?_
      intro φ17 w17 s
      rw [nat_neq (a := (errB r)) (b := 0)]
      refine ops_done (by kernel_rfl) ?_
      rcases Bool.eq_false_or_eq_true (decide ((errB r) ≠ 0)) with hc18 | hc18
      ·
        rw [hc18]
        refine cond_true_rule (b := true) (by kernel_rfl) rfl ?_
        refine wp_seq ?_
        refine region_rule ?_
        refine ops_rule (C := []) [((φ1 0), .cells #[.int .u64 0, .pointer none] 27), ((φ10 0), .cells #[.int .u64 ((b9 : Nat) : Int), .pointer p9] 27), ((φ16 0), .cells #[.int .u64 ((b15 : Nat) : Int), .pointer p15] 27)] [] 5 [.o 0, .o 0] 0 (fun φ19 => [(4, .int .i64 ((errB r : Nat) : Int)), (3, .string ⟨#[]⟩), (67, .int .i64 ((errB r : Nat) : Int)), (66, .agg #[.int .u64 0, .pointer none])]) (fun φ19 => [((φ1 0), .cells #[.int .u64 0, .pointer none] 27), ((φ10 0), .cells #[.int .u64 ((b9 : Nat) : Int), .pointer p9] 27), ((φ16 0), .cells #[.int .u64 ((b15 : Nat) : Int), .pointer p15] 27)]) (fun φ19 => [(φ1 0), (φ1 0)]) s trivial (fun φ19 => by kernel_rfl) ?_
        intro φ19 w19 s
        refine ops_done (by kernel_rfl) ?_
        refine wp_ret ?_
        refine ret_rule (C := []) [((φ1 0), .cells #[.int .u64 0, .pointer none] 27), ((φ10 0), .cells #[.int .u64 ((b9 : Nat) : Int), .pointer p9] 27), ((φ16 0), .cells #[.int .u64 ((b15 : Nat) : Int), .pointer p15] 27)] [] (.tuple #[.agg #[.int .u64 0, .pointer none], .string ⟨#[]⟩, .int .i64 ((errB r : Nat) : Int)]) [.o 0, .o 0] [(φ1 0), (φ1 0)] s trivial (by kernel_rfl) ?_
        have hb9 := errB_bad (of_decide_eq_true hc18)
        have hb8 := bad_r (n := n) (l := l) (r := r) hb9
        exact ⟨_, _, _, rfl, s, ⟨0, none, [], by rw [errB_no hb8, errB_no hb9]; rfl, by rw [okE_no hb8]; exact ERep.lf _ _, fun q => absurd q hb8⟩⟩
      ·
        have tr := errB_ok (of_decide_eq_false hc18)
        rw [hc18]
        refine cond_false_rule (b := false) (by kernel_rfl) rfl ?_
        refine wp_skip ?_
        refine wp_seq ?_
        refine region_rule ?_
        refine ops_rule (C := []) [((φ1 0), .cells #[.int .u64 0, .pointer none] 27), ((φ10 0), .cells #[.int .u64 ((b9 : Nat) : Int), .pointer p9] 27), ((φ16 0), .cells #[.int .u64 ((b15 : Nat) : Int), .pointer p15] 27)] [] 3 [.o 1, .o 1, .o 2, .o 2] 0 (fun φ20 => [(71, .agg #[.int .u64 ((b15 : Nat) : Int), .pointer p15]), (70, .agg #[.int .u64 ((b9 : Nat) : Int), .pointer p9]), (69, .int .u64 ((n : Nat) : Int))]) (fun φ20 => [((φ1 0), .cells #[.int .u64 0, .pointer none] 27), ((φ10 0), .cells #[.int .u64 ((b9 : Nat) : Int), .pointer p9] 27), ((φ16 0), .cells #[.int .u64 ((b15 : Nat) : Int), .pointer p15] 27)]) (fun φ20 => [(φ10 0), (φ10 0), (φ16 0), (φ16 0)]) s trivial (fun φ20 => by kernel_rfl) ?_
        intro φ20 w20 s
        refine call_rule (some 72) s (nodeB_c (n := n) (l := l) (r := r) h9_0 h15_0 tl tr hm hd) (by kernel_rfl) ?_
        intro v21 I21 w21 le21 h21 s
        replace h9_0 := ERep.mono le21 h9_0
        replace h15_0 := ERep.mono le21 h15_0
        obtain ⟨b21, p21, rfl, h21_0⟩ := h21
        refine ops_rule (C := []) [((φ1 0), .cells #[.int .u64 0, .pointer none] 27), ((φ10 0), .cells #[.int .u64 ((b9 : Nat) : Int), .pointer p9] 27), ((φ16 0), .cells #[.int .u64 ((b15 : Nat) : Int), .pointer p15] 27)] [] 6 [.o 3, .o 3] 1 (fun φ22 => [(15, .int .i64 ((errB (E.node n l r) : Nat) : Int)), (17, .pointer (some ⟨(φ22 0), 0, none⟩)), (74, .int .i64 ((errB (E.node n l r) : Nat) : Int)), (73, .agg #[.int .u64 ((b21 : Nat) : Int), .pointer p21]), (68, .tuple #[.agg #[.int .u64 ((b21 : Nat) : Int), .pointer p21], .int .i64 ((errB (E.node n l r) : Nat) : Int)])]) (fun φ22 => [((φ1 0), .cells #[.int .u64 0, .pointer none] 27), ((φ10 0), .cells #[.int .u64 ((b9 : Nat) : Int), .pointer p9] 27), ((φ16 0), .cells #[.int .u64 ((b15 : Nat) : Int), .pointer p15] 27), ((φ22 0), .cells #[.int .u64 ((b21 : Nat) : Int), .pointer p21] 27)]) (fun φ22 => [(φ22 0), (φ22 0)]) s trivial (fun φ22 => by kernel_rfl) ?_
        intro φ22 w22 s
        refine ops_done (by kernel_rfl) ?_
        refine wp_seq ?_
        refine draw_rule (C := []) ⟨(fun φ23 xs23 => [.look 0 [.o 3, .o 3] [(φ22 0), (φ22 0)], .look 0 [] [], .ran (Instr.sliceAt 9 (.string ⟨(q15).toArray⟩) (some (.int .i64 ((1 : Nat) : Int))) none none), .look 0 [] [], .store 0 [.o 0, .o 0] [(φ1 0), (φ1 0)], .look 1 [] [], .look 1 [] []]), (fun φ23 xs23 => [.agg #[.int .u64 ((b21 : Nat) : Int), .pointer p21], .string ⟨(q15).toArray⟩, .string ⟨(q15.drop 1).toArray⟩, .int .i64 ((errB (E.node n l r) : Nat) : Int), undef, .string ⟨(q15.drop 1).toArray⟩, .int .i64 ((errB (E.node n l r) : Nat) : Int)]), (fun φ23 xs23 => [[((φ1 0), .cells #[.int .u64 0, .pointer none] 27), ((φ10 0), .cells #[.int .u64 ((b9 : Nat) : Int), .pointer p9] 27), ((φ16 0), .cells #[.int .u64 ((b15 : Nat) : Int), .pointer p15] 27), ((φ22 0), .cells #[.int .u64 ((b21 : Nat) : Int), .pointer p21] 27)], [((φ1 0), .cells #[.int .u64 ((b21 : Nat) : Int), .pointer p21] 27), ((φ10 0), .cells #[.int .u64 ((b9 : Nat) : Int), .pointer p9] 27), ((φ16 0), .cells #[.int .u64 ((b15 : Nat) : Int), .pointer p15] 27), ((φ22 0), .cells #[.int .u64 ((b21 : Nat) : Int), .pointer p21] 27)]]), (fun φ23 xs23 => [[default, default, default, default, default, default, default], [default, default, default, default, default, default, default]]), [4], [1, 1, 6, 1, 4, 1, 1]⟩ (fun j => ([MP.any, MP.any, MP.any, MP.any, MP.any, MP.any, MP.any] : List MP).getD j MP.any) [] [] [2] (fun φ23 xs23 => [[none, none, none, none, none, none, none]]) (fun φ23 xs23 => [(75, .agg #[.int .u64 ((b21 : Nat) : Int), .pointer p21]), (76, .string ⟨(q15).toArray⟩), (77, .string ⟨(q15.drop 1).toArray⟩), (78, .int .i64 ((errB (E.node n l r) : Nat) : Int)), (3, .string ⟨(q15.drop 1).toArray⟩), (4, .int .i64 ((errB (E.node n l r) : Nat) : Int))]) (fun φ23 xs23 => [((φ1 0), .cells #[.int .u64 ((b21 : Nat) : Int), .pointer p21] 27), ((φ10 0), .cells #[.int .u64 ((b9 : Nat) : Int), .pointer p9] 27), ((φ16 0), .cells #[.int .u64 ((b15 : Nat) : Int), .pointer p15] 27), ((φ22 0), .cells #[.int .u64 ((b21 : Nat) : Int), .pointer p21] 27)]) s trivial (by kernel_rfl) (by kernel_rfl) (fun _ _ => by kernel_rfl) (fun _ _ => by kernel_rfl) ⟨fun _ _ => by kernel_rfl, fun _ _ => by kernel_rfl, fun _ _ => by kernel_rfl, fun _ _ => by kernel_rfl⟩ (fun _ _ _ => by kernel_rfl) (fun _ _ => by kernel_rfl) (fun _ _ => by kernel_rfl) (fun _ _ => by kernel_rfl) (fun _ _ => by kernel_rfl) (fun _ _ => by kernel_rfl) trivial ⟨kcast (A := ∀ (φ23 : Nat → Nat) (xs23 : Xs) (J : IM) (w : World), I21.Le J → J.Sub w → ((Instr.sliceAt 9 (.string ⟨(q15).toArray⟩) (some (.int .i64 ((1 : Nat) : Int))) none none) : Sem Value).run Tryd.prog w = .ok (.string ⟨(q15.drop 1).toArray⟩) w) (by kernel_rfl) (fun φ23 xs23 J w hJ hS => run_dropStr (s := q15) (lo := 1) under9 (by rw [h15_1 tr]; exact tk_pos h41)), trivial⟩ (by kernel_rfl) trivial ?k23
        case k23 =>
          rintro φ23 xs23 I23 w23 le23 s 
          replace h9_0 := ERep.mono le23 h9_0
          replace h15_0 := ERep.mono le23 h15_0
          replace h21_0 := ERep.mono le23 h21_0
          refine wp_ret ?_
          refine ret_rule (C := []) [((φ1 0), .cells #[.int .u64 ((b21 : Nat) : Int), .pointer p21] 27), ((φ10 0), .cells #[.int .u64 ((b9 : Nat) : Int), .pointer p9] 27), ((φ16 0), .cells #[.int .u64 ((b15 : Nat) : Int), .pointer p15] 27), ((φ22 0), .cells #[.int .u64 ((b21 : Nat) : Int), .pointer p21] 27)] [] (.tuple #[.agg #[.int .u64 ((b21 : Nat) : Int), .pointer p21], .string ⟨(q15.drop 1).toArray⟩, .int .i64 ((errB (E.node n l r) : Nat) : Int)]) [.o 0, .o 0] [(φ1 0), (φ1 0)] s trivial (by kernel_rfl) ?_
          exact ⟨_, _, _, rfl, s, ⟨_, _, _, rfl, h21_0, fun _ => by rw [h15_1 tr]⟩⟩

end Go.Proofs.YtgdickihjaomjaaDoor
/- Any text is read: Parse. -/
set_option linter.all false
set_option maxRecDepth 100000
namespace Go.Proofs.YtgdickihjaomjaaDoor
open Go.RowKit Go.Sep
attribute [local irreducible] Go.wpList Go.Code.wp
theorem rd_short {f : Nat} {s : List UInt8} {t : E} {rest : List UInt8} (h : rdG f s = some (t, rest)) : rest.length ≤ s.length := by
  have := congrArg List.length (rd_text f s h).1
  rw [List.length_append] at this; omega
theorem build_f : ∀ (f : Nat) {I : IM} {s : List UInt8} {t : E} {rest : List UInt8}, rdG f s = some (t, rest) → t.depth ≤ 16 → s.length ≤ 1000000 → Fun Tryd.prog 77 #[.string ⟨(s).toArray⟩] I (fun v J => ∃ b p r', v = .tuple #[evv b p, .string ⟨(List.toArray r')⟩, .int .i64 ((errB t : Nat) : Int)] ∧ ERep J (okE t) b p ∧ (E.top t ≤ 1048576 → r' = rest))
  | 0, I, s, t, rest, h, _, _ => by cases h
  | f + 1, I, s, t, rest, h, hd, hs => by
    rcases rd_inv h with ⟨h40, n, k, hN, rfl, rfl⟩ | ⟨h40, n, k, l, r, s2, s3, hN, h44a, hl, h44, hr, h41, hm, rfl, rfl⟩
    · have h1 := numR_pos (s := s) (by rw [hN])
      have h2 := numR_le s
      rw [hN] at h1 h2
      simp only at h1 h2
      exact buildLf_c hs (by omega) (fun q => by
        have : tkB s 0 40 = true := decide_eq_true ⟨by omega, q⟩
        rw [this] at h40; cases h40) hN h2
    · have h1 := tk_pos h44a
      rw [List.length_drop] at h1
      have hd' : 1 + max l.depth r.depth ≤ 16 := hd
      have h5 := rd_short hl
      rw [List.length_drop] at h5
      exact buildNd_c (build_f f) hs (tk_pos h40) h40 hN (by omega) hl h44 hr h41 (pair_nf hm) hd (by omega) (by omega) (by omega)
/-- what Parse answers -/
def pErr (ss : List UInt8) : Nat := match rdG (ss.length + 1) ss with
  | some (t, []) => if 16 < t.depth then 3 else errB t
  | _ => 6
def pE (ss : List UInt8) : E := match rdG (ss.length + 1) ss with
  | some (t, []) => if 16 < t.depth then .leaf 0 else okE t
  | _ => .leaf 0
theorem p_none {ss : List UInt8} (h : ∀ t, ¬ rdG (ss.length + 1) ss = some (t, [])) : pErr ss = 6 ∧ pE ss = .leaf 0 := by
  unfold pErr pE
  split
  · rename_i t e; exact absurd e (h t)
  · exact ⟨rfl, rfl⟩
theorem p_deep {ss : List UInt8} {t : E} (h : rdG (ss.length + 1) ss = some (t, [])) (hd : 16 < t.depth) : pErr ss = 3 ∧ pE ss = .leaf 0 := by
  unfold pErr pE
  rw [h]
  exact ⟨if_pos hd, if_pos hd⟩
theorem p_ok {ss : List UInt8} {t : E} (h : rdG (ss.length + 1) ss = some (t, [])) (hd : ¬ 16 < t.depth) : pErr ss = errB t ∧ pE ss = okE t := by
  unfold pErr pE
  rw [h]
  exact ⟨if_neg hd, if_neg hd⟩

set_option maxHeartbeats 2000000 in
theorem parseG_c {I : IM} {ss : List UInt8} {dd : Nat} {ok : Bool} (hs : ss.length ≤ 1000000) (hS : scG ss (ss.length + 1) 0 [] 0 = (dd, ok)) : Fun Tryd.prog 31 #[.string ⟨(ss).toArray⟩] I (fun v J => ∃ b p, v = .tuple #[evv b p, .int .i64 ((pErr ss : Nat) : Int)] ∧ ERep J (pE ss) b p) := by
  refine enter_rule 28 [(0, .string ⟨(ss).toArray⟩)] Tryd.func31 rfl (by kernel_rfl) ?_
  intro w s
  refine wp_seq ?_
  refine region_rule ?_
  refine ops_rule (C := []) [] [] 2 [] 1 (fun φ1 => [(3, .int .i64 0), (2, .pointer (some ⟨(φ1 0), 0, none⟩))]) (fun φ1 => [((φ1 0), .cells #[.int .u64 0, .pointer none] 27)]) (fun φ1 => []) s trivial (fun φ1 => by kernel_rfl) ?_
  intro φ1 w1 s
  refine ops_done (by kernel_rfl) ?_
  refine wp_seq ?_
  refine region_rule ?_
  refine ops_rule (C := []) [((φ1 0), .cells #[.int .u64 0, .pointer none] 27)] [] 1 [] 0 (fun φ2 => [(10, .string ⟨(ss).toArray⟩)]) (fun φ2 => [((φ1 0), .cells #[.int .u64 0, .pointer none] 27)]) (fun φ2 => []) s trivial (fun φ2 => by kernel_rfl) ?_
  intro φ2 w2 s
  refine call_rule (some 11) s (scanG_c hs hS) (by kernel_rfl) ?_
  intro v3 I3 w3 le3 h3 s
  obtain rfl := h3
  refine ops_rule (C := []) [((φ1 0), .cells #[.int .u64 0, .pointer none] 27)] [] 5 [] 0 (fun φ4 => [(5, .bool ok), (4, .int .i64 ((dd : Nat) : Int)), (13, .bool ok), (12, .int .i64 ((dd : Nat) : Int)), (9, .tuple #[.int .i64 ((dd : Nat) : Int), .bool ok])]) (fun φ4 => [((φ1 0), .cells #[.int .u64 0, .pointer none] 27)]) (fun φ4 => []) s trivial (fun φ4 => by kernel_rfl) ?_
  intro φ4 w4 s
  refine ops_done (by kernel_rfl) ?_
  refine wp_seq ?_
  refine wp_seq ?_
  refine region_rule ?_
  refine ops_rule (C := []) [((φ1 0), .cells #[.int .u64 0, .pointer none] 27)] [] 2 [] 0 (fun φ5 => [(15, .bool (!(ok))), (14, .bool ok)]) (fun φ5 => [((φ1 0), .cells #[.int .u64 0, .pointer none] 27)]) (fun φ5 => []) s trivial (fun φ5 => by kernel_rfl) ?_
  intro φ5 w5 s
  refine ops_done (by kernel_rfl) ?_
  rcases Bool.eq_false_or_eq_true (ok) with hc6 | hc6
  ·
    obtain ⟨t, ht, hdd⟩ := (scan_all hS).1 hc6
    rw [hc6]
    refine cond_false_rule (b := false) (by kernel_rfl) rfl ?_
    refine wp_skip ?_
    refine wp_seq ?_
    refine wp_seq ?_
    refine region_rule ?_
    refine ops_rule (C := []) [((φ1 0), .cells #[.int .u64 0, .pointer none] 27)] [] 2 [] 0 (fun φ7 => [(18, .bool (decide (((dd : Nat) : Int) > ((16 : Nat) : Int)))), (17, .int .i64 ((dd : Nat) : Int))]) (fun φ7 => [((φ1 0), .cells #[.int .u64 0, .pointer none] 27)]) (fun φ7 => []) s trivial (fun φ7 => by kernel_rfl) ?_
    intro φ7 w7 s
    rw [nat_gtr (a := dd) (b := 16)]
    refine ops_done (by kernel_rfl) ?_
    rcases Bool.eq_false_or_eq_true (decide (16 < dd)) with hc8 | hc8
    ·
      have hz9 := p_deep ht (by have := of_decide_eq_true hc8; omega)
      rw [hc8]
      refine cond_true_rule (b := true) (by kernel_rfl) rfl ?_
      refine wp_seq ?_
      refine region_rule ?_
      refine ops_rule (C := []) [((φ1 0), .cells #[.int .u64 0, .pointer none] 27)] [] 3 [.o 0, .o 0] 0 (fun φ9 => [(3, .int .i64 3), (19, .agg #[.int .u64 0, .pointer none])]) (fun φ9 => [((φ1 0), .cells #[.int .u64 0, .pointer none] 27)]) (fun φ9 => [(φ1 0), (φ1 0)]) s trivial (fun φ9 => by kernel_rfl) ?_
      intro φ9 w9 s
      refine ops_done (by kernel_rfl) ?_
      refine wp_ret ?_
      refine ret_rule (C := []) [((φ1 0), .cells #[.int .u64 0, .pointer none] 27)] [] (.tuple #[.agg #[.int .u64 0, .pointer none], .int .i64 3]) [.o 0, .o 0] [(φ1 0), (φ1 0)] s trivial (by kernel_rfl) ?_
      exact ⟨_, _, _, rfl, s, ⟨0, none, by rw [hz9.1]; rfl, by rw [hz9.2]; exact ERep.lf _ _⟩⟩
    ·
      have hb9 := of_decide_eq_false hc8
      have hz9 := p_ok ht (by omega)
      rw [hc8]
      refine cond_false_rule (b := false) (by kernel_rfl) rfl ?_
      refine wp_skip ?_
      refine wp_seq ?_
      refine region_rule ?_
      refine ops_rule (C := []) [((φ1 0), .cells #[.int .u64 0, .pointer none] 27)] [] 1 [] 0 (fun φ10 => [(21, .string ⟨(ss).toArray⟩)]) (fun φ10 => [((φ1 0), .cells #[.int .u64 0, .pointer none] 27)]) (fun φ10 => []) s trivial (fun φ10 => by kernel_rfl) ?_
      intro φ10 w10 s
      refine call_rule (some 22) s (build_f _ ht (by omega) hs) (by kernel_rfl) ?_
      intro v11 I11 w11 le11 h11 s
      obtain ⟨b11, p11, q11, rfl, h11_0, h11_1⟩ := h11
      refine ops_rule (C := []) [((φ1 0), .cells #[.int .u64 0, .pointer none] 27)] [] 8 [.o 1, .o 1] 1 (fun φ12 => [(8, .int .i64 ((errB t : Nat) : Int)), (7, .string ⟨(q11).toArray⟩), (6, .pointer (some ⟨(φ12 0), 0, none⟩)), (25, .int .i64 ((errB t : Nat) : Int)), (24, .string ⟨(q11).toArray⟩), (23, .agg #[.int .u64 ((b11 : Nat) : Int), .pointer p11]), (20, .tuple #[.agg #[.int .u64 ((b11 : Nat) : Int), .pointer p11], .string ⟨(q11).toArray⟩, .int .i64 ((errB t : Nat) : Int)])]) (fun φ12 => [((φ1 0), .cells #[.int .u64 0, .pointer none] 27), ((φ12 0), .cells #[.int .u64 ((b11 : Nat) : Int), .pointer p11] 27)]) (fun φ12 => [(φ12 0), (φ12 0)]) s trivial (fun φ12 => by kernel_rfl) ?_
      intro φ12 w12 s
      refine ops_done (by kernel_rfl) ?_
      refine wp_seq ?_
      refine region_rule ?_
      refine ops_rule (C := []) [((φ1 0), .cells #[.int .u64 0, .pointer none] 27), ((φ12 0), .cells #[.int .u64 ((b11 : Nat) : Int), .pointer p11] 27)] [] 4 [.o 1, .o 1, .o 0, .o 0] 0 (fun φ13 => [(3, .int .i64 ((errB t : Nat) : Int)), (27, .int .i64 ((errB t : Nat) : Int)), (26, .agg #[.int .u64 ((b11 : Nat) : Int), .pointer p11])]) (fun φ13 => [((φ1 0), .cells #[.int .u64 ((b11 : Nat) : Int), .pointer p11] 27), ((φ12 0), .cells #[.int .u64 ((b11 : Nat) : Int), .pointer p11] 27)]) (fun φ13 => [(φ12 0), (φ12 0), (φ1 0), (φ1 0)]) s trivial (fun φ13 => by kernel_rfl) ?_
      intro φ13 w13 s
      refine ops_done (by kernel_rfl) ?_
      refine wp_ret ?_
      refine ret_rule (C := []) [((φ1 0), .cells #[.int .u64 ((b11 : Nat) : Int), .pointer p11] 27), ((φ12 0), .cells #[.int .u64 ((b11 : Nat) : Int), .pointer p11] 27)] [] (.tuple #[.agg #[.int .u64 ((b11 : Nat) : Int), .pointer p11], .int .i64 ((errB t : Nat) : Int)]) [.o 0, .o 0] [(φ1 0), (φ1 0)] s trivial (by kernel_rfl) ?_
      exact ⟨_, _, _, rfl, s, ⟨_, _, by rw [hz9.1], by rw [hz9.2]; exact h11_0⟩⟩
  ·
    have hz9 := p_none ((scan_all hS).2 hc6)
    rw [hc6]
    refine cond_true_rule (b := true) (by kernel_rfl) rfl ?_
    refine wp_seq ?_
    refine region_rule ?_
    refine ops_rule (C := []) [((φ1 0), .cells #[.int .u64 0, .pointer none] 27)] [] 3 [.o 0, .o 0] 0 (fun φ14 => [(3, .int .i64 6), (16, .agg #[.int .u64 0, .pointer none])]) (fun φ14 => [((φ1 0), .cells #[.int .u64 0, .pointer none] 27)]) (fun φ14 => [(φ1 0), (φ1 0)]) s trivial (fun φ14 => by kernel_rfl) ?_
    intro φ14 w14 s
    refine ops_done (by kernel_rfl) ?_
    refine wp_ret ?_
    refine ret_rule (C := []) [((φ1 0), .cells #[.int .u64 0, .pointer none] 27)] [] (.tuple #[.agg #[.int .u64 0, .pointer none], .int .i64 6]) [.o 0, .o 0] [(φ1 0), (φ1 0)] s trivial (by kernel_rfl) ?_
    exact ⟨_, _, _, rfl, s, ⟨0, none, by rw [hz9.1]; rfl, by rw [hz9.2]; exact ERep.lf _ _⟩⟩

theorem parseA_c {I : IM} {ss : List UInt8} (hs : ss.length ≤ 1000000) : Fun Tryd.prog 31 #[.string ⟨(ss).toArray⟩] I (fun v J => ∃ b p, v = .tuple #[evv b p, .int .i64 ((pErr ss : Nat) : Int)] ∧ ERep J (pE ss) b p) := parseG_c (dd := (scG ss (ss.length + 1) 0 [] 0).1) (ok := (scG ss (ss.length + 1) 0 [] 0).2) hs rfl

end Go.Proofs.YtgdickihjaomjaaDoor
