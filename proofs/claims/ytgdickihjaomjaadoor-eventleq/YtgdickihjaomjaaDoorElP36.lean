/- Of any two trees: at most, and joined, place by place; texts tell trees apart. -/
import Derived.Test.YtgdickihjaomjaaDoorElP35
import Derived.Test.YtgdickihjaomjaaDoorElS11
set_option linter.all false
set_option maxRecDepth 100000
namespace Go.Proofs.YtgdickihjaomjaaDoor
open Go.RowKit Go.Sep
attribute [local irreducible] Go.wpList Go.Code.wp
def isDg (c : UInt8) : Prop := 48 ≤ c.toNat ∧ c.toNat ≤ 57
theorem dg_one (k : Nat) : isDg (UInt8.ofNat (48 + k % 10)) ∧ (UInt8.ofNat (48 + k % 10)).toNat = 48 + k % 10 := by
  have h : (UInt8.ofNat (48 + k % 10)).toNat = 48 + k % 10 := by rw [UInt8.toNat_ofNat']; omega
  refine ⟨?_, h⟩
  unfold isDg; rw [h]; omega
theorem dec_dg (n : Nat) : ∀ c ∈ Lib.decDigits n, isDg c := by
  induction n using Nat.strongRecOn with
  | ind n ih =>
    intro c hc
    by_cases h : n < 10
    · rw [decDigits_small h] at hc
      simp only [List.mem_singleton] at hc
      subst hc; exact (dg_one n).1
    · rw [decDigits_big h] at hc
      rcases List.mem_append.1 hc with hc | hc
      · exact ih (n / 10) (by omega) c hc
      · simp only [List.mem_singleton] at hc
        subst hc; exact (dg_one n).1
def valD (l : List UInt8) : Nat := l.foldl (fun a c => a * 10 + (c.toNat - 48)) 0
theorem val_dec (n : Nat) : valD (Lib.decDigits n) = n := by
  induction n using Nat.strongRecOn with
  | ind n ih =>
    by_cases h : n < 10
    · rw [decDigits_small h]
      have := (dg_one n).2
      simp only [valD, List.foldl_cons, List.foldl_nil, this]; omega
    · rw [decDigits_big h]
      have h1 := ih (n / 10) (by omega)
      have := (dg_one n).2
      unfold valD at h1 ⊢
      rw [List.foldl_append, h1]
      simp only [List.foldl_cons, List.foldl_nil, this]; omega
theorem dec_inj {n m : Nat} (h : Lib.decDigits n = Lib.decDigits m) : n = m := by rw [← val_dec n, ← val_dec m, h]
theorem dec_ne (n : Nat) : Lib.decDigits n ≠ [] := by
  by_cases h : n < 10
  · rw [decDigits_small h]; simp
  · rw [decDigits_big h]; simp
def nd (s : List UInt8) : Prop := ∀ c, s.head? = some c → ¬ isDg c
theorem dg_cut : ∀ (x y s t : List UInt8), (∀ c ∈ x, isDg c) → (∀ c ∈ y, isDg c) → nd s → nd t → x ++ s = y ++ t → x = y ∧ s = t
  | [], [], s, t, _, _, _, _, h => ⟨rfl, h⟩
  | [], b :: y, s, t, _, hy, hs, _, h => by
    have h' : s = b :: (y ++ t) := h
    exact absurd (hy b (.head _)) (hs b (by rw [h']; rfl))
  | a :: x, [], s, t, hx, _, _, ht, h => by
    have h' : a :: (x ++ s) = t := h
    exact absurd (hx a (.head _)) (ht a (by rw [← h']; rfl))
  | a :: x, b :: y, s, t, hx, hy, hs, ht, h => by
    simp only [List.cons_append, List.cons.injEq] at h
    obtain ⟨h1, h2⟩ := dg_cut x y s t (fun c hc => hx c (.tail _ hc)) (fun c hc => hy c (.tail _ hc)) hs ht h.2
    exact ⟨by rw [h.1, h1], h2⟩
theorem nd_sign {c : UInt8} {s : List UInt8} (h : ¬ isDg c) : nd (c :: s) := fun d hd => by
  simp only [List.head?_cons, Option.some.injEq] at hd
  subst hd; exact h
theorem no40 : ¬ isDg 40 := by unfold isDg; decide
theorem no44 : ¬ isDg 44 := by unfold isDg; decide
theorem no41 : ¬ isDg 41 := by unfold isDg; decide
theorem leaf_node {n m : Nat} {l r : E} {s t : List UInt8} (h : textE (.leaf n) ++ s = textE (.node m l r) ++ t) : False := by
  have h' : Lib.decDigits n ++ s = 40 :: (Lib.decDigits m ++ [44] ++ textE l ++ [44] ++ textE r ++ [41] ++ t) := by
    rw [show textE (.leaf n) = Lib.decDigits n from rfl] at h
    rw [h]; simp [textE, List.append_assoc]
  cases hd : Lib.decDigits n with
  | nil => exact dec_ne n hd
  | cons a x =>
    rw [hd] at h'
    simp only [List.cons_append, List.cons.injEq] at h'
    exact no40 (h'.1 ▸ dec_dg n a (by rw [hd]; exact .head _))
theorem text_cut : ∀ (A B : E) (s t : List UInt8), nd s → nd t → textE A ++ s = textE B ++ t → A = B ∧ s = t
  | .leaf n, .leaf m, s, t, hs, ht, h => by
    obtain ⟨h1, h2⟩ := dg_cut _ _ s t (dec_dg n) (dec_dg m) hs ht h
    exact ⟨by rw [dec_inj h1], h2⟩
  | .leaf n, .node m l r, s, t, hs, ht, h => (leaf_node h).elim
  | .node m l r, .leaf n, s, t, hs, ht, h => (leaf_node h.symm).elim
  | .node n l r, .node m l' r', s, t, hs, ht, h => by
    simp only [textE, List.append_assoc, List.cons_append, List.nil_append, List.cons.injEq, true_and] at h
    obtain ⟨h1, h2⟩ := dg_cut _ _ _ _ (dec_dg n) (dec_dg m) (nd_sign no44) (nd_sign no44) h
    simp only [List.cons.injEq, true_and] at h2
    obtain ⟨h3, h4⟩ := text_cut l l' _ _ (nd_sign no44) (nd_sign no44) h2
    simp only [List.cons.injEq, true_and] at h4
    obtain ⟨h5, h6⟩ := text_cut r r' _ _ (nd_sign no41) (nd_sign no41) h4
    simp only [List.cons.injEq, true_and] at h6
    exact ⟨by rw [dec_inj h1, h3, h5], h6⟩
theorem text_inj {A B : E} (h : textE A = textE B) : A = B := (text_cut A B [] [] (fun c hc => by cases hc) (fun c hc => by cases hc) (by rw [h])).1
theorem e_of_at {d : Nat} {A B : E} (hA : A.nf) (hB : B.nf) (a : A.depth ≤ d) (b : B.depth ≤ d) (h : ∀ k, k < 2 ^ d → hAt d A k = hAt d B k) : A = B := by
  rw [← ofA_eq d A (hAt d A) 0 hA a (fun j _ => by rw [Nat.zero_add])]
  exact ofA_eq d B (hAt d A) 0 hB b (fun j hj => by rw [Nat.zero_add]; exact h j hj)
theorem same_text {A B : E} (oA : A.ok) (oB : B.ok) : (leqF 64 A B && leqF 64 B A) = ((⟨(textE A).toArray⟩ : ByteArray).toList == (⟨(textE B).toArray⟩ : ByteArray).toList) := by
  have hx : ∀ l : List UInt8, (⟨l.toArray⟩ : ByteArray).toList = l := fun l => by rw [ByteArray.toList_eq]
  rw [hx, hx, Bool.eq_iff_iff, Bool.and_eq_true, beq_iff_eq]
  have q1 := leq_at oA oB
  have q2 := leq_at oB oA
  obtain ⟨a1, a2, a3⟩ := oA
  obtain ⟨b1, b2, b3⟩ := oB
  constructor
  · rintro ⟨h1, h2⟩
    have e : A = B := e_of_at (d := 16) a1 b1 (by omega) (by omega) (fun k hk => Nat.le_antisymm (q1.1 h1 k hk) (q2.1 h2 k hk))
    rw [e]
  · intro h
    have e := text_inj h
    subst e
    exact ⟨q1.2 (fun k _ => Nat.le_refl _), q2.2 (fun k _ => Nat.le_refl _)⟩
theorem sameText_c {I : IM} {C D : E} {bc bd : Nat} {pc pd : Option Addr} (hC : ERep I C bc pc) (hD : ERep I D bd pd) (oC : C.ok) (oD : D.ok) : Fun Tryd.prog 30 #[evv bc pc, evv bd pd] I (fun v J => v = .bool ((⟨(textE C).toArray⟩ : ByteArray).toList == (⟨(textE D).toArray⟩ : ByteArray).toList)) := by
  have e := same_text oC oD
  obtain ⟨c1, c2, c3⟩ := oC
  obtain ⟨d1, d2, d3⟩ := oD
  exact (same_c hC hD (by omega) (by omega) (by omega) (by omega)).mono fun v J _ hv => by first | (rw [hv, ← e]; done) | (rw [hv, ← e]; rfl)
theorem sameUp_c {I : IM} {C D : E} {bc bd : Nat} {pc pd : Option Addr} (hC : ERep I (joinF 64 C D) bc pc) (hD : ERep I D bd pd) (oC : C.ok) (oD : D.ok) (h : leqF 64 C D = true) : Fun Tryd.prog 30 #[evv bc pc, evv bd pd] I (fun v J => v = .bool true) := by
  obtain ⟨oJ, hj⟩ := ok_join oC oD
  have q := (leq_at oC oD).1 h
  refine (sameText_c hC hD oJ oD).mono fun v J _ hv => ?_
  rw [hv, ← same_text oJ oD, (leq_at oJ oD).2 (fun k hk => by rw [hj]; have := q k hk; omega), (leq_at oD oJ).2 (fun k hk => by rw [hj]; omega)]; rfl
theorem hL_map (d : Nat) (e : E) : (hL d e).map cU = (List.range (2 ^ d)).map fun j => cU (hAt d e j) := by
  apply List.ext_getElem?
  intro k
  rw [List.getElem?_map, List.getElem?_map]
  by_cases hk : k < 2 ^ d
  · rw [hL_get d e k hk, List.getElem?_range hk]; rfl
  · rw [List.getElem?_eq_none (by rw [hL_len]; omega), List.getElem?_eq_none (by rw [List.length_range]; omega)]; rfl
def mixL (d : Nat) (A B : E) (i : Nat) : List Value := (List.range (2 ^ d)).map fun j => cU (if j < i then max (hAt d A j) (hAt d B j) else hAt d A j)
theorem mix_zero (d : Nat) (A B : E) : (hL d A).map cU = mixL d A B 0 := by
  rw [hL_map]; unfold mixL
  exact List.map_congr_left fun j _ => by rw [if_neg (Nat.not_lt_zero j)]
theorem mix_step {d : Nat} {A B : E} {i : Nat} (hi : i < 2 ^ d) : (mixL d A B i).set i (cU (max (hAt d A i) (hAt d B i))) = mixL d A B (i + 1) := by
  apply List.ext_getElem?
  intro k
  rw [List.getElem?_set]
  unfold mixL
  rw [List.length_map, List.length_range, List.getElem?_map, List.getElem?_map]
  by_cases hk : k < 2 ^ d
  · rw [List.getElem?_range hk]
    by_cases hik : i = k
    · subst hik
      rw [if_pos rfl, if_pos hi]
      simp only [Option.map_some]
      rw [if_pos (Nat.lt_succ_self i)]
    · rw [if_neg hik]
      simp only [Option.map_some]
      by_cases h2 : k < i
      · rw [if_pos h2, if_pos (by omega)]
      · rw [if_neg h2, if_neg (by omega)]
  · rw [List.getElem?_eq_none (by rw [List.length_range]; omega), if_neg (by omega)]; simp
theorem mix_end {d : Nat} {A B : E} (oA : A.ok) (oB : B.ok) (a : A.depth ≤ d) (b : B.depth ≤ d) : mixL d A B (2 ^ d) = (hL d (joinF 64 A B)).map cU := by
  obtain ⟨a1, a2, a3⟩ := oA
  obtain ⟨b1, b2, b3⟩ := oB
  obtain ⟨j1, j2, j3⟩ := join_at 64 d a1 b1 (by omega) (by omega) a b
  rw [hL_map]; unfold mixL
  exact List.map_congr_left fun j hj => by rw [if_pos (List.mem_range.1 hj), j3]
theorem lq_end {d : Nat} {A B : E} (oA : A.ok) (oB : B.ok) (a : A.depth ≤ d) (b : B.depth ≤ d) : decide (∀ j, j < 2 ^ d → hAt d A j ≤ hAt d B j) = leqF 64 A B := by
  obtain ⟨a1, a2, a3⟩ := oA
  obtain ⟨b1, b2, b3⟩ := oB
  rw [Bool.eq_iff_iff, decide_eq_true_iff]
  exact (leq_iff 64 d A B a1 b1 (by omega) (by omega) a b).symm
theorem lq_t {d : Nat} {A B : E} {i : Nat} {q : Bool} (h : q = decide (∀ j, j < i → hAt d A j ≤ hAt d B j)) (hq : q = true) : decide (hAt d A i ≤ hAt d B i) = decide (∀ j, j < i + 1 → hAt d A j ≤ hAt d B j) := by
  rw [hq] at h
  have h' := of_decide_eq_true h.symm
  rw [Bool.eq_iff_iff, decide_eq_true_iff, decide_eq_true_iff]
  constructor
  · intro hi j hj
    rcases Nat.lt_or_ge j i with h1 | h1
    · exact h' j h1
    · rw [show j = i by omega]; exact hi
  · intro hj; exact hj i (Nat.lt_succ_self i)
theorem lq_f {d : Nat} {A B : E} {i : Nat} {q : Bool} (h : q = decide (∀ j, j < i → hAt d A j ≤ hAt d B j)) (hq : q = false) : false = decide (∀ j, j < i + 1 → hAt d A j ≤ hAt d B j) := by
  rw [hq] at h
  have h' := of_decide_eq_false h.symm
  exact (decide_eq_false (fun q => h' (fun j hj => q j (by omega)))).symm
theorem hc_at {d : Nat} {e : E} {k : Nat} (h : k < 2 ^ d) : ((hL d e).map cU)[k]? = some (.int .u64 ((hAt d e k : Nat) : Int)) := by
  rw [List.getElem?_map, hL_get d e k h]; rfl
theorem row_newN (g : Nat) : RowH 24 1 (.slice (some ⟨g, 0, none⟩) 0 0) 0 [] [(g, .cells #[] 24)] :=
  ⟨rfl, .inr ⟨g, 0, #[], rfl, rfl, Nat.le_refl _, by decide, rfl, rfl⟩⟩
theorem rowN_open {v : Value} {n : Nat} {xs : List Value} {F : List OB} (h : RowH 24 1 v n xs F) (hn : 0 < n) : ∃ g cap cur, v = .slice (some ⟨g, 0, none⟩) n cap ∧ F = [(g, .cells cur 24)] ∧ n ≤ cap ∧ cur.size = cap ∧ cur.toList.take n = xs := by
  rcases h.2 with ⟨_, h0, _⟩ | ⟨g, cap, cur, hv, hF, hnc, hcm, hcs, ht⟩
  · omega
  · exact ⟨g, cap, cur, hv, hF, hnc, by omega, by rw [Nat.mul_one] at ht; exact ht⟩
theorem storeN {w0 : World} {I0 : IM} {m : List Nat} {I : IM} {w : World} {H : List OB} {q g i x : Nat} {cur : Array Value} (s : St w0 I0 m I w (H ++ [])) (hq : H[q]? = some (g, .cells cur 24)) (hi : i < cur.size) :
    ∃ w', (Instr.storeAt 24 (.pointer (some ⟨g, i, none⟩)) (.int .u64 ((x : Nat) : Int))).run Tryd.prog w = .ok () w' ∧ St w0 I0 m I w' (H.set q (g, .cells (cur.setIfInBounds i (.int .u64 ((x : Nat) : Int))) 24)) := by
  rw [List.append_nil] at s
  have hb : w.heap[g]? = some (.cells cur 24 (0, 0)) := s.own (g, _) (List.mem_of_getElem? hq)
  have hcell : w.cell? ⟨g, i, none⟩ = some cur[i] := by rw [run_cell (a := ⟨g, i, none⟩) hb rfl rfl]; simp [hi]
  have hfz : w.frozen? ⟨g, i, none⟩ = false := by rw [Go.Sep.run_frozen (a := ⟨g, i, none⟩) hb rfl]; simp
  have e : (Instr.storeAt 24 (.pointer (some ⟨g, i, none⟩)) (.int .u64 ((x : Nat) : Int))).run Tryd.prog w = (store ⟨g, i, none⟩ (.int .u64 ((x : Nat) : Int))).run Tryd.prog w := by kernel_rfl
  refine ⟨w.setCell ⟨g, i, none⟩ (.int .u64 ((x : Nat) : Int)), ?_, ?_⟩
  · rw [e]; simp only [store, Sem.run, hcell, hfz]; rfl
  · exact St.set (w' := w.setCell ⟨g, i, none⟩ (.int .u64 ((x : Nat) : Int))) (o' := .cells (cur.setIfInBounds i (.int .u64 ((x : Nat) : Int))) 24) s hq rfl rfl rfl (by simp [World.setCell]) (by
        show (w.heap.modify g _)[g]? = _
        rw [Array.getElem?_modify]; simp [hb]) (fun z hz => by
        show (w.heap.modify g _)[z]? = _
        rw [Array.getElem?_modify, if_neg (fun h => hz h.symm)])
theorem leMono9 {A I J : IM} (le : I.Le J) (h : A.Le I) : A.Le J := h.trans le

set_option maxHeartbeats 400000 in
theorem cloneN_c {I : IM} {L : List Nat} {b n c : Nat} (hv : VS I 24 (L.map cU) b) (hn : L.length = n) (h0 : n ≤ 1000000) : FunM Tryd.prog 27 #[.slice (some ⟨b, 0, none⟩) n c] I [] (fun v J F => RowH 24 1 v n (L.map cU) F) := by
  refine enterM_rule 8 [(0, .slice (some ⟨b, 0, none⟩) n c)] Tryd.func27 rfl (by kernel_rfl) ?_
  intro w s
  refine wp_seq ?_
  refine region_rule ?_
  refine ops_rule (C := []) [] [] 1 [] 0 (fun φ1 => [(2, .slice none 0 0)]) (fun φ1 => []) (fun φ1 => []) s trivial (fun φ1 => by kernel_rfl) ?_
  intro φ1 w1 s
  refine ops_done (by kernel_rfl) ?_
  refine wp_seq ?_
  refine wp_seq ?_
  refine region_rule ?_
  refine ops_rule (C := []) [] [] 1 [] 0 (fun φ2 => [(3, .slice (some ⟨b, 0, none⟩) n c)]) (fun φ2 => []) (fun φ2 => []) s trivial (fun φ2 => by kernel_rfl) ?_
  intro φ2 w2 s
  refine sem_rule (binOp .eql 37 (.slice (some ⟨b, 0, none⟩) n c) (.slice none 0 0)) (some 4) (.bool false) (by kernel_rfl) ((by kernel_rfl : (binOp .eql 37 (.slice (some ⟨b, 0, none⟩) n c) (.slice none 0 0)).run Tryd.prog w2 = .ok (.bool false) w2)) ?_
  refine ops_done (by kernel_rfl) ?_
  refine cond_false_rule (b := false) (by kernel_rfl) rfl ?_
  refine wp_skip ?_
  refine wp_seq ?_
  refine region_rule ?_
  refine ops_rule (C := []) [] [] 2 [] 1 (fun φ3 => [(6, .slice (some ⟨b, 0, none⟩) n c), (5, .slice (some ⟨(φ3 0), 0, none⟩) 0 0)]) (fun φ3 => [((φ3 0), .cells #[] 24)]) (fun φ3 => []) s trivial (fun φ3 => by kernel_rfl) ?_
  intro φ3 w3 s
  refine append_rule (H := []) (F := [((φ3 0), .cells #[] 24)]) 37 37 24 Tryd.t24 (.int .u64 0) 1 8 (some 7) s Tryd.underlying37 (by kernel_rfl) (by kernel_rfl) (by kernel_rfl) (by kernel_rfl) (by kernel_rfl) (by decide) (row_newN (φ3 0)) (src_frozen (c := c) s.sub hv Tryd.underlying37 (show (L.map cU).length = n from by rw [List.length_map, hn]) (one_cU L)) (by simp only [maxLen]; omega) (by omega) (by kernel_rfl) ?_
  intro v4 w4 F4 s h4
  rw [Nat.zero_add, List.nil_append] at h4
  refine ops_rule (C := []) [] F4 1 [] 0 (fun φ5 => [(2, v4)]) (fun φ5 => []) (fun φ5 => []) s trivial (fun φ5 => by kernel_rfl) ?_
  intro φ5 w5 s
  refine ops_done (by kernel_rfl) ?_
  refine wp_ret ?_
  refine ret_rule (C := []) [] F4 (v4) [] [] s trivial (by kernel_rfl) ?_
  replace s := s.drop (List.sublist_append_right [] F4)
  exact ⟨_, _, _, rfl, s, h4⟩

theorem two_small {A B : E} (hA : A.nf ∧ A.depth ≤ 6 ∧ A.top ≤ 7 + 3 * 6) (hB : B.nf ∧ B.depth ≤ 6 ∧ B.top ≤ 7 + 3 * 6) : 2 ^ (max A.depth B.depth) ≤ 1000000 := by
  have h1 : max A.depth B.depth ≤ 6 := by have := hA.2.1; have := hB.2.1; omega
  exact Nat.le_trans (Nat.pow_le_pow_right (by decide) h1) (by decide)

theorem ok_small {e : E} (h : e.ok) : e.nf ∧ e.depth ≤ 7 ∧ e.top ≤ 1000 := ⟨h.1, by have := h.2.1; omega, by have := h.2.2; omega⟩
theorem jdep {A B : E} (oA : A.ok) (oB : B.ok) : (joinF 64 A B).depth ≤ max A.depth B.depth := by
  obtain ⟨a1, a2, a3⟩ := oA
  obtain ⟨b1, b2, b3⟩ := oB
  exact (join_at 64 (max A.depth B.depth) a1 b1 (by omega) (by omega) (by omega) (by omega)).2.1

set_option maxHeartbeats 8000000 in
theorem eventLeq_c {I : IM} (hT : Tab I) {la lb : List UInt8} {va vb : Value} (hla : BSl I la va) (hlb : BSl I lb vb) : Fun Tryd.prog 4 #[va, vb] I (fun v J => v = .bool true) := by
  refine enter_rule 115 [(0, va), (1, vb)] Tryd.func4 rfl (by kernel_rfl) ?_
  intro w s
  refine wp_seq ?_
  refine region_rule ?_
  refine ops_rule (C := []) [] [] 1 [] 0 (fun φ1 => [(4, .bool false)]) (fun φ1 => []) (fun φ1 => []) s trivial (fun φ1 => by kernel_rfl) ?_
  intro φ1 w1 s
  refine ops_done (by kernel_rfl) ?_
  refine wp_seq ?_
  refine wp_seq ?_
  refine region_rule ?_
  refine call_rule (some 16) s (awakeE_c hT) (by kernel_rfl) ?_
  intro v2 I2 w2 le2 h2 s
  replace hT := Tab.mono le2 hT
  replace hla := BSl.mono le2 hla
  replace hlb := BSl.mono le2 hlb
  obtain rfl := h2
  refine ops_rule (C := []) [] [] 1 [] 0 (fun φ3 => [(17, .bool false)]) (fun φ3 => []) (fun φ3 => []) s trivial (fun φ3 => by kernel_rfl) ?_
  intro φ3 w3 s
  refine ops_done (by kernel_rfl) ?_
  refine cond_false_rule (b := false) (by kernel_rfl) rfl ?_
  refine wp_skip ?_
  refine wp_seq ?_
  refine region_rule ?_
  refine ops_rule (C := []) [] [] 1 [] 0 (fun φ4 => [(19, va)]) (fun φ4 => []) (fun φ4 => []) s trivial (fun φ4 => by kernel_rfl) ?_
  intro φ4 w4 s
  refine call_rule (some 20) s (madeE_c hla) (by kernel_rfl) ?_
  intro v5 I5 w5 le5 h5 s
  replace hT := Tab.mono le5 hT
  replace hla := BSl.mono le5 hla
  replace hlb := BSl.mono le5 hlb
  obtain ⟨b5, q5, k5, e5, rfl, h5_0, h5_1, h5_2⟩ := h5
  refine ops_rule (C := []) [] [] 6 [.o 0, .o 0] 1 (fun φ6 => [(6, .pointer (some ⟨k5, 0, none⟩)), (5, .pointer (some ⟨(φ6 0), 0, none⟩)), (22, .pointer (some ⟨k5, 0, none⟩)), (21, .agg #[.int .u64 ((b5 : Nat) : Int), .pointer q5]), (18, .tuple #[.agg #[.int .u64 ((b5 : Nat) : Int), .pointer q5], .pointer (some ⟨k5, 0, none⟩)])]) (fun φ6 => [((φ6 0), .cells #[.int .u64 ((b5 : Nat) : Int), .pointer q5] 27)]) (fun φ6 => [(φ6 0), (φ6 0)]) s trivial (fun φ6 => by kernel_rfl) ?_
  intro φ6 w6 s
  refine ops_done (by kernel_rfl) ?_
  refine wp_seq ?_
  refine region_rule ?_
  refine ops_rule (C := []) [((φ6 0), .cells #[.int .u64 ((b5 : Nat) : Int), .pointer q5] 27)] [] 1 [] 0 (fun φ7 => [(24, vb)]) (fun φ7 => [((φ6 0), .cells #[.int .u64 ((b5 : Nat) : Int), .pointer q5] 27)]) (fun φ7 => []) s trivial (fun φ7 => by kernel_rfl) ?_
  intro φ7 w7 s
  refine call_rule (some 25) s (madeE_c hlb) (by kernel_rfl) ?_
  intro v8 I8 w8 le8 h8 s
  replace hT := Tab.mono le8 hT
  replace hla := BSl.mono le8 hla
  replace hlb := BSl.mono le8 hlb
  replace h5_1 := ERep.mono le8 h5_1
  replace h5_2 := RE.mono le8 h5_2
  obtain ⟨b8, q8, k8, e8, rfl, h8_0, h8_1, h8_2⟩ := h8
  refine ops_rule (C := []) [((φ6 0), .cells #[.int .u64 ((b5 : Nat) : Int), .pointer q5] 27)] [] 6 [.o 1, .o 1] 1 (fun φ9 => [(8, .pointer (some ⟨k8, 0, none⟩)), (7, .pointer (some ⟨(φ9 0), 0, none⟩)), (27, .pointer (some ⟨k8, 0, none⟩)), (26, .agg #[.int .u64 ((b8 : Nat) : Int), .pointer q8]), (23, .tuple #[.agg #[.int .u64 ((b8 : Nat) : Int), .pointer q8], .pointer (some ⟨k8, 0, none⟩)])]) (fun φ9 => [((φ6 0), .cells #[.int .u64 ((b5 : Nat) : Int), .pointer q5] 27), ((φ9 0), .cells #[.int .u64 ((b8 : Nat) : Int), .pointer q8] 27)]) (fun φ9 => [(φ9 0), (φ9 0)]) s trivial (fun φ9 => by kernel_rfl) ?_
  intro φ9 w9 s
  refine ops_done (by kernel_rfl) ?_
  refine wp_seq ?_
  refine region_rule ?_
  refine ops_rule (C := []) [((φ6 0), .cells #[.int .u64 ((b5 : Nat) : Int), .pointer q5] 27), ((φ9 0), .cells #[.int .u64 ((b8 : Nat) : Int), .pointer q8] 27)] [] 1 [] 0 (fun φ10 => [(28, .pointer (some ⟨k5, 0, none⟩))]) (fun φ10 => [((φ6 0), .cells #[.int .u64 ((b5 : Nat) : Int), .pointer q5] 27), ((φ9 0), .cells #[.int .u64 ((b8 : Nat) : Int), .pointer q8] 27)]) (fun φ10 => []) s trivial (fun φ10 => by kernel_rfl) ?_
  intro φ10 w10 s
  refine call_rule (some 29) s (rdepth_c e5 h5_2 (by have := h5_0.2.1; omega)) (by kernel_rfl) ?_
  intro v11 I11 w11 le11 h11 s
  replace hT := Tab.mono le11 hT
  replace hla := BSl.mono le11 hla
  replace hlb := BSl.mono le11 hlb
  replace h5_1 := ERep.mono le11 h5_1
  replace h5_2 := RE.mono le11 h5_2
  replace h8_1 := ERep.mono le11 h8_1
  replace h8_2 := RE.mono le11 h8_2
  obtain rfl := h11
  refine ops_rule (C := []) [((φ6 0), .cells #[.int .u64 ((b5 : Nat) : Int), .pointer q5] 27), ((φ9 0), .cells #[.int .u64 ((b8 : Nat) : Int), .pointer q8] 27)] [] 1 [] 0 (fun φ12 => [(30, .pointer (some ⟨k8, 0, none⟩))]) (fun φ12 => [((φ6 0), .cells #[.int .u64 ((b5 : Nat) : Int), .pointer q5] 27), ((φ9 0), .cells #[.int .u64 ((b8 : Nat) : Int), .pointer q8] 27)]) (fun φ12 => []) s trivial (fun φ12 => by kernel_rfl) ?_
  intro φ12 w12 s
  refine call_rule (some 31) s (rdepth_c e8 h8_2 (by have := h8_0.2.1; omega)) (by kernel_rfl) ?_
  intro v13 I13 w13 le13 h13 s
  replace hT := Tab.mono le13 hT
  replace hla := BSl.mono le13 hla
  replace hlb := BSl.mono le13 hlb
  replace h5_1 := ERep.mono le13 h5_1
  replace h5_2 := RE.mono le13 h5_2
  replace h8_1 := ERep.mono le13 h8_1
  replace h8_2 := RE.mono le13 h8_2
  obtain rfl := h13
  refine ops_rule (C := []) [((φ6 0), .cells #[.int .u64 ((b5 : Nat) : Int), .pointer q5] 27), ((φ9 0), .cells #[.int .u64 ((b8 : Nat) : Int), .pointer q8] 27)] [] 2 [] 0 (fun φ14 => [(9, .int .i64 (if ((E.depth e8 : Nat) : Int) > ((E.depth e5 : Nat) : Int) then ((E.depth e8 : Nat) : Int) else ((E.depth e5 : Nat) : Int))), (32, .int .i64 (if ((E.depth e8 : Nat) : Int) > ((E.depth e5 : Nat) : Int) then ((E.depth e8 : Nat) : Int) else ((E.depth e5 : Nat) : Int)))]) (fun φ14 => [((φ6 0), .cells #[.int .u64 ((b5 : Nat) : Int), .pointer q5] 27), ((φ9 0), .cells #[.int .u64 ((b8 : Nat) : Int), .pointer q8] 27)]) (fun φ14 => []) s trivial (fun φ14 => by kernel_rfl) ?_
  intro φ14 w14 s
  rw [nat_max (a := (E.depth e5)) (b := (E.depth e8))]
  refine ops_done (by kernel_rfl) ?_
  refine wp_seq ?_
  refine region_rule ?_
  refine ops_rule (C := []) [((φ6 0), .cells #[.int .u64 ((b5 : Nat) : Int), .pointer q5] 27), ((φ9 0), .cells #[.int .u64 ((b8 : Nat) : Int), .pointer q8] 27)] [] 2 [] 0 (fun φ15 => [(34, .int .i64 ((max (E.depth e5) (E.depth e8) : Nat) : Int)), (33, .pointer (some ⟨k5, 0, none⟩))]) (fun φ15 => [((φ6 0), .cells #[.int .u64 ((b5 : Nat) : Int), .pointer q5] 27), ((φ9 0), .cells #[.int .u64 ((b8 : Nat) : Int), .pointer q8] 27)]) (fun φ15 => []) s trivial (fun φ15 => by kernel_rfl) ?_
  intro φ15 w15 s
  refine call_rule (some 35) s (heightsN_c (d := max (E.depth e5) (E.depth e8)) (by have := h5_0.2.1; have := h8_0.2.1; omega) h5_2 (by have := h5_0.2.2; omega)) (by kernel_rfl) ?_
  intro v16 I16 w16 le16 h16 s
  replace hT := Tab.mono le16 hT
  replace hla := BSl.mono le16 hla
  replace hlb := BSl.mono le16 hlb
  replace h5_1 := ERep.mono le16 h5_1
  replace h5_2 := RE.mono le16 h5_2
  replace h8_1 := ERep.mono le16 h8_1
  replace h8_2 := RE.mono le16 h8_2
  obtain ⟨b16, c16, rfl, h16_0, h16_1⟩ := h16
  refine ops_rule (C := []) [((φ6 0), .cells #[.int .u64 ((b5 : Nat) : Int), .pointer q5] 27), ((φ9 0), .cells #[.int .u64 ((b8 : Nat) : Int), .pointer q8] 27)] [] 2 [] 0 (fun φ17 => [(37, .int .i64 ((max (E.depth e5) (E.depth e8) : Nat) : Int)), (36, .pointer (some ⟨k8, 0, none⟩))]) (fun φ17 => [((φ6 0), .cells #[.int .u64 ((b5 : Nat) : Int), .pointer q5] 27), ((φ9 0), .cells #[.int .u64 ((b8 : Nat) : Int), .pointer q8] 27)]) (fun φ17 => []) s trivial (fun φ17 => by kernel_rfl) ?_
  intro φ17 w17 s
  refine call_rule (some 38) s (heightsN_c (d := max (E.depth e5) (E.depth e8)) (by have := h5_0.2.1; have := h8_0.2.1; omega) h8_2 (by have := h8_0.2.2; omega)) (by kernel_rfl) ?_
  intro v18 I18 w18 le18 h18 s
  replace hT := Tab.mono le18 hT
  replace hla := BSl.mono le18 hla
  replace hlb := BSl.mono le18 hlb
  replace h5_1 := ERep.mono le18 h5_1
  replace h5_2 := RE.mono le18 h5_2
  replace h8_1 := ERep.mono le18 h8_1
  replace h8_2 := RE.mono le18 h8_2
  replace h16_1 := VS.mono le18 h16_1
  obtain ⟨b18, c18, rfl, h18_0, h18_1⟩ := h18
  refine ops_rule (C := []) [((φ6 0), .cells #[.int .u64 ((b5 : Nat) : Int), .pointer q5] 27), ((φ9 0), .cells #[.int .u64 ((b8 : Nat) : Int), .pointer q8] 27)] [] 2 [] 0 (fun φ19 => [(11, .slice (some ⟨b18, 0, none⟩) (2 ^ (max (E.depth e5) (E.depth e8))) c18), (10, .slice (some ⟨b16, 0, none⟩) (2 ^ (max (E.depth e5) (E.depth e8))) c16)]) (fun φ19 => [((φ6 0), .cells #[.int .u64 ((b5 : Nat) : Int), .pointer q5] 27), ((φ9 0), .cells #[.int .u64 ((b8 : Nat) : Int), .pointer q8] 27)]) (fun φ19 => []) s trivial (fun φ19 => by kernel_rfl) ?_
  intro φ19 w19 s
  refine ops_done (by kernel_rfl) ?_
  refine wp_seq ?_
  refine region_rule ?_
  refine ops_rule (C := []) [((φ6 0), .cells #[.int .u64 ((b5 : Nat) : Int), .pointer q5] 27), ((φ9 0), .cells #[.int .u64 ((b8 : Nat) : Int), .pointer q8] 27)] [] 1 [] 0 (fun φ20 => [(12, .bool true)]) (fun φ20 => [((φ6 0), .cells #[.int .u64 ((b5 : Nat) : Int), .pointer q5] 27), ((φ9 0), .cells #[.int .u64 ((b8 : Nat) : Int), .pointer q8] 27)]) (fun φ20 => []) s trivial (fun φ20 => by kernel_rfl) ?_
  intro φ20 w20 s
  refine ops_done (by kernel_rfl) ?_
  refine wp_seq ?_
  refine region_rule ?_
  refine ops_rule (C := []) [((φ6 0), .cells #[.int .u64 ((b5 : Nat) : Int), .pointer q5] 27), ((φ9 0), .cells #[.int .u64 ((b8 : Nat) : Int), .pointer q8] 27)] [] 1 [] 0 (fun φ21 => [(39, .slice (some ⟨b16, 0, none⟩) (2 ^ (max (E.depth e5) (E.depth e8))) c16)]) (fun φ21 => [((φ6 0), .cells #[.int .u64 ((b5 : Nat) : Int), .pointer q5] 27), ((φ9 0), .cells #[.int .u64 ((b8 : Nat) : Int), .pointer q8] 27)]) (fun φ21 => []) s trivial (fun φ21 => by kernel_rfl) ?_
  intro φ21 w21 s
  refine callF_rule (H := [((φ6 0), .cells #[.int .u64 ((b5 : Nat) : Int), .pointer q5] 27), ((φ9 0), .cells #[.int .u64 ((b8 : Nat) : Int), .pointer q8] 27)]) (F := []) (some 40) s (cloneN_c (n := 2 ^ (max (E.depth e5) (E.depth e8))) (c := c16) h16_1 (hL_len _ _) (two_small h5_0 h8_0)) (by kernel_rfl) ?_
  intro v22 I22 w22 F22 le22 h22 s
  replace hT := Tab.mono le22 hT
  replace hla := BSl.mono le22 hla
  replace hlb := BSl.mono le22 hlb
  replace h5_1 := ERep.mono le22 h5_1
  replace h5_2 := RE.mono le22 h5_2
  replace h8_1 := ERep.mono le22 h8_1
  replace h8_2 := RE.mono le22 h8_2
  replace h16_1 := VS.mono le22 h16_1
  replace h18_1 := VS.mono le22 h18_1
  obtain ⟨g, cap, cur0, rfl, rfl, hgc, hgs, hgt⟩ := rowN_open h22 (Nat.two_pow_pos _)
  refine ops_rule (C := []) [((φ6 0), .cells #[.int .u64 ((b5 : Nat) : Int), .pointer q5] 27), ((φ9 0), .cells #[.int .u64 ((b8 : Nat) : Int), .pointer q8] 27), (g, .cells cur0 24)] [] 1 [] 0 (fun φ23 => [(13, .slice (some ⟨g, 0, none⟩) (2 ^ (max (E.depth e5) (E.depth e8))) cap)]) (fun φ23 => [((φ6 0), .cells #[.int .u64 ((b5 : Nat) : Int), .pointer q5] 27), ((φ9 0), .cells #[.int .u64 ((b8 : Nat) : Int), .pointer q8] 27), (g, .cells cur0 24)]) (fun φ23 => []) s trivial (fun φ23 => by kernel_rfl) ?_
  intro φ23 w23 s
  refine ops_done (by kernel_rfl) ?_
  refine wp_seq ?_
  refine wp_seq ?_
  refine region_rule ?_
  refine ops_rule (C := []) [((φ6 0), .cells #[.int .u64 ((b5 : Nat) : Int), .pointer q5] 27), ((φ9 0), .cells #[.int .u64 ((b8 : Nat) : Int), .pointer q8] 27), (g, .cells cur0 24)] [] 3 [] 0 (fun φ24 => [(43, .int .i64 0), (42, .int .i64 (((2 ^ (max (E.depth e5) (E.depth e8))) : Nat) : Int)), (41, .slice (some ⟨b16, 0, none⟩) (2 ^ (max (E.depth e5) (E.depth e8))) c16)]) (fun φ24 => [((φ6 0), .cells #[.int .u64 ((b5 : Nat) : Int), .pointer q5] 27), ((φ9 0), .cells #[.int .u64 ((b8 : Nat) : Int), .pointer q8] 27), (g, .cells cur0 24)]) (fun φ24 => []) s trivial (fun φ24 => by kernel_rfl) ?_
  intro φ24 w24 s
  refine ops_done (by kernel_rfl) ?_
  refine wp_block ?_
  have hle25 := IM.Le.refl I22
  refine loop_rule (fun (x : Nat × Array Value × Bool) => [(5, .pointer (some ⟨(φ6 0), 0, none⟩)), (7, .pointer (some ⟨(φ9 0), 0, none⟩)), (10, .slice (some ⟨b16, 0, none⟩) (2 ^ (max (E.depth e5) (E.depth e8))) c16), (11, .slice (some ⟨b18, 0, none⟩) (2 ^ (max (E.depth e5) (E.depth e8))) c18), (13, .slice (some ⟨g, 0, none⟩) (2 ^ (max (E.depth e5) (E.depth e8))) cap), (42, .int .i64 (((2 ^ (max (E.depth e5) (E.depth e8))) : Nat) : Int)), (43, .int .i64 ((x.1 : Nat) : Int)), (12, .bool x.2.2)]) (fun (x : Nat × Array Value × Bool) => [((φ6 0), .cells #[.int .u64 ((b5 : Nat) : Int), .pointer q5] 27), ((φ9 0), .cells #[.int .u64 ((b8 : Nat) : Int), .pointer q8] 27), (g, .cells x.2.1 24)]) (fun m (x : Nat × Array Value × Bool) J => IM.Le I22 J ∧ x.1 + m = 2 ^ (max (E.depth e5) (E.depth e8)) ∧ (x.2.1).size = cap ∧ (x.2.1).toList.take (2 ^ (max (E.depth e5) (E.depth e8))) = mixL (max (E.depth e5) (E.depth e8)) e5 e8 x.1 ∧ x.2.2 = decide (∀ j, j < x.1 → hAt (max (E.depth e5) (E.depth e8)) e5 j ≤ hAt (max (E.depth e5) (E.depth e8)) e8 j)) (2 ^ (max (E.depth e5) (E.depth e8))) (0, cur0, true) s (by kernel_rfl) (List.Sublist.cons₂ _ (List.Sublist.cons₂ _ (List.Sublist.cons₂ _ List.Sublist.slnil))) ⟨IM.Le.refl _, Nat.zero_add _, hgs, hgt.trans (mix_zero _ _ _), (decide_eq_true (fun j hj => absurd hj (Nat.not_lt_zero j))).symm⟩ ?_
  rintro m26 ⟨i26, cur26, q26⟩ I26 w26 ev26 s ⟨le26, hm26, hs26, ht26, hq26⟩
  try dsimp only at s hm26 hs26 ht26 hq26 ⊢
  replace hT := Tab.mono le26 hT
  replace hla := BSl.mono le26 hla
  replace hlb := BSl.mono le26 hlb
  replace h5_1 := ERep.mono le26 h5_1
  replace h5_2 := RE.mono le26 h5_2
  replace h8_1 := ERep.mono le26 h8_1
  replace h8_2 := RE.mono le26 h8_2
  replace h16_1 := VS.mono le26 h16_1
  replace h18_1 := VS.mono le26 h18_1
  replace hle25 := leMono9 le26 hle25
  refine wp_seq ?_
  refine region_rule ?_
  refine ops_rule (C := []) [((φ6 0), .cells #[.int .u64 ((b5 : Nat) : Int), .pointer q5] 27), ((φ9 0), .cells #[.int .u64 ((b8 : Nat) : Int), .pointer q8] 27), (g, .cells cur26 24)] [] 1 [] 0 (fun φ27 => [(44, .bool (decide (((i26 : Nat) : Int) < (((2 ^ (max (E.depth e5) (E.depth e8))) : Nat) : Int))))]) (fun φ27 => [((φ6 0), .cells #[.int .u64 ((b5 : Nat) : Int), .pointer q5] 27), ((φ9 0), .cells #[.int .u64 ((b8 : Nat) : Int), .pointer q8] 27), (g, .cells cur26 24)]) (fun φ27 => []) s trivial (fun φ27 => by kernel_rfl) ?_
  intro φ27 w27 s
  rw [nat_lss (a := i26) (b := (2 ^ (max (E.depth e5) (E.depth e8))))]
  refine ops_done (by kernel_rfl) ?_
  refine wp_seq ?_
  rcases Bool.eq_false_or_eq_true (decide (i26 < (2 ^ (max (E.depth e5) (E.depth e8))))) with hc28 | hc28
  ·
    rw [hc28]
    refine cond_true_rule (b := true) (by kernel_rfl) rfl ?_
    refine wp_skip ?_
    refine wp_seq ?_
    refine wp_block ?_
    refine wp_seq ?_
    refine region_rule ?_
    refine ops_rule (C := []) [((φ6 0), .cells #[.int .u64 ((b5 : Nat) : Int), .pointer q5] 27), ((φ9 0), .cells #[.int .u64 ((b8 : Nat) : Int), .pointer q8] 27), (g, .cells cur26 24)] [] 2 [] 0 (fun φ29 => [(14, .int .i64 ((i26 : Nat) : Int)), (45, .int .i64 ((i26 : Nat) : Int))]) (fun φ29 => [((φ6 0), .cells #[.int .u64 ((b5 : Nat) : Int), .pointer q5] 27), ((φ9 0), .cells #[.int .u64 ((b8 : Nat) : Int), .pointer q8] 27), (g, .cells cur26 24)]) (fun φ29 => []) s trivial (fun φ29 => by kernel_rfl) ?_
    intro φ29 w29 s
    refine ops_done (by kernel_rfl) ?_
    refine wp_seq ?_
    rcases Bool.eq_false_or_eq_true (q26) with hc30 | hc30
    ·
      rw [hc30]
      refine draw_rule (C := []) ⟨(fun φ31 xs31 => [.look 0 [] [], .look 0 [] [], .look 0 [] [], .look 0 [] [], .ran (Instr.indexAt 37 (.slice (some ⟨b16, 0, none⟩) (2 ^ (max (E.depth e5) (E.depth e8))) c16) (.int .i64 ((i26 : Nat) : Int))), .ran (Instr.loadAt 24 (.pointer (some ⟨b16, i26, none⟩))), .look 0 [] [], .look 0 [] [], .ran (Instr.indexAt 37 (.slice (some ⟨b18, 0, none⟩) (2 ^ (max (E.depth e5) (E.depth e8))) c18) (.int .i64 ((i26 : Nat) : Int))), .ran (Instr.loadAt 24 (.pointer (some ⟨b18, i26, none⟩))), .sub 0 [] [] (.bool (decide (((hAt (max (E.depth e5) (E.depth e8)) e5 i26 : Nat) : Int) ≤ ((hAt (max (E.depth e5) (E.depth e8)) e8 i26 : Nat) : Int)))), .look 0 [] [], .look 0 [] []]), (fun φ31 xs31 => [.bool true, .bool true, .slice (some ⟨b16, 0, none⟩) (2 ^ (max (E.depth e5) (E.depth e8))) c16, .int .i64 ((i26 : Nat) : Int), .pointer (some ⟨b16, i26, none⟩), .int .u64 ((hAt (max (E.depth e5) (E.depth e8)) e5 i26 : Nat) : Int), .slice (some ⟨b18, 0, none⟩) (2 ^ (max (E.depth e5) (E.depth e8))) c18, .int .i64 ((i26 : Nat) : Int), .pointer (some ⟨b18, i26, none⟩), .int .u64 ((hAt (max (E.depth e5) (E.depth e8)) e8 i26 : Nat) : Int), .bool (decide ((hAt (max (E.depth e5) (E.depth e8)) e5 i26) ≤ (hAt (max (E.depth e5) (E.depth e8)) e8 i26))), .bool (decide ((hAt (max (E.depth e5) (E.depth e8)) e5 i26) ≤ (hAt (max (E.depth e5) (E.depth e8)) e8 i26))), .bool (decide ((hAt (max (E.depth e5) (E.depth e8)) e5 i26) ≤ (hAt (max (E.depth e5) (E.depth e8)) e8 i26)))]), (fun φ31 xs31 => [[((φ6 0), .cells #[.int .u64 ((b5 : Nat) : Int), .pointer q5] 27), ((φ9 0), .cells #[.int .u64 ((b8 : Nat) : Int), .pointer q8] 27), (g, .cells cur26 24)]]), (fun φ31 xs31 => [[default, default, default, default, default, default, default, default, default, default, default, default, default]]), [], [1, 1, 1, 1, 6, 6, 1, 1, 6, 6, 5, 1, 1]⟩ (fun j => ([MP.any, MP.any, MP.any, MP.any, MP.any, MP.any, MP.any, MP.any, MP.any, MP.any, MP.any, MP.any, MP.any] : List MP).getD j MP.any) [] [10] [4, 5, 8, 9] (fun φ31 xs31 => []) (fun φ31 xs31 => [(46, .bool true), (47, .bool true), (48, .slice (some ⟨b16, 0, none⟩) (2 ^ (max (E.depth e5) (E.depth e8))) c16), (49, .int .i64 ((i26 : Nat) : Int)), (50, .pointer (some ⟨b16, i26, none⟩)), (51, .int .u64 ((hAt (max (E.depth e5) (E.depth e8)) e5 i26 : Nat) : Int)), (52, .slice (some ⟨b18, 0, none⟩) (2 ^ (max (E.depth e5) (E.depth e8))) c18), (53, .int .i64 ((i26 : Nat) : Int)), (54, .pointer (some ⟨b18, i26, none⟩)), (55, .int .u64 ((hAt (max (E.depth e5) (E.depth e8)) e8 i26 : Nat) : Int)), (56, .bool (decide ((hAt (max (E.depth e5) (E.depth e8)) e5 i26) ≤ (hAt (max (E.depth e5) (E.depth e8)) e8 i26)))), (57, .bool (decide ((hAt (max (E.depth e5) (E.depth e8)) e5 i26) ≤ (hAt (max (E.depth e5) (E.depth e8)) e8 i26)))), (12, .bool (decide ((hAt (max (E.depth e5) (E.depth e8)) e5 i26) ≤ (hAt (max (E.depth e5) (E.depth e8)) e8 i26))))]) (fun φ31 xs31 => [((φ6 0), .cells #[.int .u64 ((b5 : Nat) : Int), .pointer q5] 27), ((φ9 0), .cells #[.int .u64 ((b8 : Nat) : Int), .pointer q8] 27), (g, .cells cur26 24)]) s trivial (by kernel_rfl) (by kernel_rfl) (fun _ _ => by kernel_rfl) (fun _ _ => by kernel_rfl) ⟨fun _ _ => by kernel_rfl, fun _ _ => by kernel_rfl, fun _ _ => by kernel_rfl, fun _ _ => by kernel_rfl⟩ (fun _ _ _ => by kernel_rfl) (fun _ _ => by kernel_rfl) (fun _ _ => by kernel_rfl) (fun _ _ => by kernel_rfl) (fun _ _ => by kernel_rfl) (fun _ _ => by kernel_rfl) ⟨kcast (A := ∀ (φ31 : Nat → Nat) (xs31 : Xs), (.bool (decide (((hAt (max (E.depth e5) (E.depth e8)) e5 i26 : Nat) : Int) ≤ ((hAt (max (E.depth e5) (E.depth e8)) e8 i26 : Nat) : Int))) : Value) = .bool (decide ((hAt (max (E.depth e5) (E.depth e8)) e5 i26) ≤ (hAt (max (E.depth e5) (E.depth e8)) e8 i26)))) (by kernel_rfl) (fun φ31 xs31 => congrArg Value.bool ((nat_leq (a := (hAt (max (E.depth e5) (E.depth e8)) e5 i26)) (b := (hAt (max (E.depth e5) (E.depth e8)) e8 i26))))), trivial⟩ ⟨kcast (A := ∀ (φ31 : Nat → Nat) (xs31 : Xs) (J : IM) (w : World), I26.Le J → J.Sub w → ((Instr.indexAt 37 (.slice (some ⟨b16, 0, none⟩) (2 ^ (max (E.depth e5) (E.depth e8))) c16) (.int .i64 ((i26 : Nat) : Int))) : Sem Value).run Tryd.prog w = .ok (.pointer (some ⟨b16, i26, none⟩)) w) (by kernel_rfl) (fun φ31 xs31 J w hJ hS => run_idx37 (of_decide_eq_true hc28)), ⟨kcast (A := ∀ (φ31 : Nat → Nat) (xs31 : Xs) (J : IM) (w : World), I26.Le J → J.Sub w → ((Instr.loadAt 24 (.pointer (some ⟨b16, i26, none⟩))) : Sem Value).run Tryd.prog w = .ok (.int .u64 ((hAt (max (E.depth e5) (E.depth e8)) e5 i26 : Nat) : Int)) w) (by kernel_rfl) (fun φ31 xs31 J w hJ hS => run_load24 hS (VS.mono hJ h16_1) (hc_at (of_decide_eq_true hc28))), ⟨kcast (A := ∀ (φ31 : Nat → Nat) (xs31 : Xs) (J : IM) (w : World), I26.Le J → J.Sub w → ((Instr.indexAt 37 (.slice (some ⟨b18, 0, none⟩) (2 ^ (max (E.depth e5) (E.depth e8))) c18) (.int .i64 ((i26 : Nat) : Int))) : Sem Value).run Tryd.prog w = .ok (.pointer (some ⟨b18, i26, none⟩)) w) (by kernel_rfl) (fun φ31 xs31 J w hJ hS => run_idx37 (of_decide_eq_true hc28)), ⟨kcast (A := ∀ (φ31 : Nat → Nat) (xs31 : Xs) (J : IM) (w : World), I26.Le J → J.Sub w → ((Instr.loadAt 24 (.pointer (some ⟨b18, i26, none⟩))) : Sem Value).run Tryd.prog w = .ok (.int .u64 ((hAt (max (E.depth e5) (E.depth e8)) e8 i26 : Nat) : Int)) w) (by kernel_rfl) (fun φ31 xs31 J w hJ hS => run_load24 hS (VS.mono hJ h18_1) (hc_at (of_decide_eq_true hc28))), trivial⟩⟩⟩⟩ (by kernel_rfl) trivial ?k31
      case k31 =>
        rintro φ31 xs31 I31 w31 le31 s 
        replace hT := Tab.mono le31 hT
        replace hla := BSl.mono le31 hla
        replace hlb := BSl.mono le31 hlb
        replace h5_1 := ERep.mono le31 h5_1
        replace h5_2 := RE.mono le31 h5_2
        replace h8_1 := ERep.mono le31 h8_1
        replace h8_2 := RE.mono le31 h8_2
        replace h16_1 := VS.mono le31 h16_1
        replace h18_1 := VS.mono le31 h18_1
        replace hle25 := leMono9 le31 hle25
        refine drawL_rule (H := [((φ6 0), .cells #[.int .u64 ((b5 : Nat) : Int), .pointer q5] 27), ((φ9 0), .cells #[.int .u64 ((b8 : Nat) : Int), .pointer q8] 27), (g, .cells cur26 24)]) (C := []) ⟨(fun φ32 xs32 => [.look 0 [] [], .look 0 [] [], .look 0 [] [], .look 0 [] [], .ran (Instr.indexAt 37 (.slice (some ⟨b16, 0, none⟩) (2 ^ (max (E.depth e5) (E.depth e8))) c16) (.int .i64 ((i26 : Nat) : Int))), .ran (Instr.loadAt 24 (.pointer (some ⟨b16, i26, none⟩))), .look 0 [] [], .look 0 [] [], .ran (Instr.indexAt 37 (.slice (some ⟨b18, 0, none⟩) (2 ^ (max (E.depth e5) (E.depth e8))) c18) (.int .i64 ((i26 : Nat) : Int))), .ran (Instr.loadAt 24 (.pointer (some ⟨b18, i26, none⟩))), .sub 0 [] [] (.int .u64 (if ((hAt (max (E.depth e5) (E.depth e8)) e8 i26 : Nat) : Int) > ((hAt (max (E.depth e5) (E.depth e8)) e5 i26 : Nat) : Int) then ((hAt (max (E.depth e5) (E.depth e8)) e8 i26 : Nat) : Int) else ((hAt (max (E.depth e5) (E.depth e8)) e5 i26 : Nat) : Int))), .ran (Instr.indexAt 37 (.slice (some ⟨g, 0, none⟩) (2 ^ (max (E.depth e5) (E.depth e8))) cap) (.int .i64 ((i26 : Nat) : Int)))]), (fun φ32 xs32 => [.slice (some ⟨g, 0, none⟩) (2 ^ (max (E.depth e5) (E.depth e8))) cap, .int .i64 ((i26 : Nat) : Int), .slice (some ⟨b16, 0, none⟩) (2 ^ (max (E.depth e5) (E.depth e8))) c16, .int .i64 ((i26 : Nat) : Int), .pointer (some ⟨b16, i26, none⟩), .int .u64 ((hAt (max (E.depth e5) (E.depth e8)) e5 i26 : Nat) : Int), .slice (some ⟨b18, 0, none⟩) (2 ^ (max (E.depth e5) (E.depth e8))) c18, .int .i64 ((i26 : Nat) : Int), .pointer (some ⟨b18, i26, none⟩), .int .u64 ((hAt (max (E.depth e5) (E.depth e8)) e8 i26 : Nat) : Int), .int .u64 ((max (hAt (max (E.depth e5) (E.depth e8)) e5 i26) (hAt (max (E.depth e5) (E.depth e8)) e8 i26) : Nat) : Int), .pointer (some ⟨g, i26, none⟩)]), (fun φ32 xs32 => [[((φ6 0), .cells #[.int .u64 ((b5 : Nat) : Int), .pointer q5] 27), ((φ9 0), .cells #[.int .u64 ((b8 : Nat) : Int), .pointer q8] 27), (g, .cells cur26 24)]]), (fun φ32 xs32 => [[default, default, default, default, default, default, default, default, default, default, default, default]]), [], [1, 1, 1, 1, 6, 6, 1, 1, 6, 6, 5, 6]⟩ (fun j => ([MP.any, MP.any, MP.any, MP.any, MP.any, MP.any, MP.any, MP.any, MP.any, MP.any, MP.any, MP.any] : List MP).getD j MP.any) [] _ (last_split 12 (by kernel_rfl)) (by kernel_rfl) [] [10] [4, 5, 8, 9, 11] (fun φ32 xs32 => []) (fun φ32 xs32 => [(58, .slice (some ⟨g, 0, none⟩) (2 ^ (max (E.depth e5) (E.depth e8))) cap), (59, .int .i64 ((i26 : Nat) : Int)), (60, .slice (some ⟨b16, 0, none⟩) (2 ^ (max (E.depth e5) (E.depth e8))) c16), (61, .int .i64 ((i26 : Nat) : Int)), (62, .pointer (some ⟨b16, i26, none⟩)), (63, .int .u64 ((hAt (max (E.depth e5) (E.depth e8)) e5 i26 : Nat) : Int)), (64, .slice (some ⟨b18, 0, none⟩) (2 ^ (max (E.depth e5) (E.depth e8))) c18), (65, .int .i64 ((i26 : Nat) : Int)), (66, .pointer (some ⟨b18, i26, none⟩)), (67, .int .u64 ((hAt (max (E.depth e5) (E.depth e8)) e8 i26 : Nat) : Int)), (68, .int .u64 ((max (hAt (max (E.depth e5) (E.depth e8)) e5 i26) (hAt (max (E.depth e5) (E.depth e8)) e8 i26) : Nat) : Int)), (69, .pointer (some ⟨g, i26, none⟩))]) (fun φ32 xs32 => [((φ6 0), .cells #[.int .u64 ((b5 : Nat) : Int), .pointer q5] 27), ((φ9 0), .cells #[.int .u64 ((b8 : Nat) : Int), .pointer q8] 27), (g, .cells cur26 24)]) s trivial (by kernel_rfl) (by kernel_rfl) (fun _ _ => by kernel_rfl) (fun _ _ => by kernel_rfl) ⟨fun _ _ => by kernel_rfl, fun _ _ => by kernel_rfl, fun _ _ => by kernel_rfl, fun _ _ => by kernel_rfl⟩ (fun _ _ _ => by kernel_rfl) (fun _ _ => by kernel_rfl) (fun _ _ => by kernel_rfl) (fun _ _ => by kernel_rfl) (fun _ _ => by kernel_rfl) (fun _ _ => by kernel_rfl) ⟨kcast (A := ∀ (φ32 : Nat → Nat) (xs32 : Xs), (.int .u64 (if ((hAt (max (E.depth e5) (E.depth e8)) e8 i26 : Nat) : Int) > ((hAt (max (E.depth e5) (E.depth e8)) e5 i26 : Nat) : Int) then ((hAt (max (E.depth e5) (E.depth e8)) e8 i26 : Nat) : Int) else ((hAt (max (E.depth e5) (E.depth e8)) e5 i26 : Nat) : Int)) : Value) = .int .u64 ((max (hAt (max (E.depth e5) (E.depth e8)) e5 i26) (hAt (max (E.depth e5) (E.depth e8)) e8 i26) : Nat) : Int)) (by kernel_rfl) (fun φ32 xs32 => congrArg (Value.int .u64) ((nat_max (a := (hAt (max (E.depth e5) (E.depth e8)) e5 i26)) (b := (hAt (max (E.depth e5) (E.depth e8)) e8 i26))))), trivial⟩ ⟨kcast (A := ∀ (φ32 : Nat → Nat) (xs32 : Xs) (J : IM) (w : World), I31.Le J → J.Sub w → ((Instr.indexAt 37 (.slice (some ⟨b16, 0, none⟩) (2 ^ (max (E.depth e5) (E.depth e8))) c16) (.int .i64 ((i26 : Nat) : Int))) : Sem Value).run Tryd.prog w = .ok (.pointer (some ⟨b16, i26, none⟩)) w) (by kernel_rfl) (fun φ32 xs32 J w hJ hS => run_idx37 (of_decide_eq_true hc28)), ⟨kcast (A := ∀ (φ32 : Nat → Nat) (xs32 : Xs) (J : IM) (w : World), I31.Le J → J.Sub w → ((Instr.loadAt 24 (.pointer (some ⟨b16, i26, none⟩))) : Sem Value).run Tryd.prog w = .ok (.int .u64 ((hAt (max (E.depth e5) (E.depth e8)) e5 i26 : Nat) : Int)) w) (by kernel_rfl) (fun φ32 xs32 J w hJ hS => run_load24 hS (VS.mono hJ h16_1) (hc_at (of_decide_eq_true hc28))), ⟨kcast (A := ∀ (φ32 : Nat → Nat) (xs32 : Xs) (J : IM) (w : World), I31.Le J → J.Sub w → ((Instr.indexAt 37 (.slice (some ⟨b18, 0, none⟩) (2 ^ (max (E.depth e5) (E.depth e8))) c18) (.int .i64 ((i26 : Nat) : Int))) : Sem Value).run Tryd.prog w = .ok (.pointer (some ⟨b18, i26, none⟩)) w) (by kernel_rfl) (fun φ32 xs32 J w hJ hS => run_idx37 (of_decide_eq_true hc28)), ⟨kcast (A := ∀ (φ32 : Nat → Nat) (xs32 : Xs) (J : IM) (w : World), I31.Le J → J.Sub w → ((Instr.loadAt 24 (.pointer (some ⟨b18, i26, none⟩))) : Sem Value).run Tryd.prog w = .ok (.int .u64 ((hAt (max (E.depth e5) (E.depth e8)) e8 i26 : Nat) : Int)) w) (by kernel_rfl) (fun φ32 xs32 J w hJ hS => run_load24 hS (VS.mono hJ h18_1) (hc_at (of_decide_eq_true hc28))), ⟨kcast (A := ∀ (φ32 : Nat → Nat) (xs32 : Xs) (J : IM) (w : World), I31.Le J → J.Sub w → ((Instr.indexAt 37 (.slice (some ⟨g, 0, none⟩) (2 ^ (max (E.depth e5) (E.depth e8))) cap) (.int .i64 ((i26 : Nat) : Int))) : Sem Value).run Tryd.prog w = .ok (.pointer (some ⟨g, i26, none⟩)) w) (by kernel_rfl) (fun φ32 xs32 J w hJ hS => run_idx37 (of_decide_eq_true hc28)), trivial⟩⟩⟩⟩⟩ (by kernel_rfl) trivial ?k32
        case k32 =>
          rintro φ32 xs32 I32 w32 le32 s 
          replace hT := Tab.mono le32 hT
          replace hla := BSl.mono le32 hla
          replace hlb := BSl.mono le32 hlb
          replace h5_1 := ERep.mono le32 h5_1
          replace h5_2 := RE.mono le32 h5_2
          replace h8_1 := ERep.mono le32 h8_1
          replace h8_2 := RE.mono le32 h8_2
          replace h16_1 := VS.mono le32 h16_1
          replace h18_1 := VS.mono le32 h18_1
          replace hle25 := leMono9 le32 hle25
          obtain ⟨w33, hr33, s⟩ := storeN (H := [((φ6 0), .cells #[.int .u64 ((b5 : Nat) : Int), .pointer q5] 27), ((φ9 0), .cells #[.int .u64 ((b8 : Nat) : Int), .pointer q8] 27), (g, .cells cur26 24)]) (q := 2) (x := max (hAt (max (E.depth e5) (E.depth e8)) e5 i26) (hAt (max (E.depth e5) (E.depth e8)) e8 i26)) s (by kernel_rfl) (show i26 < (cur26).size by have h9 := (of_decide_eq_true hc28); rw [hs26]; omega)
          refine last_rule (Instr.storeAt 24 (.pointer (some ⟨g, i26, none⟩)) (.int .u64 ((max (hAt (max (E.depth e5) (E.depth e8)) e5 i26) (hAt (max (E.depth e5) (E.depth e8)) e8 i26) : Nat) : Int))) rfl (by kernel_rfl) (by kernel_rfl) hr33 ?_
          refine region_rule ?_
          refine ops_rule (C := []) [((φ6 0), .cells #[.int .u64 ((b5 : Nat) : Int), .pointer q5] 27), ((φ9 0), .cells #[.int .u64 ((b8 : Nat) : Int), .pointer q8] 27), (g, .cells (cur26.setIfInBounds i26 (.int .u64 ((max (hAt (max (E.depth e5) (E.depth e8)) e5 i26) (hAt (max (E.depth e5) (E.depth e8)) e8 i26) : Nat) : Int))) 24)] [] 2 [] 0 (fun φ34 => [(43, .int .i64 (IntKind.wrap .i64 (((i26 : Nat) : Int) + ((1 : Nat) : Int)))), (70, .int .i64 (IntKind.wrap .i64 (((i26 : Nat) : Int) + ((1 : Nat) : Int))))]) (fun φ34 => [((φ6 0), .cells #[.int .u64 ((b5 : Nat) : Int), .pointer q5] 27), ((φ9 0), .cells #[.int .u64 ((b8 : Nat) : Int), .pointer q8] 27), (g, .cells (cur26.setIfInBounds i26 (.int .u64 ((max (hAt (max (E.depth e5) (E.depth e8)) e5 i26) (hAt (max (E.depth e5) (E.depth e8)) e8 i26) : Nat) : Int))) 24)]) (fun φ34 => []) s trivial (fun φ34 => by kernel_rfl) ?_
          intro φ34 w34 s
          rw [nat_addI (a := i26) (b := 1) (by have hz0 := two_small h5_0 h8_0; have hz1 := hm26; omega)]
          refine ops_done (by kernel_rfl) ?_
          exact ⟨⟨m26 - 1, (i26 + 1, (cur26.setIfInBounds i26 (.int .u64 ((max (hAt (max (E.depth e5) (E.depth e8)) e5 i26) (hAt (max (E.depth e5) (E.depth e8)) e8 i26) : Nat) : Int))), decide ((hAt (max (E.depth e5) (E.depth e8)) e5 i26) ≤ (hAt (max (E.depth e5) (E.depth e8)) e8 i26))), _, _, _, by have h9 := (of_decide_eq_true hc28); omega, rfl, s, (List.Sublist.cons₂ _ (List.Sublist.cons₂ _ (List.Sublist.cons₂ _ List.Sublist.slnil))), by kernel_rfl, hle25, by have h9 := (of_decide_eq_true hc28); show i26 + 1 + (m26 - 1) = 2 ^ (max (E.depth e5) (E.depth e8)); omega, by simp only [Array.size_setIfInBounds]; exact hs26, by show ((cur26.setIfInBounds i26 (.int .u64 ((max (hAt (max (E.depth e5) (E.depth e8)) e5 i26) (hAt (max (E.depth e5) (E.depth e8)) e8 i26) : Nat) : Int)))).toList.take _ = _; rw [Array.toList_setIfInBounds, List.take_set, ht26]; exact mix_step (of_decide_eq_true hc28), (lq_t hq26 hc30)⟩⟩
    ·
      rw [hc30]
      refine draw_rule (C := []) ⟨(fun φ35 xs35 => [.look 0 [] [], .look 0 [] [], .skip, .skip, .skip, .skip, .skip, .skip, .skip, .skip, .skip, .look 0 [] [], .look 0 [] []]), (fun φ35 xs35 => [.bool false, .bool false, undef, undef, undef, undef, undef, undef, undef, undef, undef, .bool false, .bool false]), (fun φ35 xs35 => [[((φ6 0), .cells #[.int .u64 ((b5 : Nat) : Int), .pointer q5] 27), ((φ9 0), .cells #[.int .u64 ((b8 : Nat) : Int), .pointer q8] 27), (g, .cells cur26 24)]]), (fun φ35 xs35 => [[default, default, default, default, default, default, default, default, default, default, default, default, default]]), [], [1, 1, 0, 0, 0, 0, 0, 0, 0, 0, 0, 1, 1]⟩ (fun j => ([MP.any, MP.any, MP.any, MP.any, MP.any, MP.any, MP.any, MP.any, MP.any, MP.any, MP.any, MP.any, MP.any] : List MP).getD j MP.any) [] [] [] (fun φ35 xs35 => []) (fun φ35 xs35 => [(46, .bool false), (47, .bool false), (48, undef), (49, undef), (50, undef), (51, undef), (52, undef), (53, undef), (54, undef), (55, undef), (56, undef), (57, .bool false), (12, .bool false)]) (fun φ35 xs35 => [((φ6 0), .cells #[.int .u64 ((b5 : Nat) : Int), .pointer q5] 27), ((φ9 0), .cells #[.int .u64 ((b8 : Nat) : Int), .pointer q8] 27), (g, .cells cur26 24)]) s trivial (by kernel_rfl) (by kernel_rfl) (fun _ _ => by kernel_rfl) (fun _ _ => by kernel_rfl) ⟨fun _ _ => by kernel_rfl, fun _ _ => by kernel_rfl, fun _ _ => by kernel_rfl, fun _ _ => by kernel_rfl⟩ (fun _ _ _ => by kernel_rfl) (fun _ _ => by kernel_rfl) (fun _ _ => by kernel_rfl) (fun _ _ => by kernel_rfl) (fun _ _ => by kernel_rfl) (fun _ _ => by kernel_rfl) trivial trivial (by kernel_rfl) trivial ?k35
      case k35 =>
        rintro φ35 xs35 I35 w35 le35 s 
        replace hT := Tab.mono le35 hT
        replace hla := BSl.mono le35 hla
        replace hlb := BSl.mono le35 hlb
        replace h5_1 := ERep.mono le35 h5_1
        replace h5_2 := RE.mono le35 h5_2
        replace h8_1 := ERep.mono le35 h8_1
        replace h8_2 := RE.mono le35 h8_2
        replace h16_1 := VS.mono le35 h16_1
        replace h18_1 := VS.mono le35 h18_1
        replace hle25 := leMono9 le35 hle25
        refine drawL_rule (H := [((φ6 0), .cells #[.int .u64 ((b5 : Nat) : Int), .pointer q5] 27), ((φ9 0), .cells #[.int .u64 ((b8 : Nat) : Int), .pointer q8] 27), (g, .cells cur26 24)]) (C := []) ⟨(fun φ36 xs36 => [.look 0 [] [], .look 0 [] [], .look 0 [] [], .look 0 [] [], .ran (Instr.indexAt 37 (.slice (some ⟨b16, 0, none⟩) (2 ^ (max (E.depth e5) (E.depth e8))) c16) (.int .i64 ((i26 : Nat) : Int))), .ran (Instr.loadAt 24 (.pointer (some ⟨b16, i26, none⟩))), .look 0 [] [], .look 0 [] [], .ran (Instr.indexAt 37 (.slice (some ⟨b18, 0, none⟩) (2 ^ (max (E.depth e5) (E.depth e8))) c18) (.int .i64 ((i26 : Nat) : Int))), .ran (Instr.loadAt 24 (.pointer (some ⟨b18, i26, none⟩))), .sub 0 [] [] (.int .u64 (if ((hAt (max (E.depth e5) (E.depth e8)) e8 i26 : Nat) : Int) > ((hAt (max (E.depth e5) (E.depth e8)) e5 i26 : Nat) : Int) then ((hAt (max (E.depth e5) (E.depth e8)) e8 i26 : Nat) : Int) else ((hAt (max (E.depth e5) (E.depth e8)) e5 i26 : Nat) : Int))), .ran (Instr.indexAt 37 (.slice (some ⟨g, 0, none⟩) (2 ^ (max (E.depth e5) (E.depth e8))) cap) (.int .i64 ((i26 : Nat) : Int)))]), (fun φ36 xs36 => [.slice (some ⟨g, 0, none⟩) (2 ^ (max (E.depth e5) (E.depth e8))) cap, .int .i64 ((i26 : Nat) : Int), .slice (some ⟨b16, 0, none⟩) (2 ^ (max (E.depth e5) (E.depth e8))) c16, .int .i64 ((i26 : Nat) : Int), .pointer (some ⟨b16, i26, none⟩), .int .u64 ((hAt (max (E.depth e5) (E.depth e8)) e5 i26 : Nat) : Int), .slice (some ⟨b18, 0, none⟩) (2 ^ (max (E.depth e5) (E.depth e8))) c18, .int .i64 ((i26 : Nat) : Int), .pointer (some ⟨b18, i26, none⟩), .int .u64 ((hAt (max (E.depth e5) (E.depth e8)) e8 i26 : Nat) : Int), .int .u64 ((max (hAt (max (E.depth e5) (E.depth e8)) e5 i26) (hAt (max (E.depth e5) (E.depth e8)) e8 i26) : Nat) : Int), .pointer (some ⟨g, i26, none⟩)]), (fun φ36 xs36 => [[((φ6 0), .cells #[.int .u64 ((b5 : Nat) : Int), .pointer q5] 27), ((φ9 0), .cells #[.int .u64 ((b8 : Nat) : Int), .pointer q8] 27), (g, .cells cur26 24)]]), (fun φ36 xs36 => [[default, default, default, default, default, default, default, default, default, default, default, default]]), [], [1, 1, 1, 1, 6, 6, 1, 1, 6, 6, 5, 6]⟩ (fun j => ([MP.any, MP.any, MP.any, MP.any, MP.any, MP.any, MP.any, MP.any, MP.any, MP.any, MP.any, MP.any] : List MP).getD j MP.any) [] _ (last_split 12 (by kernel_rfl)) (by kernel_rfl) [] [10] [4, 5, 8, 9, 11] (fun φ36 xs36 => []) (fun φ36 xs36 => [(58, .slice (some ⟨g, 0, none⟩) (2 ^ (max (E.depth e5) (E.depth e8))) cap), (59, .int .i64 ((i26 : Nat) : Int)), (60, .slice (some ⟨b16, 0, none⟩) (2 ^ (max (E.depth e5) (E.depth e8))) c16), (61, .int .i64 ((i26 : Nat) : Int)), (62, .pointer (some ⟨b16, i26, none⟩)), (63, .int .u64 ((hAt (max (E.depth e5) (E.depth e8)) e5 i26 : Nat) : Int)), (64, .slice (some ⟨b18, 0, none⟩) (2 ^ (max (E.depth e5) (E.depth e8))) c18), (65, .int .i64 ((i26 : Nat) : Int)), (66, .pointer (some ⟨b18, i26, none⟩)), (67, .int .u64 ((hAt (max (E.depth e5) (E.depth e8)) e8 i26 : Nat) : Int)), (68, .int .u64 ((max (hAt (max (E.depth e5) (E.depth e8)) e5 i26) (hAt (max (E.depth e5) (E.depth e8)) e8 i26) : Nat) : Int)), (69, .pointer (some ⟨g, i26, none⟩))]) (fun φ36 xs36 => [((φ6 0), .cells #[.int .u64 ((b5 : Nat) : Int), .pointer q5] 27), ((φ9 0), .cells #[.int .u64 ((b8 : Nat) : Int), .pointer q8] 27), (g, .cells cur26 24)]) s trivial (by kernel_rfl) (by kernel_rfl) (fun _ _ => by kernel_rfl) (fun _ _ => by kernel_rfl) ⟨fun _ _ => by kernel_rfl, fun _ _ => by kernel_rfl, fun _ _ => by kernel_rfl, fun _ _ => by kernel_rfl⟩ (fun _ _ _ => by kernel_rfl) (fun _ _ => by kernel_rfl) (fun _ _ => by kernel_rfl) (fun _ _ => by kernel_rfl) (fun _ _ => by kernel_rfl) (fun _ _ => by kernel_rfl) ⟨kcast (A := ∀ (φ36 : Nat → Nat) (xs36 : Xs), (.int .u64 (if ((hAt (max (E.depth e5) (E.depth e8)) e8 i26 : Nat) : Int) > ((hAt (max (E.depth e5) (E.depth e8)) e5 i26 : Nat) : Int) then ((hAt (max (E.depth e5) (E.depth e8)) e8 i26 : Nat) : Int) else ((hAt (max (E.depth e5) (E.depth e8)) e5 i26 : Nat) : Int)) : Value) = .int .u64 ((max (hAt (max (E.depth e5) (E.depth e8)) e5 i26) (hAt (max (E.depth e5) (E.depth e8)) e8 i26) : Nat) : Int)) (by kernel_rfl) (fun φ36 xs36 => congrArg (Value.int .u64) ((nat_max (a := (hAt (max (E.depth e5) (E.depth e8)) e5 i26)) (b := (hAt (max (E.depth e5) (E.depth e8)) e8 i26))))), trivial⟩ ⟨kcast (A := ∀ (φ36 : Nat → Nat) (xs36 : Xs) (J : IM) (w : World), I35.Le J → J.Sub w → ((Instr.indexAt 37 (.slice (some ⟨b16, 0, none⟩) (2 ^ (max (E.depth e5) (E.depth e8))) c16) (.int .i64 ((i26 : Nat) : Int))) : Sem Value).run Tryd.prog w = .ok (.pointer (some ⟨b16, i26, none⟩)) w) (by kernel_rfl) (fun φ36 xs36 J w hJ hS => run_idx37 (of_decide_eq_true hc28)), ⟨kcast (A := ∀ (φ36 : Nat → Nat) (xs36 : Xs) (J : IM) (w : World), I35.Le J → J.Sub w → ((Instr.loadAt 24 (.pointer (some ⟨b16, i26, none⟩))) : Sem Value).run Tryd.prog w = .ok (.int .u64 ((hAt (max (E.depth e5) (E.depth e8)) e5 i26 : Nat) : Int)) w) (by kernel_rfl) (fun φ36 xs36 J w hJ hS => run_load24 hS (VS.mono hJ h16_1) (hc_at (of_decide_eq_true hc28))), ⟨kcast (A := ∀ (φ36 : Nat → Nat) (xs36 : Xs) (J : IM) (w : World), I35.Le J → J.Sub w → ((Instr.indexAt 37 (.slice (some ⟨b18, 0, none⟩) (2 ^ (max (E.depth e5) (E.depth e8))) c18) (.int .i64 ((i26 : Nat) : Int))) : Sem Value).run Tryd.prog w = .ok (.pointer (some ⟨b18, i26, none⟩)) w) (by kernel_rfl) (fun φ36 xs36 J w hJ hS => run_idx37 (of_decide_eq_true hc28)), ⟨kcast (A := ∀ (φ36 : Nat → Nat) (xs36 : Xs) (J : IM) (w : World), I35.Le J → J.Sub w → ((Instr.loadAt 24 (.pointer (some ⟨b18, i26, none⟩))) : Sem Value).run Tryd.prog w = .ok (.int .u64 ((hAt (max (E.depth e5) (E.depth e8)) e8 i26 : Nat) : Int)) w) (by kernel_rfl) (fun φ36 xs36 J w hJ hS => run_load24 hS (VS.mono hJ h18_1) (hc_at (of_decide_eq_true hc28))), ⟨kcast (A := ∀ (φ36 : Nat → Nat) (xs36 : Xs) (J : IM) (w : World), I35.Le J → J.Sub w → ((Instr.indexAt 37 (.slice (some ⟨g, 0, none⟩) (2 ^ (max (E.depth e5) (E.depth e8))) cap) (.int .i64 ((i26 : Nat) : Int))) : Sem Value).run Tryd.prog w = .ok (.pointer (some ⟨g, i26, none⟩)) w) (by kernel_rfl) (fun φ36 xs36 J w hJ hS => run_idx37 (of_decide_eq_true hc28)), trivial⟩⟩⟩⟩⟩ (by kernel_rfl) trivial ?k36
        case k36 =>
          rintro φ36 xs36 I36 w36 le36 s 
          replace hT := Tab.mono le36 hT
          replace hla := BSl.mono le36 hla
          replace hlb := BSl.mono le36 hlb
          replace h5_1 := ERep.mono le36 h5_1
          replace h5_2 := RE.mono le36 h5_2
          replace h8_1 := ERep.mono le36 h8_1
          replace h8_2 := RE.mono le36 h8_2
          replace h16_1 := VS.mono le36 h16_1
          replace h18_1 := VS.mono le36 h18_1
          replace hle25 := leMono9 le36 hle25
          obtain ⟨w37, hr37, s⟩ := storeN (H := [((φ6 0), .cells #[.int .u64 ((b5 : Nat) : Int), .pointer q5] 27), ((φ9 0), .cells #[.int .u64 ((b8 : Nat) : Int), .pointer q8] 27), (g, .cells cur26 24)]) (q := 2) (x := max (hAt (max (E.depth e5) (E.depth e8)) e5 i26) (hAt (max (E.depth e5) (E.depth e8)) e8 i26)) s (by kernel_rfl) (show i26 < (cur26).size by have h9 := (of_decide_eq_true hc28); rw [hs26]; omega)
          refine last_rule (Instr.storeAt 24 (.pointer (some ⟨g, i26, none⟩)) (.int .u64 ((max (hAt (max (E.depth e5) (E.depth e8)) e5 i26) (hAt (max (E.depth e5) (E.depth e8)) e8 i26) : Nat) : Int))) rfl (by kernel_rfl) (by kernel_rfl) hr37 ?_
          refine region_rule ?_
          refine ops_rule (C := []) [((φ6 0), .cells #[.int .u64 ((b5 : Nat) : Int), .pointer q5] 27), ((φ9 0), .cells #[.int .u64 ((b8 : Nat) : Int), .pointer q8] 27), (g, .cells (cur26.setIfInBounds i26 (.int .u64 ((max (hAt (max (E.depth e5) (E.depth e8)) e5 i26) (hAt (max (E.depth e5) (E.depth e8)) e8 i26) : Nat) : Int))) 24)] [] 2 [] 0 (fun φ38 => [(43, .int .i64 (IntKind.wrap .i64 (((i26 : Nat) : Int) + ((1 : Nat) : Int)))), (70, .int .i64 (IntKind.wrap .i64 (((i26 : Nat) : Int) + ((1 : Nat) : Int))))]) (fun φ38 => [((φ6 0), .cells #[.int .u64 ((b5 : Nat) : Int), .pointer q5] 27), ((φ9 0), .cells #[.int .u64 ((b8 : Nat) : Int), .pointer q8] 27), (g, .cells (cur26.setIfInBounds i26 (.int .u64 ((max (hAt (max (E.depth e5) (E.depth e8)) e5 i26) (hAt (max (E.depth e5) (E.depth e8)) e8 i26) : Nat) : Int))) 24)]) (fun φ38 => []) s trivial (fun φ38 => by kernel_rfl) ?_
          intro φ38 w38 s
          rw [nat_addI (a := i26) (b := 1) (by have hz0 := two_small h5_0 h8_0; have hz1 := hm26; omega)]
          refine ops_done (by kernel_rfl) ?_
          exact ⟨⟨m26 - 1, (i26 + 1, (cur26.setIfInBounds i26 (.int .u64 ((max (hAt (max (E.depth e5) (E.depth e8)) e5 i26) (hAt (max (E.depth e5) (E.depth e8)) e8 i26) : Nat) : Int))), false), _, _, _, by have h9 := (of_decide_eq_true hc28); omega, rfl, s, (List.Sublist.cons₂ _ (List.Sublist.cons₂ _ (List.Sublist.cons₂ _ List.Sublist.slnil))), by kernel_rfl, hle25, by have h9 := (of_decide_eq_true hc28); show i26 + 1 + (m26 - 1) = 2 ^ (max (E.depth e5) (E.depth e8)); omega, by simp only [Array.size_setIfInBounds]; exact hs26, by show ((cur26.setIfInBounds i26 (.int .u64 ((max (hAt (max (E.depth e5) (E.depth e8)) e5 i26) (hAt (max (E.depth e5) (E.depth e8)) e8 i26) : Nat) : Int)))).toList.take _ = _; rw [Array.toList_setIfInBounds, List.take_set, ht26]; exact mix_step (of_decide_eq_true hc28), (lq_f hq26 hc30)⟩⟩
  ·
    rw [hc28]
    refine cond_false_rule (b := false) (by kernel_rfl) rfl ?_
    refine wp_exit ?_
    refine wp_seq ?_
    refine region_rule ?_
    refine ops_rule (C := []) [((φ6 0), .cells #[.int .u64 ((b5 : Nat) : Int), .pointer q5] 27), ((φ9 0), .cells #[.int .u64 ((b8 : Nat) : Int), .pointer q8] 27), (g, .cells cur26 24)] [] 2 [.o 0, .o 0, .o 1, .o 1] 0 (fun φ39 => [(72, .agg #[.int .u64 ((b8 : Nat) : Int), .pointer q8]), (71, .agg #[.int .u64 ((b5 : Nat) : Int), .pointer q5])]) (fun φ39 => [((φ6 0), .cells #[.int .u64 ((b5 : Nat) : Int), .pointer q5] 27), ((φ9 0), .cells #[.int .u64 ((b8 : Nat) : Int), .pointer q8] 27), (g, .cells cur26 24)]) (fun φ39 => [(φ6 0), (φ6 0), (φ9 0), (φ9 0)]) s trivial (fun φ39 => by kernel_rfl) ?_
    intro φ39 w39 s
    have hi9 : i26 = 2 ^ (max (E.depth e5) (E.depth e8)) := by have h9 := of_decide_eq_false hc28; omega
    rw [hi9] at ht26 hq26
    rw [lq_end (ok_of h5_0) (ok_of h8_0) (by omega : E.depth e5 ≤ (max (E.depth e5) (E.depth e8))) (by omega : E.depth e8 ≤ (max (E.depth e5) (E.depth e8)))] at hq26
    rw [mix_end (ok_of h5_0) (ok_of h8_0) (by omega : E.depth e5 ≤ (max (E.depth e5) (E.depth e8))) (by omega : E.depth e8 ≤ (max (E.depth e5) (E.depth e8)))] at ht26
    rw [hq26]
    obtain ⟨I40, le40, hk40, s⟩ := s.freezeAt 2 g (.cells cur26 24) [((φ6 0), .cells #[.int .u64 ((b5 : Nat) : Int), .pointer q5] 27), ((φ9 0), .cells #[.int .u64 ((b8 : Nat) : Int), .pointer q8] 27)] (by kernel_rfl) (by kernel_rfl)
    replace hT := Tab.mono le40 hT
    replace hla := BSl.mono le40 hla
    replace hlb := BSl.mono le40 hlb
    replace h5_1 := ERep.mono le40 h5_1
    replace h5_2 := RE.mono le40 h5_2
    replace h8_1 := ERep.mono le40 h8_1
    replace h8_2 := RE.mono le40 h8_2
    replace h16_1 := VS.mono le40 h16_1
    replace h18_1 := VS.mono le40 h18_1
    replace hle25 := leMono9 le40 hle25
    have hv9 : VS I40 24 ((hL (max (E.depth e5) (E.depth e8)) (joinF 64 e5 e8)).map cU) g := ⟨cur26, hk40, by rw [List.length_map, hL_len]; exact ht26⟩
    refine call_rule (some 73) s (joinOE_c h5_1 h8_1 (ok_of h5_0) (ok_of h8_0)) (by kernel_rfl) ?_
    intro v41 I41 w41 le41 h41 s
    replace hT := Tab.mono le41 hT
    replace hla := BSl.mono le41 hla
    replace hlb := BSl.mono le41 hlb
    replace h5_1 := ERep.mono le41 h5_1
    replace h5_2 := RE.mono le41 h5_2
    replace h8_1 := ERep.mono le41 h8_1
    replace h8_2 := RE.mono le41 h8_2
    replace h16_1 := VS.mono le41 h16_1
    replace h18_1 := VS.mono le41 h18_1
    replace hle25 := leMono9 le41 hle25
    replace hv9 := VS.mono le41 hv9
    replace hk40 := le41 _ _ hk40
    obtain ⟨b41, p41, rfl, h41_0⟩ := h41
    refine ops_rule (C := []) [((φ6 0), .cells #[.int .u64 ((b5 : Nat) : Int), .pointer q5] 27), ((φ9 0), .cells #[.int .u64 ((b8 : Nat) : Int), .pointer q8] 27)] [] 2 [.o 2, .o 2] 1 (fun φ42 => [(15, .pointer (some ⟨(φ42 0), 0, none⟩))]) (fun φ42 => [((φ6 0), .cells #[.int .u64 ((b5 : Nat) : Int), .pointer q5] 27), ((φ9 0), .cells #[.int .u64 ((b8 : Nat) : Int), .pointer q8] 27), ((φ42 0), .cells #[.int .u64 ((b41 : Nat) : Int), .pointer p41] 27)]) (fun φ42 => [(φ42 0), (φ42 0)]) s trivial (fun φ42 => by kernel_rfl) ?_
    intro φ42 w42 s
    refine ops_done (by kernel_rfl) ?_
    refine wp_seq ?_
    rcases Bool.eq_false_or_eq_true (leqF 64 e5 e8) with hc43 | hc43
    ·
      rw [hc43]
      rcases Bool.eq_false_or_eq_true ((⟨(textE e5).toArray⟩ : ByteArray).toList == (⟨(textE e8).toArray⟩ : ByteArray).toList) with hc44 | hc44
      ·
        refine draw_rule (C := []) ⟨(fun φ45 xs45 => [.look 0 [.o 0, .o 0] [(φ6 0), (φ6 0)], .look 0 [.o 1, .o 1] [(φ9 0), (φ9 0)], .call 29 #[.agg #[.int .u64 ((b5 : Nat) : Int), .pointer q5], .agg #[.int .u64 ((b8 : Nat) : Int), .pointer q8]], .look 0 [] [], .look 0 [] [], .look 0 [] [], .look 0 [.o 0, .o 0] [(φ6 0), (φ6 0)], .look 0 [.o 1, .o 1] [(φ9 0), (φ9 0)], .call 30 #[.agg #[.int .u64 ((b5 : Nat) : Int), .pointer q5], .agg #[.int .u64 ((b8 : Nat) : Int), .pointer q8]], .look 0 [.o 0, .o 0] [(φ6 0), (φ6 0)], .call 25 #[.agg #[.int .u64 ((b5 : Nat) : Int), .pointer q5]], .look 0 [.o 1, .o 1] [(φ9 0), (φ9 0)], .call 25 #[.agg #[.int .u64 ((b8 : Nat) : Int), .pointer q8]], .sub 0 [] [] (.bool ((⟨(textE e5).toArray⟩ : ByteArray).toList == (⟨(textE e8).toArray⟩ : ByteArray).toList)), .look 0 [] [], .look 0 [] [], .look 0 [] [], .look 0 [.o 2, .o 2] [(φ42 0), (φ42 0)], .look 0 [] [], .call 21 #[.slice (some ⟨g, 0, none⟩) (2 ^ (max (E.depth e5) (E.depth e8))) cap], .call 23 #[.agg #[.int .u64 ((b41 : Nat) : Int), .pointer p41], .pointer (some ⟨(xs45 19).n 0, 0, none⟩)], .look 0 [] [], .look 0 [] [], .look 0 [.o 0, .o 0] [(φ6 0), (φ6 0)], .look 0 [.o 2, .o 2] [(φ42 0), (φ42 0)], .call 29 #[.agg #[.int .u64 ((b5 : Nat) : Int), .pointer q5], .agg #[.int .u64 ((b41 : Nat) : Int), .pointer p41]], .look 0 [] [], .look 0 [] [], .look 0 [.o 1, .o 1] [(φ9 0), (φ9 0)], .look 0 [.o 2, .o 2] [(φ42 0), (φ42 0)], .call 29 #[.agg #[.int .u64 ((b8 : Nat) : Int), .pointer q8], .agg #[.int .u64 ((b41 : Nat) : Int), .pointer p41]], .look 0 [] [], .look 0 [] [], .look 0 [] [], .look 0 [] [], .look 0 [] [], .look 0 [.o 2, .o 2] [(φ42 0), (φ42 0)], .look 0 [.o 1, .o 1] [(φ9 0), (φ9 0)], .call 30 #[.agg #[.int .u64 ((b41 : Nat) : Int), .pointer p41], .agg #[.int .u64 ((b8 : Nat) : Int), .pointer q8]], .look 0 [] [], .look 0 [] [], .look 0 [] []]), (fun φ45 xs45 => [.agg #[.int .u64 ((b5 : Nat) : Int), .pointer q5], .agg #[.int .u64 ((b8 : Nat) : Int), .pointer q8], .bool true, .bool true, .bool true, .bool true, .agg #[.int .u64 ((b5 : Nat) : Int), .pointer q5], .agg #[.int .u64 ((b8 : Nat) : Int), .pointer q8], .bool true, .agg #[.int .u64 ((b5 : Nat) : Int), .pointer q5], .string ⟨(textE e5).toArray⟩, .agg #[.int .u64 ((b8 : Nat) : Int), .pointer q8], .string ⟨(textE e8).toArray⟩, .bool true, .bool true, .bool true, .bool true, .agg #[.int .u64 ((b41 : Nat) : Int), .pointer p41], .slice (some ⟨g, 0, none⟩) (2 ^ (max (E.depth e5) (E.depth e8))) cap, .pointer (some ⟨(xs45 19).n 0, 0, none⟩), .bool true, .bool true, .bool true, .agg #[.int .u64 ((b5 : Nat) : Int), .pointer q5], .agg #[.int .u64 ((b41 : Nat) : Int), .pointer p41], .bool true, .bool true, .bool true, .agg #[.int .u64 ((b8 : Nat) : Int), .pointer q8], .agg #[.int .u64 ((b41 : Nat) : Int), .pointer p41], .bool true, .bool true, .bool true, .bool true, .bool false, .bool false, .agg #[.int .u64 ((b41 : Nat) : Int), .pointer p41], .agg #[.int .u64 ((b8 : Nat) : Int), .pointer q8], .bool true, .bool true, .bool true, .bool true]), (fun φ45 xs45 => [[((φ6 0), .cells #[.int .u64 ((b5 : Nat) : Int), .pointer q5] 27), ((φ9 0), .cells #[.int .u64 ((b8 : Nat) : Int), .pointer q8] 27), ((φ42 0), .cells #[.int .u64 ((b41 : Nat) : Int), .pointer p41] 27)]]), (fun φ45 xs45 => [[default, default, default, default, default, default, default, default, default, default, default, default, default, default, default, default, default, default, default, default, default, default, default, default, default, default, default, default, default, default, default, default, default, default, default, default, default, default, default, default, default, default]]), [], [1, 1, 3, 1, 1, 1, 1, 1, 3, 1, 3, 1, 3, 5, 1, 1, 1, 1, 1, 3, 3, 1, 1, 1, 1, 3, 1, 1, 1, 1, 3, 1, 1, 1, 1, 1, 1, 1, 3, 1, 1, 1]⟩ (fun j => ([MP.any, MP.any, MP.any, MP.any, MP.any, MP.any, MP.any, MP.any, MP.any, MP.any, MP.any, MP.any, MP.any, MP.any, MP.any, MP.any, MP.any, MP.any, MP.any, ⟨fun x J => RE J (joinF 64 e5 e8) (x.n 0), fun le h => RE.mono le h⟩, MP.any, MP.any, MP.any, MP.any, MP.any, MP.any, MP.any, MP.any, MP.any, MP.any, MP.any, MP.any, MP.any, MP.any, MP.any, MP.any, MP.any, MP.any, MP.any, MP.any, MP.any, MP.any] : List MP).getD j MP.any) [2, 8, 10, 12, 19, 20, 25, 30, 38] [13] [] (fun φ45 xs45 => []) (fun φ45 xs45 => [(74, .agg #[.int .u64 ((b5 : Nat) : Int), .pointer q5]), (75, .agg #[.int .u64 ((b8 : Nat) : Int), .pointer q8]), (76, .bool true), (77, .bool true), (78, .bool true), (79, .bool true), (80, .agg #[.int .u64 ((b5 : Nat) : Int), .pointer q5]), (81, .agg #[.int .u64 ((b8 : Nat) : Int), .pointer q8]), (82, .bool true), (83, .agg #[.int .u64 ((b5 : Nat) : Int), .pointer q5]), (84, .string ⟨(textE e5).toArray⟩), (85, .agg #[.int .u64 ((b8 : Nat) : Int), .pointer q8]), (86, .string ⟨(textE e8).toArray⟩), (87, .bool true), (88, .bool true), (89, .bool true), (90, .bool true), (91, .agg #[.int .u64 ((b41 : Nat) : Int), .pointer p41]), (92, .slice (some ⟨g, 0, none⟩) (2 ^ (max (E.depth e5) (E.depth e8))) cap), (93, .pointer (some ⟨(xs45 19).n 0, 0, none⟩)), (94, .bool true), (95, .bool true), (96, .bool true), (97, .agg #[.int .u64 ((b5 : Nat) : Int), .pointer q5]), (98, .agg #[.int .u64 ((b41 : Nat) : Int), .pointer p41]), (99, .bool true), (100, .bool true), (101, .bool true), (102, .agg #[.int .u64 ((b8 : Nat) : Int), .pointer q8]), (103, .agg #[.int .u64 ((b41 : Nat) : Int), .pointer p41]), (104, .bool true), (105, .bool true), (106, .bool true), (107, .bool true), (108, .bool false), (109, .bool false), (110, .agg #[.int .u64 ((b41 : Nat) : Int), .pointer p41]), (111, .agg #[.int .u64 ((b8 : Nat) : Int), .pointer q8]), (112, .bool true), (113, .bool true), (114, .bool true), (4, .bool true)]) (fun φ45 xs45 => [((φ6 0), .cells #[.int .u64 ((b5 : Nat) : Int), .pointer q5] 27), ((φ9 0), .cells #[.int .u64 ((b8 : Nat) : Int), .pointer q8] 27), ((φ42 0), .cells #[.int .u64 ((b41 : Nat) : Int), .pointer p41] 27)]) s trivial (by kernel_rfl) (by kernel_rfl) (fun _ _ => by kernel_rfl) (fun _ _ => by kernel_rfl) ⟨fun _ _ => by kernel_rfl, fun _ _ => by kernel_rfl, fun _ _ => by kernel_rfl, fun _ _ => by kernel_rfl⟩ (fun _ _ _ => by kernel_rfl) (fun _ _ => by kernel_rfl) (fun _ _ => by kernel_rfl) (fun _ _ => by kernel_rfl) (fun _ _ => by kernel_rfl) (fun _ _ => by kernel_rfl) ⟨kcast (A := ∀ (φ45 : Nat → Nat) (xs45 : Xs), (.bool ((⟨(textE e5).toArray⟩ : ByteArray).toList == (⟨(textE e8).toArray⟩ : ByteArray).toList) : Value) = .bool true) (by kernel_rfl) (fun φ45 xs45 => congrArg Value.bool ((hc44))), trivial⟩ trivial (by kernel_rfl) ⟨?c45_2, ?c45_8, ?c45_10, ?c45_12, ?c45_19, ?c45_20, ?c45_25, ?c45_30, ?c45_38, trivial⟩ ?k45
        case c45_2 =>
          refine kcast (A := ∀ (φ45 : Nat → Nat) (xs45 : Xs) (J2_45 : IM), I41.Le J2_45 → Fun Tryd.prog 29 #[.agg #[.int .u64 ((b5 : Nat) : Int), .pointer q5], .agg #[.int .u64 ((b8 : Nat) : Int), .pointer q8]] J2_45 (fun v J' => ∃ x : UX, v = .bool true ∧ (True))) (by kernel_rfl) ?_
          intro φ45 xs45 J2_45 leJ
          have h5_1 := ERep.mono leJ h5_1
          have h8_1 := ERep.mono leJ h8_1
          exact Fun.mono (leqOE_c h5_1 h8_1 (ok_of h5_0) (ok_of h8_0)) (fun v J' _ h => ⟨UX.d, h.trans (congrArg Value.bool hc43), trivial⟩)
        case c45_8 =>
          refine kcast (A := ∀ (φ45 : Nat → Nat) (xs45 : Xs) (J8_45 : IM), I41.Le J8_45 → (True) → Fun Tryd.prog 30 #[.agg #[.int .u64 ((b5 : Nat) : Int), .pointer q5], .agg #[.int .u64 ((b8 : Nat) : Int), .pointer q8]] J8_45 (fun v J' => ∃ x : UX, v = .bool true ∧ (True))) (by kernel_rfl) ?_
          intro φ45 xs45 J8_45 leJ
          rintro _
          have h5_1 := ERep.mono leJ h5_1
          have h8_1 := ERep.mono leJ h8_1
          exact Fun.mono (sameText_c h5_1 h8_1 (ok_of h5_0) (ok_of h8_0)) (fun v J' _ h => ⟨UX.d, h.trans (congrArg Value.bool hc44), trivial⟩)
        case c45_10 =>
          refine kcast (A := ∀ (φ45 : Nat → Nat) (xs45 : Xs) (J10_45 : IM), I41.Le J10_45 → (True) → (True) → Fun Tryd.prog 25 #[.agg #[.int .u64 ((b5 : Nat) : Int), .pointer q5]] J10_45 (fun v J' => ∃ x : UX, v = .string ⟨(textE e5).toArray⟩ ∧ (True))) (by kernel_rfl) ?_
          intro φ45 xs45 J10_45 leJ
          rintro _ _
          have hT := Tab.mono leJ hT
          have h5_1 := ERep.mono leJ h5_1
          exact Fun.mono (text_c hT h5_1 (by have := (made_small h5_0).2.2; omega) (textE_small (by have := (made_small h5_0).2.1; omega) (by have := (made_small h5_0).2.2; omega))) (fun v J' _ h => ⟨UX.d, h, trivial⟩)
        case c45_12 =>
          refine kcast (A := ∀ (φ45 : Nat → Nat) (xs45 : Xs) (J12_45 : IM), I41.Le J12_45 → (True) → (True) → (True) → Fun Tryd.prog 25 #[.agg #[.int .u64 ((b8 : Nat) : Int), .pointer q8]] J12_45 (fun v J' => ∃ x : UX, v = .string ⟨(textE e8).toArray⟩ ∧ (True))) (by kernel_rfl) ?_
          intro φ45 xs45 J12_45 leJ
          rintro _ _ _
          have hT := Tab.mono leJ hT
          have h8_1 := ERep.mono leJ h8_1
          exact Fun.mono (text_c hT h8_1 (by have := (made_small h8_0).2.2; omega) (textE_small (by have := (made_small h8_0).2.1; omega) (by have := (made_small h8_0).2.2; omega))) (fun v J' _ h => ⟨UX.d, h, trivial⟩)
        case c45_19 =>
          refine kcast (A := ∀ (φ45 : Nat → Nat) (xs45 : Xs) (J19_45 : IM), I41.Le J19_45 → (True) → (True) → (True) → (True) → Fun Tryd.prog 21 #[.slice (some ⟨g, 0, none⟩) (2 ^ (max (E.depth e5) (E.depth e8))) cap] J19_45 (fun v J' => ∃ x : UX, v = .pointer (some ⟨x.n 0, 0, none⟩) ∧ (RE J' (joinF 64 e5 e8) (x.n 0)))) (by kernel_rfl) ?_
          intro φ45 xs45 J19_45 leJ
          rintro _ _ _ _
          have hv9 := VS.mono leJ hv9
          exact Fun.mono (ofH_c (z := (joinF 64 e5 e8)) (D := (max (E.depth e5) (E.depth e8))) (ok_small (ok_join (ok_of h5_0) (ok_of h8_0)).1).1 (jdep (ok_of h5_0) (ok_of h8_0)) (by have := h5_0.2.1; have := h8_0.2.1; omega) (by have := (ok_small (ok_join (ok_of h5_0) (ok_of h8_0)).1).2.2; omega) hgc hv9) (fun v J' _ ⟨y0, hv, g0⟩ => ⟨{ UX.d with n := fun j => y0 }, hv, g0⟩)
        case c45_20 =>
          refine kcast (A := ∀ (φ45 : Nat → Nat) (xs45 : Xs) (J20_45 : IM), I41.Le J20_45 → (True) → (True) → (True) → (True) → (RE J20_45 (joinF 64 e5 e8) ((xs45 19).n 0)) → Fun Tryd.prog 23 #[.agg #[.int .u64 ((b41 : Nat) : Int), .pointer p41], .pointer (some ⟨(xs45 19).n 0, 0, none⟩)] J20_45 (fun v J' => ∃ x : UX, v = .bool true ∧ (True))) (by kernel_rfl) ?_
          intro φ45 xs45 J20_45 leJ
          rintro _ _ _ _ h45_19_0
          have hT := Tab.mono leJ hT
          have h41_0 := ERep.mono leJ h41_0
          exact Fun.mono (likeS_c hT h41_0 h45_19_0 (ok_small (ok_join (ok_of h5_0) (ok_of h8_0)).1)) (fun v J' _ h => ⟨UX.d, h, trivial⟩)
        case c45_25 =>
          refine kcast (A := ∀ (φ45 : Nat → Nat) (xs45 : Xs) (J25_45 : IM), I41.Le J25_45 → (True) → (True) → (True) → (True) → (RE J25_45 (joinF 64 e5 e8) ((xs45 19).n 0)) → (True) → Fun Tryd.prog 29 #[.agg #[.int .u64 ((b5 : Nat) : Int), .pointer q5], .agg #[.int .u64 ((b41 : Nat) : Int), .pointer p41]] J25_45 (fun v J' => ∃ x : UX, v = .bool true ∧ (True))) (by kernel_rfl) ?_
          intro φ45 xs45 J25_45 leJ
          rintro _ _ _ _ h45_19_0 _
          have h5_1 := ERep.mono leJ h5_1
          have h41_0 := ERep.mono leJ h41_0
          exact Fun.mono (leqTE_c h5_1 h41_0 (ok_of h5_0) (ok_join (ok_of h5_0) (ok_of h8_0)).1 (fun k hk => by have q0 := (ok_join (ok_of h5_0) (ok_of h8_0)).2 k; omega)) (fun v J' _ h => ⟨UX.d, h, trivial⟩)
        case c45_30 =>
          refine kcast (A := ∀ (φ45 : Nat → Nat) (xs45 : Xs) (J30_45 : IM), I41.Le J30_45 → (True) → (True) → (True) → (True) → (RE J30_45 (joinF 64 e5 e8) ((xs45 19).n 0)) → (True) → (True) → Fun Tryd.prog 29 #[.agg #[.int .u64 ((b8 : Nat) : Int), .pointer q8], .agg #[.int .u64 ((b41 : Nat) : Int), .pointer p41]] J30_45 (fun v J' => ∃ x : UX, v = .bool true ∧ (True))) (by kernel_rfl) ?_
          intro φ45 xs45 J30_45 leJ
          rintro _ _ _ _ h45_19_0 _ _
          have h8_1 := ERep.mono leJ h8_1
          have h41_0 := ERep.mono leJ h41_0
          exact Fun.mono (leqTE_c h8_1 h41_0 (ok_of h8_0) (ok_join (ok_of h5_0) (ok_of h8_0)).1 (fun k hk => by have q0 := (ok_join (ok_of h5_0) (ok_of h8_0)).2 k; omega)) (fun v J' _ h => ⟨UX.d, h, trivial⟩)
        case c45_38 =>
          refine kcast (A := ∀ (φ45 : Nat → Nat) (xs45 : Xs) (J38_45 : IM), I41.Le J38_45 → (True) → (True) → (True) → (True) → (RE J38_45 (joinF 64 e5 e8) ((xs45 19).n 0)) → (True) → (True) → (True) → Fun Tryd.prog 30 #[.agg #[.int .u64 ((b41 : Nat) : Int), .pointer p41], .agg #[.int .u64 ((b8 : Nat) : Int), .pointer q8]] J38_45 (fun v J' => ∃ x : UX, v = .bool true ∧ (True))) (by kernel_rfl) ?_
          intro φ45 xs45 J38_45 leJ
          rintro _ _ _ _ h45_19_0 _ _ _
          have h8_1 := ERep.mono leJ h8_1
          have h41_0 := ERep.mono leJ h41_0
          exact Fun.mono (sameUp_c h41_0 h8_1 (ok_of h5_0) (ok_of h8_0) hc43) (fun v J' _ h => ⟨UX.d, h, trivial⟩)
        case k45 =>
          rintro φ45 xs45 I45 w45 le45 s _ _ _ _ h45_19_0 _ _ _ _
          replace hT := Tab.mono le45 hT
          replace hla := BSl.mono le45 hla
          replace hlb := BSl.mono le45 hlb
          replace h5_1 := ERep.mono le45 h5_1
          replace h5_2 := RE.mono le45 h5_2
          replace h8_1 := ERep.mono le45 h8_1
          replace h8_2 := RE.mono le45 h8_2
          replace h16_1 := VS.mono le45 h16_1
          replace h18_1 := VS.mono le45 h18_1
          replace hle25 := leMono9 le45 hle25
          replace hv9 := VS.mono le45 hv9
          replace h41_0 := ERep.mono le45 h41_0
          replace hk40 := le45 _ _ hk40
          refine wp_ret ?_
          refine ret_rule (C := []) [((φ6 0), .cells #[.int .u64 ((b5 : Nat) : Int), .pointer q5] 27), ((φ9 0), .cells #[.int .u64 ((b8 : Nat) : Int), .pointer q8] 27), ((φ42 0), .cells #[.int .u64 ((b41 : Nat) : Int), .pointer p41] 27)] [] (.bool true) [] [] s trivial (by kernel_rfl) ?_
          exact ⟨_, _, _, rfl, s, rfl⟩
      ·
        refine draw_rule (C := []) ⟨(fun φ46 xs46 => [.look 0 [.o 0, .o 0] [(φ6 0), (φ6 0)], .look 0 [.o 1, .o 1] [(φ9 0), (φ9 0)], .call 29 #[.agg #[.int .u64 ((b5 : Nat) : Int), .pointer q5], .agg #[.int .u64 ((b8 : Nat) : Int), .pointer q8]], .look 0 [] [], .look 0 [] [], .look 0 [] [], .look 0 [.o 0, .o 0] [(φ6 0), (φ6 0)], .look 0 [.o 1, .o 1] [(φ9 0), (φ9 0)], .call 30 #[.agg #[.int .u64 ((b5 : Nat) : Int), .pointer q5], .agg #[.int .u64 ((b8 : Nat) : Int), .pointer q8]], .look 0 [.o 0, .o 0] [(φ6 0), (φ6 0)], .call 25 #[.agg #[.int .u64 ((b5 : Nat) : Int), .pointer q5]], .look 0 [.o 1, .o 1] [(φ9 0), (φ9 0)], .call 25 #[.agg #[.int .u64 ((b8 : Nat) : Int), .pointer q8]], .sub 0 [] [] (.bool ((⟨(textE e5).toArray⟩ : ByteArray).toList == (⟨(textE e8).toArray⟩ : ByteArray).toList)), .look 0 [] [], .look 0 [] [], .look 0 [] [], .look 0 [.o 2, .o 2] [(φ42 0), (φ42 0)], .look 0 [] [], .call 21 #[.slice (some ⟨g, 0, none⟩) (2 ^ (max (E.depth e5) (E.depth e8))) cap], .call 23 #[.agg #[.int .u64 ((b41 : Nat) : Int), .pointer p41], .pointer (some ⟨(xs46 19).n 0, 0, none⟩)], .look 0 [] [], .look 0 [] [], .look 0 [.o 0, .o 0] [(φ6 0), (φ6 0)], .look 0 [.o 2, .o 2] [(φ42 0), (φ42 0)], .call 29 #[.agg #[.int .u64 ((b5 : Nat) : Int), .pointer q5], .agg #[.int .u64 ((b41 : Nat) : Int), .pointer p41]], .look 0 [] [], .look 0 [] [], .look 0 [.o 1, .o 1] [(φ9 0), (φ9 0)], .look 0 [.o 2, .o 2] [(φ42 0), (φ42 0)], .call 29 #[.agg #[.int .u64 ((b8 : Nat) : Int), .pointer q8], .agg #[.int .u64 ((b41 : Nat) : Int), .pointer p41]], .look 0 [] [], .look 0 [] [], .look 0 [] [], .look 0 [] [], .look 0 [] [], .look 0 [.o 2, .o 2] [(φ42 0), (φ42 0)], .look 0 [.o 1, .o 1] [(φ9 0), (φ9 0)], .call 30 #[.agg #[.int .u64 ((b41 : Nat) : Int), .pointer p41], .agg #[.int .u64 ((b8 : Nat) : Int), .pointer q8]], .look 0 [] [], .look 0 [] [], .look 0 [] []]), (fun φ46 xs46 => [.agg #[.int .u64 ((b5 : Nat) : Int), .pointer q5], .agg #[.int .u64 ((b8 : Nat) : Int), .pointer q8], .bool true, .bool true, .bool true, .bool true, .agg #[.int .u64 ((b5 : Nat) : Int), .pointer q5], .agg #[.int .u64 ((b8 : Nat) : Int), .pointer q8], .bool false, .agg #[.int .u64 ((b5 : Nat) : Int), .pointer q5], .string ⟨(textE e5).toArray⟩, .agg #[.int .u64 ((b8 : Nat) : Int), .pointer q8], .string ⟨(textE e8).toArray⟩, .bool false, .bool true, .bool true, .bool true, .agg #[.int .u64 ((b41 : Nat) : Int), .pointer p41], .slice (some ⟨g, 0, none⟩) (2 ^ (max (E.depth e5) (E.depth e8))) cap, .pointer (some ⟨(xs46 19).n 0, 0, none⟩), .bool true, .bool true, .bool true, .agg #[.int .u64 ((b5 : Nat) : Int), .pointer q5], .agg #[.int .u64 ((b41 : Nat) : Int), .pointer p41], .bool true, .bool true, .bool true, .agg #[.int .u64 ((b8 : Nat) : Int), .pointer q8], .agg #[.int .u64 ((b41 : Nat) : Int), .pointer p41], .bool true, .bool true, .bool true, .bool true, .bool false, .bool false, .agg #[.int .u64 ((b41 : Nat) : Int), .pointer p41], .agg #[.int .u64 ((b8 : Nat) : Int), .pointer q8], .bool true, .bool true, .bool true, .bool true]), (fun φ46 xs46 => [[((φ6 0), .cells #[.int .u64 ((b5 : Nat) : Int), .pointer q5] 27), ((φ9 0), .cells #[.int .u64 ((b8 : Nat) : Int), .pointer q8] 27), ((φ42 0), .cells #[.int .u64 ((b41 : Nat) : Int), .pointer p41] 27)]]), (fun φ46 xs46 => [[default, default, default, default, default, default, default, default, default, default, default, default, default, default, default, default, default, default, default, default, default, default, default, default, default, default, default, default, default, default, default, default, default, default, default, default, default, default, default, default, default, default]]), [], [1, 1, 3, 1, 1, 1, 1, 1, 3, 1, 3, 1, 3, 5, 1, 1, 1, 1, 1, 3, 3, 1, 1, 1, 1, 3, 1, 1, 1, 1, 3, 1, 1, 1, 1, 1, 1, 1, 3, 1, 1, 1]⟩ (fun j => ([MP.any, MP.any, MP.any, MP.any, MP.any, MP.any, MP.any, MP.any, MP.any, MP.any, MP.any, MP.any, MP.any, MP.any, MP.any, MP.any, MP.any, MP.any, MP.any, ⟨fun x J => RE J (joinF 64 e5 e8) (x.n 0), fun le h => RE.mono le h⟩, MP.any, MP.any, MP.any, MP.any, MP.any, MP.any, MP.any, MP.any, MP.any, MP.any, MP.any, MP.any, MP.any, MP.any, MP.any, MP.any, MP.any, MP.any, MP.any, MP.any, MP.any, MP.any] : List MP).getD j MP.any) [2, 8, 10, 12, 19, 20, 25, 30, 38] [13] [] (fun φ46 xs46 => []) (fun φ46 xs46 => [(74, .agg #[.int .u64 ((b5 : Nat) : Int), .pointer q5]), (75, .agg #[.int .u64 ((b8 : Nat) : Int), .pointer q8]), (76, .bool true), (77, .bool true), (78, .bool true), (79, .bool true), (80, .agg #[.int .u64 ((b5 : Nat) : Int), .pointer q5]), (81, .agg #[.int .u64 ((b8 : Nat) : Int), .pointer q8]), (82, .bool false), (83, .agg #[.int .u64 ((b5 : Nat) : Int), .pointer q5]), (84, .string ⟨(textE e5).toArray⟩), (85, .agg #[.int .u64 ((b8 : Nat) : Int), .pointer q8]), (86, .string ⟨(textE e8).toArray⟩), (87, .bool false), (88, .bool true), (89, .bool true), (90, .bool true), (91, .agg #[.int .u64 ((b41 : Nat) : Int), .pointer p41]), (92, .slice (some ⟨g, 0, none⟩) (2 ^ (max (E.depth e5) (E.depth e8))) cap), (93, .pointer (some ⟨(xs46 19).n 0, 0, none⟩)), (94, .bool true), (95, .bool true), (96, .bool true), (97, .agg #[.int .u64 ((b5 : Nat) : Int), .pointer q5]), (98, .agg #[.int .u64 ((b41 : Nat) : Int), .pointer p41]), (99, .bool true), (100, .bool true), (101, .bool true), (102, .agg #[.int .u64 ((b8 : Nat) : Int), .pointer q8]), (103, .agg #[.int .u64 ((b41 : Nat) : Int), .pointer p41]), (104, .bool true), (105, .bool true), (106, .bool true), (107, .bool true), (108, .bool false), (109, .bool false), (110, .agg #[.int .u64 ((b41 : Nat) : Int), .pointer p41]), (111, .agg #[.int .u64 ((b8 : Nat) : Int), .pointer q8]), (112, .bool true), (113, .bool true), (114, .bool true), (4, .bool true)]) (fun φ46 xs46 => [((φ6 0), .cells #[.int .u64 ((b5 : Nat) : Int), .pointer q5] 27), ((φ9 0), .cells #[.int .u64 ((b8 : Nat) : Int), .pointer q8] 27), ((φ42 0), .cells #[.int .u64 ((b41 : Nat) : Int), .pointer p41] 27)]) s trivial (by kernel_rfl) (by kernel_rfl) (fun _ _ => by kernel_rfl) (fun _ _ => by kernel_rfl) ⟨fun _ _ => by kernel_rfl, fun _ _ => by kernel_rfl, fun _ _ => by kernel_rfl, fun _ _ => by kernel_rfl⟩ (fun _ _ _ => by kernel_rfl) (fun _ _ => by kernel_rfl) (fun _ _ => by kernel_rfl) (fun _ _ => by kernel_rfl) (fun _ _ => by kernel_rfl) (fun _ _ => by kernel_rfl) ⟨kcast (A := ∀ (φ46 : Nat → Nat) (xs46 : Xs), (.bool ((⟨(textE e5).toArray⟩ : ByteArray).toList == (⟨(textE e8).toArray⟩ : ByteArray).toList) : Value) = .bool false) (by kernel_rfl) (fun φ46 xs46 => congrArg Value.bool ((hc44))), trivial⟩ trivial (by kernel_rfl) ⟨?c46_2, ?c46_8, ?c46_10, ?c46_12, ?c46_19, ?c46_20, ?c46_25, ?c46_30, ?c46_38, trivial⟩ ?k46
        case c46_2 =>
          refine kcast (A := ∀ (φ46 : Nat → Nat) (xs46 : Xs) (J2_46 : IM), I41.Le J2_46 → Fun Tryd.prog 29 #[.agg #[.int .u64 ((b5 : Nat) : Int), .pointer q5], .agg #[.int .u64 ((b8 : Nat) : Int), .pointer q8]] J2_46 (fun v J' => ∃ x : UX, v = .bool true ∧ (True))) (by kernel_rfl) ?_
          intro φ46 xs46 J2_46 leJ
          have h5_1 := ERep.mono leJ h5_1
          have h8_1 := ERep.mono leJ h8_1
          exact Fun.mono (leqOE_c h5_1 h8_1 (ok_of h5_0) (ok_of h8_0)) (fun v J' _ h => ⟨UX.d, h.trans (congrArg Value.bool hc43), trivial⟩)
        case c46_8 =>
          refine kcast (A := ∀ (φ46 : Nat → Nat) (xs46 : Xs) (J8_46 : IM), I41.Le J8_46 → (True) → Fun Tryd.prog 30 #[.agg #[.int .u64 ((b5 : Nat) : Int), .pointer q5], .agg #[.int .u64 ((b8 : Nat) : Int), .pointer q8]] J8_46 (fun v J' => ∃ x : UX, v = .bool false ∧ (True))) (by kernel_rfl) ?_
          intro φ46 xs46 J8_46 leJ
          rintro _
          have h5_1 := ERep.mono leJ h5_1
          have h8_1 := ERep.mono leJ h8_1
          exact Fun.mono (sameText_c h5_1 h8_1 (ok_of h5_0) (ok_of h8_0)) (fun v J' _ h => ⟨UX.d, h.trans (congrArg Value.bool hc44), trivial⟩)
        case c46_10 =>
          refine kcast (A := ∀ (φ46 : Nat → Nat) (xs46 : Xs) (J10_46 : IM), I41.Le J10_46 → (True) → (True) → Fun Tryd.prog 25 #[.agg #[.int .u64 ((b5 : Nat) : Int), .pointer q5]] J10_46 (fun v J' => ∃ x : UX, v = .string ⟨(textE e5).toArray⟩ ∧ (True))) (by kernel_rfl) ?_
          intro φ46 xs46 J10_46 leJ
          rintro _ _
          have hT := Tab.mono leJ hT
          have h5_1 := ERep.mono leJ h5_1
          exact Fun.mono (text_c hT h5_1 (by have := (made_small h5_0).2.2; omega) (textE_small (by have := (made_small h5_0).2.1; omega) (by have := (made_small h5_0).2.2; omega))) (fun v J' _ h => ⟨UX.d, h, trivial⟩)
        case c46_12 =>
          refine kcast (A := ∀ (φ46 : Nat → Nat) (xs46 : Xs) (J12_46 : IM), I41.Le J12_46 → (True) → (True) → (True) → Fun Tryd.prog 25 #[.agg #[.int .u64 ((b8 : Nat) : Int), .pointer q8]] J12_46 (fun v J' => ∃ x : UX, v = .string ⟨(textE e8).toArray⟩ ∧ (True))) (by kernel_rfl) ?_
          intro φ46 xs46 J12_46 leJ
          rintro _ _ _
          have hT := Tab.mono leJ hT
          have h8_1 := ERep.mono leJ h8_1
          exact Fun.mono (text_c hT h8_1 (by have := (made_small h8_0).2.2; omega) (textE_small (by have := (made_small h8_0).2.1; omega) (by have := (made_small h8_0).2.2; omega))) (fun v J' _ h => ⟨UX.d, h, trivial⟩)
        case c46_19 =>
          refine kcast (A := ∀ (φ46 : Nat → Nat) (xs46 : Xs) (J19_46 : IM), I41.Le J19_46 → (True) → (True) → (True) → (True) → Fun Tryd.prog 21 #[.slice (some ⟨g, 0, none⟩) (2 ^ (max (E.depth e5) (E.depth e8))) cap] J19_46 (fun v J' => ∃ x : UX, v = .pointer (some ⟨x.n 0, 0, none⟩) ∧ (RE J' (joinF 64 e5 e8) (x.n 0)))) (by kernel_rfl) ?_
          intro φ46 xs46 J19_46 leJ
          rintro _ _ _ _
          have hv9 := VS.mono leJ hv9
          exact Fun.mono (ofH_c (z := (joinF 64 e5 e8)) (D := (max (E.depth e5) (E.depth e8))) (ok_small (ok_join (ok_of h5_0) (ok_of h8_0)).1).1 (jdep (ok_of h5_0) (ok_of h8_0)) (by have := h5_0.2.1; have := h8_0.2.1; omega) (by have := (ok_small (ok_join (ok_of h5_0) (ok_of h8_0)).1).2.2; omega) hgc hv9) (fun v J' _ ⟨y0, hv, g0⟩ => ⟨{ UX.d with n := fun j => y0 }, hv, g0⟩)
        case c46_20 =>
          refine kcast (A := ∀ (φ46 : Nat → Nat) (xs46 : Xs) (J20_46 : IM), I41.Le J20_46 → (True) → (True) → (True) → (True) → (RE J20_46 (joinF 64 e5 e8) ((xs46 19).n 0)) → Fun Tryd.prog 23 #[.agg #[.int .u64 ((b41 : Nat) : Int), .pointer p41], .pointer (some ⟨(xs46 19).n 0, 0, none⟩)] J20_46 (fun v J' => ∃ x : UX, v = .bool true ∧ (True))) (by kernel_rfl) ?_
          intro φ46 xs46 J20_46 leJ
          rintro _ _ _ _ h46_19_0
          have hT := Tab.mono leJ hT
          have h41_0 := ERep.mono leJ h41_0
          exact Fun.mono (likeS_c hT h41_0 h46_19_0 (ok_small (ok_join (ok_of h5_0) (ok_of h8_0)).1)) (fun v J' _ h => ⟨UX.d, h, trivial⟩)
        case c46_25 =>
          refine kcast (A := ∀ (φ46 : Nat → Nat) (xs46 : Xs) (J25_46 : IM), I41.Le J25_46 → (True) → (True) → (True) → (True) → (RE J25_46 (joinF 64 e5 e8) ((xs46 19).n 0)) → (True) → Fun Tryd.prog 29 #[.agg #[.int .u64 ((b5 : Nat) : Int), .pointer q5], .agg #[.int .u64 ((b41 : Nat) : Int), .pointer p41]] J25_46 (fun v J' => ∃ x : UX, v = .bool true ∧ (True))) (by kernel_rfl) ?_
          intro φ46 xs46 J25_46 leJ
          rintro _ _ _ _ h46_19_0 _
          have h5_1 := ERep.mono leJ h5_1
          have h41_0 := ERep.mono leJ h41_0
          exact Fun.mono (leqTE_c h5_1 h41_0 (ok_of h5_0) (ok_join (ok_of h5_0) (ok_of h8_0)).1 (fun k hk => by have q0 := (ok_join (ok_of h5_0) (ok_of h8_0)).2 k; omega)) (fun v J' _ h => ⟨UX.d, h, trivial⟩)
        case c46_30 =>
          refine kcast (A := ∀ (φ46 : Nat → Nat) (xs46 : Xs) (J30_46 : IM), I41.Le J30_46 → (True) → (True) → (True) → (True) → (RE J30_46 (joinF 64 e5 e8) ((xs46 19).n 0)) → (True) → (True) → Fun Tryd.prog 29 #[.agg #[.int .u64 ((b8 : Nat) : Int), .pointer q8], .agg #[.int .u64 ((b41 : Nat) : Int), .pointer p41]] J30_46 (fun v J' => ∃ x : UX, v = .bool true ∧ (True))) (by kernel_rfl) ?_
          intro φ46 xs46 J30_46 leJ
          rintro _ _ _ _ h46_19_0 _ _
          have h8_1 := ERep.mono leJ h8_1
          have h41_0 := ERep.mono leJ h41_0
          exact Fun.mono (leqTE_c h8_1 h41_0 (ok_of h8_0) (ok_join (ok_of h5_0) (ok_of h8_0)).1 (fun k hk => by have q0 := (ok_join (ok_of h5_0) (ok_of h8_0)).2 k; omega)) (fun v J' _ h => ⟨UX.d, h, trivial⟩)
        case c46_38 =>
          refine kcast (A := ∀ (φ46 : Nat → Nat) (xs46 : Xs) (J38_46 : IM), I41.Le J38_46 → (True) → (True) → (True) → (True) → (RE J38_46 (joinF 64 e5 e8) ((xs46 19).n 0)) → (True) → (True) → (True) → Fun Tryd.prog 30 #[.agg #[.int .u64 ((b41 : Nat) : Int), .pointer p41], .agg #[.int .u64 ((b8 : Nat) : Int), .pointer q8]] J38_46 (fun v J' => ∃ x : UX, v = .bool true ∧ (True))) (by kernel_rfl) ?_
          intro φ46 xs46 J38_46 leJ
          rintro _ _ _ _ h46_19_0 _ _ _
          have h8_1 := ERep.mono leJ h8_1
          have h41_0 := ERep.mono leJ h41_0
          exact Fun.mono (sameUp_c h41_0 h8_1 (ok_of h5_0) (ok_of h8_0) hc43) (fun v J' _ h => ⟨UX.d, h, trivial⟩)
        case k46 =>
          rintro φ46 xs46 I46 w46 le46 s _ _ _ _ h46_19_0 _ _ _ _
          replace hT := Tab.mono le46 hT
          replace hla := BSl.mono le46 hla
          replace hlb := BSl.mono le46 hlb
          replace h5_1 := ERep.mono le46 h5_1
          replace h5_2 := RE.mono le46 h5_2
          replace h8_1 := ERep.mono le46 h8_1
          replace h8_2 := RE.mono le46 h8_2
          replace h16_1 := VS.mono le46 h16_1
          replace h18_1 := VS.mono le46 h18_1
          replace hle25 := leMono9 le46 hle25
          replace hv9 := VS.mono le46 hv9
          replace h41_0 := ERep.mono le46 h41_0
          replace hk40 := le46 _ _ hk40
          refine wp_ret ?_
          refine ret_rule (C := []) [((φ6 0), .cells #[.int .u64 ((b5 : Nat) : Int), .pointer q5] 27), ((φ9 0), .cells #[.int .u64 ((b8 : Nat) : Int), .pointer q8] 27), ((φ42 0), .cells #[.int .u64 ((b41 : Nat) : Int), .pointer p41] 27)] [] (.bool true) [] [] s trivial (by kernel_rfl) ?_
          exact ⟨_, _, _, rfl, s, rfl⟩
    ·
      rw [hc43]
      rcases Bool.eq_false_or_eq_true ((⟨(textE e5).toArray⟩ : ByteArray).toList == (⟨(textE e8).toArray⟩ : ByteArray).toList) with hc47 | hc47
      ·
        refine draw_rule (C := []) ⟨(fun φ48 xs48 => [.look 0 [.o 0, .o 0] [(φ6 0), (φ6 0)], .look 0 [.o 1, .o 1] [(φ9 0), (φ9 0)], .call 29 #[.agg #[.int .u64 ((b5 : Nat) : Int), .pointer q5], .agg #[.int .u64 ((b8 : Nat) : Int), .pointer q8]], .look 0 [] [], .look 0 [] [], .look 0 [] [], .look 0 [.o 0, .o 0] [(φ6 0), (φ6 0)], .look 0 [.o 1, .o 1] [(φ9 0), (φ9 0)], .call 30 #[.agg #[.int .u64 ((b5 : Nat) : Int), .pointer q5], .agg #[.int .u64 ((b8 : Nat) : Int), .pointer q8]], .look 0 [.o 0, .o 0] [(φ6 0), (φ6 0)], .call 25 #[.agg #[.int .u64 ((b5 : Nat) : Int), .pointer q5]], .look 0 [.o 1, .o 1] [(φ9 0), (φ9 0)], .call 25 #[.agg #[.int .u64 ((b8 : Nat) : Int), .pointer q8]], .sub 0 [] [] (.bool ((⟨(textE e5).toArray⟩ : ByteArray).toList == (⟨(textE e8).toArray⟩ : ByteArray).toList)), .look 0 [] [], .look 0 [] [], .look 0 [] [], .look 0 [.o 2, .o 2] [(φ42 0), (φ42 0)], .look 0 [] [], .call 21 #[.slice (some ⟨g, 0, none⟩) (2 ^ (max (E.depth e5) (E.depth e8))) cap], .call 23 #[.agg #[.int .u64 ((b41 : Nat) : Int), .pointer p41], .pointer (some ⟨(xs48 19).n 0, 0, none⟩)], .look 0 [] [], .look 0 [] [], .look 0 [.o 0, .o 0] [(φ6 0), (φ6 0)], .look 0 [.o 2, .o 2] [(φ42 0), (φ42 0)], .call 29 #[.agg #[.int .u64 ((b5 : Nat) : Int), .pointer q5], .agg #[.int .u64 ((b41 : Nat) : Int), .pointer p41]], .look 0 [] [], .look 0 [] [], .look 0 [.o 1, .o 1] [(φ9 0), (φ9 0)], .look 0 [.o 2, .o 2] [(φ42 0), (φ42 0)], .call 29 #[.agg #[.int .u64 ((b8 : Nat) : Int), .pointer q8], .agg #[.int .u64 ((b41 : Nat) : Int), .pointer p41]], .look 0 [] [], .look 0 [] [], .look 0 [] [], .look 0 [] [], .look 0 [] [], .skip, .skip, .skip, .look 0 [] [], .look 0 [] [], .look 0 [] []]), (fun φ48 xs48 => [.agg #[.int .u64 ((b5 : Nat) : Int), .pointer q5], .agg #[.int .u64 ((b8 : Nat) : Int), .pointer q8], .bool false, .bool false, .bool true, .bool true, .agg #[.int .u64 ((b5 : Nat) : Int), .pointer q5], .agg #[.int .u64 ((b8 : Nat) : Int), .pointer q8], .bool true, .agg #[.int .u64 ((b5 : Nat) : Int), .pointer q5], .string ⟨(textE e5).toArray⟩, .agg #[.int .u64 ((b8 : Nat) : Int), .pointer q8], .string ⟨(textE e8).toArray⟩, .bool true, .bool true, .bool true, .bool true, .agg #[.int .u64 ((b41 : Nat) : Int), .pointer p41], .slice (some ⟨g, 0, none⟩) (2 ^ (max (E.depth e5) (E.depth e8))) cap, .pointer (some ⟨(xs48 19).n 0, 0, none⟩), .bool true, .bool true, .bool true, .agg #[.int .u64 ((b5 : Nat) : Int), .pointer q5], .agg #[.int .u64 ((b41 : Nat) : Int), .pointer p41], .bool true, .bool true, .bool true, .agg #[.int .u64 ((b8 : Nat) : Int), .pointer q8], .agg #[.int .u64 ((b41 : Nat) : Int), .pointer p41], .bool true, .bool true, .bool true, .bool false, .bool true, .bool true, undef, undef, undef, .bool true, .bool true, .bool true]), (fun φ48 xs48 => [[((φ6 0), .cells #[.int .u64 ((b5 : Nat) : Int), .pointer q5] 27), ((φ9 0), .cells #[.int .u64 ((b8 : Nat) : Int), .pointer q8] 27), ((φ42 0), .cells #[.int .u64 ((b41 : Nat) : Int), .pointer p41] 27)]]), (fun φ48 xs48 => [[default, default, default, default, default, default, default, default, default, default, default, default, default, default, default, default, default, default, default, default, default, default, default, default, default, default, default, default, default, default, default, default, default, default, default, default, default, default, default, default, default, default]]), [], [1, 1, 3, 1, 1, 1, 1, 1, 3, 1, 3, 1, 3, 5, 1, 1, 1, 1, 1, 3, 3, 1, 1, 1, 1, 3, 1, 1, 1, 1, 3, 1, 1, 1, 1, 1, 0, 0, 0, 1, 1, 1]⟩ (fun j => ([MP.any, MP.any, MP.any, MP.any, MP.any, MP.any, MP.any, MP.any, MP.any, MP.any, MP.any, MP.any, MP.any, MP.any, MP.any, MP.any, MP.any, MP.any, MP.any, ⟨fun x J => RE J (joinF 64 e5 e8) (x.n 0), fun le h => RE.mono le h⟩, MP.any, MP.any, MP.any, MP.any, MP.any, MP.any, MP.any, MP.any, MP.any, MP.any, MP.any, MP.any, MP.any, MP.any, MP.any, MP.any, MP.any, MP.any, MP.any, MP.any, MP.any, MP.any] : List MP).getD j MP.any) [2, 8, 10, 12, 19, 20, 25, 30] [13] [] (fun φ48 xs48 => []) (fun φ48 xs48 => [(74, .agg #[.int .u64 ((b5 : Nat) : Int), .pointer q5]), (75, .agg #[.int .u64 ((b8 : Nat) : Int), .pointer q8]), (76, .bool false), (77, .bool false), (78, .bool true), (79, .bool true), (80, .agg #[.int .u64 ((b5 : Nat) : Int), .pointer q5]), (81, .agg #[.int .u64 ((b8 : Nat) : Int), .pointer q8]), (82, .bool true), (83, .agg #[.int .u64 ((b5 : Nat) : Int), .pointer q5]), (84, .string ⟨(textE e5).toArray⟩), (85, .agg #[.int .u64 ((b8 : Nat) : Int), .pointer q8]), (86, .string ⟨(textE e8).toArray⟩), (87, .bool true), (88, .bool true), (89, .bool true), (90, .bool true), (91, .agg #[.int .u64 ((b41 : Nat) : Int), .pointer p41]), (92, .slice (some ⟨g, 0, none⟩) (2 ^ (max (E.depth e5) (E.depth e8))) cap), (93, .pointer (some ⟨(xs48 19).n 0, 0, none⟩)), (94, .bool true), (95, .bool true), (96, .bool true), (97, .agg #[.int .u64 ((b5 : Nat) : Int), .pointer q5]), (98, .agg #[.int .u64 ((b41 : Nat) : Int), .pointer p41]), (99, .bool true), (100, .bool true), (101, .bool true), (102, .agg #[.int .u64 ((b8 : Nat) : Int), .pointer q8]), (103, .agg #[.int .u64 ((b41 : Nat) : Int), .pointer p41]), (104, .bool true), (105, .bool true), (106, .bool true), (107, .bool false), (108, .bool true), (109, .bool true), (110, undef), (111, undef), (112, undef), (113, .bool true), (114, .bool true), (4, .bool true)]) (fun φ48 xs48 => [((φ6 0), .cells #[.int .u64 ((b5 : Nat) : Int), .pointer q5] 27), ((φ9 0), .cells #[.int .u64 ((b8 : Nat) : Int), .pointer q8] 27), ((φ42 0), .cells #[.int .u64 ((b41 : Nat) : Int), .pointer p41] 27)]) s trivial (by kernel_rfl) (by kernel_rfl) (fun _ _ => by kernel_rfl) (fun _ _ => by kernel_rfl) ⟨fun _ _ => by kernel_rfl, fun _ _ => by kernel_rfl, fun _ _ => by kernel_rfl, fun _ _ => by kernel_rfl⟩ (fun _ _ _ => by kernel_rfl) (fun _ _ => by kernel_rfl) (fun _ _ => by kernel_rfl) (fun _ _ => by kernel_rfl) (fun _ _ => by kernel_rfl) (fun _ _ => by kernel_rfl) ⟨kcast (A := ∀ (φ48 : Nat → Nat) (xs48 : Xs), (.bool ((⟨(textE e5).toArray⟩ : ByteArray).toList == (⟨(textE e8).toArray⟩ : ByteArray).toList) : Value) = .bool true) (by kernel_rfl) (fun φ48 xs48 => congrArg Value.bool ((hc47))), trivial⟩ trivial (by kernel_rfl) ⟨?c48_2, ?c48_8, ?c48_10, ?c48_12, ?c48_19, ?c48_20, ?c48_25, ?c48_30, trivial⟩ ?k48
        case c48_2 =>
          refine kcast (A := ∀ (φ48 : Nat → Nat) (xs48 : Xs) (J2_48 : IM), I41.Le J2_48 → Fun Tryd.prog 29 #[.agg #[.int .u64 ((b5 : Nat) : Int), .pointer q5], .agg #[.int .u64 ((b8 : Nat) : Int), .pointer q8]] J2_48 (fun v J' => ∃ x : UX, v = .bool false ∧ (True))) (by kernel_rfl) ?_
          intro φ48 xs48 J2_48 leJ
          have h5_1 := ERep.mono leJ h5_1
          have h8_1 := ERep.mono leJ h8_1
          exact Fun.mono (leqOE_c h5_1 h8_1 (ok_of h5_0) (ok_of h8_0)) (fun v J' _ h => ⟨UX.d, h.trans (congrArg Value.bool hc43), trivial⟩)
        case c48_8 =>
          refine kcast (A := ∀ (φ48 : Nat → Nat) (xs48 : Xs) (J8_48 : IM), I41.Le J8_48 → (True) → Fun Tryd.prog 30 #[.agg #[.int .u64 ((b5 : Nat) : Int), .pointer q5], .agg #[.int .u64 ((b8 : Nat) : Int), .pointer q8]] J8_48 (fun v J' => ∃ x : UX, v = .bool true ∧ (True))) (by kernel_rfl) ?_
          intro φ48 xs48 J8_48 leJ
          rintro _
          have h5_1 := ERep.mono leJ h5_1
          have h8_1 := ERep.mono leJ h8_1
          exact Fun.mono (sameText_c h5_1 h8_1 (ok_of h5_0) (ok_of h8_0)) (fun v J' _ h => ⟨UX.d, h.trans (congrArg Value.bool hc47), trivial⟩)
        case c48_10 =>
          refine kcast (A := ∀ (φ48 : Nat → Nat) (xs48 : Xs) (J10_48 : IM), I41.Le J10_48 → (True) → (True) → Fun Tryd.prog 25 #[.agg #[.int .u64 ((b5 : Nat) : Int), .pointer q5]] J10_48 (fun v J' => ∃ x : UX, v = .string ⟨(textE e5).toArray⟩ ∧ (True))) (by kernel_rfl) ?_
          intro φ48 xs48 J10_48 leJ
          rintro _ _
          have hT := Tab.mono leJ hT
          have h5_1 := ERep.mono leJ h5_1
          exact Fun.mono (text_c hT h5_1 (by have := (made_small h5_0).2.2; omega) (textE_small (by have := (made_small h5_0).2.1; omega) (by have := (made_small h5_0).2.2; omega))) (fun v J' _ h => ⟨UX.d, h, trivial⟩)
        case c48_12 =>
          refine kcast (A := ∀ (φ48 : Nat → Nat) (xs48 : Xs) (J12_48 : IM), I41.Le J12_48 → (True) → (True) → (True) → Fun Tryd.prog 25 #[.agg #[.int .u64 ((b8 : Nat) : Int), .pointer q8]] J12_48 (fun v J' => ∃ x : UX, v = .string ⟨(textE e8).toArray⟩ ∧ (True))) (by kernel_rfl) ?_
          intro φ48 xs48 J12_48 leJ
          rintro _ _ _
          have hT := Tab.mono leJ hT
          have h8_1 := ERep.mono leJ h8_1
          exact Fun.mono (text_c hT h8_1 (by have := (made_small h8_0).2.2; omega) (textE_small (by have := (made_small h8_0).2.1; omega) (by have := (made_small h8_0).2.2; omega))) (fun v J' _ h => ⟨UX.d, h, trivial⟩)
        case c48_19 =>
          refine kcast (A := ∀ (φ48 : Nat → Nat) (xs48 : Xs) (J19_48 : IM), I41.Le J19_48 → (True) → (True) → (True) → (True) → Fun Tryd.prog 21 #[.slice (some ⟨g, 0, none⟩) (2 ^ (max (E.depth e5) (E.depth e8))) cap] J19_48 (fun v J' => ∃ x : UX, v = .pointer (some ⟨x.n 0, 0, none⟩) ∧ (RE J' (joinF 64 e5 e8) (x.n 0)))) (by kernel_rfl) ?_
          intro φ48 xs48 J19_48 leJ
          rintro _ _ _ _
          have hv9 := VS.mono leJ hv9
          exact Fun.mono (ofH_c (z := (joinF 64 e5 e8)) (D := (max (E.depth e5) (E.depth e8))) (ok_small (ok_join (ok_of h5_0) (ok_of h8_0)).1).1 (jdep (ok_of h5_0) (ok_of h8_0)) (by have := h5_0.2.1; have := h8_0.2.1; omega) (by have := (ok_small (ok_join (ok_of h5_0) (ok_of h8_0)).1).2.2; omega) hgc hv9) (fun v J' _ ⟨y0, hv, g0⟩ => ⟨{ UX.d with n := fun j => y0 }, hv, g0⟩)
        case c48_20 =>
          refine kcast (A := ∀ (φ48 : Nat → Nat) (xs48 : Xs) (J20_48 : IM), I41.Le J20_48 → (True) → (True) → (True) → (True) → (RE J20_48 (joinF 64 e5 e8) ((xs48 19).n 0)) → Fun Tryd.prog 23 #[.agg #[.int .u64 ((b41 : Nat) : Int), .pointer p41], .pointer (some ⟨(xs48 19).n 0, 0, none⟩)] J20_48 (fun v J' => ∃ x : UX, v = .bool true ∧ (True))) (by kernel_rfl) ?_
          intro φ48 xs48 J20_48 leJ
          rintro _ _ _ _ h48_19_0
          have hT := Tab.mono leJ hT
          have h41_0 := ERep.mono leJ h41_0
          exact Fun.mono (likeS_c hT h41_0 h48_19_0 (ok_small (ok_join (ok_of h5_0) (ok_of h8_0)).1)) (fun v J' _ h => ⟨UX.d, h, trivial⟩)
        case c48_25 =>
          refine kcast (A := ∀ (φ48 : Nat → Nat) (xs48 : Xs) (J25_48 : IM), I41.Le J25_48 → (True) → (True) → (True) → (True) → (RE J25_48 (joinF 64 e5 e8) ((xs48 19).n 0)) → (True) → Fun Tryd.prog 29 #[.agg #[.int .u64 ((b5 : Nat) : Int), .pointer q5], .agg #[.int .u64 ((b41 : Nat) : Int), .pointer p41]] J25_48 (fun v J' => ∃ x : UX, v = .bool true ∧ (True))) (by kernel_rfl) ?_
          intro φ48 xs48 J25_48 leJ
          rintro _ _ _ _ h48_19_0 _
          have h5_1 := ERep.mono leJ h5_1
          have h41_0 := ERep.mono leJ h41_0
          exact Fun.mono (leqTE_c h5_1 h41_0 (ok_of h5_0) (ok_join (ok_of h5_0) (ok_of h8_0)).1 (fun k hk => by have q0 := (ok_join (ok_of h5_0) (ok_of h8_0)).2 k; omega)) (fun v J' _ h => ⟨UX.d, h, trivial⟩)
        case c48_30 =>
          refine kcast (A := ∀ (φ48 : Nat → Nat) (xs48 : Xs) (J30_48 : IM), I41.Le J30_48 → (True) → (True) → (True) → (True) → (RE J30_48 (joinF 64 e5 e8) ((xs48 19).n 0)) → (True) → (True) → Fun Tryd.prog 29 #[.agg #[.int .u64 ((b8 : Nat) : Int), .pointer q8], .agg #[.int .u64 ((b41 : Nat) : Int), .pointer p41]] J30_48 (fun v J' => ∃ x : UX, v = .bool true ∧ (True))) (by kernel_rfl) ?_
          intro φ48 xs48 J30_48 leJ
          rintro _ _ _ _ h48_19_0 _ _
          have h8_1 := ERep.mono leJ h8_1
          have h41_0 := ERep.mono leJ h41_0
          exact Fun.mono (leqTE_c h8_1 h41_0 (ok_of h8_0) (ok_join (ok_of h5_0) (ok_of h8_0)).1 (fun k hk => by have q0 := (ok_join (ok_of h5_0) (ok_of h8_0)).2 k; omega)) (fun v J' _ h => ⟨UX.d, h, trivial⟩)
        case k48 =>
          rintro φ48 xs48 I48 w48 le48 s _ _ _ _ h48_19_0 _ _ _
          replace hT := Tab.mono le48 hT
          replace hla := BSl.mono le48 hla
          replace hlb := BSl.mono le48 hlb
          replace h5_1 := ERep.mono le48 h5_1
          replace h5_2 := RE.mono le48 h5_2
          replace h8_1 := ERep.mono le48 h8_1
          replace h8_2 := RE.mono le48 h8_2
          replace h16_1 := VS.mono le48 h16_1
          replace h18_1 := VS.mono le48 h18_1
          replace hle25 := leMono9 le48 hle25
          replace hv9 := VS.mono le48 hv9
          replace h41_0 := ERep.mono le48 h41_0
          replace hk40 := le48 _ _ hk40
          refine wp_ret ?_
          refine ret_rule (C := []) [((φ6 0), .cells #[.int .u64 ((b5 : Nat) : Int), .pointer q5] 27), ((φ9 0), .cells #[.int .u64 ((b8 : Nat) : Int), .pointer q8] 27), ((φ42 0), .cells #[.int .u64 ((b41 : Nat) : Int), .pointer p41] 27)] [] (.bool true) [] [] s trivial (by kernel_rfl) ?_
          exact ⟨_, _, _, rfl, s, rfl⟩
      ·
        refine draw_rule (C := []) ⟨(fun φ49 xs49 => [.look 0 [.o 0, .o 0] [(φ6 0), (φ6 0)], .look 0 [.o 1, .o 1] [(φ9 0), (φ9 0)], .call 29 #[.agg #[.int .u64 ((b5 : Nat) : Int), .pointer q5], .agg #[.int .u64 ((b8 : Nat) : Int), .pointer q8]], .look 0 [] [], .look 0 [] [], .look 0 [] [], .look 0 [.o 0, .o 0] [(φ6 0), (φ6 0)], .look 0 [.o 1, .o 1] [(φ9 0), (φ9 0)], .call 30 #[.agg #[.int .u64 ((b5 : Nat) : Int), .pointer q5], .agg #[.int .u64 ((b8 : Nat) : Int), .pointer q8]], .look 0 [.o 0, .o 0] [(φ6 0), (φ6 0)], .call 25 #[.agg #[.int .u64 ((b5 : Nat) : Int), .pointer q5]], .look 0 [.o 1, .o 1] [(φ9 0), (φ9 0)], .call 25 #[.agg #[.int .u64 ((b8 : Nat) : Int), .pointer q8]], .sub 0 [] [] (.bool ((⟨(textE e5).toArray⟩ : ByteArray).toList == (⟨(textE e8).toArray⟩ : ByteArray).toList)), .look 0 [] [], .look 0 [] [], .look 0 [] [], .look 0 [.o 2, .o 2] [(φ42 0), (φ42 0)], .look 0 [] [], .call 21 #[.slice (some ⟨g, 0, none⟩) (2 ^ (max (E.depth e5) (E.depth e8))) cap], .call 23 #[.agg #[.int .u64 ((b41 : Nat) : Int), .pointer p41], .pointer (some ⟨(xs49 19).n 0, 0, none⟩)], .look 0 [] [], .look 0 [] [], .look 0 [.o 0, .o 0] [(φ6 0), (φ6 0)], .look 0 [.o 2, .o 2] [(φ42 0), (φ42 0)], .call 29 #[.agg #[.int .u64 ((b5 : Nat) : Int), .pointer q5], .agg #[.int .u64 ((b41 : Nat) : Int), .pointer p41]], .look 0 [] [], .look 0 [] [], .look 0 [.o 1, .o 1] [(φ9 0), (φ9 0)], .look 0 [.o 2, .o 2] [(φ42 0), (φ42 0)], .call 29 #[.agg #[.int .u64 ((b8 : Nat) : Int), .pointer q8], .agg #[.int .u64 ((b41 : Nat) : Int), .pointer p41]], .look 0 [] [], .look 0 [] [], .look 0 [] [], .look 0 [] [], .look 0 [] [], .skip, .skip, .skip, .look 0 [] [], .look 0 [] [], .look 0 [] []]), (fun φ49 xs49 => [.agg #[.int .u64 ((b5 : Nat) : Int), .pointer q5], .agg #[.int .u64 ((b8 : Nat) : Int), .pointer q8], .bool false, .bool false, .bool true, .bool true, .agg #[.int .u64 ((b5 : Nat) : Int), .pointer q5], .agg #[.int .u64 ((b8 : Nat) : Int), .pointer q8], .bool false, .agg #[.int .u64 ((b5 : Nat) : Int), .pointer q5], .string ⟨(textE e5).toArray⟩, .agg #[.int .u64 ((b8 : Nat) : Int), .pointer q8], .string ⟨(textE e8).toArray⟩, .bool false, .bool true, .bool true, .bool true, .agg #[.int .u64 ((b41 : Nat) : Int), .pointer p41], .slice (some ⟨g, 0, none⟩) (2 ^ (max (E.depth e5) (E.depth e8))) cap, .pointer (some ⟨(xs49 19).n 0, 0, none⟩), .bool true, .bool true, .bool true, .agg #[.int .u64 ((b5 : Nat) : Int), .pointer q5], .agg #[.int .u64 ((b41 : Nat) : Int), .pointer p41], .bool true, .bool true, .bool true, .agg #[.int .u64 ((b8 : Nat) : Int), .pointer q8], .agg #[.int .u64 ((b41 : Nat) : Int), .pointer p41], .bool true, .bool true, .bool true, .bool false, .bool true, .bool true, undef, undef, undef, .bool true, .bool true, .bool true]), (fun φ49 xs49 => [[((φ6 0), .cells #[.int .u64 ((b5 : Nat) : Int), .pointer q5] 27), ((φ9 0), .cells #[.int .u64 ((b8 : Nat) : Int), .pointer q8] 27), ((φ42 0), .cells #[.int .u64 ((b41 : Nat) : Int), .pointer p41] 27)]]), (fun φ49 xs49 => [[default, default, default, default, default, default, default, default, default, default, default, default, default, default, default, default, default, default, default, default, default, default, default, default, default, default, default, default, default, default, default, default, default, default, default, default, default, default, default, default, default, default]]), [], [1, 1, 3, 1, 1, 1, 1, 1, 3, 1, 3, 1, 3, 5, 1, 1, 1, 1, 1, 3, 3, 1, 1, 1, 1, 3, 1, 1, 1, 1, 3, 1, 1, 1, 1, 1, 0, 0, 0, 1, 1, 1]⟩ (fun j => ([MP.any, MP.any, MP.any, MP.any, MP.any, MP.any, MP.any, MP.any, MP.any, MP.any, MP.any, MP.any, MP.any, MP.any, MP.any, MP.any, MP.any, MP.any, MP.any, ⟨fun x J => RE J (joinF 64 e5 e8) (x.n 0), fun le h => RE.mono le h⟩, MP.any, MP.any, MP.any, MP.any, MP.any, MP.any, MP.any, MP.any, MP.any, MP.any, MP.any, MP.any, MP.any, MP.any, MP.any, MP.any, MP.any, MP.any, MP.any, MP.any, MP.any, MP.any] : List MP).getD j MP.any) [2, 8, 10, 12, 19, 20, 25, 30] [13] [] (fun φ49 xs49 => []) (fun φ49 xs49 => [(74, .agg #[.int .u64 ((b5 : Nat) : Int), .pointer q5]), (75, .agg #[.int .u64 ((b8 : Nat) : Int), .pointer q8]), (76, .bool false), (77, .bool false), (78, .bool true), (79, .bool true), (80, .agg #[.int .u64 ((b5 : Nat) : Int), .pointer q5]), (81, .agg #[.int .u64 ((b8 : Nat) : Int), .pointer q8]), (82, .bool false), (83, .agg #[.int .u64 ((b5 : Nat) : Int), .pointer q5]), (84, .string ⟨(textE e5).toArray⟩), (85, .agg #[.int .u64 ((b8 : Nat) : Int), .pointer q8]), (86, .string ⟨(textE e8).toArray⟩), (87, .bool false), (88, .bool true), (89, .bool true), (90, .bool true), (91, .agg #[.int .u64 ((b41 : Nat) : Int), .pointer p41]), (92, .slice (some ⟨g, 0, none⟩) (2 ^ (max (E.depth e5) (E.depth e8))) cap), (93, .pointer (some ⟨(xs49 19).n 0, 0, none⟩)), (94, .bool true), (95, .bool true), (96, .bool true), (97, .agg #[.int .u64 ((b5 : Nat) : Int), .pointer q5]), (98, .agg #[.int .u64 ((b41 : Nat) : Int), .pointer p41]), (99, .bool true), (100, .bool true), (101, .bool true), (102, .agg #[.int .u64 ((b8 : Nat) : Int), .pointer q8]), (103, .agg #[.int .u64 ((b41 : Nat) : Int), .pointer p41]), (104, .bool true), (105, .bool true), (106, .bool true), (107, .bool false), (108, .bool true), (109, .bool true), (110, undef), (111, undef), (112, undef), (113, .bool true), (114, .bool true), (4, .bool true)]) (fun φ49 xs49 => [((φ6 0), .cells #[.int .u64 ((b5 : Nat) : Int), .pointer q5] 27), ((φ9 0), .cells #[.int .u64 ((b8 : Nat) : Int), .pointer q8] 27), ((φ42 0), .cells #[.int .u64 ((b41 : Nat) : Int), .pointer p41] 27)]) s trivial (by kernel_rfl) (by kernel_rfl) (fun _ _ => by kernel_rfl) (fun _ _ => by kernel_rfl) ⟨fun _ _ => by kernel_rfl, fun _ _ => by kernel_rfl, fun _ _ => by kernel_rfl, fun _ _ => by kernel_rfl⟩ (fun _ _ _ => by kernel_rfl) (fun _ _ => by kernel_rfl) (fun _ _ => by kernel_rfl) (fun _ _ => by kernel_rfl) (fun _ _ => by kernel_rfl) (fun _ _ => by kernel_rfl) ⟨kcast (A := ∀ (φ49 : Nat → Nat) (xs49 : Xs), (.bool ((⟨(textE e5).toArray⟩ : ByteArray).toList == (⟨(textE e8).toArray⟩ : ByteArray).toList) : Value) = .bool false) (by kernel_rfl) (fun φ49 xs49 => congrArg Value.bool ((hc47))), trivial⟩ trivial (by kernel_rfl) ⟨?c49_2, ?c49_8, ?c49_10, ?c49_12, ?c49_19, ?c49_20, ?c49_25, ?c49_30, trivial⟩ ?k49
        case c49_2 =>
          refine kcast (A := ∀ (φ49 : Nat → Nat) (xs49 : Xs) (J2_49 : IM), I41.Le J2_49 → Fun Tryd.prog 29 #[.agg #[.int .u64 ((b5 : Nat) : Int), .pointer q5], .agg #[.int .u64 ((b8 : Nat) : Int), .pointer q8]] J2_49 (fun v J' => ∃ x : UX, v = .bool false ∧ (True))) (by kernel_rfl) ?_
          intro φ49 xs49 J2_49 leJ
          have h5_1 := ERep.mono leJ h5_1
          have h8_1 := ERep.mono leJ h8_1
          exact Fun.mono (leqOE_c h5_1 h8_1 (ok_of h5_0) (ok_of h8_0)) (fun v J' _ h => ⟨UX.d, h.trans (congrArg Value.bool hc43), trivial⟩)
        case c49_8 =>
          refine kcast (A := ∀ (φ49 : Nat → Nat) (xs49 : Xs) (J8_49 : IM), I41.Le J8_49 → (True) → Fun Tryd.prog 30 #[.agg #[.int .u64 ((b5 : Nat) : Int), .pointer q5], .agg #[.int .u64 ((b8 : Nat) : Int), .pointer q8]] J8_49 (fun v J' => ∃ x : UX, v = .bool false ∧ (True))) (by kernel_rfl) ?_
          intro φ49 xs49 J8_49 leJ
          rintro _
          have h5_1 := ERep.mono leJ h5_1
          have h8_1 := ERep.mono leJ h8_1
          exact Fun.mono (sameText_c h5_1 h8_1 (ok_of h5_0) (ok_of h8_0)) (fun v J' _ h => ⟨UX.d, h.trans (congrArg Value.bool hc47), trivial⟩)
        case c49_10 =>
          refine kcast (A := ∀ (φ49 : Nat → Nat) (xs49 : Xs) (J10_49 : IM), I41.Le J10_49 → (True) → (True) → Fun Tryd.prog 25 #[.agg #[.int .u64 ((b5 : Nat) : Int), .pointer q5]] J10_49 (fun v J' => ∃ x : UX, v = .string ⟨(textE e5).toArray⟩ ∧ (True))) (by kernel_rfl) ?_
          intro φ49 xs49 J10_49 leJ
          rintro _ _
          have hT := Tab.mono leJ hT
          have h5_1 := ERep.mono leJ h5_1
          exact Fun.mono (text_c hT h5_1 (by have := (made_small h5_0).2.2; omega) (textE_small (by have := (made_small h5_0).2.1; omega) (by have := (made_small h5_0).2.2; omega))) (fun v J' _ h => ⟨UX.d, h, trivial⟩)
        case c49_12 =>
          refine kcast (A := ∀ (φ49 : Nat → Nat) (xs49 : Xs) (J12_49 : IM), I41.Le J12_49 → (True) → (True) → (True) → Fun Tryd.prog 25 #[.agg #[.int .u64 ((b8 : Nat) : Int), .pointer q8]] J12_49 (fun v J' => ∃ x : UX, v = .string ⟨(textE e8).toArray⟩ ∧ (True))) (by kernel_rfl) ?_
          intro φ49 xs49 J12_49 leJ
          rintro _ _ _
          have hT := Tab.mono leJ hT
          have h8_1 := ERep.mono leJ h8_1
          exact Fun.mono (text_c hT h8_1 (by have := (made_small h8_0).2.2; omega) (textE_small (by have := (made_small h8_0).2.1; omega) (by have := (made_small h8_0).2.2; omega))) (fun v J' _ h => ⟨UX.d, h, trivial⟩)
        case c49_19 =>
          refine kcast (A := ∀ (φ49 : Nat → Nat) (xs49 : Xs) (J19_49 : IM), I41.Le J19_49 → (True) → (True) → (True) → (True) → Fun Tryd.prog 21 #[.slice (some ⟨g, 0, none⟩) (2 ^ (max (E.depth e5) (E.depth e8))) cap] J19_49 (fun v J' => ∃ x : UX, v = .pointer (some ⟨x.n 0, 0, none⟩) ∧ (RE J' (joinF 64 e5 e8) (x.n 0)))) (by kernel_rfl) ?_
          intro φ49 xs49 J19_49 leJ
          rintro _ _ _ _
          have hv9 := VS.mono leJ hv9
          exact Fun.mono (ofH_c (z := (joinF 64 e5 e8)) (D := (max (E.depth e5) (E.depth e8))) (ok_small (ok_join (ok_of h5_0) (ok_of h8_0)).1).1 (jdep (ok_of h5_0) (ok_of h8_0)) (by have := h5_0.2.1; have := h8_0.2.1; omega) (by have := (ok_small (ok_join (ok_of h5_0) (ok_of h8_0)).1).2.2; omega) hgc hv9) (fun v J' _ ⟨y0, hv, g0⟩ => ⟨{ UX.d with n := fun j => y0 }, hv, g0⟩)
        case c49_20 =>
          refine kcast (A := ∀ (φ49 : Nat → Nat) (xs49 : Xs) (J20_49 : IM), I41.Le J20_49 → (True) → (True) → (True) → (True) → (RE J20_49 (joinF 64 e5 e8) ((xs49 19).n 0)) → Fun Tryd.prog 23 #[.agg #[.int .u64 ((b41 : Nat) : Int), .pointer p41], .pointer (some ⟨(xs49 19).n 0, 0, none⟩)] J20_49 (fun v J' => ∃ x : UX, v = .bool true ∧ (True))) (by kernel_rfl) ?_
          intro φ49 xs49 J20_49 leJ
          rintro _ _ _ _ h49_19_0
          have hT := Tab.mono leJ hT
          have h41_0 := ERep.mono leJ h41_0
          exact Fun.mono (likeS_c hT h41_0 h49_19_0 (ok_small (ok_join (ok_of h5_0) (ok_of h8_0)).1)) (fun v J' _ h => ⟨UX.d, h, trivial⟩)
        case c49_25 =>
          refine kcast (A := ∀ (φ49 : Nat → Nat) (xs49 : Xs) (J25_49 : IM), I41.Le J25_49 → (True) → (True) → (True) → (True) → (RE J25_49 (joinF 64 e5 e8) ((xs49 19).n 0)) → (True) → Fun Tryd.prog 29 #[.agg #[.int .u64 ((b5 : Nat) : Int), .pointer q5], .agg #[.int .u64 ((b41 : Nat) : Int), .pointer p41]] J25_49 (fun v J' => ∃ x : UX, v = .bool true ∧ (True))) (by kernel_rfl) ?_
          intro φ49 xs49 J25_49 leJ
          rintro _ _ _ _ h49_19_0 _
          have h5_1 := ERep.mono leJ h5_1
          have h41_0 := ERep.mono leJ h41_0
          exact Fun.mono (leqTE_c h5_1 h41_0 (ok_of h5_0) (ok_join (ok_of h5_0) (ok_of h8_0)).1 (fun k hk => by have q0 := (ok_join (ok_of h5_0) (ok_of h8_0)).2 k; omega)) (fun v J' _ h => ⟨UX.d, h, trivial⟩)
        case c49_30 =>
          refine kcast (A := ∀ (φ49 : Nat → Nat) (xs49 : Xs) (J30_49 : IM), I41.Le J30_49 → (True) → (True) → (True) → (True) → (RE J30_49 (joinF 64 e5 e8) ((xs49 19).n 0)) → (True) → (True) → Fun Tryd.prog 29 #[.agg #[.int .u64 ((b8 : Nat) : Int), .pointer q8], .agg #[.int .u64 ((b41 : Nat) : Int), .pointer p41]] J30_49 (fun v J' => ∃ x : UX, v = .bool true ∧ (True))) (by kernel_rfl) ?_
          intro φ49 xs49 J30_49 leJ
          rintro _ _ _ _ h49_19_0 _ _
          have h8_1 := ERep.mono leJ h8_1
          have h41_0 := ERep.mono leJ h41_0
          exact Fun.mono (leqTE_c h8_1 h41_0 (ok_of h8_0) (ok_join (ok_of h5_0) (ok_of h8_0)).1 (fun k hk => by have q0 := (ok_join (ok_of h5_0) (ok_of h8_0)).2 k; omega)) (fun v J' _ h => ⟨UX.d, h, trivial⟩)
        case k49 =>
          rintro φ49 xs49 I49 w49 le49 s _ _ _ _ h49_19_0 _ _ _
          replace hT := Tab.mono le49 hT
          replace hla := BSl.mono le49 hla
          replace hlb := BSl.mono le49 hlb
          replace h5_1 := ERep.mono le49 h5_1
          replace h5_2 := RE.mono le49 h5_2
          replace h8_1 := ERep.mono le49 h8_1
          replace h8_2 := RE.mono le49 h8_2
          replace h16_1 := VS.mono le49 h16_1
          replace h18_1 := VS.mono le49 h18_1
          replace hle25 := leMono9 le49 hle25
          replace hv9 := VS.mono le49 hv9
          replace h41_0 := ERep.mono le49 h41_0
          replace hk40 := le49 _ _ hk40
          refine wp_ret ?_
          refine ret_rule (C := []) [((φ6 0), .cells #[.int .u64 ((b5 : Nat) : Int), .pointer q5] 27), ((φ9 0), .cells #[.int .u64 ((b8 : Nat) : Int), .pointer q8] 27), ((φ42 0), .cells #[.int .u64 ((b41 : Nat) : Int), .pointer p41] 27)] [] (.bool true) [] [] s trivial (by kernel_rfl) ?_
          exact ⟨_, _, _, rfl, s, rfl⟩

end Go.Proofs.YtgdickihjaomjaaDoor
