/- Shares as spans: the spans of an id, how wide they are, what two have in common. -/
import Derived.Test.YtgdickihjaomjaaSuM20
import Derived.Test.YtgdickihjaomjaaSuM17
set_option linter.all false
namespace Go.Proofs.Ytgdickihjaomjaa.Ev
open Go.RowKit Go.Sep
/-- the spans of a part that begins at a and is 2^k wide -/
def spT : T → Nat → Nat → List (Nat × Nat)
  | .zero, _, _ => []
  | .one, a, k => [(a, 2 ^ k)]
  | .node l r, a, k => spT l a (k - 1) ++ spT r (a + 2 ^ (k - 1)) (k - 1)
/-- how many -/
def cntT : T → Nat
  | .zero => 0
  | .one => 1
  | .node l r => cntT l + cntT r
/-- how wide, together -/
def widT : T → Nat → Nat
  | .zero, _ => 0
  | .one, k => 2 ^ k
  | .node l r, k => widT l (k - 1) + widT r (k - 1)
/-- what two have in common -/
def bothT : T → T → T
  | .zero, _ => .zero
  | .one, b => b
  | .node _ _, .zero => .zero
  | .node l r, .one => .node l r
  | .node l r, .node l' r' => T.mk (bothT l l') (bothT r r')
theorem spT_length : ∀ (t : T) (a k : Nat), (spT t a k).length = cntT t
  | .zero, _, _ => rfl
  | .one, _, _ => rfl
  | .node l r, a, k => by simp only [spT, cntT, List.length_append, spT_length l, spT_length r]
def sumW (l : List (Nat × Nat)) : Nat := (l.map (·.2)).sum
theorem sumW_append (l m : List (Nat × Nat)) : sumW (l ++ m) = sumW l + sumW m := by simp [sumW]
theorem sumW_spT : ∀ (t : T) (a k : Nat), sumW (spT t a k) = widT t k
  | .zero, _, _ => rfl
  | .one, _, _ => by simp [sumW, spT, widT]
  | .node l r, a, k => by simp only [spT, widT, sumW_append, sumW_spT l, sumW_spT r]
theorem cntT_le : ∀ (t : T), cntT t ≤ 2 ^ t.depth
  | .zero => by simp [cntT]
  | .one => by simp [cntT, T.depth]
  | .node l r => by
    have h1 := cntT_le l
    have h2 := cntT_le r
    have e : (T.node l r).depth = max l.depth r.depth + 1 := by show 1 + _ = _; omega
    have h3 : 2 ^ l.depth ≤ 2 ^ max l.depth r.depth := Nat.pow_le_pow_right (by omega) (by omega)
    have h4 : 2 ^ r.depth ≤ 2 ^ max l.depth r.depth := Nat.pow_le_pow_right (by omega) (by omega)
    rw [e, Nat.pow_succ]; simp only [cntT]; omega
theorem cntT_small {t : T} (h : t.depth ≤ 8) : cntT t ≤ 256 := by
  have h1 := cntT_le t
  have h2 : 2 ^ t.depth ≤ 2 ^ 8 := Nat.pow_le_pow_right (by omega) h
  omega
theorem T.left_mk (l r : T) : (T.mk l r).left = l := by cases l <;> cases r <;> rfl
theorem T.right_mk (l r : T) : (T.mk l r).right = r := by cases l <;> cases r <;> rfl
theorem T.left_depth (t : T) : t.left.depth ≤ t.depth - 1 := by cases t <;> simp only [T.left, T.depth] <;> omega
theorem T.right_depth (t : T) : t.right.depth ≤ t.depth - 1 := by cases t <;> simp only [T.right, T.depth] <;> omega
theorem T.left_nf {t : T} (h : t.nf) : t.left.nf := by cases t <;> first | exact h | exact h.1
theorem T.right_nf {t : T} (h : t.nf) : t.right.nf := by cases t <;> first | exact h | exact h.2.1
theorem both_left (a b : T) : (bothT a b).left = bothT a.left b.left := by
  cases a <;> cases b <;> first | rfl | exact T.left_mk _ _ | skip
  all_goals simp only [bothT, T.left]
  all_goals (rename_i l r; cases l <;> rfl)
theorem both_right (a b : T) : (bothT a b).right = bothT a.right b.right := by
  cases a <;> cases b <;> first | rfl | exact T.right_mk _ _ | skip
  all_goals simp only [bothT, T.right]
  all_goals (rename_i l r; cases r <;> rfl)
theorem both_one_r (a : T) : bothT a .one = a := by cases a <;> rfl
theorem both_depth : ∀ a b : T, (bothT a b).depth ≤ max a.depth b.depth
  | .zero, b => by simp only [bothT, T.depth]; omega
  | .one, b => by simp only [bothT, T.depth]; omega
  | .node l r, .zero => by simp only [bothT, T.depth]; omega
  | .node l r, .one => by simp only [bothT, T.depth]; omega
  | .node l r, .node l' r' => by
    have h1 := both_depth l l'
    have h2 := both_depth r r'
    have h3 := T.mk_depth (bothT l l') (bothT r r')
    simp only [bothT, T.depth] at *; omega
theorem both_self : ∀ {a : T}, a.nf → bothT a a = a
  | .zero, _ => rfl
  | .one, _ => rfl
  | .node l r, ⟨h1, h2, h3⟩ => by simp only [bothT]; rw [both_self h1, both_self h2]; exact h3
theorem union_left (a b : T) : (unionT a b).left = unionT a.left b.left := by
  cases a <;> cases b <;> first | rfl | exact T.left_mk _ _ | skip
  all_goals simp only [unionT, T.left]
  all_goals (rename_i l r; cases l <;> rfl)
theorem union_right (a b : T) : (unionT a b).right = unionT a.right b.right := by
  cases a <;> cases b <;> first | rfl | exact T.right_mk _ _ | skip
  all_goals simp only [unionT, T.right]
  all_goals (rename_i l r; cases r <;> rfl)
theorem wid_half (t : T) (k : Nat) : widT t (k + 1) = widT t.left k + widT t.right k := by
  cases t with
  | zero => rfl
  | one => simp only [widT, T.left, T.right, Nat.pow_succ]; omega
  | node l r => rfl
theorem disj_half : ∀ {a b : T}, a.nf → b.nf → disjT a b = (disjT a.left b.left && disjT a.right b.right)
  | .zero, b, _, _ => by cases b <;> rfl
  | .one, .zero, _, _ => rfl
  | .one, .one, _, _ => rfl
  | .one, .node l r, _, ⟨_, _, h⟩ => by cases l <;> cases r <;> first | rfl | (exfalso; simp [T.mk] at h)
  | .node l r, .zero, _, _ => by cases l <;> cases r <;> rfl
  | .node l r, .one, ⟨_, _, h⟩, _ => by cases l <;> cases r <;> first | rfl | (exfalso; simp [T.mk] at h)
  | .node _ _, .node _ _, _, _ => rfl
theorem dep0 {t : T} (h : t.depth ≤ 0) : t = .zero ∨ t = .one := by
  cases t with
  | zero => exact .inl rfl
  | one => exact .inr rfl
  | node l r => simp only [T.depth] at h; omega
/-- of what is split apart both have as much in common with any one as the whole -/
theorem wid_split : ∀ (k : Nat) {a d f : T}, a.depth ≤ k → d.depth ≤ k → f.depth ≤ k → d.nf → f.nf → disjT d f = true →
    widT (bothT a d) k + widT (bothT a f) k = widT (bothT a (unionT d f)) k
  | 0, a, d, f, ha, hd, hf, nd, nf, h => by
    rcases dep0 ha with rfl | rfl <;> rcases dep0 hd with rfl | rfl <;> rcases dep0 hf with rfl | rfl <;> first | rfl | cases h
  | k + 1, a, d, f, ha, hd, hf, nd, nf, h => by
    rw [disj_half nd nf, Bool.and_eq_true] at h
    have l1 := T.left_depth a
    have l2 := T.left_depth d
    have l3 := T.left_depth f
    have r1 := T.right_depth a
    have r2 := T.right_depth d
    have r3 := T.right_depth f
    have hl := wid_split k (a := a.left) (d := d.left) (f := f.left) (by omega) (by omega) (by omega) (T.left_nf nd) (T.left_nf nf) h.1
    have hr := wid_split k (a := a.right) (d := d.right) (f := f.right) (by omega) (by omega) (by omega) (T.right_nf nd) (T.right_nf nf) h.2
    rw [wid_half, wid_half, wid_half, both_left, both_left, both_left, both_right, both_right, both_right, union_left, union_right]
    omega
theorem wid_union {k : Nat} {d f : T} (hd : d.depth ≤ k) (hf : f.depth ≤ k) (nd : d.nf) (nf : f.nf) (h : disjT d f = true) :
    widT d k + widT f k = widT (unionT d f) k := wid_split k (a := .one) (Nat.zero_le _) hd hf nd nf h
theorem wid_both_cut {k : Nat} {a t : T} (ha : a.depth ≤ k) (hd : t.depth + 1 ≤ k) (nt : t.nf) : widT (bothT a (cutT t).1) k + widT (bothT a (cutT t).2) k = widT (bothT a t) k := by
  have h := cut_depth t
  have hn := T.nf_cut nt
  rw [wid_split k ha (by omega) (by omega) hn.1 hn.2 (cut_disj t), cut_union nt]
theorem wid_le : ∀ (k : Nat) {t : T}, t.depth ≤ k → widT t k ≤ 2 ^ k
  | 0, t, h => by rcases dep0 h with rfl | rfl <;> simp [widT]
  | k + 1, t, h => by
    have l1 := T.left_depth t
    have r1 := T.right_depth t
    have h1 := wid_le k (t := t.left) (by omega)
    have h2 := wid_le k (t := t.right) (by omega)
    rw [wid_half, Nat.pow_succ]; omega
/-- the spans as the program holds them -/
def cxs (l : List (Nat × Nat)) : List Value := l.map fun s => .complex .f64 (dF s.1) (dF s.2)
theorem cxs_append (l m : List (Nat × Nat)) : cxs (l ++ m) = cxs l ++ cxs m := List.map_append
end Go.Proofs.Ytgdickihjaomjaa.Ev
/- share: the spans of an id are appended -/
set_option linter.all false
set_option maxRecDepth 100000
namespace Go.Proofs.Ytgdickihjaomjaa.Ev
open Go.RowKit Go.Sep
attribute [local irreducible] Go.wpList Go.Code.wp

set_option maxHeartbeats 1000000 in
theorem sp_zero {I : IM} {b : Bool} {p : Option Addr} {n a k : Nat} {xs : List Value} {v0 : Value} {F : List OB} (h : TRep I .zero b p) (hrow : RowH 35 1 v0 n xs F) (hlim : n + cntT .zero ≤ 100000) (ha : a + 2 ^ k ≤ 65536) : FunM Try.prog 32 #[v0, idv b p, .float .f64 (dF a), .float .f64 (dF (2 ^ k))] I F (fun v J F' => RowH 35 1 v (n + cntT .zero) (xs ++ cxs (spT .zero a k)) F') := by
  obtain ⟨rfl, rfl⟩ := h
  have hlim1 : n ≤ 100000 := by omega
  refine enterM_rule 37 [(0, v0), (1, .agg #[.bool false, .pointer none]), (2, .float .f64 (dF a)), (3, .float .f64 (dF (2 ^ k)))] Try.func32 rfl (by kernel_rfl) ?_
  intro w s
  refine wp_seq ?_
  refine region_rule ?_
  refine ops_rule (C := []) [] F 2 [] 1 (fun φ1 => [(8, .slice none 0 0), (5, .pointer (some ⟨(φ1 0), 0, none⟩))]) (fun φ1 => [((φ1 0), .cells #[.bool false, .pointer none] 26)]) (fun φ1 => []) s trivial (fun φ1 => by kernel_rfl) ?_
  intro φ1 w1 s
  refine ops_done (by kernel_rfl) ?_
  refine wp_seq ?_
  refine wp_seq ?_
  refine region_rule ?_
  refine ops_rule (C := []) [((φ1 0), .cells #[.bool false, .pointer none] 26)] F 1 [.o 0, .o 0] 0 (fun φ2 => [(10, .agg #[.bool false, .pointer none])]) (fun φ2 => [((φ1 0), .cells #[.bool false, .pointer none] 26)]) (fun φ2 => [(φ1 0), (φ1 0)]) s trivial (fun φ2 => by kernel_rfl) ?_
  intro φ2 w2 s
  refine call_rule (some 11) s (isZero_c (TRep.z _)) (by kernel_rfl) ?_
  intro v3 I3 w3 le3 h3 s
  obtain rfl := h3
  refine ops_done (by kernel_rfl) ?_
  refine cond_true_rule (b := true) (by kernel_rfl) rfl ?_
  refine wp_seq ?_
  refine region_rule ?_
  refine ops_rule (C := []) [((φ1 0), .cells #[.bool false, .pointer none] 26)] F 2 [] 0 (fun φ4 => [(8, v0), (12, v0)]) (fun φ4 => [((φ1 0), .cells #[.bool false, .pointer none] 26)]) (fun φ4 => []) s trivial (fun φ4 => by kernel_rfl) ?_
  intro φ4 w4 s
  refine ops_done (by kernel_rfl) ?_
  refine wp_ret ?_
  refine ret_rule (C := []) [((φ1 0), .cells #[.bool false, .pointer none] 26)] F (v0) [] [] s trivial (by kernel_rfl) ?_
  replace s := s.drop (List.sublist_append_right [((φ1 0), .cells #[.bool false, .pointer none] 26)] F)
  exact ⟨_, _, _, rfl, s, (by have e := hrow; simp only [spT, cntT, cxs_append, cxs, List.map_append, List.map_nil, List.map_cons, List.append_nil, List.append_assoc, Nat.add_assoc, Nat.add_zero, Nat.add_sub_cancel] at e ⊢; exact e)⟩

set_option maxHeartbeats 1000000 in
theorem sp_one {I : IM} {b : Bool} {p : Option Addr} {n a k : Nat} {xs : List Value} {v0 : Value} {F : List OB} (h : TRep I .one b p) (hrow : RowH 35 1 v0 n xs F) (hlim : n + cntT .one ≤ 100000) (ha : a + 2 ^ k ≤ 65536) : FunM Try.prog 32 #[v0, idv b p, .float .f64 (dF a), .float .f64 (dF (2 ^ k))] I F (fun v J F' => RowH 35 1 v (n + cntT .one) (xs ++ cxs (spT .one a k)) F') := by
  obtain ⟨rfl, rfl⟩ := h
  have hlim1 : n ≤ 100000 := by omega
  refine enterM_rule 37 [(0, v0), (1, .agg #[.bool true, .pointer none]), (2, .float .f64 (dF a)), (3, .float .f64 (dF (2 ^ k)))] Try.func32 rfl (by kernel_rfl) ?_
  intro w s
  refine wp_seq ?_
  refine region_rule ?_
  refine ops_rule (C := []) [] F 2 [] 1 (fun φ1 => [(8, .slice none 0 0), (5, .pointer (some ⟨(φ1 0), 0, none⟩))]) (fun φ1 => [((φ1 0), .cells #[.bool true, .pointer none] 26)]) (fun φ1 => []) s trivial (fun φ1 => by kernel_rfl) ?_
  intro φ1 w1 s
  refine ops_done (by kernel_rfl) ?_
  refine wp_seq ?_
  refine wp_seq ?_
  refine region_rule ?_
  refine ops_rule (C := []) [((φ1 0), .cells #[.bool true, .pointer none] 26)] F 1 [.o 0, .o 0] 0 (fun φ2 => [(10, .agg #[.bool true, .pointer none])]) (fun φ2 => [((φ1 0), .cells #[.bool true, .pointer none] 26)]) (fun φ2 => [(φ1 0), (φ1 0)]) s trivial (fun φ2 => by kernel_rfl) ?_
  intro φ2 w2 s
  refine call_rule (some 11) s (isZero_c (TRep.o _)) (by kernel_rfl) ?_
  intro v3 I3 w3 le3 h3 s
  obtain rfl := h3
  refine ops_done (by kernel_rfl) ?_
  refine cond_false_rule (b := false) (by kernel_rfl) rfl ?_
  refine wp_skip ?_
  refine wp_seq ?_
  refine wp_seq ?_
  refine region_rule ?_
  refine ops_rule (C := []) [((φ1 0), .cells #[.bool true, .pointer none] 26)] F 1 [.o 0, .o 0] 0 (fun φ4 => [(13, .agg #[.bool true, .pointer none])]) (fun φ4 => [((φ1 0), .cells #[.bool true, .pointer none] 26)]) (fun φ4 => [(φ1 0), (φ1 0)]) s trivial (fun φ4 => by kernel_rfl) ?_
  intro φ4 w4 s
  refine call_rule (some 14) s (isOne_c (TRep.o _)) (by kernel_rfl) ?_
  intro v5 I5 w5 le5 h5 s
  obtain rfl := h5
  refine ops_done (by kernel_rfl) ?_
  refine cond_true_rule (b := true) (by kernel_rfl) rfl ?_
  refine wp_seq ?_
  refine region_rule ?_
  refine ops_rule (C := []) [((φ1 0), .cells #[.bool true, .pointer none] 26)] F 3 [] 0 (fun φ6 => [(17, .float .f64 (dF (2 ^ k))), (16, .float .f64 (dF a)), (15, v0)]) (fun φ6 => [((φ1 0), .cells #[.bool true, .pointer none] 26)]) (fun φ6 => []) s trivial (fun φ6 => by kernel_rfl) ?_
  intro φ6 w6 s
  refine sem_rule (Builtin.complex_ #[37, 37] 35 #[.float .f64 (dF a), .float .f64 (dF (2 ^ k))]) (some 18) (.complex .f64 (dF a) (dF (2 ^ k))) (by kernel_rfl) ((by kernel_rfl : ((Builtin.complex_ #[37, 37] 35 #[.float .f64 (dF a), .float .f64 (dF (2 ^ k))]) : Sem Value).run Try.prog w6 = .ok (.complex .f64 (dF a) (dF (2 ^ k))) w6)) ?_
  refine ops_rule (C := []) [((φ1 0), .cells #[.bool true, .pointer none] 26)] F 1 [] 1 (fun φ7 => [(19, .slice (some ⟨(φ7 0), 0, none⟩) 1 1)]) (fun φ7 => [((φ1 0), .cells #[.bool true, .pointer none] 26), ((φ7 0), .cells #[.complex .f64 (dF a) (dF (2 ^ k))] 35)]) (fun φ7 => []) s trivial (fun φ7 => by kernel_rfl) ?_
  intro φ7 w7 s
  refine append_rule (H := [((φ1 0), .cells #[.bool true, .pointer none] 26), ((φ7 0), .cells #[.complex .f64 (dF a) (dF (2 ^ k))] 35)]) (F := F) 30 30 35 Try.t35 (.complex .f64 0 0) 1 16 (some 20) s Try.underlying30 (by kernel_rfl) (by kernel_rfl) (by kernel_rfl) (by kernel_rfl) (by kernel_rfl) (by decide) hrow (src_own s 1 (φ7 0) #[.complex .f64 (dF a) (dF (2 ^ k))] 35 30 35 1 1 1 [.complex .f64 (dF a) (dF (2 ^ k))] (by kernel_rfl) Try.underlying30 (by kernel_rfl) (by kernel_rfl) (by kernel_rfl)) (by simp only [maxLen]; omega) (by omega) (by kernel_rfl) ?_
  intro v8 w8 F8 s h8
  refine ops_rule (C := []) [((φ1 0), .cells #[.bool true, .pointer none] 26), ((φ7 0), .cells #[.complex .f64 (dF a) (dF (2 ^ k))] 35)] F8 1 [] 0 (fun φ9 => [(8, v8)]) (fun φ9 => [((φ1 0), .cells #[.bool true, .pointer none] 26), ((φ7 0), .cells #[.complex .f64 (dF a) (dF (2 ^ k))] 35)]) (fun φ9 => []) s trivial (fun φ9 => by kernel_rfl) ?_
  intro φ9 w9 s
  refine ops_done (by kernel_rfl) ?_
  refine wp_ret ?_
  refine ret_rule (C := []) [((φ1 0), .cells #[.bool true, .pointer none] 26), ((φ7 0), .cells #[.complex .f64 (dF a) (dF (2 ^ k))] 35)] F8 (v8) [] [] s trivial (by kernel_rfl) ?_
  replace s := s.drop (List.sublist_append_right [((φ1 0), .cells #[.bool true, .pointer none] 26), ((φ7 0), .cells #[.complex .f64 (dF a) (dF (2 ^ k))] 35)] F8)
  exact ⟨_, _, _, rfl, s, (by have e := h8; simp only [spT, cntT, cxs_append, cxs, List.map_append, List.map_nil, List.map_cons, List.append_nil, List.append_assoc, Nat.add_assoc, Nat.add_zero, Nat.add_sub_cancel] at e ⊢; exact e)⟩

set_option maxHeartbeats 2000000 in
theorem sp_node {l r : T} {I : IM} {b : Bool} {p : Option Addr} {n a k : Nat} {xs : List Value} {v0 : Value} {F : List OB} (h : TRep I (.node l r) b p) (hrow : RowH 35 1 v0 n xs F) (hlim : n + cntT (.node l r) ≤ 100000) (ha : a + 2 * 2 ^ k ≤ 65536) (ihl : ∀ {I : IM} {b : Bool} {p : Option Addr} {n : Nat} {v0 : Value} {xs : List Value} {F : List OB}, TRep I l b p → RowH 35 1 v0 n xs F → n + cntT l ≤ 100000 → FunM Try.prog 32 #[v0, idv b p, .float .f64 (dF a), .float .f64 (dF (2 ^ k))] I F (fun v J F' => RowH 35 1 v (n + cntT l) (xs ++ cxs (spT l a k)) F')) (ihr : ∀ {I : IM} {b : Bool} {p : Option Addr} {n : Nat} {v0 : Value} {xs : List Value} {F : List OB}, TRep I r b p → RowH 35 1 v0 n xs F → n + cntT r ≤ 100000 → FunM Try.prog 32 #[v0, idv b p, .float .f64 (dF (a + 2 ^ k)), .float .f64 (dF (2 ^ k))] I F (fun v J F' => RowH 35 1 v (n + cntT r) (xs ++ cxs (spT r (a + 2 ^ k) k)) F')) : FunM Try.prog 32 #[v0, idv b p, .float .f64 (dF a), .float .f64 (dF (2 * 2 ^ k))] I F (fun v J F' => RowH 35 1 v (n + cntT (.node l r)) (xs ++ cxs (spT (.node l r) a (k + 1))) F') := by
  have hn := h
  obtain ⟨rfl, k9, bl, pl, br, pr, rfl, hk, hl, hr⟩ := h
  have hlim1 : n + cntT l + cntT r ≤ 100000 := by simp only [cntT] at hlim; omega
  refine enterM_rule 37 [(0, v0), (1, .agg #[.bool false, .pointer (some ⟨k9, 0, none⟩)]), (2, .float .f64 (dF a)), (3, .float .f64 (dF (2 * 2 ^ k)))] Try.func32 rfl (by kernel_rfl) ?_
  intro w s
  refine wp_seq ?_
  refine region_rule ?_
  refine ops_rule (C := []) [] F 2 [] 1 (fun φ1 => [(8, .slice none 0 0), (5, .pointer (some ⟨(φ1 0), 0, none⟩))]) (fun φ1 => [((φ1 0), .cells #[.bool false, .pointer (some ⟨k9, 0, none⟩)] 26)]) (fun φ1 => []) s trivial (fun φ1 => by kernel_rfl) ?_
  intro φ1 w1 s
  refine ops_done (by kernel_rfl) ?_
  refine wp_seq ?_
  refine wp_seq ?_
  refine region_rule ?_
  refine ops_rule (C := []) [((φ1 0), .cells #[.bool false, .pointer (some ⟨k9, 0, none⟩)] 26)] F 1 [.o 0, .o 0] 0 (fun φ2 => [(10, .agg #[.bool false, .pointer (some ⟨k9, 0, none⟩)])]) (fun φ2 => [((φ1 0), .cells #[.bool false, .pointer (some ⟨k9, 0, none⟩)] 26)]) (fun φ2 => [(φ1 0), (φ1 0)]) s trivial (fun φ2 => by kernel_rfl) ?_
  intro φ2 w2 s
  refine call_rule (some 11) s (isZero_c hn) (by kernel_rfl) ?_
  intro v3 I3 w3 le3 h3 s
  replace hl := TRep.mono le3 hl
  replace hr := TRep.mono le3 hr
  replace hn := TRep.mono le3 hn
  replace hk := le3 _ _ hk
  obtain rfl := h3
  refine ops_done (by kernel_rfl) ?_
  refine cond_false_rule (b := false) (by kernel_rfl) rfl ?_
  refine wp_skip ?_
  refine wp_seq ?_
  refine wp_seq ?_
  refine region_rule ?_
  refine ops_rule (C := []) [((φ1 0), .cells #[.bool false, .pointer (some ⟨k9, 0, none⟩)] 26)] F 1 [.o 0, .o 0] 0 (fun φ4 => [(13, .agg #[.bool false, .pointer (some ⟨k9, 0, none⟩)])]) (fun φ4 => [((φ1 0), .cells #[.bool false, .pointer (some ⟨k9, 0, none⟩)] 26)]) (fun φ4 => [(φ1 0), (φ1 0)]) s trivial (fun φ4 => by kernel_rfl) ?_
  intro φ4 w4 s
  refine call_rule (some 14) s (isOne_c hn) (by kernel_rfl) ?_
  intro v5 I5 w5 le5 h5 s
  replace hl := TRep.mono le5 hl
  replace hr := TRep.mono le5 hr
  replace hn := TRep.mono le5 hn
  replace hk := le5 _ _ hk
  obtain rfl := h5
  refine ops_done (by kernel_rfl) ?_
  refine cond_false_rule (b := false) (by kernel_rfl) rfl ?_
  refine wp_skip ?_
  refine wp_seq ?_
  refine region_rule ?_
  refine ops_rule (C := []) [((φ1 0), .cells #[.bool false, .pointer (some ⟨k9, 0, none⟩)] 26)] F 1 [] 0 (fun φ6 => [(21, .float .f64 (dF (2 * 2 ^ k)))]) (fun φ6 => [((φ1 0), .cells #[.bool false, .pointer (some ⟨k9, 0, none⟩)] 26)]) (fun φ6 => []) s trivial (fun φ6 => by kernel_rfl) ?_
  intro φ6 w6 s
  refine sem_rule (binOp .quo 37 (.float .f64 (dF (2 * 2 ^ k))) (.float .f64 4611686018427387904)) (some 22) (.float .f64 (dF (2 ^ k))) (by kernel_rfl) (run_halfF (by   omega)) ?_
  refine ops_rule (C := []) [((φ1 0), .cells #[.bool false, .pointer (some ⟨k9, 0, none⟩)] 26)] F 1 [] 0 (fun φ7 => [(9, .float .f64 (dF (2 ^ k)))]) (fun φ7 => [((φ1 0), .cells #[.bool false, .pointer (some ⟨k9, 0, none⟩)] 26)]) (fun φ7 => []) s trivial (fun φ7 => by kernel_rfl) ?_
  intro φ7 w7 s
  refine ops_done (by kernel_rfl) ?_
  refine wp_seq ?_
  refine region_rule ?_
  refine ops_rule (C := []) [((φ1 0), .cells #[.bool false, .pointer (some ⟨k9, 0, none⟩)] 26)] F 2 [.o 0, .o 0] 0 (fun φ8 => [(24, .agg #[.bool false, .pointer (some ⟨k9, 0, none⟩)]), (23, v0)]) (fun φ8 => [((φ1 0), .cells #[.bool false, .pointer (some ⟨k9, 0, none⟩)] 26)]) (fun φ8 => [(φ1 0), (φ1 0)]) s trivial (fun φ8 => by kernel_rfl) ?_
  intro φ8 w8 s
  refine call_rule (some 25) s (tleft_c hn) (by kernel_rfl) ?_
  intro v9 I9 w9 le9 h9 s
  replace hl := TRep.mono le9 hl
  replace hr := TRep.mono le9 hr
  replace hn := TRep.mono le9 hn
  replace hk := le9 _ _ hk
  obtain ⟨b9, p9, rfl, h9_0⟩ := h9
  refine ops_rule (C := []) [((φ1 0), .cells #[.bool false, .pointer (some ⟨k9, 0, none⟩)] 26)] F 2 [] 0 (fun φ10 => [(27, .float .f64 (dF (2 ^ k))), (26, .float .f64 (dF a))]) (fun φ10 => [((φ1 0), .cells #[.bool false, .pointer (some ⟨k9, 0, none⟩)] 26)]) (fun φ10 => []) s trivial (fun φ10 => by kernel_rfl) ?_
  intro φ10 w10 s
  refine callF_rule (H := [((φ1 0), .cells #[.bool false, .pointer (some ⟨k9, 0, none⟩)] 26)]) (F := F) (some 28) s (ihl h9_0 hrow (by omega)) (by kernel_rfl) ?_
  intro v11 I11 w11 F11 le11 h11 s
  replace hl := TRep.mono le11 hl
  replace hr := TRep.mono le11 hr
  replace hn := TRep.mono le11 hn
  replace h9_0 := TRep.mono le11 h9_0
  replace hk := le11 _ _ hk
  refine ops_rule (C := []) [((φ1 0), .cells #[.bool false, .pointer (some ⟨k9, 0, none⟩)] 26)] F11 1 [] 0 (fun φ12 => [(0, v11)]) (fun φ12 => [((φ1 0), .cells #[.bool false, .pointer (some ⟨k9, 0, none⟩)] 26)]) (fun φ12 => []) s trivial (fun φ12 => by kernel_rfl) ?_
  intro φ12 w12 s
  refine ops_done (by kernel_rfl) ?_
  refine wp_seq ?_
  refine region_rule ?_
  refine ops_rule (C := []) [((φ1 0), .cells #[.bool false, .pointer (some ⟨k9, 0, none⟩)] 26)] F11 2 [.o 0, .o 0] 0 (fun φ13 => [(30, .agg #[.bool false, .pointer (some ⟨k9, 0, none⟩)]), (29, v11)]) (fun φ13 => [((φ1 0), .cells #[.bool false, .pointer (some ⟨k9, 0, none⟩)] 26)]) (fun φ13 => [(φ1 0), (φ1 0)]) s trivial (fun φ13 => by kernel_rfl) ?_
  intro φ13 w13 s
  refine call_rule (some 31) s (tright_c hn) (by kernel_rfl) ?_
  intro v14 I14 w14 le14 h14 s
  replace hl := TRep.mono le14 hl
  replace hr := TRep.mono le14 hr
  replace hn := TRep.mono le14 hn
  replace h9_0 := TRep.mono le14 h9_0
  replace hk := le14 _ _ hk
  obtain ⟨b14, p14, rfl, h14_0⟩ := h14
  refine ops_rule (C := []) [((φ1 0), .cells #[.bool false, .pointer (some ⟨k9, 0, none⟩)] 26)] F11 2 [] 0 (fun φ15 => [(33, .float .f64 (dF (2 ^ k))), (32, .float .f64 (dF a))]) (fun φ15 => [((φ1 0), .cells #[.bool false, .pointer (some ⟨k9, 0, none⟩)] 26)]) (fun φ15 => []) s trivial (fun φ15 => by kernel_rfl) ?_
  intro φ15 w15 s
  refine sem_rule (binOp .add 37 (.float .f64 (dF a)) (.float .f64 (dF (2 ^ k)))) (some 34) (.float .f64 (dF (a + (2 ^ k)))) (by kernel_rfl) (run_addF (by   omega)) ?_
  refine ops_rule (C := []) [((φ1 0), .cells #[.bool false, .pointer (some ⟨k9, 0, none⟩)] 26)] F11 1 [] 0 (fun φ16 => [(35, .float .f64 (dF (2 ^ k)))]) (fun φ16 => [((φ1 0), .cells #[.bool false, .pointer (some ⟨k9, 0, none⟩)] 26)]) (fun φ16 => []) s trivial (fun φ16 => by kernel_rfl) ?_
  intro φ16 w16 s
  refine callF_rule (H := [((φ1 0), .cells #[.bool false, .pointer (some ⟨k9, 0, none⟩)] 26)]) (F := F11) (some 36) s (ihr h14_0 h11 (by omega)) (by kernel_rfl) ?_
  intro v17 I17 w17 F17 le17 h17 s
  replace hl := TRep.mono le17 hl
  replace hr := TRep.mono le17 hr
  replace hn := TRep.mono le17 hn
  replace h9_0 := TRep.mono le17 h9_0
  replace h14_0 := TRep.mono le17 h14_0
  replace hk := le17 _ _ hk
  refine ops_rule (C := []) [((φ1 0), .cells #[.bool false, .pointer (some ⟨k9, 0, none⟩)] 26)] F17 1 [] 0 (fun φ18 => [(8, v17)]) (fun φ18 => [((φ1 0), .cells #[.bool false, .pointer (some ⟨k9, 0, none⟩)] 26)]) (fun φ18 => []) s trivial (fun φ18 => by kernel_rfl) ?_
  intro φ18 w18 s
  refine ops_done (by kernel_rfl) ?_
  refine wp_ret ?_
  refine ret_rule (C := []) [((φ1 0), .cells #[.bool false, .pointer (some ⟨k9, 0, none⟩)] 26)] F17 (v17) [] [] s trivial (by kernel_rfl) ?_
  replace s := s.drop (List.sublist_append_right [((φ1 0), .cells #[.bool false, .pointer (some ⟨k9, 0, none⟩)] 26)] F17)
  exact ⟨_, _, _, rfl, s, (by have e := h17; simp only [spT, cntT, cxs_append, cxs, List.map_append, List.map_nil, List.map_cons, List.append_nil, List.append_assoc, Nat.add_assoc, Nat.add_zero, Nat.add_sub_cancel] at e ⊢; exact e)⟩

theorem sp_c : ∀ (t : T) {I : IM} {b : Bool} {p : Option Addr} {n a k : Nat} {xs : List Value} {v0 : Value} {F : List OB}, TRep I t b p → RowH 35 1 v0 n xs F → n + cntT t ≤ 100000 → t.depth ≤ k → a + 2 ^ k ≤ 65536 →
    FunM Try.prog 32 #[v0, idv b p, .float .f64 (dF a), .float .f64 (dF (2 ^ k))] I F (fun v J F' => RowH 35 1 v (n + cntT t) (xs ++ cxs (spT t a k)) F')
  | .zero, _, _, _, _, _, _, _, _, _, h, hrow, hlim, hd, ha => sp_zero h hrow hlim ha
  | .one, _, _, _, _, _, _, _, _, _, h, hrow, hlim, hd, ha => sp_one h hrow hlim ha
  | .node l r, _, _, _, _, a, 0, _, _, _, h, hrow, hlim, hd, ha => by simp only [T.depth] at hd; omega
  | .node l r, _, _, _, _, a, k + 1, _, _, _, h, hrow, hlim, hd, ha => by
    simp only [T.depth] at hd
    rw [Nat.pow_succ'] at ha ⊢
    exact sp_node h hrow hlim ha (fun h1 h2 h3 => sp_c l h1 h2 h3 (by omega) (by omega)) (fun h1 h2 h3 => sp_c r h1 h2 h3 (by omega) (by omega))

end Go.Proofs.Ytgdickihjaomjaa.Ev
/- share: what two have in common, spans, measures -/
set_option linter.all false
set_option maxRecDepth 100000
namespace Go.Proofs.Ytgdickihjaomjaa.Ev
open Go.RowKit Go.Sep
attribute [local irreducible] Go.wpList Go.Code.wp
theorem leMono {I J K : IM} (le : I.Le J) (h : IM.Le K I) : IM.Le K J := h.trans le
def pAt (a : Option Addr) (i : Nat) : Option Addr := a.map fun x => x.add i
theorem pAt_g (g i : Nat) : pAt (some ⟨g, 0, none⟩) i = some ⟨g, i, none⟩ := congrArg some (addr_add g i)
theorem row_slice {e : TypeId} {size n : Nat} {v : Value} {xs : List Value} {F : List OB} (h : RowH e size v n xs F) : ∃ a c, v = .slice a n c := by
  rcases h.2 with ⟨rfl, rfl, _⟩ | ⟨g, cap, cur, rfl, _⟩
  · exact ⟨_, _, rfl⟩
  · exact ⟨_, _, rfl⟩
theorem row_at {e : TypeId} {size n c : Nat} {a : Option Addr} {xs : List Value} {F : List OB} (h : RowH e size (.slice a n c) n xs F) (hn : 0 < n) : ∃ g, a = some ⟨g, 0, none⟩ := by
  obtain ⟨g, cap, hv⟩ := row_some h hn
  cases hv; exact ⟨g, rfl⟩
theorem row_idx35 {w : World} {a : Option Addr} {n c i : Nat} {xs : List Value} {F : List OB} (h : RowH 35 1 (.slice a n c) n xs F) (hi : i < n) : (Instr.indexAt 30 (.slice a n c) (.int .i64 ((i : Nat) : Int))).run Try.prog w = .ok (.pointer (pAt a i)) w := by
  obtain ⟨g, rfl⟩ := row_at h (by omega)
  rw [run_idx30 hi, pAt_g]
theorem row_ld35 {w0 : World} {I0 : IM} {m : List Nat} {I : IM} {H F : List OB} {w : World} (s : St w0 I0 m I w (H ++ F)) {a : Option Addr} {n c i : Nat} {xs : List Value} {x : Value} (h : RowH 35 1 (.slice a n c) n xs F) (hi : i < n) (hx : xs[i]? = some x) :
    (Instr.loadAt 35 (.pointer (pAt a i))).run Try.prog w = .ok x w := by
  obtain ⟨g, rfl⟩ := row_at h (by omega)
  rw [pAt_g]
  exact run_load35 (row_cell s h hx)
theorem cxs_at {L : List (Nat × Nat)} {i : Nat} (h : i < L.length) : (cxs L)[i]? = some (.complex .f64 (dF (L.getD i (0, 0)).1) (dF (L.getD i (0, 0)).2)) := by
  rw [cxs, List.getElem?_map]; simp [h]
theorem run_mkC1 {w : World} {t1 t2 t3 : TypeId} {a : Nat} : (Builtin.complex_ #[t1, t2] t3 #[.float .f64 (dF a), .float .f64 4607182418800017408]).run Try.prog w = .ok (.complex .f64 (dF a) (dF 65536)) w := by rw [dF_one]; rfl
theorem sumW_take {L : List (Nat × Nat)} {i : Nat} (h : i < L.length) : sumW (L.take (i + 1)) = sumW (L.take i) + (L.getD i (0, 0)).2 := by
  have e : L.take (i + 1) = L.take i ++ [L.getD i (0, 0)] := by
    rw [List.take_add_one]; simp [h]
  rw [e, sumW_append]; simp [sumW]
theorem sumW_take_le (L : List (Nat × Nat)) (i : Nat) : sumW (L.take i) ≤ sumW L := by
  have := sumW_append (L.take i) (L.drop i)
  rw [List.take_append_drop] at this; omega
theorem sumW_getD_le (L : List (Nat × Nat)) (i : Nat) : (L.getD i (0, 0)).2 ≤ sumW L := by
  by_cases h : i < L.length
  · have h1 := sumW_take h
    have h2 := sumW_take_le L (i + 1)
    omega
  · simp [List.getD_eq_getElem?_getD, List.getElem?_eq_none (Nat.le_of_not_lt h)]

set_option maxHeartbeats 2000000 in
theorem both_step {I : IM} {A B : T} {ba bb : Bool} {pa pb : Option Addr} (hA : TRep I A ba pa) (hB : TRep I B bb pb) {UL UR : T} (hd : (T.mk UL UR).depth ≤ 16) (hd1 : UL.depth ≤ 1000) (hd2 : UR.depth ≤ 1000) (ihl : A.isZero = false → B.isOne = false → B.isZero = false → A.isOne = false → ∀ {J : IM} {b1 b2 : Bool} {p1 p2 : Option Addr}, TRep J A.left b1 p1 → TRep J B.left b2 p2 → Fun Try.prog 39 #[idv b1 p1, idv b2 p2] J (fun v J => ∃ b p, v = idv b p ∧ TRep J UL b p)) (ihr : A.isZero = false → B.isOne = false → B.isZero = false → A.isOne = false → ∀ {J : IM} {b1 b2 : Bool} {p1 p2 : Option Addr}, TRep J A.right b1 p1 → TRep J B.right b2 p2 → Fun Try.prog 39 #[idv b1 p1, idv b2 p2] J (fun v J => ∃ b p, v = idv b p ∧ TRep J UR b p)) : Fun Try.prog 39 #[idv ba pa, idv bb pb] I (fun v J => ∃ b p, v = idv b p ∧ TRep J (if A.isZero = true then A else if B.isOne = true then A else if B.isZero = true then B else if A.isOne = true then B else T.mk UL UR) b p) := by
  refine enter_rule 36 [(0, .agg #[.bool ba, .pointer pa]), (1, .agg #[.bool bb, .pointer pb])] Try.func39 rfl (by kernel_rfl) ?_
  intro w s
  refine wp_seq ?_
  refine region_rule ?_
  refine ops_rule (C := []) [] [] 3 [] 3 (fun φ1 => [(4, .pointer (some ⟨(φ1 2), 0, none⟩)), (3, .pointer (some ⟨(φ1 1), 0, none⟩)), (2, .pointer (some ⟨(φ1 0), 0, none⟩))]) (fun φ1 => [((φ1 0), .cells #[.bool ba, .pointer pa] 26), ((φ1 1), .cells #[.bool bb, .pointer pb] 26), ((φ1 2), .cells #[.bool false, .pointer none] 26)]) (fun φ1 => []) s trivial (fun φ1 => by kernel_rfl) ?_
  intro φ1 w1 s
  refine ops_done (by kernel_rfl) ?_
  refine wp_seq ?_
  refine wp_seq ?_
  refine region_rule ?_
  refine ops_rule (C := []) [((φ1 0), .cells #[.bool ba, .pointer pa] 26), ((φ1 1), .cells #[.bool bb, .pointer pb] 26), ((φ1 2), .cells #[.bool false, .pointer none] 26)] [] 1 [.o 0, .o 0] 0 (fun φ2 => [(7, .agg #[.bool ba, .pointer pa])]) (fun φ2 => [((φ1 0), .cells #[.bool ba, .pointer pa] 26), ((φ1 1), .cells #[.bool bb, .pointer pb] 26), ((φ1 2), .cells #[.bool false, .pointer none] 26)]) (fun φ2 => [(φ1 0), (φ1 0)]) s trivial (fun φ2 => by kernel_rfl) ?_
  intro φ2 w2 s
  refine call_rule (some 8) s (isZero_c hA) (by kernel_rfl) ?_
  intro v3 I3 w3 le3 h3 s
  replace hA := TRep.mono le3 hA
  replace hB := TRep.mono le3 hB
  obtain rfl := h3
  refine ops_rule (C := []) [((φ1 0), .cells #[.bool ba, .pointer pa] 26), ((φ1 1), .cells #[.bool bb, .pointer pb] 26), ((φ1 2), .cells #[.bool false, .pointer none] 26)] [] 1 [] 0 (fun φ4 => [(9, .bool (T.isZero A))]) (fun φ4 => [((φ1 0), .cells #[.bool ba, .pointer pa] 26), ((φ1 1), .cells #[.bool bb, .pointer pb] 26), ((φ1 2), .cells #[.bool false, .pointer none] 26)]) (fun φ4 => []) s trivial (fun φ4 => by kernel_rfl) ?_
  intro φ4 w4 s
  rcases Bool.eq_false_or_eq_true (T.isZero A) with hc5 | hc5
  ·
    rw [hc5]
    refine ops_rule (C := []) [((φ1 0), .cells #[.bool ba, .pointer pa] 26), ((φ1 1), .cells #[.bool bb, .pointer pb] 26), ((φ1 2), .cells #[.bool false, .pointer none] 26)] [] 3 [] 0 (fun φ6 => [(12, .bool true), (11, undef), (10, undef)]) (fun φ6 => [((φ1 0), .cells #[.bool ba, .pointer pa] 26), ((φ1 1), .cells #[.bool bb, .pointer pb] 26), ((φ1 2), .cells #[.bool false, .pointer none] 26)]) (fun φ6 => []) s trivial (fun φ6 => by kernel_rfl) ?_
    intro φ6 w6 s
    refine ops_done (by kernel_rfl) ?_
    refine cond_true_rule (b := true) (by kernel_rfl) rfl ?_
    refine wp_seq ?_
    refine region_rule ?_
    refine ops_rule (C := []) [((φ1 0), .cells #[.bool ba, .pointer pa] 26), ((φ1 1), .cells #[.bool bb, .pointer pb] 26), ((φ1 2), .cells #[.bool false, .pointer none] 26)] [] 2 [.o 0, .o 0, .o 2, .o 2] 0 (fun φ7 => [(13, .agg #[.bool ba, .pointer pa])]) (fun φ7 => [((φ1 0), .cells #[.bool ba, .pointer pa] 26), ((φ1 1), .cells #[.bool bb, .pointer pb] 26), ((φ1 2), .cells #[.bool ba, .pointer pa] 26)]) (fun φ7 => [(φ1 0), (φ1 0), (φ1 2), (φ1 2)]) s trivial (fun φ7 => by kernel_rfl) ?_
    intro φ7 w7 s
    refine ops_done (by kernel_rfl) ?_
    refine wp_ret ?_
    refine ret_rule (C := []) [((φ1 0), .cells #[.bool ba, .pointer pa] 26), ((φ1 1), .cells #[.bool bb, .pointer pb] 26), ((φ1 2), .cells #[.bool ba, .pointer pa] 26)] [] (.agg #[.bool ba, .pointer pa]) [.o 2, .o 2] [(φ1 2), (φ1 2)] s trivial (by kernel_rfl) ?_
    simp only [hc5, ↓reduceIte, Bool.false_eq_true]
    exact ⟨_, _, _, rfl, s, ⟨_, _, rfl, hA⟩⟩
  ·
    rw [hc5]
    refine ops_rule (C := []) [((φ1 0), .cells #[.bool ba, .pointer pa] 26), ((φ1 1), .cells #[.bool bb, .pointer pb] 26), ((φ1 2), .cells #[.bool false, .pointer none] 26)] [] 1 [.o 1, .o 1] 0 (fun φ8 => [(10, .agg #[.bool bb, .pointer pb])]) (fun φ8 => [((φ1 0), .cells #[.bool ba, .pointer pa] 26), ((φ1 1), .cells #[.bool bb, .pointer pb] 26), ((φ1 2), .cells #[.bool false, .pointer none] 26)]) (fun φ8 => [(φ1 1), (φ1 1)]) s trivial (fun φ8 => by kernel_rfl) ?_
    intro φ8 w8 s
    refine call_rule (some 11) s (isOne_c hB) (by kernel_rfl) ?_
    intro v9 I9 w9 le9 h9 s
    replace hA := TRep.mono le9 hA
    replace hB := TRep.mono le9 hB
    obtain rfl := h9
    refine ops_rule (C := []) [((φ1 0), .cells #[.bool ba, .pointer pa] 26), ((φ1 1), .cells #[.bool bb, .pointer pb] 26), ((φ1 2), .cells #[.bool false, .pointer none] 26)] [] 1 [] 0 (fun φ10 => [(12, .bool (T.isOne B))]) (fun φ10 => [((φ1 0), .cells #[.bool ba, .pointer pa] 26), ((φ1 1), .cells #[.bool bb, .pointer pb] 26), ((φ1 2), .cells #[.bool false, .pointer none] 26)]) (fun φ10 => []) s trivial (fun φ10 => by kernel_rfl) ?_
    intro φ10 w10 s
    refine ops_done (by kernel_rfl) ?_
    rcases Bool.eq_false_or_eq_true (T.isOne B) with hc11 | hc11
    ·
      rw [hc11]
      refine cond_true_rule (b := true) (by kernel_rfl) rfl ?_
      refine wp_seq ?_
      refine region_rule ?_
      refine ops_rule (C := []) [((φ1 0), .cells #[.bool ba, .pointer pa] 26), ((φ1 1), .cells #[.bool bb, .pointer pb] 26), ((φ1 2), .cells #[.bool false, .pointer none] 26)] [] 2 [.o 0, .o 0, .o 2, .o 2] 0 (fun φ12 => [(13, .agg #[.bool ba, .pointer pa])]) (fun φ12 => [((φ1 0), .cells #[.bool ba, .pointer pa] 26), ((φ1 1), .cells #[.bool bb, .pointer pb] 26), ((φ1 2), .cells #[.bool ba, .pointer pa] 26)]) (fun φ12 => [(φ1 0), (φ1 0), (φ1 2), (φ1 2)]) s trivial (fun φ12 => by kernel_rfl) ?_
      intro φ12 w12 s
      refine ops_done (by kernel_rfl) ?_
      refine wp_ret ?_
      refine ret_rule (C := []) [((φ1 0), .cells #[.bool ba, .pointer pa] 26), ((φ1 1), .cells #[.bool bb, .pointer pb] 26), ((φ1 2), .cells #[.bool ba, .pointer pa] 26)] [] (.agg #[.bool ba, .pointer pa]) [.o 2, .o 2] [(φ1 2), (φ1 2)] s trivial (by kernel_rfl) ?_
      simp only [hc5, hc11, ↓reduceIte, Bool.false_eq_true]
      exact ⟨_, _, _, rfl, s, ⟨_, _, rfl, hA⟩⟩
    ·
      rw [hc11]
      refine cond_false_rule (b := false) (by kernel_rfl) rfl ?_
      refine wp_skip ?_
      refine wp_seq ?_
      refine wp_seq ?_
      refine region_rule ?_
      refine ops_rule (C := []) [((φ1 0), .cells #[.bool ba, .pointer pa] 26), ((φ1 1), .cells #[.bool bb, .pointer pb] 26), ((φ1 2), .cells #[.bool false, .pointer none] 26)] [] 1 [.o 1, .o 1] 0 (fun φ13 => [(14, .agg #[.bool bb, .pointer pb])]) (fun φ13 => [((φ1 0), .cells #[.bool ba, .pointer pa] 26), ((φ1 1), .cells #[.bool bb, .pointer pb] 26), ((φ1 2), .cells #[.bool false, .pointer none] 26)]) (fun φ13 => [(φ1 1), (φ1 1)]) s trivial (fun φ13 => by kernel_rfl) ?_
      intro φ13 w13 s
      refine call_rule (some 15) s (isZero_c hB) (by kernel_rfl) ?_
      intro v14 I14 w14 le14 h14 s
      replace hA := TRep.mono le14 hA
      replace hB := TRep.mono le14 hB
      obtain rfl := h14
      refine ops_rule (C := []) [((φ1 0), .cells #[.bool ba, .pointer pa] 26), ((φ1 1), .cells #[.bool bb, .pointer pb] 26), ((φ1 2), .cells #[.bool false, .pointer none] 26)] [] 1 [] 0 (fun φ15 => [(16, .bool (T.isZero B))]) (fun φ15 => [((φ1 0), .cells #[.bool ba, .pointer pa] 26), ((φ1 1), .cells #[.bool bb, .pointer pb] 26), ((φ1 2), .cells #[.bool false, .pointer none] 26)]) (fun φ15 => []) s trivial (fun φ15 => by kernel_rfl) ?_
      intro φ15 w15 s
      rcases Bool.eq_false_or_eq_true (T.isZero B) with hc16 | hc16
      ·
        rw [hc16]
        refine ops_rule (C := []) [((φ1 0), .cells #[.bool ba, .pointer pa] 26), ((φ1 1), .cells #[.bool bb, .pointer pb] 26), ((φ1 2), .cells #[.bool false, .pointer none] 26)] [] 3 [] 0 (fun φ17 => [(19, .bool true), (18, undef), (17, undef)]) (fun φ17 => [((φ1 0), .cells #[.bool ba, .pointer pa] 26), ((φ1 1), .cells #[.bool bb, .pointer pb] 26), ((φ1 2), .cells #[.bool false, .pointer none] 26)]) (fun φ17 => []) s trivial (fun φ17 => by kernel_rfl) ?_
        intro φ17 w17 s
        refine ops_done (by kernel_rfl) ?_
        refine cond_true_rule (b := true) (by kernel_rfl) rfl ?_
        refine wp_seq ?_
        refine region_rule ?_
        refine ops_rule (C := []) [((φ1 0), .cells #[.bool ba, .pointer pa] 26), ((φ1 1), .cells #[.bool bb, .pointer pb] 26), ((φ1 2), .cells #[.bool false, .pointer none] 26)] [] 2 [.o 1, .o 1, .o 2, .o 2] 0 (fun φ18 => [(20, .agg #[.bool bb, .pointer pb])]) (fun φ18 => [((φ1 0), .cells #[.bool ba, .pointer pa] 26), ((φ1 1), .cells #[.bool bb, .pointer pb] 26), ((φ1 2), .cells #[.bool bb, .pointer pb] 26)]) (fun φ18 => [(φ1 1), (φ1 1), (φ1 2), (φ1 2)]) s trivial (fun φ18 => by kernel_rfl) ?_
        intro φ18 w18 s
        refine ops_done (by kernel_rfl) ?_
        refine wp_ret ?_
        refine ret_rule (C := []) [((φ1 0), .cells #[.bool ba, .pointer pa] 26), ((φ1 1), .cells #[.bool bb, .pointer pb] 26), ((φ1 2), .cells #[.bool bb, .pointer pb] 26)] [] (.agg #[.bool bb, .pointer pb]) [.o 2, .o 2] [(φ1 2), (φ1 2)] s trivial (by kernel_rfl) ?_
        simp only [hc5, hc11, hc16, ↓reduceIte, Bool.false_eq_true]
        exact ⟨_, _, _, rfl, s, ⟨_, _, rfl, hB⟩⟩
      ·
        rw [hc16]
        refine ops_rule (C := []) [((φ1 0), .cells #[.bool ba, .pointer pa] 26), ((φ1 1), .cells #[.bool bb, .pointer pb] 26), ((φ1 2), .cells #[.bool false, .pointer none] 26)] [] 1 [.o 0, .o 0] 0 (fun φ19 => [(17, .agg #[.bool ba, .pointer pa])]) (fun φ19 => [((φ1 0), .cells #[.bool ba, .pointer pa] 26), ((φ1 1), .cells #[.bool bb, .pointer pb] 26), ((φ1 2), .cells #[.bool false, .pointer none] 26)]) (fun φ19 => [(φ1 0), (φ1 0)]) s trivial (fun φ19 => by kernel_rfl) ?_
        intro φ19 w19 s
        refine call_rule (some 18) s (isOne_c hA) (by kernel_rfl) ?_
        intro v20 I20 w20 le20 h20 s
        replace hA := TRep.mono le20 hA
        replace hB := TRep.mono le20 hB
        obtain rfl := h20
        refine ops_rule (C := []) [((φ1 0), .cells #[.bool ba, .pointer pa] 26), ((φ1 1), .cells #[.bool bb, .pointer pb] 26), ((φ1 2), .cells #[.bool false, .pointer none] 26)] [] 1 [] 0 (fun φ21 => [(19, .bool (T.isOne A))]) (fun φ21 => [((φ1 0), .cells #[.bool ba, .pointer pa] 26), ((φ1 1), .cells #[.bool bb, .pointer pb] 26), ((φ1 2), .cells #[.bool false, .pointer none] 26)]) (fun φ21 => []) s trivial (fun φ21 => by kernel_rfl) ?_
        intro φ21 w21 s
        refine ops_done (by kernel_rfl) ?_
        rcases Bool.eq_false_or_eq_true (T.isOne A) with hc22 | hc22
        ·
          rw [hc22]
          refine cond_true_rule (b := true) (by kernel_rfl) rfl ?_
          refine wp_seq ?_
          refine region_rule ?_
          refine ops_rule (C := []) [((φ1 0), .cells #[.bool ba, .pointer pa] 26), ((φ1 1), .cells #[.bool bb, .pointer pb] 26), ((φ1 2), .cells #[.bool false, .pointer none] 26)] [] 2 [.o 1, .o 1, .o 2, .o 2] 0 (fun φ23 => [(20, .agg #[.bool bb, .pointer pb])]) (fun φ23 => [((φ1 0), .cells #[.bool ba, .pointer pa] 26), ((φ1 1), .cells #[.bool bb, .pointer pb] 26), ((φ1 2), .cells #[.bool bb, .pointer pb] 26)]) (fun φ23 => [(φ1 1), (φ1 1), (φ1 2), (φ1 2)]) s trivial (fun φ23 => by kernel_rfl) ?_
          intro φ23 w23 s
          refine ops_done (by kernel_rfl) ?_
          refine wp_ret ?_
          refine ret_rule (C := []) [((φ1 0), .cells #[.bool ba, .pointer pa] 26), ((φ1 1), .cells #[.bool bb, .pointer pb] 26), ((φ1 2), .cells #[.bool bb, .pointer pb] 26)] [] (.agg #[.bool bb, .pointer pb]) [.o 2, .o 2] [(φ1 2), (φ1 2)] s trivial (by kernel_rfl) ?_
          simp only [hc5, hc11, hc16, hc22, ↓reduceIte, Bool.false_eq_true]
          exact ⟨_, _, _, rfl, s, ⟨_, _, rfl, hB⟩⟩
        ·
          rw [hc22]
          refine cond_false_rule (b := false) (by kernel_rfl) rfl ?_
          refine wp_skip ?_
          refine wp_seq ?_
          refine draw_rule (C := []) ⟨(fun φ24 xs24 => [.look 0 [.o 0, .o 0] [(φ1 0), (φ1 0)], .call 42 #[.agg #[.bool ba, .pointer pa]], .look 0 [.o 1, .o 1] [(φ1 1), (φ1 1)], .call 42 #[.agg #[.bool bb, .pointer pb]], .call 39 #[.agg #[.bool ((xs24 1).b 0), .pointer ((xs24 1).p 0)], .agg #[.bool ((xs24 3).b 0), .pointer ((xs24 3).p 0)]], .look 0 [.o 0, .o 0] [(φ1 0), (φ1 0)], .call 43 #[.agg #[.bool ba, .pointer pa]], .look 0 [.o 1, .o 1] [(φ1 1), (φ1 1)], .call 43 #[.agg #[.bool bb, .pointer pb]], .call 39 #[.agg #[.bool ((xs24 6).b 0), .pointer ((xs24 6).p 0)], .agg #[.bool ((xs24 8).b 0), .pointer ((xs24 8).p 0)]], .call 58 #[.agg #[.bool ((xs24 4).b 0), .pointer ((xs24 4).p 0)], .agg #[.bool ((xs24 9).b 0), .pointer ((xs24 9).p 0)]], .look 0 [] [], .look 0 [] [], .look 0 [] [], .new, .store 0 [.o 3, .o 3] [(φ24 14), (φ24 14)], .look 1 [] []]), (fun φ24 xs24 => [.agg #[.bool ba, .pointer pa], .agg #[.bool ((xs24 1).b 0), .pointer ((xs24 1).p 0)], .agg #[.bool bb, .pointer pb], .agg #[.bool ((xs24 3).b 0), .pointer ((xs24 3).p 0)], .agg #[.bool ((xs24 4).b 0), .pointer ((xs24 4).p 0)], .agg #[.bool ba, .pointer pa], .agg #[.bool ((xs24 6).b 0), .pointer ((xs24 6).p 0)], .agg #[.bool bb, .pointer pb], .agg #[.bool ((xs24 8).b 0), .pointer ((xs24 8).p 0)], .agg #[.bool ((xs24 9).b 0), .pointer ((xs24 9).p 0)], .tuple #[.agg #[.bool ((xs24 10).b 0), .pointer ((xs24 10).p 0)], .int .i64 0], .tuple #[.agg #[.bool ((xs24 10).b 0), .pointer ((xs24 10).p 0)], .int .i64 0], .agg #[.bool ((xs24 10).b 0), .pointer ((xs24 10).p 0)], .int .i64 0, .pointer (some ⟨(φ24 14), 0, none⟩), undef, .int .i64 0]), (fun φ24 xs24 => [[((φ1 0), .cells #[.bool ba, .pointer pa] 26), ((φ1 1), .cells #[.bool bb, .pointer pb] 26), ((φ1 2), .cells #[.bool false, .pointer none] 26)], [((φ1 0), .cells #[.bool ba, .pointer pa] 26), ((φ1 1), .cells #[.bool bb, .pointer pb] 26), ((φ1 2), .cells #[.bool false, .pointer none] 26)]]), (fun φ24 xs24 => [[default, default, default, default, default, default, default, default, default, default, default, default, default, default, .cells #[.bool false, .pointer none] 26, default, default], [default, default, default, default, default, default, default, default, default, default, default, default, default, default, .cells #[.bool ((xs24 10).b 0), .pointer ((xs24 10).p 0)] 26, default, default]]), [15], [1, 3, 1, 3, 3, 1, 3, 1, 3, 3, 3, 1, 1, 1, 2, 4, 1]⟩ (fun j => ([MP.any, ⟨fun x J => TRep J (T.left A) (x.b 0) (x.p 0), fun le h => TRep.mono le h⟩, MP.any, ⟨fun x J => TRep J (T.left B) (x.b 0) (x.p 0), fun le h => TRep.mono le h⟩, ⟨fun x J => TRep J UL (x.b 0) (x.p 0), fun le h => TRep.mono le h⟩, MP.any, ⟨fun x J => TRep J (T.right A) (x.b 0) (x.p 0), fun le h => TRep.mono le h⟩, MP.any, ⟨fun x J => TRep J (T.right B) (x.b 0) (x.p 0), fun le h => TRep.mono le h⟩, ⟨fun x J => TRep J UR (x.b 0) (x.p 0), fun le h => TRep.mono le h⟩, ⟨fun x J => TRep J (T.mk UL UR) (x.b 0) (x.p 0), fun le h => TRep.mono le h⟩, MP.any, MP.any, MP.any, MP.any, MP.any, MP.any] : List MP).getD j MP.any) [1, 3, 4, 6, 8, 9, 10] [] [] (fun φ24 xs24 => [[none, none, none, none, none, none, none, none, none, none, none, none, none, none, none, none, none]]) (fun φ24 xs24 => [(22, .agg #[.bool ba, .pointer pa]), (23, .agg #[.bool ((xs24 1).b 0), .pointer ((xs24 1).p 0)]), (24, .agg #[.bool bb, .pointer pb]), (25, .agg #[.bool ((xs24 3).b 0), .pointer ((xs24 3).p 0)]), (26, .agg #[.bool ((xs24 4).b 0), .pointer ((xs24 4).p 0)]), (27, .agg #[.bool ba, .pointer pa]), (28, .agg #[.bool ((xs24 6).b 0), .pointer ((xs24 6).p 0)]), (29, .agg #[.bool bb, .pointer pb]), (30, .agg #[.bool ((xs24 8).b 0), .pointer ((xs24 8).p 0)]), (31, .agg #[.bool ((xs24 9).b 0), .pointer ((xs24 9).p 0)]), (32, .tuple #[.agg #[.bool ((xs24 10).b 0), .pointer ((xs24 10).p 0)], .int .i64 0]), (21, .tuple #[.agg #[.bool ((xs24 10).b 0), .pointer ((xs24 10).p 0)], .int .i64 0]), (33, .agg #[.bool ((xs24 10).b 0), .pointer ((xs24 10).p 0)]), (34, .int .i64 0), (5, .pointer (some ⟨(φ24 14), 0, none⟩)), (6, .int .i64 0)]) (fun φ24 xs24 => [((φ1 0), .cells #[.bool ba, .pointer pa] 26), ((φ1 1), .cells #[.bool bb, .pointer pb] 26), ((φ1 2), .cells #[.bool false, .pointer none] 26), ((φ24 14), .cells #[.bool ((xs24 10).b 0), .pointer ((xs24 10).p 0)] 26)]) s trivial (by kernel_rfl) (by kernel_rfl) (fun _ _ => by kernel_rfl) (fun _ _ => by kernel_rfl) ⟨fun _ _ => by kernel_rfl, fun _ _ => by kernel_rfl, fun _ _ => by kernel_rfl, fun _ _ => by kernel_rfl⟩ (fun _ _ _ => by kernel_rfl) (fun _ _ => by kernel_rfl) (fun _ _ => by kernel_rfl) (fun _ _ => by kernel_rfl) (fun _ _ => by kernel_rfl) (fun _ _ => by kernel_rfl) trivial trivial (by kernel_rfl) ⟨?c24_1, ?c24_3, ?c24_4, ?c24_6, ?c24_8, ?c24_9, ?c24_10, trivial⟩ ?k24
          case c24_1 =>
            refine kcast (A := ∀ (φ24 : Nat → Nat) (xs24 : Xs) (J1_24 : IM), I20.Le J1_24 → Fun Try.prog 42 #[.agg #[.bool ba, .pointer pa]] J1_24 (fun v J' => ∃ x : UX, v = .agg #[.bool (x.b 0), .pointer (x.p 0)] ∧ (TRep J' (T.left A) (x.b 0) (x.p 0)))) (by kernel_rfl) ?_
            intro φ24 xs24 J1_24 leJ
            have hA := TRep.mono leJ hA
            exact Fun.mono (tleft_c hA) (fun v J' _ ⟨y0, y1, hv, g0⟩ => ⟨{ UX.d with b := fun j => y0, p := fun j => y1 }, hv, g0⟩)
          case c24_3 =>
            refine kcast (A := ∀ (φ24 : Nat → Nat) (xs24 : Xs) (J3_24 : IM), I20.Le J3_24 → (TRep J3_24 (T.left A) ((xs24 1).b 0) ((xs24 1).p 0)) → Fun Try.prog 42 #[.agg #[.bool bb, .pointer pb]] J3_24 (fun v J' => ∃ x : UX, v = .agg #[.bool (x.b 0), .pointer (x.p 0)] ∧ (TRep J' (T.left B) (x.b 0) (x.p 0)))) (by kernel_rfl) ?_
            intro φ24 xs24 J3_24 leJ
            rintro h24_1_0
            have hB := TRep.mono leJ hB
            exact Fun.mono (tleft_c hB) (fun v J' _ ⟨y0, y1, hv, g0⟩ => ⟨{ UX.d with b := fun j => y0, p := fun j => y1 }, hv, g0⟩)
          case c24_4 =>
            refine kcast (A := ∀ (φ24 : Nat → Nat) (xs24 : Xs) (J4_24 : IM), I20.Le J4_24 → (TRep J4_24 (T.left A) ((xs24 1).b 0) ((xs24 1).p 0)) → (TRep J4_24 (T.left B) ((xs24 3).b 0) ((xs24 3).p 0)) → Fun Try.prog 39 #[.agg #[.bool ((xs24 1).b 0), .pointer ((xs24 1).p 0)], .agg #[.bool ((xs24 3).b 0), .pointer ((xs24 3).p 0)]] J4_24 (fun v J' => ∃ x : UX, v = .agg #[.bool (x.b 0), .pointer (x.p 0)] ∧ (TRep J' UL (x.b 0) (x.p 0)))) (by kernel_rfl) ?_
            intro φ24 xs24 J4_24 leJ
            rintro h24_1_0 h24_3_0
            exact Fun.mono (ihl hc5 hc11 hc16 hc22 h24_1_0 h24_3_0) (fun v J' _ ⟨y0, y1, hv, g0⟩ => ⟨{ UX.d with b := fun j => y0, p := fun j => y1 }, hv, g0⟩)
          case c24_6 =>
            refine kcast (A := ∀ (φ24 : Nat → Nat) (xs24 : Xs) (J6_24 : IM), I20.Le J6_24 → (TRep J6_24 (T.left A) ((xs24 1).b 0) ((xs24 1).p 0)) → (TRep J6_24 (T.left B) ((xs24 3).b 0) ((xs24 3).p 0)) → (TRep J6_24 UL ((xs24 4).b 0) ((xs24 4).p 0)) → Fun Try.prog 43 #[.agg #[.bool ba, .pointer pa]] J6_24 (fun v J' => ∃ x : UX, v = .agg #[.bool (x.b 0), .pointer (x.p 0)] ∧ (TRep J' (T.right A) (x.b 0) (x.p 0)))) (by kernel_rfl) ?_
            intro φ24 xs24 J6_24 leJ
            rintro h24_1_0 h24_3_0 h24_4_0
            have hA := TRep.mono leJ hA
            exact Fun.mono (tright_c hA) (fun v J' _ ⟨y0, y1, hv, g0⟩ => ⟨{ UX.d with b := fun j => y0, p := fun j => y1 }, hv, g0⟩)
          case c24_8 =>
            refine kcast (A := ∀ (φ24 : Nat → Nat) (xs24 : Xs) (J8_24 : IM), I20.Le J8_24 → (TRep J8_24 (T.left A) ((xs24 1).b 0) ((xs24 1).p 0)) → (TRep J8_24 (T.left B) ((xs24 3).b 0) ((xs24 3).p 0)) → (TRep J8_24 UL ((xs24 4).b 0) ((xs24 4).p 0)) → (TRep J8_24 (T.right A) ((xs24 6).b 0) ((xs24 6).p 0)) → Fun Try.prog 43 #[.agg #[.bool bb, .pointer pb]] J8_24 (fun v J' => ∃ x : UX, v = .agg #[.bool (x.b 0), .pointer (x.p 0)] ∧ (TRep J' (T.right B) (x.b 0) (x.p 0)))) (by kernel_rfl) ?_
            intro φ24 xs24 J8_24 leJ
            rintro h24_1_0 h24_3_0 h24_4_0 h24_6_0
            have hB := TRep.mono leJ hB
            exact Fun.mono (tright_c hB) (fun v J' _ ⟨y0, y1, hv, g0⟩ => ⟨{ UX.d with b := fun j => y0, p := fun j => y1 }, hv, g0⟩)
          case c24_9 =>
            refine kcast (A := ∀ (φ24 : Nat → Nat) (xs24 : Xs) (J9_24 : IM), I20.Le J9_24 → (TRep J9_24 (T.left A) ((xs24 1).b 0) ((xs24 1).p 0)) → (TRep J9_24 (T.left B) ((xs24 3).b 0) ((xs24 3).p 0)) → (TRep J9_24 UL ((xs24 4).b 0) ((xs24 4).p 0)) → (TRep J9_24 (T.right A) ((xs24 6).b 0) ((xs24 6).p 0)) → (TRep J9_24 (T.right B) ((xs24 8).b 0) ((xs24 8).p 0)) → Fun Try.prog 39 #[.agg #[.bool ((xs24 6).b 0), .pointer ((xs24 6).p 0)], .agg #[.bool ((xs24 8).b 0), .pointer ((xs24 8).p 0)]] J9_24 (fun v J' => ∃ x : UX, v = .agg #[.bool (x.b 0), .pointer (x.p 0)] ∧ (TRep J' UR (x.b 0) (x.p 0)))) (by kernel_rfl) ?_
            intro φ24 xs24 J9_24 leJ
            rintro h24_1_0 h24_3_0 h24_4_0 h24_6_0 h24_8_0
            exact Fun.mono (ihr hc5 hc11 hc16 hc22 h24_6_0 h24_8_0) (fun v J' _ ⟨y0, y1, hv, g0⟩ => ⟨{ UX.d with b := fun j => y0, p := fun j => y1 }, hv, g0⟩)
          case c24_10 =>
            refine kcast (A := ∀ (φ24 : Nat → Nat) (xs24 : Xs) (J10_24 : IM), I20.Le J10_24 → (TRep J10_24 (T.left A) ((xs24 1).b 0) ((xs24 1).p 0)) → (TRep J10_24 (T.left B) ((xs24 3).b 0) ((xs24 3).p 0)) → (TRep J10_24 UL ((xs24 4).b 0) ((xs24 4).p 0)) → (TRep J10_24 (T.right A) ((xs24 6).b 0) ((xs24 6).p 0)) → (TRep J10_24 (T.right B) ((xs24 8).b 0) ((xs24 8).p 0)) → (TRep J10_24 UR ((xs24 9).b 0) ((xs24 9).p 0)) → Fun Try.prog 58 #[.agg #[.bool ((xs24 4).b 0), .pointer ((xs24 4).p 0)], .agg #[.bool ((xs24 9).b 0), .pointer ((xs24 9).p 0)]] J10_24 (fun v J' => ∃ x : UX, v = .tuple #[.agg #[.bool (x.b 0), .pointer (x.p 0)], .int .i64 0] ∧ (TRep J' (T.mk UL UR) (x.b 0) (x.p 0)))) (by kernel_rfl) ?_
            intro φ24 xs24 J10_24 leJ
            rintro h24_1_0 h24_3_0 h24_4_0 h24_6_0 h24_8_0 h24_9_0
            exact Fun.mono (pairOk_c h24_4_0 h24_9_0 (by omega) (by omega) (by omega)) (fun v J' _ ⟨y0, y1, hv, g0⟩ => ⟨{ UX.d with b := fun j => y0, p := fun j => y1 }, hv, g0⟩)
          case k24 =>
            rintro φ24 xs24 I24 w24 le24 s h24_1_0 h24_3_0 h24_4_0 h24_6_0 h24_8_0 h24_9_0 h24_10_0
            replace hA := TRep.mono le24 hA
            replace hB := TRep.mono le24 hB
            refine wp_seq ?_
            refine region_rule ?_
            refine ops_rule (C := []) [((φ1 0), .cells #[.bool ba, .pointer pa] 26), ((φ1 1), .cells #[.bool bb, .pointer pb] 26), ((φ1 2), .cells #[.bool false, .pointer none] 26), ((φ24 14), .cells #[.bool ((xs24 10).b 0), .pointer ((xs24 10).p 0)] 26)] [] 2 [.o 3, .o 3, .o 2, .o 2] 0 (fun φ25 => [(35, .agg #[.bool ((xs24 10).b 0), .pointer ((xs24 10).p 0)])]) (fun φ25 => [((φ1 0), .cells #[.bool ba, .pointer pa] 26), ((φ1 1), .cells #[.bool bb, .pointer pb] 26), ((φ1 2), .cells #[.bool ((xs24 10).b 0), .pointer ((xs24 10).p 0)] 26), ((φ24 14), .cells #[.bool ((xs24 10).b 0), .pointer ((xs24 10).p 0)] 26)]) (fun φ25 => [(φ24 14), (φ24 14), (φ1 2), (φ1 2)]) s trivial (fun φ25 => by kernel_rfl) ?_
            intro φ25 w25 s
            refine ops_done (by kernel_rfl) ?_
            refine wp_ret ?_
            refine ret_rule (C := []) [((φ1 0), .cells #[.bool ba, .pointer pa] 26), ((φ1 1), .cells #[.bool bb, .pointer pb] 26), ((φ1 2), .cells #[.bool ((xs24 10).b 0), .pointer ((xs24 10).p 0)] 26), ((φ24 14), .cells #[.bool ((xs24 10).b 0), .pointer ((xs24 10).p 0)] 26)] [] (.agg #[.bool ((xs24 10).b 0), .pointer ((xs24 10).p 0)]) [.o 2, .o 2] [(φ1 2), (φ1 2)] s trivial (by kernel_rfl) ?_
            simp only [hc5, hc11, hc16, hc22, ↓reduceIte, Bool.false_eq_true]
            exact ⟨_, _, _, rfl, s, ⟨_, _, rfl, h24_10_0⟩⟩

theorem both_c : ∀ (A B : T) {I : IM} {ba bb : Bool} {pa pb : Option Addr}, A.depth ≤ 16 → B.depth ≤ 16 → TRep I A ba pa → TRep I B bb pb → Fun Try.prog 39 #[idv ba pa, idv bb pb] I (fun v J => ∃ b p, v = idv b p ∧ TRep J (bothT A B) b p)
  | .zero, B, _, _, _, _, _, _, _, hA, hB => (by cases B <;> simpa [bothT, T.isZero, T.isOne] using both_step (UL := .zero) (UR := .zero) hA hB (by decide) (by decide) (by decide) (by simp [T.isZero, T.isOne]) (by simp [T.isZero, T.isOne]))
  | .one, B, _, _, _, _, _, _, _, hA, hB => (by cases B <;> simpa [bothT, T.isZero, T.isOne] using both_step (UL := .zero) (UR := .zero) hA hB (by decide) (by decide) (by decide) (by simp [T.isZero, T.isOne]) (by simp [T.isZero, T.isOne]))
  | .node l r, .zero, _, _, _, _, _, _, _, hA, hB => (by simpa [bothT, T.isZero, T.isOne] using both_step (UL := .zero) (UR := .zero) hA hB (by decide) (by decide) (by decide) (by simp [T.isZero, T.isOne]) (by simp [T.isZero, T.isOne]))
  | .node l r, .one, _, _, _, _, _, _, _, hA, hB => (by simpa [bothT, T.isZero, T.isOne] using both_step (UL := .zero) (UR := .zero) hA hB (by decide) (by decide) (by decide) (by simp [T.isZero, T.isOne]) (by simp [T.isZero, T.isOne]))
  | .node l r, .node l' r', _, _, _, _, _, hdA, hdB, hA, hB => by
    have e1 : 1 + max l.depth r.depth ≤ 16 := hdA
    have e2 : 1 + max l'.depth r'.depth ≤ 16 := hdB
    have u1 := both_depth l l'
    have u2 := both_depth r r'
    have u3 := T.mk_depth (bothT l l') (bothT r r')
    have := both_step (UL := bothT l l') (UR := bothT r r') hA hB (by omega) (by omega) (by omega) (fun _ _ _ _ {J} {b1} {b2} {p1} {p2} k1 k2 => both_c l l' (by omega) (by omega) k1 k2) (fun _ _ _ _ {J} {b1} {b2} {p1} {p2} k1 k2 => both_c r r' (by omega) (by omega) k1 k2)
    simpa [bothT, T.isZero, T.isOne] using this
theorem sp0_c (t : T) {I : IM} {b : Bool} {p : Option Addr} (h : TRep I t b p) (hc : cntT t ≤ 100000) (hd : t.depth ≤ 16) : FunM Try.prog 32 #[.slice none 0 0, idv b p, .float .f64 0, .float .f64 4607182418800017408] I [] (fun v J F' => RowH 35 1 v (cntT t) (cxs (spT t 0 16)) F') := by
  have e := sp_c t (a := 0) (k := 16) h (RowH.nil 35 1) (by omega) hd (by decide)
  rw [dF_zero, show dF (2 ^ 16) = 4607182418800017408 from dF_one] at e
  simpa only [Nat.zero_add, List.nil_append] using e

set_option maxHeartbeats 1000000 in
theorem spans_c {I : IM} {t : T} {b : Bool} {p : Option Addr} (h : TRep I t b p) (hc : cntT t ≤ 100000) (hd : t.depth ≤ 16) : FunM Try.prog 10 #[idv b p] I [] (fun v J F' => RowH 35 1 v (cntT t) (cxs (spT t 0 16)) F') := by
  refine enterM_rule 5 [(0, .agg #[.bool b, .pointer p])] Try.func10 rfl (by kernel_rfl) ?_
  intro w s
  refine wp_seq ?_
  refine region_rule ?_
  refine ops_rule (C := []) [] [] 2 [] 1 (fun φ1 => [(2, .slice none 0 0), (1, .pointer (some ⟨(φ1 0), 0, none⟩))]) (fun φ1 => [((φ1 0), .cells #[.bool b, .pointer p] 26)]) (fun φ1 => []) s trivial (fun φ1 => by kernel_rfl) ?_
  intro φ1 w1 s
  refine ops_done (by kernel_rfl) ?_
  refine wp_seq ?_
  refine region_rule ?_
  refine ops_rule (C := []) [((φ1 0), .cells #[.bool b, .pointer p] 26)] [] 1 [.o 0, .o 0] 0 (fun φ2 => [(3, .agg #[.bool b, .pointer p])]) (fun φ2 => [((φ1 0), .cells #[.bool b, .pointer p] 26)]) (fun φ2 => [(φ1 0), (φ1 0)]) s trivial (fun φ2 => by kernel_rfl) ?_
  intro φ2 w2 s
  refine callF_rule (H := [((φ1 0), .cells #[.bool b, .pointer p] 26)]) (F := []) (some 4) s (sp0_c t h (by omega) (by omega)) (by kernel_rfl) ?_
  intro v3 I3 w3 F3 le3 h3 s
  replace h := TRep.mono le3 h
  refine ops_rule (C := []) [((φ1 0), .cells #[.bool b, .pointer p] 26)] F3 1 [] 0 (fun φ4 => [(2, v3)]) (fun φ4 => [((φ1 0), .cells #[.bool b, .pointer p] 26)]) (fun φ4 => []) s trivial (fun φ4 => by kernel_rfl) ?_
  intro φ4 w4 s
  refine ops_done (by kernel_rfl) ?_
  refine wp_ret ?_
  refine ret_rule (C := []) [((φ1 0), .cells #[.bool b, .pointer p] 26)] F3 (v3) [] [] s trivial (by kernel_rfl) ?_
  replace s := s.drop (List.sublist_append_right [((φ1 0), .cells #[.bool b, .pointer p] 26)] F3)
  exact ⟨_, _, _, rfl, s, h3⟩

set_option maxHeartbeats 1000000 in
theorem measure_c {I : IM} {t : T} {b : Bool} {p : Option Addr} (h : TRep I t b p) (hc : cntT t ≤ 100000) (hd : t.depth ≤ 16) : Fun Try.prog 16 #[idv b p] I (fun v J => v = .complex .f64 (dF (widT t 16)) (dF (cntT t * 65536))) := by
  refine enter_rule 20 [(0, .agg #[.bool b, .pointer p])] Try.func16 rfl (by kernel_rfl) ?_
  intro w s
  refine wp_seq ?_
  refine region_rule ?_
  refine ops_rule (C := []) [] [] 2 [] 1 (fun φ1 => [(2, .complex .f64 0 0), (1, .pointer (some ⟨(φ1 0), 0, none⟩))]) (fun φ1 => [((φ1 0), .cells #[.bool b, .pointer p] 26)]) (fun φ1 => []) s trivial (fun φ1 => by kernel_rfl) ?_
  intro φ1 w1 s
  refine ops_done (by kernel_rfl) ?_
  refine wp_seq ?_
  refine region_rule ?_
  refine ops_rule (C := []) [((φ1 0), .cells #[.bool b, .pointer p] 26)] [] 1 [] 0 (fun φ2 => [(3, .complex .f64 0 0)]) (fun φ2 => [((φ1 0), .cells #[.bool b, .pointer p] 26)]) (fun φ2 => []) s trivial (fun φ2 => by kernel_rfl) ?_
  intro φ2 w2 s
  refine ops_done (by kernel_rfl) ?_
  refine wp_seq ?_
  refine wp_seq ?_
  refine region_rule ?_
  refine ops_rule (C := []) [((φ1 0), .cells #[.bool b, .pointer p] 26)] [] 1 [.o 0, .o 0] 0 (fun φ3 => [(6, .agg #[.bool b, .pointer p])]) (fun φ3 => [((φ1 0), .cells #[.bool b, .pointer p] 26)]) (fun φ3 => [(φ1 0), (φ1 0)]) s trivial (fun φ3 => by kernel_rfl) ?_
  intro φ3 w3 s
  refine callF_rule (H := [((φ1 0), .cells #[.bool b, .pointer p] 26)]) (F := []) (some 7) s (spans_c h (by omega) (by omega)) (by kernel_rfl) ?_
  intro v4 I4 w4 F4 le4 h4 s
  obtain ⟨a4, c4, rfl⟩ := row_slice h4
  replace h := TRep.mono le4 h
  refine ops_rule (C := []) [((φ1 0), .cells #[.bool b, .pointer p] 26)] F4 2 [] 0 (fun φ5 => [(9, .int .i64 0), (8, .int .i64 (((cntT t) : Nat) : Int))]) (fun φ5 => [((φ1 0), .cells #[.bool b, .pointer p] 26)]) (fun φ5 => []) s trivial (fun φ5 => by kernel_rfl) ?_
  intro φ5 w5 s
  refine ops_done (by kernel_rfl) ?_
  refine wp_block ?_
  have hL6 : (spT t 0 16).length = cntT t := spT_length t 0 16
  have hW6 := sumW_spT t 0 16
  have hD6 := wid_le 16 hd
  rw [show (2 : Nat) ^ 16 = 65536 from by decide] at hD6
  have h06 : (0 : Nat) = dF 0 := dF_zero.symm
  rw [show (Value.complex .f64 0 0) = .complex .f64 (dF 0) (dF 0) from by rw [dF_zero]]
  have hle7 := IM.Le.refl I4
  refine loop_rule (fun (x : Nat × Nat × Nat) => [(0, .agg #[.bool b, .pointer p]), (1, .pointer (some ⟨(φ1 0), 0, none⟩)), (2, .complex .f64 0 0), (6, .agg #[.bool b, .pointer p]), (7, .slice a4 (cntT t) c4), (8, .int .i64 (((cntT t) : Nat) : Int)), (9, .int .i64 ((x.1 : Nat) : Int)), (3, .complex .f64 (dF x.2.1) (dF x.2.2))]) (fun (x : Nat × Nat × Nat) => [((φ1 0), .cells #[.bool b, .pointer p] 26)] ++ F4) (fun m (x : Nat × Nat × Nat) J => IM.Le I4 J ∧ x.1 + m = cntT t ∧ x.2.1 = sumW ((spT t 0 16).take x.1) ∧ x.2.2 = x.1 * 65536) (cntT t) (0, 0, 0) s (by kernel_rfl) (List.Sublist.refl _) ⟨IM.Le.refl _, Nat.zero_add _, rfl, rfl⟩ ?_
  rintro m8 ⟨i8, a8, q8⟩ I8 w8 ev8 s ⟨le8, hi8_0, hi8_1, hi8_2⟩
  try dsimp only at s hi8_0 hi8_1 hi8_2 ⊢
  replace h := TRep.mono le8 h
  replace hle7 := leMono le8 hle7
  have hs6 := sumW_take_le (spT t 0 16) i8
  have hg6 := sumW_getD_le (spT t 0 16) i8
  refine wp_seq ?_
  refine region_rule ?_
  refine ops_rule (C := []) [((φ1 0), .cells #[.bool b, .pointer p] 26)] F4 1 [] 0 (fun φ9 => [(10, .bool (decide (((i8 : Nat) : Int) < (((cntT t) : Nat) : Int))))]) (fun φ9 => [((φ1 0), .cells #[.bool b, .pointer p] 26)]) (fun φ9 => []) s trivial (fun φ9 => by kernel_rfl) ?_
  intro φ9 w9 s
  rw [nat_lss (a := i8) (b := (cntT t))]
  refine ops_done (by kernel_rfl) ?_
  refine wp_seq ?_
  rcases Bool.eq_false_or_eq_true (decide (i8 < (cntT t))) with hc10 | hc10
  ·
    rw [hc10]
    refine cond_true_rule (b := true) (by kernel_rfl) rfl ?_
    refine wp_skip ?_
    refine wp_seq ?_
    refine wp_block ?_
    refine wp_seq ?_
    refine region_rule ?_
    refine sem_rule (Instr.indexAt 30 (.slice a4 (cntT t) c4) (.int .i64 ((i8 : Nat) : Int))) (some 11) (.pointer (pAt a4 i8)) (by kernel_rfl) (row_idx35 h4 (by have hq0 := of_decide_eq_true hc10; have hL := hL6; have hW := hW6; have hD := hD6; have e1 := hi8_0; have e2 := hi8_1; have e3 := hi8_2; have e4 := hs6; have e5 := hg6; omega)) ?_
    refine sem_rule (Instr.loadAt 35 (.pointer (pAt a4 i8))) (some 12) (.complex .f64 (dF ((List.getD (spT t 0 16) i8 (0, 0)).1)) (dF ((List.getD (spT t 0 16) i8 (0, 0)).2))) (by kernel_rfl) (row_ld35 (H := [((φ1 0), .cells #[.bool b, .pointer p] 26)]) (F := F4) s h4 (by have hq0 := of_decide_eq_true hc10; have hL := hL6; have hW := hW6; have hD := hD6; have e1 := hi8_0; have e2 := hi8_1; have e3 := hi8_2; have e4 := hs6; have e5 := hg6; omega) (cxs_at (by have hq0 := of_decide_eq_true hc10; have hL := hL6; have hW := hW6; have hD := hD6; have e1 := hi8_0; have e2 := hi8_1; have e3 := hi8_2; have e4 := hs6; have e5 := hg6; omega))) ?_
    refine ops_rule (C := []) [((φ1 0), .cells #[.bool b, .pointer p] 26)] F4 1 [] 0 (fun φ11 => [(5, .complex .f64 (dF ((List.getD (spT t 0 16) i8 (0, 0)).1)) (dF ((List.getD (spT t 0 16) i8 (0, 0)).2)))]) (fun φ11 => [((φ1 0), .cells #[.bool b, .pointer p] 26)]) (fun φ11 => []) s trivial (fun φ11 => by kernel_rfl) ?_
    intro φ11 w11 s
    refine ops_done (by kernel_rfl) ?_
    refine region_rule ?_
    refine ops_rule (C := []) [((φ1 0), .cells #[.bool b, .pointer p] 26)] F4 2 [] 0 (fun φ12 => [(14, .complex .f64 (dF ((List.getD (spT t 0 16) i8 (0, 0)).1)) (dF ((List.getD (spT t 0 16) i8 (0, 0)).2))), (13, .complex .f64 (dF a8) (dF q8))]) (fun φ12 => [((φ1 0), .cells #[.bool b, .pointer p] 26)]) (fun φ12 => []) s trivial (fun φ12 => by kernel_rfl) ?_
    intro φ12 w12 s
    refine sem_rule (Builtin.imag_ #[35] 37 #[.complex .f64 (dF ((List.getD (spT t 0 16) i8 (0, 0)).1)) (dF ((List.getD (spT t 0 16) i8 (0, 0)).2))]) (some 15) (.float .f64 (dF ((List.getD (spT t 0 16) i8 (0, 0)).2))) (by kernel_rfl) ((by kernel_rfl : ((Builtin.imag_ #[35] 37 #[.complex .f64 (dF ((List.getD (spT t 0 16) i8 (0, 0)).1)) (dF ((List.getD (spT t 0 16) i8 (0, 0)).2))]) : Sem Value).run Try.prog w12 = .ok (.float .f64 (dF ((List.getD (spT t 0 16) i8 (0, 0)).2))) w12)) ?_
    refine sem_rule (Builtin.complex_ #[37, 37] 35 #[.float .f64 (dF ((List.getD (spT t 0 16) i8 (0, 0)).2)), .float .f64 4607182418800017408]) (some 16) (.complex .f64 (dF ((List.getD (spT t 0 16) i8 (0, 0)).2)) (dF 65536)) (by kernel_rfl) ((run_mkC1)) ?_
    refine sem_rule (binOp .add 35 (.complex .f64 (dF a8) (dF q8)) (.complex .f64 (dF ((List.getD (spT t 0 16) i8 (0, 0)).2)) (dF 65536))) (some 17) (.complex .f64 (dF (a8 + ((List.getD (spT t 0 16) i8 (0, 0)).2))) (dF (q8 + 65536))) (by kernel_rfl) (run_addC (by have hq0 := of_decide_eq_true hc10; have hL := hL6; have hW := hW6; have hD := hD6; have e1 := hi8_0; have e2 := hi8_1; have e3 := hi8_2; have e4 := hs6; have e5 := hg6; omega) (by have hq0 := of_decide_eq_true hc10; have hL := hL6; have hW := hW6; have hD := hD6; have e1 := hi8_0; have e2 := hi8_1; have e3 := hi8_2; have e4 := hs6; have e5 := hg6; omega)) ?_
    refine ops_rule (C := []) [((φ1 0), .cells #[.bool b, .pointer p] 26)] F4 1 [] 0 (fun φ13 => [(3, .complex .f64 (dF (a8 + ((List.getD (spT t 0 16) i8 (0, 0)).2))) (dF (q8 + 65536)))]) (fun φ13 => [((φ1 0), .cells #[.bool b, .pointer p] 26)]) (fun φ13 => []) s trivial (fun φ13 => by kernel_rfl) ?_
    intro φ13 w13 s
    refine ops_done (by kernel_rfl) ?_
    refine region_rule ?_
    refine ops_rule (C := []) [((φ1 0), .cells #[.bool b, .pointer p] 26)] F4 2 [] 0 (fun φ14 => [(9, .int .i64 (IntKind.wrap .i64 (((i8 : Nat) : Int) + ((1 : Nat) : Int)))), (18, .int .i64 (IntKind.wrap .i64 (((i8 : Nat) : Int) + ((1 : Nat) : Int))))]) (fun φ14 => [((φ1 0), .cells #[.bool b, .pointer p] 26)]) (fun φ14 => []) s trivial (fun φ14 => by kernel_rfl) ?_
    intro φ14 w14 s
    rw [nat_addI (a := i8) (b := 1) (by have hq0 := of_decide_eq_true hc10; have hL := hL6; have hW := hW6; have hD := hD6; have e1 := hi8_0; have e2 := hi8_1; have e3 := hi8_2; have e4 := hs6; have e5 := hg6; omega)]
    refine ops_done (by kernel_rfl) ?_
    exact ⟨⟨m8 - 1, (i8 + 1, a8 + (List.getD (spT t 0 16) i8 (0, 0)).2, q8 + 65536), _, _, _, by have hq0 := of_decide_eq_true hc10; have := hi8_0; omega, rfl, s, (List.Sublist.append (List.Sublist.cons₂ _ List.Sublist.slnil) (List.Sublist.refl _)), by kernel_rfl, hle7, by have hq0 := of_decide_eq_true hc10; have := hi8_0; show i8 + 1 + (m8 - 1) = cntT t; omega, by have hq0 := of_decide_eq_true hc10; have h1 := hi8_1; show a8 + (List.getD (spT t 0 16) i8 (0, 0)).2 = _; rw [sumW_take (by omega), h1], by have := hi8_2; show q8 + 65536 = (i8 + 1) * 65536; omega⟩⟩
  ·
    rw [hc10]
    refine cond_false_rule (b := false) (by kernel_rfl) rfl ?_
    refine wp_exit ?_
    refine wp_seq ?_
    refine region_rule ?_
    refine ops_rule (C := []) [((φ1 0), .cells #[.bool b, .pointer p] 26)] F4 2 [] 0 (fun φ15 => [(2, .complex .f64 (dF a8) (dF q8)), (19, .complex .f64 (dF a8) (dF q8))]) (fun φ15 => [((φ1 0), .cells #[.bool b, .pointer p] 26)]) (fun φ15 => []) s trivial (fun φ15 => by kernel_rfl) ?_
    intro φ15 w15 s
    refine ops_done (by kernel_rfl) ?_
    refine wp_ret ?_
    refine ret_rule (C := []) [((φ1 0), .cells #[.bool b, .pointer p] 26)] F4 (.complex .f64 (dF a8) (dF q8)) [] [] s trivial (by kernel_rfl) ?_
    exact ⟨_, _, _, rfl, s, (by have hL := hL6; have hW := hW6; have hD := hD6; have e1 := hi8_0; have e2 := hi8_1; have e3 := hi8_2; have e4 := hs6; have e5 := hg6; have hq0 := of_decide_eq_false hc10; have ei : i8 = cntT t := (by omega); rw [e2, e3, ei, ← hL, List.take_length, hW])⟩

set_option maxHeartbeats 1000000 in
theorem common_c {I : IM} {A B : T} {ba bb : Bool} {pa pb : Option Addr} (hA : TRep I A ba pa) (hB : TRep I B bb pb) (hc : cntT (bothT A B) ≤ 100000) (hd1 : A.depth ≤ 16) (hd2 : B.depth ≤ 16) : Fun Try.prog 17 #[idv ba pa, idv bb pb] I (fun v J => v = .complex .f64 (dF (widT (bothT A B) 16)) (dF (cntT (bothT A B) * 65536))) := by
  have hd := both_depth A B
  refine enter_rule 9 [(0, .agg #[.bool ba, .pointer pa]), (1, .agg #[.bool bb, .pointer pb])] Try.func17 rfl (by kernel_rfl) ?_
  intro w s
  refine wp_seq ?_
  refine region_rule ?_
  refine ops_rule (C := []) [] [] 3 [] 2 (fun φ1 => [(4, .complex .f64 0 0), (3, .pointer (some ⟨(φ1 1), 0, none⟩)), (2, .pointer (some ⟨(φ1 0), 0, none⟩))]) (fun φ1 => [((φ1 0), .cells #[.bool ba, .pointer pa] 26), ((φ1 1), .cells #[.bool bb, .pointer pb] 26)]) (fun φ1 => []) s trivial (fun φ1 => by kernel_rfl) ?_
  intro φ1 w1 s
  refine ops_done (by kernel_rfl) ?_
  refine wp_seq ?_
  refine region_rule ?_
  refine ops_rule (C := []) [((φ1 0), .cells #[.bool ba, .pointer pa] 26), ((φ1 1), .cells #[.bool bb, .pointer pb] 26)] [] 2 [.o 0, .o 0, .o 1, .o 1] 0 (fun φ2 => [(6, .agg #[.bool bb, .pointer pb]), (5, .agg #[.bool ba, .pointer pa])]) (fun φ2 => [((φ1 0), .cells #[.bool ba, .pointer pa] 26), ((φ1 1), .cells #[.bool bb, .pointer pb] 26)]) (fun φ2 => [(φ1 0), (φ1 0), (φ1 1), (φ1 1)]) s trivial (fun φ2 => by kernel_rfl) ?_
  intro φ2 w2 s
  refine call_rule (some 7) s (both_c A B (by omega) (by omega) hA hB) (by kernel_rfl) ?_
  intro v3 I3 w3 le3 h3 s
  replace hA := TRep.mono le3 hA
  replace hB := TRep.mono le3 hB
  obtain ⟨b3, p3, rfl, h3_0⟩ := h3
  refine call_rule (some 8) s (measure_c h3_0 (by omega) (by omega)) (by kernel_rfl) ?_
  intro v4 I4 w4 le4 h4 s
  replace hA := TRep.mono le4 hA
  replace hB := TRep.mono le4 hB
  replace h3_0 := TRep.mono le4 h3_0
  obtain rfl := h4
  refine ops_rule (C := []) [((φ1 0), .cells #[.bool ba, .pointer pa] 26), ((φ1 1), .cells #[.bool bb, .pointer pb] 26)] [] 1 [] 0 (fun φ5 => [(4, .complex .f64 (dF (widT (bothT A B) 16)) (dF (cntT (bothT A B) * 65536)))]) (fun φ5 => [((φ1 0), .cells #[.bool ba, .pointer pa] 26), ((φ1 1), .cells #[.bool bb, .pointer pb] 26)]) (fun φ5 => []) s trivial (fun φ5 => by kernel_rfl) ?_
  intro φ5 w5 s
  refine ops_done (by kernel_rfl) ?_
  refine wp_ret ?_
  refine ret_rule (C := []) [((φ1 0), .cells #[.bool ba, .pointer pa] 26), ((φ1 1), .cells #[.bool bb, .pointer pb] 26)] [] (.complex .f64 (dF (widT (bothT A B) 16)) (dF (cntT (bothT A B) * 65536))) [] [] s trivial (by kernel_rfl) ?_
  exact ⟨_, _, _, rfl, s, rfl⟩

end Go.Proofs.Ytgdickihjaomjaa.Ev
