/- Joins are everywhere the greater; StampJoins. -/
import Derived.Test.YtgdickihjaomjaaDoorJnP23
import Derived.Test.YtgdickihjaomjaaDoorJnP25
set_option linter.all false
set_option maxRecDepth 100000
namespace Go.Proofs.YtgdickihjaomjaaDoor
open Go.RowKit Go.Sep

theorem E.half_dep (e : E) (h : e.isLeaf = false) : 1 + max e.left.depth e.right.depth = e.depth := by
  cases e with
  | leaf _ => cases h
  | node _ _ _ => rfl
theorem E.half_dep_le (e : E) : max e.left.depth e.right.depth ≤ e.depth - 1 := by
  cases e with
  | leaf _ => exact Nat.le_refl _
  | node _ l r => show max l.depth r.depth ≤ 1 + max l.depth r.depth - 1; omega
theorem leafs_cmp {A B : E} (hA : A.isLeaf = true) (hB : B.isLeaf = true) : A.top ≤ B.base ∨ B.top ≤ A.base := by
  cases A with
  | node _ _ _ => cases hA
  | leaf a =>
    cases B with
    | node _ _ _ => cases hB
    | leaf b => exact Nat.le_total a b
set_option maxHeartbeats 1000000 in
theorem join_at : ∀ (n d : Nat) {A B : E}, A.nf → B.nf → A.depth ≤ n → B.depth ≤ n → A.depth ≤ d → B.depth ≤ d →
    (joinF n A B).nf ∧ (joinF n A B).depth ≤ max A.depth B.depth ∧ ∀ k, hAt d (joinF n A B) k = max (hAt d A k) (hAt d B k) := by
  have up : ∀ {A B : E} (d k : Nat), B.nf → A.top ≤ B.base → hAt d A k ≤ hAt d B k := fun {A B} d k hB h => by
    have h1 := hAt_le d A k
    have h2 := hAt_min d B k
    rw [E.min_base hB] at h2
    omega
  intro n
  induction n with
  | zero =>
    intro d A B hA hB h1 h2 h3 h4
    have lA : A.isLeaf = true := by
      cases A with
      | leaf _ => rfl
      | node _ l r => have : 1 + max l.depth r.depth ≤ 0 := h1; omega
    have lB : B.isLeaf = true := by
      cases B with
      | leaf _ => rfl
      | node _ l r => have : 1 + max l.depth r.depth ≤ 0 := h2; omega
    rw [joinF]
    split
    · rename_i h
      exact ⟨hB, by omega, fun k => by have := up d k hB h; omega⟩
    · rename_i h
      have h' := (leafs_cmp lA lB).resolve_left h
      exact ⟨hA, by omega, fun k => by have := up d k hA h'; omega⟩
  | succ n ih =>
    intro d A B hA hB h1 h2 h3 h4
    rw [joinF]
    split
    · rename_i h
      exact ⟨hB, by omega, fun k => by have := up d k hB h; omega⟩
    · rename_i hn1
      split
      · rename_i h
        exact ⟨hA, by omega, fun k => by have := up d k hA h; omega⟩
      · rename_i hn2
        have hnl : ¬ (A.isLeaf = true ∧ B.isLeaf = true) := fun q => (leafs_cmp q.1 q.2).elim hn1 hn2
        have hd1 : 1 ≤ max A.depth B.depth := by
          cases qa : A.isLeaf
          · have := E.half_dep A qa; omega
          · cases qb : B.isLeaf
            · have := E.half_dep B qb; omega
            · exact absurd ⟨qa, qb⟩ hnl
        have ea := E.half_dep_le A
        have eb := E.half_dep_le B
        have nA := E.half_nf hA
        have nB := E.half_nf hB
        cases d with
        | zero => omega
        | succ d =>
          obtain ⟨f1, g1, k1⟩ := ih d (A := E.up A.base A.left) (B := E.up B.base B.left) (E.up_nf nA.1) (E.up_nf nB.1) (by rw [E.up_depth]; omega) (by rw [E.up_depth]; omega) (by rw [E.up_depth]; omega) (by rw [E.up_depth]; omega)
          obtain ⟨f2, g2, k2⟩ := ih d (A := E.up A.base A.right) (B := E.up B.base B.right) (E.up_nf nA.2) (E.up_nf nB.2) (by rw [E.up_depth]; omega) (by rw [E.up_depth]; omega) (by rw [E.up_depth]; omega) (by rw [E.up_depth]; omega)
          rw [E.up_depth, E.up_depth] at g1 g2
          refine ⟨E.nf_mk f1 f2, ?_, fun k => ?_⟩
          · have := E.mk_depth 0 (joinF n (E.up A.base A.left) (E.up B.base B.left)) (joinF n (E.up A.base A.right) (E.up B.base B.right))
            omega
          · rw [hAt_mk, k1, k2, hAt, hAt]
            split <;> rfl
theorem same_of_at {A B : E} (hA : A.nf) (hB : B.nf) (h1 : A.depth ≤ 16) (h2 : B.depth ≤ 16) (h : ∀ k, hAt 16 A k = hAt 16 B k) : leqF 64 A B = true ∧ leqF 64 B A = true :=
  ⟨(leq_iff 64 16 A B hA hB (by omega) (by omega) h1 h2).2 fun k _ => by rw [h k]; exact Nat.le_refl _,
   (leq_iff 64 16 B A hB hA (by omega) (by omega) h2 h1).2 fun k _ => by rw [h k]; exact Nat.le_refl _⟩
theorem disj_comm : ∀ (a b : T), disjT a b = disjT b a
  | .zero, .zero => rfl
  | .zero, .one => rfl
  | .zero, .node _ _ => rfl
  | .one, .zero => rfl
  | .one, .one => rfl
  | .one, .node _ _ => rfl
  | .node _ _, .zero => rfl
  | .node _ _, .one => rfl
  | .node a b, .node c d => by show (disjT a c && disjT b d) = (disjT c a && disjT d b); rw [disj_comm a c, disj_comm b d]
theorem union_comm : ∀ (a b : T), disjT a b = true → unionT a b = unionT b a
  | .zero, .zero, _ => rfl
  | .zero, .one, _ => rfl
  | .zero, .node _ _, _ => rfl
  | .one, .zero, _ => rfl
  | .one, .one, _ => rfl
  | .one, .node _ _, h => by cases h
  | .node _ _, .zero, _ => rfl
  | .node _ _, .one, h => by cases h
  | .node a b, .node c d, h => by
    have h : (disjT a c && disjT b d) = true := h
    rw [Bool.and_eq_true] at h
    show T.mk (unionT a c) (unionT b d) = T.mk (unionT c a) (unionT d b)
    rw [union_comm a c h.1, union_comm b d h.2]
theorem sum_cut' {t : T} (h : t.nf) : sumT (cutT t).2 (cutT t).1 = (t, 0) := by
  have hd := cut_disj t
  rw [sumT, disj_comm, if_pos hd, ← union_comm _ _ hd, cut_union h]
theorem sum_zero (t : T) : sumT t .zero = (t, 0) := by rw [sumT, if_pos (disj_zero_r t), union_zero_r]
/-- A tree of the law's: in its form, not deep, not high. -/
def E.ok (e : E) : Prop := e.nf ∧ e.depth ≤ 6 ∧ e.top ≤ 100
theorem ok_join {A B : E} (hA : A.ok) (hB : B.ok) : (joinF 64 A B).ok ∧ ∀ k, hAt 16 (joinF 64 A B) k = max (hAt 16 A k) (hAt 16 B k) := by
  obtain ⟨a1, a2, a3⟩ := hA
  obtain ⟨b1, b2, b3⟩ := hB
  have h := join_at 64 16 a1 b1 (by omega) (by omega) (by omega) (by omega)
  have ht := joinF_top 64 A B
  exact ⟨⟨h.1, by have := h.2.1; omega, by omega⟩, h.2.2⟩
theorem joinOK_c {I : IM} {A B S : T} {C D : E} {ba bb : Bool} {pa pb : Option Addr} {bc bd : Nat} {pc pd : Option Addr} (hA : TRep I A ba pa) (hB : TRep I B bb pb) (hC : ERep I C bc pc) (hD : ERep I D bd pd) (hs : sumT A B = (S, 0)) (dA : A.depth ≤ 16) (dB : B.depth ≤ 16) (oC : C.ok) (oD : D.ok) : Fun Tryd.prog 59 #[stv ba pa bc pc, stv bb pb bd pd] I (fun v J => ∃ b1 p1 b2 p2, v = .tuple #[stv b1 p1 b2 p2, .int .i64 0] ∧ TRep J S b1 p1 ∧ ERep J (joinF 64 C D) b2 p2) := by
  obtain ⟨-, c2, c3⟩ := oC
  obtain ⟨-, d2, d3⟩ := oD
  have h := joinS_c hA hB hC hD (by omega) (by omega) (by omega) (by omega) dA dB
  rw [hs] at h
  exact h
theorem ssameJ_c {I : IM} {i : T} {C D : E} {ba bb : Bool} {pa pb : Option Addr} {bc bd : Nat} {pc pd : Option Addr} (hA : TRep I i ba pa) (hB : TRep I i bb pb) (hC : ERep I C bc pc) (hD : ERep I D bd pd) (oC : C.ok) (oD : D.ok) (h : ∀ k, hAt 16 C k = hAt 16 D k) : Fun Tryd.prog 49 #[stv ba pa bc pc, stv bb pb bd pd] I (fun v J => v = .bool true) := by
  obtain ⟨c1, c2, c3⟩ := oC
  obtain ⟨d1, d2, d3⟩ := oD
  have hs := same_of_at c1 d1 (by omega) (by omega) h
  refine (ssame_c hA hB hC hD (by omega) (by omega) (by omega) (by omega)).mono fun v J _ hv => ?_
  rw [hv, same_self, sameE, hs.1, hs.2]; rfl
theorem sleqJ_c {I : IM} {i j : T} {C D : E} {ba bb : Bool} {pa pb : Option Addr} {bc bd : Nat} {pc pd : Option Addr} (hA : TRep I i ba pa) (hB : TRep I j bb pb) (hC : ERep I C bc pc) (hD : ERep I D bd pd) (oC : C.ok) (oD : D.ok) (h : ∀ k, hAt 16 C k ≤ hAt 16 D k) : Fun Tryd.prog 51 #[stv ba pa bc pc, stv bb pb bd pd] I (fun v J => v = .bool true) := by
  obtain ⟨c1, c2, c3⟩ := oC
  obtain ⟨d1, d2, d3⟩ := oD
  exact sleqT_c hA hB hC hD ((leq_iff 64 16 C D c1 d1 (by omega) (by omega) (by omega) (by omega)).2 fun k _ => h k) (by omega) (by omega) (by omega) (by omega)
theorem forkS_c {I : IM} {i : T} {e : E} {ib : Bool} {ip : Option Addr} {eb : Nat} {ep : Option Addr} (hi : TRep I i ib ip) (he : ERep I e eb ep) (hd : i.depth ≤ 15) : Fun Tryd.prog 57 #[stv ib ip eb ep] I (fun v J => ∃ b1 p1 b2 p2 b3 p3, v = .tuple #[stv b1 p1 b3 p3, stv b2 p2 b3 p3, .int .i64 0] ∧ TRep J (cutT i).1 b1 p1 ∧ TRep J (cutT i).2 b2 p2 ∧ ERep J e b3 p3) := by
  have h := fork_c hi he (by omega)
  rw [split_small hd] at h
  exact h
theorem ok_of {e : E} (h : e.nf ∧ e.depth ≤ 6 ∧ e.top ≤ 7 + 3 * 6) : e.ok := ⟨h.1, h.2.1, by have := h.2.2; omega⟩

set_option maxHeartbeats 8000000 in
theorem stampJoins_c {I : IM} (hT : Tab I) {la lb lc ld : List UInt8} {va vb vc vd : Value} (hla : BSl I la va) (hlb : BSl I lb vb) (hlc : BSl I lc vc) (hld : BSl I ld vd) : Fun Tryd.prog 15 #[va, vb, vc, vd] I (fun v J => v = .bool true) := by
  refine enter_rule 149 [(0, va), (1, vb), (2, vc), (3, vd)] Tryd.func15 rfl (by kernel_rfl) ?_
  intro w s
  refine wp_seq ?_
  refine region_rule ?_
  refine ops_rule (C := []) [] [] 1 [] 0 (fun φ1 => [(8, .bool false)]) (fun φ1 => []) (fun φ1 => []) s trivial (fun φ1 => by kernel_rfl) ?_
  intro φ1 w1 s
  refine ops_done (by kernel_rfl) ?_
  refine wp_seq ?_
  refine wp_seq ?_
  refine region_rule ?_
  refine call_rule (some 29) s (awakeS_c hT) (by kernel_rfl) ?_
  intro v2 I2 w2 le2 h2 s
  replace hT := Tab.mono le2 hT
  replace hla := BSl.mono le2 hla
  replace hlb := BSl.mono le2 hlb
  replace hlc := BSl.mono le2 hlc
  replace hld := BSl.mono le2 hld
  obtain rfl := h2
  refine ops_rule (C := []) [] [] 1 [] 0 (fun φ3 => [(30, .bool false)]) (fun φ3 => []) (fun φ3 => []) s trivial (fun φ3 => by kernel_rfl) ?_
  intro φ3 w3 s
  refine ops_done (by kernel_rfl) ?_
  refine cond_false_rule (b := false) (by kernel_rfl) rfl ?_
  refine wp_skip ?_
  refine wp_seq ?_
  refine region_rule ?_
  refine ops_rule (C := []) [] [] 2 [] 0 (fun φ4 => [(33, vb), (32, va)]) (fun φ4 => []) (fun φ4 => []) s trivial (fun φ4 => by kernel_rfl) ?_
  intro φ4 w4 s
  refine call_rule (some 34) s (made_c hla hlb) (by kernel_rfl) ?_
  intro v5 I5 w5 le5 h5 s
  replace hT := Tab.mono le5 hT
  replace hla := BSl.mono le5 hla
  replace hlb := BSl.mono le5 hlb
  replace hlc := BSl.mono le5 hlc
  replace hld := BSl.mono le5 hld
  obtain ⟨ib5, ip5, eb5, ep5, ki5, ke5, i5, e5, rfl, h5_0, h5_1, h5_2, h5_3, h5_4, h5_5⟩ := h5
  refine ops_rule (C := []) [] [] 7 [.o 0, .o 0, .o 0, .o 0, .o 1, .o 1] 2 (fun φ6 => [(10, .pointer (some ⟨(φ6 1), 0, none⟩)), (9, .pointer (some ⟨(φ6 0), 0, none⟩)), (36, .agg #[.pointer (some ⟨ki5, 0, none⟩), .pointer (some ⟨ke5, 0, none⟩)]), (35, .agg #[.bool ib5, .pointer ip5, .int .u64 ((eb5 : Nat) : Int), .pointer ep5]), (31, .tuple #[.agg #[.bool ib5, .pointer ip5, .int .u64 ((eb5 : Nat) : Int), .pointer ep5], .agg #[.pointer (some ⟨ki5, 0, none⟩), .pointer (some ⟨ke5, 0, none⟩)]])]) (fun φ6 => [((φ6 0), .cells #[.bool ib5, .pointer ip5, .int .u64 ((eb5 : Nat) : Int), .pointer ep5] 64), ((φ6 1), .cells #[.pointer (some ⟨ki5, 0, none⟩), .pointer (some ⟨ke5, 0, none⟩)] 67)]) (fun φ6 => [(φ6 0), (φ6 0), (φ6 0), (φ6 0), (φ6 1), (φ6 1)]) s trivial (fun φ6 => by kernel_rfl) ?_
  intro φ6 w6 s
  refine ops_done (by kernel_rfl) ?_
  refine wp_seq ?_
  refine region_rule ?_
  refine ops_rule (C := []) [((φ6 0), .cells #[.bool ib5, .pointer ip5, .int .u64 ((eb5 : Nat) : Int), .pointer ep5] 64), ((φ6 1), .cells #[.pointer (some ⟨ki5, 0, none⟩), .pointer (some ⟨ke5, 0, none⟩)] 67)] [] 1 [] 0 (fun φ7 => [(38, vc)]) (fun φ7 => [((φ6 0), .cells #[.bool ib5, .pointer ip5, .int .u64 ((eb5 : Nat) : Int), .pointer ep5] 64), ((φ6 1), .cells #[.pointer (some ⟨ki5, 0, none⟩), .pointer (some ⟨ke5, 0, none⟩)] 67)]) (fun φ7 => []) s trivial (fun φ7 => by kernel_rfl) ?_
  intro φ7 w7 s
  refine call_rule (some 39) s (made_c (bsl_nil _) hlc) (by kernel_rfl) ?_
  intro v8 I8 w8 le8 h8 s
  replace hT := Tab.mono le8 hT
  replace hla := BSl.mono le8 hla
  replace hlb := BSl.mono le8 hlb
  replace hlc := BSl.mono le8 hlc
  replace hld := BSl.mono le8 hld
  replace h5_2 := TRep.mono le8 h5_2
  replace h5_3 := ERep.mono le8 h5_3
  replace h5_4 := RT.mono le8 h5_4
  replace h5_5 := RE.mono le8 h5_5
  obtain ⟨ib8, ip8, eb8, ep8, ki8, ke8, i8, e8, rfl, h8_0, h8_1, h8_2, h8_3, h8_4, h8_5⟩ := h8
  refine ops_rule (C := []) [((φ6 0), .cells #[.bool ib5, .pointer ip5, .int .u64 ((eb5 : Nat) : Int), .pointer ep5] 64), ((φ6 1), .cells #[.pointer (some ⟨ki5, 0, none⟩), .pointer (some ⟨ke5, 0, none⟩)] 67)] [] 7 [.o 2, .o 2, .o 2, .o 2, .o 3, .o 3] 2 (fun φ9 => [(12, .pointer (some ⟨(φ9 1), 0, none⟩)), (11, .pointer (some ⟨(φ9 0), 0, none⟩)), (41, .agg #[.pointer (some ⟨ki8, 0, none⟩), .pointer (some ⟨ke8, 0, none⟩)]), (40, .agg #[.bool ib8, .pointer ip8, .int .u64 ((eb8 : Nat) : Int), .pointer ep8]), (37, .tuple #[.agg #[.bool ib8, .pointer ip8, .int .u64 ((eb8 : Nat) : Int), .pointer ep8], .agg #[.pointer (some ⟨ki8, 0, none⟩), .pointer (some ⟨ke8, 0, none⟩)]])]) (fun φ9 => [((φ6 0), .cells #[.bool ib5, .pointer ip5, .int .u64 ((eb5 : Nat) : Int), .pointer ep5] 64), ((φ6 1), .cells #[.pointer (some ⟨ki5, 0, none⟩), .pointer (some ⟨ke5, 0, none⟩)] 67), ((φ9 0), .cells #[.bool ib8, .pointer ip8, .int .u64 ((eb8 : Nat) : Int), .pointer ep8] 64), ((φ9 1), .cells #[.pointer (some ⟨ki8, 0, none⟩), .pointer (some ⟨ke8, 0, none⟩)] 67)]) (fun φ9 => [(φ9 0), (φ9 0), (φ9 0), (φ9 0), (φ9 1), (φ9 1)]) s trivial (fun φ9 => by kernel_rfl) ?_
  intro φ9 w9 s
  refine ops_done (by kernel_rfl) ?_
  refine wp_seq ?_
  refine region_rule ?_
  refine ops_rule (C := []) [((φ6 0), .cells #[.bool ib5, .pointer ip5, .int .u64 ((eb5 : Nat) : Int), .pointer ep5] 64), ((φ6 1), .cells #[.pointer (some ⟨ki5, 0, none⟩), .pointer (some ⟨ke5, 0, none⟩)] 67), ((φ9 0), .cells #[.bool ib8, .pointer ip8, .int .u64 ((eb8 : Nat) : Int), .pointer ep8] 64), ((φ9 1), .cells #[.pointer (some ⟨ki8, 0, none⟩), .pointer (some ⟨ke8, 0, none⟩)] 67)] [] 1 [] 0 (fun φ10 => [(43, vd)]) (fun φ10 => [((φ6 0), .cells #[.bool ib5, .pointer ip5, .int .u64 ((eb5 : Nat) : Int), .pointer ep5] 64), ((φ6 1), .cells #[.pointer (some ⟨ki5, 0, none⟩), .pointer (some ⟨ke5, 0, none⟩)] 67), ((φ9 0), .cells #[.bool ib8, .pointer ip8, .int .u64 ((eb8 : Nat) : Int), .pointer ep8] 64), ((φ9 1), .cells #[.pointer (some ⟨ki8, 0, none⟩), .pointer (some ⟨ke8, 0, none⟩)] 67)]) (fun φ10 => []) s trivial (fun φ10 => by kernel_rfl) ?_
  intro φ10 w10 s
  refine call_rule (some 44) s (made_c (bsl_nil _) hld) (by kernel_rfl) ?_
  intro v11 I11 w11 le11 h11 s
  replace hT := Tab.mono le11 hT
  replace hla := BSl.mono le11 hla
  replace hlb := BSl.mono le11 hlb
  replace hlc := BSl.mono le11 hlc
  replace hld := BSl.mono le11 hld
  replace h5_2 := TRep.mono le11 h5_2
  replace h5_3 := ERep.mono le11 h5_3
  replace h5_4 := RT.mono le11 h5_4
  replace h5_5 := RE.mono le11 h5_5
  replace h8_2 := TRep.mono le11 h8_2
  replace h8_3 := ERep.mono le11 h8_3
  replace h8_4 := RT.mono le11 h8_4
  replace h8_5 := RE.mono le11 h8_5
  obtain ⟨ib11, ip11, eb11, ep11, ki11, ke11, i11, e11, rfl, h11_0, h11_1, h11_2, h11_3, h11_4, h11_5⟩ := h11
  refine ops_rule (C := []) [((φ6 0), .cells #[.bool ib5, .pointer ip5, .int .u64 ((eb5 : Nat) : Int), .pointer ep5] 64), ((φ6 1), .cells #[.pointer (some ⟨ki5, 0, none⟩), .pointer (some ⟨ke5, 0, none⟩)] 67), ((φ9 0), .cells #[.bool ib8, .pointer ip8, .int .u64 ((eb8 : Nat) : Int), .pointer ep8] 64), ((φ9 1), .cells #[.pointer (some ⟨ki8, 0, none⟩), .pointer (some ⟨ke8, 0, none⟩)] 67)] [] 7 [.o 4, .o 4, .o 4, .o 4, .o 5, .o 5] 2 (fun φ12 => [(14, .pointer (some ⟨(φ12 1), 0, none⟩)), (13, .pointer (some ⟨(φ12 0), 0, none⟩)), (46, .agg #[.pointer (some ⟨ki11, 0, none⟩), .pointer (some ⟨ke11, 0, none⟩)]), (45, .agg #[.bool ib11, .pointer ip11, .int .u64 ((eb11 : Nat) : Int), .pointer ep11]), (42, .tuple #[.agg #[.bool ib11, .pointer ip11, .int .u64 ((eb11 : Nat) : Int), .pointer ep11], .agg #[.pointer (some ⟨ki11, 0, none⟩), .pointer (some ⟨ke11, 0, none⟩)]])]) (fun φ12 => [((φ6 0), .cells #[.bool ib5, .pointer ip5, .int .u64 ((eb5 : Nat) : Int), .pointer ep5] 64), ((φ6 1), .cells #[.pointer (some ⟨ki5, 0, none⟩), .pointer (some ⟨ke5, 0, none⟩)] 67), ((φ9 0), .cells #[.bool ib8, .pointer ip8, .int .u64 ((eb8 : Nat) : Int), .pointer ep8] 64), ((φ9 1), .cells #[.pointer (some ⟨ki8, 0, none⟩), .pointer (some ⟨ke8, 0, none⟩)] 67), ((φ12 0), .cells #[.bool ib11, .pointer ip11, .int .u64 ((eb11 : Nat) : Int), .pointer ep11] 64), ((φ12 1), .cells #[.pointer (some ⟨ki11, 0, none⟩), .pointer (some ⟨ke11, 0, none⟩)] 67)]) (fun φ12 => [(φ12 0), (φ12 0), (φ12 0), (φ12 0), (φ12 1), (φ12 1)]) s trivial (fun φ12 => by kernel_rfl) ?_
  intro φ12 w12 s
  refine ops_done (by kernel_rfl) ?_
  refine wp_seq ?_
  refine region_rule ?_
  refine ops_rule (C := []) [((φ6 0), .cells #[.bool ib5, .pointer ip5, .int .u64 ((eb5 : Nat) : Int), .pointer ep5] 64), ((φ6 1), .cells #[.pointer (some ⟨ki5, 0, none⟩), .pointer (some ⟨ke5, 0, none⟩)] 67), ((φ9 0), .cells #[.bool ib8, .pointer ip8, .int .u64 ((eb8 : Nat) : Int), .pointer ep8] 64), ((φ9 1), .cells #[.pointer (some ⟨ki8, 0, none⟩), .pointer (some ⟨ke8, 0, none⟩)] 67), ((φ12 0), .cells #[.bool ib11, .pointer ip11, .int .u64 ((eb11 : Nat) : Int), .pointer ep11] 64), ((φ12 1), .cells #[.pointer (some ⟨ki11, 0, none⟩), .pointer (some ⟨ke11, 0, none⟩)] 67)] [] 1 [.o 0, .o 0, .o 0, .o 0] 0 (fun φ13 => [(48, .agg #[.bool ib5, .pointer ip5, .int .u64 ((eb5 : Nat) : Int), .pointer ep5])]) (fun φ13 => [((φ6 0), .cells #[.bool ib5, .pointer ip5, .int .u64 ((eb5 : Nat) : Int), .pointer ep5] 64), ((φ6 1), .cells #[.pointer (some ⟨ki5, 0, none⟩), .pointer (some ⟨ke5, 0, none⟩)] 67), ((φ9 0), .cells #[.bool ib8, .pointer ip8, .int .u64 ((eb8 : Nat) : Int), .pointer ep8] 64), ((φ9 1), .cells #[.pointer (some ⟨ki8, 0, none⟩), .pointer (some ⟨ke8, 0, none⟩)] 67), ((φ12 0), .cells #[.bool ib11, .pointer ip11, .int .u64 ((eb11 : Nat) : Int), .pointer ep11] 64), ((φ12 1), .cells #[.pointer (some ⟨ki11, 0, none⟩), .pointer (some ⟨ke11, 0, none⟩)] 67)]) (fun φ13 => [(φ6 0), (φ6 0), (φ6 0), (φ6 0)]) s trivial (fun φ13 => by kernel_rfl) ?_
  intro φ13 w13 s
  refine call_rule (some 49) s (forkS_c h5_2 h5_3 (by have := h5_0.2; omega)) (by kernel_rfl) ?_
  intro v14 I14 w14 le14 h14 s
  replace hT := Tab.mono le14 hT
  replace hla := BSl.mono le14 hla
  replace hlb := BSl.mono le14 hlb
  replace hlc := BSl.mono le14 hlc
  replace hld := BSl.mono le14 hld
  replace h5_2 := TRep.mono le14 h5_2
  replace h5_3 := ERep.mono le14 h5_3
  replace h5_4 := RT.mono le14 h5_4
  replace h5_5 := RE.mono le14 h5_5
  replace h8_2 := TRep.mono le14 h8_2
  replace h8_3 := ERep.mono le14 h8_3
  replace h8_4 := RT.mono le14 h8_4
  replace h8_5 := RE.mono le14 h8_5
  replace h11_2 := TRep.mono le14 h11_2
  replace h11_3 := ERep.mono le14 h11_3
  replace h11_4 := RT.mono le14 h11_4
  replace h11_5 := RE.mono le14 h11_5
  obtain ⟨b14, p14, b2_14, p2_14, b3_14, p3_14, rfl, h14_0, h14_1, h14_2⟩ := h14
  refine ops_rule (C := []) [((φ6 0), .cells #[.bool ib5, .pointer ip5, .int .u64 ((eb5 : Nat) : Int), .pointer ep5] 64), ((φ6 1), .cells #[.pointer (some ⟨ki5, 0, none⟩), .pointer (some ⟨ke5, 0, none⟩)] 67), ((φ9 0), .cells #[.bool ib8, .pointer ip8, .int .u64 ((eb8 : Nat) : Int), .pointer ep8] 64), ((φ9 1), .cells #[.pointer (some ⟨ki8, 0, none⟩), .pointer (some ⟨ke8, 0, none⟩)] 67), ((φ12 0), .cells #[.bool ib11, .pointer ip11, .int .u64 ((eb11 : Nat) : Int), .pointer ep11] 64), ((φ12 1), .cells #[.pointer (some ⟨ki11, 0, none⟩), .pointer (some ⟨ke11, 0, none⟩)] 67)] [] 9 [.o 6, .o 6, .o 6, .o 6, .o 7, .o 7, .o 7, .o 7] 2 (fun φ15 => [(17, .int .i64 0), (16, .pointer (some ⟨(φ15 1), 0, none⟩)), (15, .pointer (some ⟨(φ15 0), 0, none⟩)), (52, .int .i64 0), (51, .agg #[.bool b2_14, .pointer p2_14, .int .u64 ((b3_14 : Nat) : Int), .pointer p3_14]), (50, .agg #[.bool b14, .pointer p14, .int .u64 ((b3_14 : Nat) : Int), .pointer p3_14]), (47, .tuple #[.agg #[.bool b14, .pointer p14, .int .u64 ((b3_14 : Nat) : Int), .pointer p3_14], .agg #[.bool b2_14, .pointer p2_14, .int .u64 ((b3_14 : Nat) : Int), .pointer p3_14], .int .i64 0])]) (fun φ15 => [((φ6 0), .cells #[.bool ib5, .pointer ip5, .int .u64 ((eb5 : Nat) : Int), .pointer ep5] 64), ((φ6 1), .cells #[.pointer (some ⟨ki5, 0, none⟩), .pointer (some ⟨ke5, 0, none⟩)] 67), ((φ9 0), .cells #[.bool ib8, .pointer ip8, .int .u64 ((eb8 : Nat) : Int), .pointer ep8] 64), ((φ9 1), .cells #[.pointer (some ⟨ki8, 0, none⟩), .pointer (some ⟨ke8, 0, none⟩)] 67), ((φ12 0), .cells #[.bool ib11, .pointer ip11, .int .u64 ((eb11 : Nat) : Int), .pointer ep11] 64), ((φ12 1), .cells #[.pointer (some ⟨ki11, 0, none⟩), .pointer (some ⟨ke11, 0, none⟩)] 67), ((φ15 0), .cells #[.bool b14, .pointer p14, .int .u64 ((b3_14 : Nat) : Int), .pointer p3_14] 64), ((φ15 1), .cells #[.bool b2_14, .pointer p2_14, .int .u64 ((b3_14 : Nat) : Int), .pointer p3_14] 64)]) (fun φ15 => [(φ15 0), (φ15 0), (φ15 0), (φ15 0), (φ15 1), (φ15 1), (φ15 1), (φ15 1)]) s trivial (fun φ15 => by kernel_rfl) ?_
  intro φ15 w15 s
  refine ops_done (by kernel_rfl) ?_
  refine wp_seq ?_
  refine wp_seq ?_
  refine region_rule ?_
  refine ops_rule (C := []) [((φ6 0), .cells #[.bool ib5, .pointer ip5, .int .u64 ((eb5 : Nat) : Int), .pointer ep5] 64), ((φ6 1), .cells #[.pointer (some ⟨ki5, 0, none⟩), .pointer (some ⟨ke5, 0, none⟩)] 67), ((φ9 0), .cells #[.bool ib8, .pointer ip8, .int .u64 ((eb8 : Nat) : Int), .pointer ep8] 64), ((φ9 1), .cells #[.pointer (some ⟨ki8, 0, none⟩), .pointer (some ⟨ke8, 0, none⟩)] 67), ((φ12 0), .cells #[.bool ib11, .pointer ip11, .int .u64 ((eb11 : Nat) : Int), .pointer ep11] 64), ((φ12 1), .cells #[.pointer (some ⟨ki11, 0, none⟩), .pointer (some ⟨ke11, 0, none⟩)] 67), ((φ15 0), .cells #[.bool b14, .pointer p14, .int .u64 ((b3_14 : Nat) : Int), .pointer p3_14] 64), ((φ15 1), .cells #[.bool b2_14, .pointer p2_14, .int .u64 ((b3_14 : Nat) : Int), .pointer p3_14] 64)] [] 2 [] 0 (fun φ16 => [(54, .bool false), (53, .int .i64 0)]) (fun φ16 => [((φ6 0), .cells #[.bool ib5, .pointer ip5, .int .u64 ((eb5 : Nat) : Int), .pointer ep5] 64), ((φ6 1), .cells #[.pointer (some ⟨ki5, 0, none⟩), .pointer (some ⟨ke5, 0, none⟩)] 67), ((φ9 0), .cells #[.bool ib8, .pointer ip8, .int .u64 ((eb8 : Nat) : Int), .pointer ep8] 64), ((φ9 1), .cells #[.pointer (some ⟨ki8, 0, none⟩), .pointer (some ⟨ke8, 0, none⟩)] 67), ((φ12 0), .cells #[.bool ib11, .pointer ip11, .int .u64 ((eb11 : Nat) : Int), .pointer ep11] 64), ((φ12 1), .cells #[.pointer (some ⟨ki11, 0, none⟩), .pointer (some ⟨ke11, 0, none⟩)] 67), ((φ15 0), .cells #[.bool b14, .pointer p14, .int .u64 ((b3_14 : Nat) : Int), .pointer p3_14] 64), ((φ15 1), .cells #[.bool b2_14, .pointer p2_14, .int .u64 ((b3_14 : Nat) : Int), .pointer p3_14] 64)]) (fun φ16 => []) s trivial (fun φ16 => by kernel_rfl) ?_
  intro φ16 w16 s
  refine ops_done (by kernel_rfl) ?_
  refine cond_false_rule (b := false) (by kernel_rfl) rfl ?_
  refine wp_skip ?_
  refine wp_seq ?_
  refine draw_rule (C := []) ⟨(fun φ17 xs17 => [.look 0 [] [], .look 0 [.o 6, .o 6] [(φ15 0), (φ15 0)], .look 0 [] [], .look 0 [.o 7, .o 7] [(φ15 1), (φ15 1)], .look 0 [] [], .store 0 [.o 2, .o 2] [(φ9 0), (φ9 0)], .look 1 [] [], .store 1 [.o 4, .o 4] [(φ12 0), (φ12 0)]]), (fun φ17 xs17 => [.pointer (some ⟨(φ15 0), 0, none⟩), .agg #[.bool b14, .pointer p14], .pointer (some ⟨(φ15 1), 0, none⟩), .agg #[.bool b2_14, .pointer p2_14], .pointer (some ⟨(φ9 0), 0, none⟩), undef, .pointer (some ⟨(φ12 0), 0, none⟩), undef]), (fun φ17 xs17 => [[((φ6 0), .cells #[.bool ib5, .pointer ip5, .int .u64 ((eb5 : Nat) : Int), .pointer ep5] 64), ((φ6 1), .cells #[.pointer (some ⟨ki5, 0, none⟩), .pointer (some ⟨ke5, 0, none⟩)] 67), ((φ9 0), .cells #[.bool ib8, .pointer ip8, .int .u64 ((eb8 : Nat) : Int), .pointer ep8] 64), ((φ9 1), .cells #[.pointer (some ⟨ki8, 0, none⟩), .pointer (some ⟨ke8, 0, none⟩)] 67), ((φ12 0), .cells #[.bool ib11, .pointer ip11, .int .u64 ((eb11 : Nat) : Int), .pointer ep11] 64), ((φ12 1), .cells #[.pointer (some ⟨ki11, 0, none⟩), .pointer (some ⟨ke11, 0, none⟩)] 67), ((φ15 0), .cells #[.bool b14, .pointer p14, .int .u64 ((b3_14 : Nat) : Int), .pointer p3_14] 64), ((φ15 1), .cells #[.bool b2_14, .pointer p2_14, .int .u64 ((b3_14 : Nat) : Int), .pointer p3_14] 64)], [((φ6 0), .cells #[.bool ib5, .pointer ip5, .int .u64 ((eb5 : Nat) : Int), .pointer ep5] 64), ((φ6 1), .cells #[.pointer (some ⟨ki5, 0, none⟩), .pointer (some ⟨ke5, 0, none⟩)] 67), ((φ9 0), .cells #[.bool b14, .pointer p14, .int .u64 ((eb8 : Nat) : Int), .pointer ep8] 64), ((φ9 1), .cells #[.pointer (some ⟨ki8, 0, none⟩), .pointer (some ⟨ke8, 0, none⟩)] 67), ((φ12 0), .cells #[.bool ib11, .pointer ip11, .int .u64 ((eb11 : Nat) : Int), .pointer ep11] 64), ((φ12 1), .cells #[.pointer (some ⟨ki11, 0, none⟩), .pointer (some ⟨ke11, 0, none⟩)] 67), ((φ15 0), .cells #[.bool b14, .pointer p14, .int .u64 ((b3_14 : Nat) : Int), .pointer p3_14] 64), ((φ15 1), .cells #[.bool b2_14, .pointer p2_14, .int .u64 ((b3_14 : Nat) : Int), .pointer p3_14] 64)], [((φ6 0), .cells #[.bool ib5, .pointer ip5, .int .u64 ((eb5 : Nat) : Int), .pointer ep5] 64), ((φ6 1), .cells #[.pointer (some ⟨ki5, 0, none⟩), .pointer (some ⟨ke5, 0, none⟩)] 67), ((φ9 0), .cells #[.bool b14, .pointer p14, .int .u64 ((eb8 : Nat) : Int), .pointer ep8] 64), ((φ9 1), .cells #[.pointer (some ⟨ki8, 0, none⟩), .pointer (some ⟨ke8, 0, none⟩)] 67), ((φ12 0), .cells #[.bool b2_14, .pointer p2_14, .int .u64 ((eb11 : Nat) : Int), .pointer ep11] 64), ((φ12 1), .cells #[.pointer (some ⟨ki11, 0, none⟩), .pointer (some ⟨ke11, 0, none⟩)] 67), ((φ15 0), .cells #[.bool b14, .pointer p14, .int .u64 ((b3_14 : Nat) : Int), .pointer p3_14] 64), ((φ15 1), .cells #[.bool b2_14, .pointer p2_14, .int .u64 ((b3_14 : Nat) : Int), .pointer p3_14] 64)]]), (fun φ17 xs17 => [[default, default, default, default, default, default, default, default], [default, default, default, default, default, default, default, default], [default, default, default, default, default, default, default, default]]), [5, 7], [1, 1, 1, 1, 1, 4, 1, 4]⟩ (fun j => ([MP.any, MP.any, MP.any, MP.any, MP.any, MP.any, MP.any, MP.any] : List MP).getD j MP.any) [] [] [] (fun φ17 xs17 => [[none, none, none, none, none, none, none, none], [none, none, none, none, none, none, none, none]]) (fun φ17 xs17 => [(55, .pointer (some ⟨(φ15 0), 0, none⟩)), (56, .agg #[.bool b14, .pointer p14]), (57, .pointer (some ⟨(φ15 1), 0, none⟩)), (58, .agg #[.bool b2_14, .pointer p2_14]), (59, .pointer (some ⟨(φ9 0), 0, none⟩)), (60, .pointer (some ⟨(φ12 0), 0, none⟩))]) (fun φ17 xs17 => [((φ6 0), .cells #[.bool ib5, .pointer ip5, .int .u64 ((eb5 : Nat) : Int), .pointer ep5] 64), ((φ6 1), .cells #[.pointer (some ⟨ki5, 0, none⟩), .pointer (some ⟨ke5, 0, none⟩)] 67), ((φ9 0), .cells #[.bool b14, .pointer p14, .int .u64 ((eb8 : Nat) : Int), .pointer ep8] 64), ((φ9 1), .cells #[.pointer (some ⟨ki8, 0, none⟩), .pointer (some ⟨ke8, 0, none⟩)] 67), ((φ12 0), .cells #[.bool b2_14, .pointer p2_14, .int .u64 ((eb11 : Nat) : Int), .pointer ep11] 64), ((φ12 1), .cells #[.pointer (some ⟨ki11, 0, none⟩), .pointer (some ⟨ke11, 0, none⟩)] 67), ((φ15 0), .cells #[.bool b14, .pointer p14, .int .u64 ((b3_14 : Nat) : Int), .pointer p3_14] 64), ((φ15 1), .cells #[.bool b2_14, .pointer p2_14, .int .u64 ((b3_14 : Nat) : Int), .pointer p3_14] 64)]) s trivial (by kernel_rfl) (by kernel_rfl) (fun _ _ => by kernel_rfl) (fun _ _ => by kernel_rfl) ⟨fun _ _ => by kernel_rfl, fun _ _ => by kernel_rfl, fun _ _ => by kernel_rfl, fun _ _ => by kernel_rfl⟩ (fun _ _ _ => by kernel_rfl) (fun _ _ => by kernel_rfl) (fun _ _ => by kernel_rfl) (fun _ _ => by kernel_rfl) (fun _ _ => by kernel_rfl) (fun _ _ => by kernel_rfl) trivial trivial trivial ?k17
  case k17 =>
    rintro φ17 xs17 I17 w17 le17 s 
    replace hT := Tab.mono le17 hT
    replace hla := BSl.mono le17 hla
    replace hlb := BSl.mono le17 hlb
    replace hlc := BSl.mono le17 hlc
    replace hld := BSl.mono le17 hld
    replace h5_2 := TRep.mono le17 h5_2
    replace h5_3 := ERep.mono le17 h5_3
    replace h5_4 := RT.mono le17 h5_4
    replace h5_5 := RE.mono le17 h5_5
    replace h8_2 := TRep.mono le17 h8_2
    replace h8_3 := ERep.mono le17 h8_3
    replace h8_4 := RT.mono le17 h8_4
    replace h8_5 := RE.mono le17 h8_5
    replace h11_2 := TRep.mono le17 h11_2
    replace h11_3 := ERep.mono le17 h11_3
    replace h11_4 := RT.mono le17 h11_4
    replace h11_5 := RE.mono le17 h11_5
    replace h14_0 := TRep.mono le17 h14_0
    replace h14_1 := TRep.mono le17 h14_1
    replace h14_2 := ERep.mono le17 h14_2
    refine wp_seq ?_
    refine region_rule ?_
    refine ops_rule (C := []) [((φ6 0), .cells #[.bool ib5, .pointer ip5, .int .u64 ((eb5 : Nat) : Int), .pointer ep5] 64), ((φ6 1), .cells #[.pointer (some ⟨ki5, 0, none⟩), .pointer (some ⟨ke5, 0, none⟩)] 67), ((φ9 0), .cells #[.bool b14, .pointer p14, .int .u64 ((eb8 : Nat) : Int), .pointer ep8] 64), ((φ9 1), .cells #[.pointer (some ⟨ki8, 0, none⟩), .pointer (some ⟨ke8, 0, none⟩)] 67), ((φ12 0), .cells #[.bool b2_14, .pointer p2_14, .int .u64 ((eb11 : Nat) : Int), .pointer ep11] 64), ((φ12 1), .cells #[.pointer (some ⟨ki11, 0, none⟩), .pointer (some ⟨ke11, 0, none⟩)] 67), ((φ15 0), .cells #[.bool b14, .pointer p14, .int .u64 ((b3_14 : Nat) : Int), .pointer p3_14] 64), ((φ15 1), .cells #[.bool b2_14, .pointer p2_14, .int .u64 ((b3_14 : Nat) : Int), .pointer p3_14] 64)] [] 2 [.o 2, .o 2, .o 2, .o 2, .o 4, .o 4, .o 4, .o 4] 0 (fun φ18 => [(63, .agg #[.bool b2_14, .pointer p2_14, .int .u64 ((eb11 : Nat) : Int), .pointer ep11]), (62, .agg #[.bool b14, .pointer p14, .int .u64 ((eb8 : Nat) : Int), .pointer ep8])]) (fun φ18 => [((φ6 0), .cells #[.bool ib5, .pointer ip5, .int .u64 ((eb5 : Nat) : Int), .pointer ep5] 64), ((φ6 1), .cells #[.pointer (some ⟨ki5, 0, none⟩), .pointer (some ⟨ke5, 0, none⟩)] 67), ((φ9 0), .cells #[.bool b14, .pointer p14, .int .u64 ((eb8 : Nat) : Int), .pointer ep8] 64), ((φ9 1), .cells #[.pointer (some ⟨ki8, 0, none⟩), .pointer (some ⟨ke8, 0, none⟩)] 67), ((φ12 0), .cells #[.bool b2_14, .pointer p2_14, .int .u64 ((eb11 : Nat) : Int), .pointer ep11] 64), ((φ12 1), .cells #[.pointer (some ⟨ki11, 0, none⟩), .pointer (some ⟨ke11, 0, none⟩)] 67), ((φ15 0), .cells #[.bool b14, .pointer p14, .int .u64 ((b3_14 : Nat) : Int), .pointer p3_14] 64), ((φ15 1), .cells #[.bool b2_14, .pointer p2_14, .int .u64 ((b3_14 : Nat) : Int), .pointer p3_14] 64)]) (fun φ18 => [(φ9 0), (φ9 0), (φ9 0), (φ9 0), (φ12 0), (φ12 0), (φ12 0), (φ12 0)]) s trivial (fun φ18 => by kernel_rfl) ?_
    intro φ18 w18 s
    refine call_rule (some 64) s (joinOK_c (S := i5) h14_0 h14_1 h8_3 h11_3 (sum_cut h5_0.1) (by have q1 := h5_0.2; have q2 := cut_depth i5; first | omega | exact Nat.zero_le _) (by have q1 := h5_0.2; have q2 := cut_depth i5; first | omega | exact Nat.zero_le _) (ok_of h8_1) (ok_of h11_1)) (by kernel_rfl) ?_
    intro v19 I19 w19 le19 h19 s
    replace hT := Tab.mono le19 hT
    replace hla := BSl.mono le19 hla
    replace hlb := BSl.mono le19 hlb
    replace hlc := BSl.mono le19 hlc
    replace hld := BSl.mono le19 hld
    replace h5_2 := TRep.mono le19 h5_2
    replace h5_3 := ERep.mono le19 h5_3
    replace h5_4 := RT.mono le19 h5_4
    replace h5_5 := RE.mono le19 h5_5
    replace h8_2 := TRep.mono le19 h8_2
    replace h8_3 := ERep.mono le19 h8_3
    replace h8_4 := RT.mono le19 h8_4
    replace h8_5 := RE.mono le19 h8_5
    replace h11_2 := TRep.mono le19 h11_2
    replace h11_3 := ERep.mono le19 h11_3
    replace h11_4 := RT.mono le19 h11_4
    replace h11_5 := RE.mono le19 h11_5
    replace h14_0 := TRep.mono le19 h14_0
    replace h14_1 := TRep.mono le19 h14_1
    replace h14_2 := ERep.mono le19 h14_2
    obtain ⟨b19, p19, b2_19, p2_19, rfl, h19_0, h19_1⟩ := h19
    refine ops_rule (C := []) [((φ6 0), .cells #[.bool ib5, .pointer ip5, .int .u64 ((eb5 : Nat) : Int), .pointer ep5] 64), ((φ6 1), .cells #[.pointer (some ⟨ki5, 0, none⟩), .pointer (some ⟨ke5, 0, none⟩)] 67), ((φ9 0), .cells #[.bool b14, .pointer p14, .int .u64 ((eb8 : Nat) : Int), .pointer ep8] 64), ((φ9 1), .cells #[.pointer (some ⟨ki8, 0, none⟩), .pointer (some ⟨ke8, 0, none⟩)] 67), ((φ12 0), .cells #[.bool b2_14, .pointer p2_14, .int .u64 ((eb11 : Nat) : Int), .pointer ep11] 64), ((φ12 1), .cells #[.pointer (some ⟨ki11, 0, none⟩), .pointer (some ⟨ke11, 0, none⟩)] 67), ((φ15 0), .cells #[.bool b14, .pointer p14, .int .u64 ((b3_14 : Nat) : Int), .pointer p3_14] 64), ((φ15 1), .cells #[.bool b2_14, .pointer p2_14, .int .u64 ((b3_14 : Nat) : Int), .pointer p3_14] 64)] [] 6 [.o 8, .o 8, .o 8, .o 8] 1 (fun φ20 => [(17, .int .i64 0), (18, .pointer (some ⟨(φ20 0), 0, none⟩)), (66, .int .i64 0), (65, .agg #[.bool b19, .pointer p19, .int .u64 ((b2_19 : Nat) : Int), .pointer p2_19]), (61, .tuple #[.agg #[.bool b19, .pointer p19, .int .u64 ((b2_19 : Nat) : Int), .pointer p2_19], .int .i64 0])]) (fun φ20 => [((φ6 0), .cells #[.bool ib5, .pointer ip5, .int .u64 ((eb5 : Nat) : Int), .pointer ep5] 64), ((φ6 1), .cells #[.pointer (some ⟨ki5, 0, none⟩), .pointer (some ⟨ke5, 0, none⟩)] 67), ((φ9 0), .cells #[.bool b14, .pointer p14, .int .u64 ((eb8 : Nat) : Int), .pointer ep8] 64), ((φ9 1), .cells #[.pointer (some ⟨ki8, 0, none⟩), .pointer (some ⟨ke8, 0, none⟩)] 67), ((φ12 0), .cells #[.bool b2_14, .pointer p2_14, .int .u64 ((eb11 : Nat) : Int), .pointer ep11] 64), ((φ12 1), .cells #[.pointer (some ⟨ki11, 0, none⟩), .pointer (some ⟨ke11, 0, none⟩)] 67), ((φ15 0), .cells #[.bool b14, .pointer p14, .int .u64 ((b3_14 : Nat) : Int), .pointer p3_14] 64), ((φ15 1), .cells #[.bool b2_14, .pointer p2_14, .int .u64 ((b3_14 : Nat) : Int), .pointer p3_14] 64), ((φ20 0), .cells #[.bool b19, .pointer p19, .int .u64 ((b2_19 : Nat) : Int), .pointer p2_19] 64)]) (fun φ20 => [(φ20 0), (φ20 0), (φ20 0), (φ20 0)]) s trivial (fun φ20 => by kernel_rfl) ?_
    intro φ20 w20 s
    refine ops_done (by kernel_rfl) ?_
    refine wp_seq ?_
    refine region_rule ?_
    refine ops_rule (C := []) [((φ6 0), .cells #[.bool ib5, .pointer ip5, .int .u64 ((eb5 : Nat) : Int), .pointer ep5] 64), ((φ6 1), .cells #[.pointer (some ⟨ki5, 0, none⟩), .pointer (some ⟨ke5, 0, none⟩)] 67), ((φ9 0), .cells #[.bool b14, .pointer p14, .int .u64 ((eb8 : Nat) : Int), .pointer ep8] 64), ((φ9 1), .cells #[.pointer (some ⟨ki8, 0, none⟩), .pointer (some ⟨ke8, 0, none⟩)] 67), ((φ12 0), .cells #[.bool b2_14, .pointer p2_14, .int .u64 ((eb11 : Nat) : Int), .pointer ep11] 64), ((φ12 1), .cells #[.pointer (some ⟨ki11, 0, none⟩), .pointer (some ⟨ke11, 0, none⟩)] 67), ((φ15 0), .cells #[.bool b14, .pointer p14, .int .u64 ((b3_14 : Nat) : Int), .pointer p3_14] 64), ((φ15 1), .cells #[.bool b2_14, .pointer p2_14, .int .u64 ((b3_14 : Nat) : Int), .pointer p3_14] 64), ((φ20 0), .cells #[.bool b19, .pointer p19, .int .u64 ((b2_19 : Nat) : Int), .pointer p2_19] 64)] [] 2 [.o 4, .o 4, .o 4, .o 4, .o 2, .o 2, .o 2, .o 2] 0 (fun φ21 => [(69, .agg #[.bool b14, .pointer p14, .int .u64 ((eb8 : Nat) : Int), .pointer ep8]), (68, .agg #[.bool b2_14, .pointer p2_14, .int .u64 ((eb11 : Nat) : Int), .pointer ep11])]) (fun φ21 => [((φ6 0), .cells #[.bool ib5, .pointer ip5, .int .u64 ((eb5 : Nat) : Int), .pointer ep5] 64), ((φ6 1), .cells #[.pointer (some ⟨ki5, 0, none⟩), .pointer (some ⟨ke5, 0, none⟩)] 67), ((φ9 0), .cells #[.bool b14, .pointer p14, .int .u64 ((eb8 : Nat) : Int), .pointer ep8] 64), ((φ9 1), .cells #[.pointer (some ⟨ki8, 0, none⟩), .pointer (some ⟨ke8, 0, none⟩)] 67), ((φ12 0), .cells #[.bool b2_14, .pointer p2_14, .int .u64 ((eb11 : Nat) : Int), .pointer ep11] 64), ((φ12 1), .cells #[.pointer (some ⟨ki11, 0, none⟩), .pointer (some ⟨ke11, 0, none⟩)] 67), ((φ15 0), .cells #[.bool b14, .pointer p14, .int .u64 ((b3_14 : Nat) : Int), .pointer p3_14] 64), ((φ15 1), .cells #[.bool b2_14, .pointer p2_14, .int .u64 ((b3_14 : Nat) : Int), .pointer p3_14] 64), ((φ20 0), .cells #[.bool b19, .pointer p19, .int .u64 ((b2_19 : Nat) : Int), .pointer p2_19] 64)]) (fun φ21 => [(φ12 0), (φ12 0), (φ12 0), (φ12 0), (φ9 0), (φ9 0), (φ9 0), (φ9 0)]) s trivial (fun φ21 => by kernel_rfl) ?_
    intro φ21 w21 s
    refine call_rule (some 70) s (joinOK_c (S := i5) h14_1 h14_0 h11_3 h8_3 (sum_cut' h5_0.1) (by have q1 := h5_0.2; have q2 := cut_depth i5; first | omega | exact Nat.zero_le _) (by have q1 := h5_0.2; have q2 := cut_depth i5; first | omega | exact Nat.zero_le _) (ok_of h11_1) (ok_of h8_1)) (by kernel_rfl) ?_
    intro v22 I22 w22 le22 h22 s
    replace hT := Tab.mono le22 hT
    replace hla := BSl.mono le22 hla
    replace hlb := BSl.mono le22 hlb
    replace hlc := BSl.mono le22 hlc
    replace hld := BSl.mono le22 hld
    replace h5_2 := TRep.mono le22 h5_2
    replace h5_3 := ERep.mono le22 h5_3
    replace h5_4 := RT.mono le22 h5_4
    replace h5_5 := RE.mono le22 h5_5
    replace h8_2 := TRep.mono le22 h8_2
    replace h8_3 := ERep.mono le22 h8_3
    replace h8_4 := RT.mono le22 h8_4
    replace h8_5 := RE.mono le22 h8_5
    replace h11_2 := TRep.mono le22 h11_2
    replace h11_3 := ERep.mono le22 h11_3
    replace h11_4 := RT.mono le22 h11_4
    replace h11_5 := RE.mono le22 h11_5
    replace h14_0 := TRep.mono le22 h14_0
    replace h14_1 := TRep.mono le22 h14_1
    replace h14_2 := ERep.mono le22 h14_2
    replace h19_0 := TRep.mono le22 h19_0
    replace h19_1 := ERep.mono le22 h19_1
    obtain ⟨b22, p22, b2_22, p2_22, rfl, h22_0, h22_1⟩ := h22
    refine ops_rule (C := []) [((φ6 0), .cells #[.bool ib5, .pointer ip5, .int .u64 ((eb5 : Nat) : Int), .pointer ep5] 64), ((φ6 1), .cells #[.pointer (some ⟨ki5, 0, none⟩), .pointer (some ⟨ke5, 0, none⟩)] 67), ((φ9 0), .cells #[.bool b14, .pointer p14, .int .u64 ((eb8 : Nat) : Int), .pointer ep8] 64), ((φ9 1), .cells #[.pointer (some ⟨ki8, 0, none⟩), .pointer (some ⟨ke8, 0, none⟩)] 67), ((φ12 0), .cells #[.bool b2_14, .pointer p2_14, .int .u64 ((eb11 : Nat) : Int), .pointer ep11] 64), ((φ12 1), .cells #[.pointer (some ⟨ki11, 0, none⟩), .pointer (some ⟨ke11, 0, none⟩)] 67), ((φ15 0), .cells #[.bool b14, .pointer p14, .int .u64 ((b3_14 : Nat) : Int), .pointer p3_14] 64), ((φ15 1), .cells #[.bool b2_14, .pointer p2_14, .int .u64 ((b3_14 : Nat) : Int), .pointer p3_14] 64), ((φ20 0), .cells #[.bool b19, .pointer p19, .int .u64 ((b2_19 : Nat) : Int), .pointer p2_19] 64)] [] 6 [.o 9, .o 9, .o 9, .o 9] 1 (fun φ23 => [(20, .int .i64 0), (19, .pointer (some ⟨(φ23 0), 0, none⟩)), (72, .int .i64 0), (71, .agg #[.bool b22, .pointer p22, .int .u64 ((b2_22 : Nat) : Int), .pointer p2_22]), (67, .tuple #[.agg #[.bool b22, .pointer p22, .int .u64 ((b2_22 : Nat) : Int), .pointer p2_22], .int .i64 0])]) (fun φ23 => [((φ6 0), .cells #[.bool ib5, .pointer ip5, .int .u64 ((eb5 : Nat) : Int), .pointer ep5] 64), ((φ6 1), .cells #[.pointer (some ⟨ki5, 0, none⟩), .pointer (some ⟨ke5, 0, none⟩)] 67), ((φ9 0), .cells #[.bool b14, .pointer p14, .int .u64 ((eb8 : Nat) : Int), .pointer ep8] 64), ((φ9 1), .cells #[.pointer (some ⟨ki8, 0, none⟩), .pointer (some ⟨ke8, 0, none⟩)] 67), ((φ12 0), .cells #[.bool b2_14, .pointer p2_14, .int .u64 ((eb11 : Nat) : Int), .pointer ep11] 64), ((φ12 1), .cells #[.pointer (some ⟨ki11, 0, none⟩), .pointer (some ⟨ke11, 0, none⟩)] 67), ((φ15 0), .cells #[.bool b14, .pointer p14, .int .u64 ((b3_14 : Nat) : Int), .pointer p3_14] 64), ((φ15 1), .cells #[.bool b2_14, .pointer p2_14, .int .u64 ((b3_14 : Nat) : Int), .pointer p3_14] 64), ((φ20 0), .cells #[.bool b19, .pointer p19, .int .u64 ((b2_19 : Nat) : Int), .pointer p2_19] 64), ((φ23 0), .cells #[.bool b22, .pointer p22, .int .u64 ((b2_22 : Nat) : Int), .pointer p2_22] 64)]) (fun φ23 => [(φ23 0), (φ23 0), (φ23 0), (φ23 0)]) s trivial (fun φ23 => by kernel_rfl) ?_
    intro φ23 w23 s
    refine ops_done (by kernel_rfl) ?_
    refine wp_seq ?_
    refine draw_rule (C := []) ⟨(fun φ24 xs24 => [.look 0 [.o 8, .o 8, .o 8, .o 8] [(φ20 0), (φ20 0), (φ20 0), (φ20 0)], .look 0 [.o 0, .o 0, .o 0, .o 0] [(φ6 0), (φ6 0), (φ6 0), (φ6 0)], .call 60 #[.agg #[.bool ib5, .pointer ip5, .int .u64 ((eb5 : Nat) : Int), .pointer ep5]], .call 59 #[.agg #[.bool b19, .pointer p19, .int .u64 ((b2_19 : Nat) : Int), .pointer p2_19], .agg #[.bool false, .pointer none, .int .u64 ((eb5 : Nat) : Int), .pointer ep5]], .look 0 [] [], .look 0 [] [], .look 0 [] [], .new, .store 0 [.o 10, .o 10, .o 10, .o 10] [(φ24 7), (φ24 7), (φ24 7), (φ24 7)], .look 1 [] []]), (fun φ24 xs24 => [.agg #[.bool b19, .pointer p19, .int .u64 ((b2_19 : Nat) : Int), .pointer p2_19], .agg #[.bool ib5, .pointer ip5, .int .u64 ((eb5 : Nat) : Int), .pointer ep5], .agg #[.bool false, .pointer none, .int .u64 ((eb5 : Nat) : Int), .pointer ep5], .tuple #[.agg #[.bool ((xs24 3).b 0), .pointer ((xs24 3).p 0), .int .u64 (((xs24 3).n 0 : Nat) : Int), .pointer ((xs24 3).p 1)], .int .i64 0], .tuple #[.agg #[.bool ((xs24 3).b 0), .pointer ((xs24 3).p 0), .int .u64 (((xs24 3).n 0 : Nat) : Int), .pointer ((xs24 3).p 1)], .int .i64 0], .agg #[.bool ((xs24 3).b 0), .pointer ((xs24 3).p 0), .int .u64 (((xs24 3).n 0 : Nat) : Int), .pointer ((xs24 3).p 1)], .int .i64 0, .pointer (some ⟨(φ24 7), 0, none⟩), undef, .int .i64 0]), (fun φ24 xs24 => [[((φ6 0), .cells #[.bool ib5, .pointer ip5, .int .u64 ((eb5 : Nat) : Int), .pointer ep5] 64), ((φ6 1), .cells #[.pointer (some ⟨ki5, 0, none⟩), .pointer (some ⟨ke5, 0, none⟩)] 67), ((φ9 0), .cells #[.bool b14, .pointer p14, .int .u64 ((eb8 : Nat) : Int), .pointer ep8] 64), ((φ9 1), .cells #[.pointer (some ⟨ki8, 0, none⟩), .pointer (some ⟨ke8, 0, none⟩)] 67), ((φ12 0), .cells #[.bool b2_14, .pointer p2_14, .int .u64 ((eb11 : Nat) : Int), .pointer ep11] 64), ((φ12 1), .cells #[.pointer (some ⟨ki11, 0, none⟩), .pointer (some ⟨ke11, 0, none⟩)] 67), ((φ15 0), .cells #[.bool b14, .pointer p14, .int .u64 ((b3_14 : Nat) : Int), .pointer p3_14] 64), ((φ15 1), .cells #[.bool b2_14, .pointer p2_14, .int .u64 ((b3_14 : Nat) : Int), .pointer p3_14] 64), ((φ20 0), .cells #[.bool b19, .pointer p19, .int .u64 ((b2_19 : Nat) : Int), .pointer p2_19] 64), ((φ23 0), .cells #[.bool b22, .pointer p22, .int .u64 ((b2_22 : Nat) : Int), .pointer p2_22] 64)], [((φ6 0), .cells #[.bool ib5, .pointer ip5, .int .u64 ((eb5 : Nat) : Int), .pointer ep5] 64), ((φ6 1), .cells #[.pointer (some ⟨ki5, 0, none⟩), .pointer (some ⟨ke5, 0, none⟩)] 67), ((φ9 0), .cells #[.bool b14, .pointer p14, .int .u64 ((eb8 : Nat) : Int), .pointer ep8] 64), ((φ9 1), .cells #[.pointer (some ⟨ki8, 0, none⟩), .pointer (some ⟨ke8, 0, none⟩)] 67), ((φ12 0), .cells #[.bool b2_14, .pointer p2_14, .int .u64 ((eb11 : Nat) : Int), .pointer ep11] 64), ((φ12 1), .cells #[.pointer (some ⟨ki11, 0, none⟩), .pointer (some ⟨ke11, 0, none⟩)] 67), ((φ15 0), .cells #[.bool b14, .pointer p14, .int .u64 ((b3_14 : Nat) : Int), .pointer p3_14] 64), ((φ15 1), .cells #[.bool b2_14, .pointer p2_14, .int .u64 ((b3_14 : Nat) : Int), .pointer p3_14] 64), ((φ20 0), .cells #[.bool b19, .pointer p19, .int .u64 ((b2_19 : Nat) : Int), .pointer p2_19] 64), ((φ23 0), .cells #[.bool b22, .pointer p22, .int .u64 ((b2_22 : Nat) : Int), .pointer p2_22] 64)]]), (fun φ24 xs24 => [[default, default, default, default, default, default, default, .cells #[.bool false, .pointer none, .int .u64 0, .pointer none] 64, default, default], [default, default, default, default, default, default, default, .cells #[.bool ((xs24 3).b 0), .pointer ((xs24 3).p 0), .int .u64 (((xs24 3).n 0 : Nat) : Int), .pointer ((xs24 3).p 1)] 64, default, default]]), [8], [1, 1, 3, 3, 1, 1, 1, 2, 4, 1]⟩ (fun j => ([MP.any, MP.any, MP.any, ⟨fun x J => TRep J i5 (x.b 0) (x.p 0) ∧ ERep J (joinF 64 (joinF 64 e8 e11) e5) (x.n 0) (x.p 1), fun le h => ⟨TRep.mono le (h.1), ERep.mono le (h.2)⟩⟩, MP.any, MP.any, MP.any, MP.any, MP.any, MP.any] : List MP).getD j MP.any) [2, 3] [] [] (fun φ24 xs24 => [[none, none, none, none, none, none, none, none, none, none]]) (fun φ24 xs24 => [(74, .agg #[.bool b19, .pointer p19, .int .u64 ((b2_19 : Nat) : Int), .pointer p2_19]), (75, .agg #[.bool ib5, .pointer ip5, .int .u64 ((eb5 : Nat) : Int), .pointer ep5]), (76, .agg #[.bool false, .pointer none, .int .u64 ((eb5 : Nat) : Int), .pointer ep5]), (77, .tuple #[.agg #[.bool ((xs24 3).b 0), .pointer ((xs24 3).p 0), .int .u64 (((xs24 3).n 0 : Nat) : Int), .pointer ((xs24 3).p 1)], .int .i64 0]), (73, .tuple #[.agg #[.bool ((xs24 3).b 0), .pointer ((xs24 3).p 0), .int .u64 (((xs24 3).n 0 : Nat) : Int), .pointer ((xs24 3).p 1)], .int .i64 0]), (78, .agg #[.bool ((xs24 3).b 0), .pointer ((xs24 3).p 0), .int .u64 (((xs24 3).n 0 : Nat) : Int), .pointer ((xs24 3).p 1)]), (79, .int .i64 0), (21, .pointer (some ⟨(φ24 7), 0, none⟩)), (22, .int .i64 0)]) (fun φ24 xs24 => [((φ6 0), .cells #[.bool ib5, .pointer ip5, .int .u64 ((eb5 : Nat) : Int), .pointer ep5] 64), ((φ6 1), .cells #[.pointer (some ⟨ki5, 0, none⟩), .pointer (some ⟨ke5, 0, none⟩)] 67), ((φ9 0), .cells #[.bool b14, .pointer p14, .int .u64 ((eb8 : Nat) : Int), .pointer ep8] 64), ((φ9 1), .cells #[.pointer (some ⟨ki8, 0, none⟩), .pointer (some ⟨ke8, 0, none⟩)] 67), ((φ12 0), .cells #[.bool b2_14, .pointer p2_14, .int .u64 ((eb11 : Nat) : Int), .pointer ep11] 64), ((φ12 1), .cells #[.pointer (some ⟨ki11, 0, none⟩), .pointer (some ⟨ke11, 0, none⟩)] 67), ((φ15 0), .cells #[.bool b14, .pointer p14, .int .u64 ((b3_14 : Nat) : Int), .pointer p3_14] 64), ((φ15 1), .cells #[.bool b2_14, .pointer p2_14, .int .u64 ((b3_14 : Nat) : Int), .pointer p3_14] 64), ((φ20 0), .cells #[.bool b19, .pointer p19, .int .u64 ((b2_19 : Nat) : Int), .pointer p2_19] 64), ((φ23 0), .cells #[.bool b22, .pointer p22, .int .u64 ((b2_22 : Nat) : Int), .pointer p2_22] 64), ((φ24 7), .cells #[.bool ((xs24 3).b 0), .pointer ((xs24 3).p 0), .int .u64 (((xs24 3).n 0 : Nat) : Int), .pointer ((xs24 3).p 1)] 64)]) s trivial (by kernel_rfl) (by kernel_rfl) (fun _ _ => by kernel_rfl) (fun _ _ => by kernel_rfl) ⟨fun _ _ => by kernel_rfl, fun _ _ => by kernel_rfl, fun _ _ => by kernel_rfl, fun _ _ => by kernel_rfl⟩ (fun _ _ _ => by kernel_rfl) (fun _ _ => by kernel_rfl) (fun _ _ => by kernel_rfl) (fun _ _ => by kernel_rfl) (fun _ _ => by kernel_rfl) (fun _ _ => by kernel_rfl) trivial trivial ⟨?c24_2, ?c24_3, trivial⟩ ?k24
    case c24_2 =>
      refine kcast (A := ∀ (φ24 : Nat → Nat) (xs24 : Xs) (J2_24 : IM), I22.Le J2_24 → Fun Tryd.prog 60 #[.agg #[.bool ib5, .pointer ip5, .int .u64 ((eb5 : Nat) : Int), .pointer ep5]] J2_24 (fun v J' => ∃ x : UX, v = .agg #[.bool false, .pointer none, .int .u64 ((eb5 : Nat) : Int), .pointer ep5] ∧ (True))) (by kernel_rfl) ?_
      intro φ24 xs24 J2_24 leJ
      exact Fun.mono (peek_c) (fun v J' _ h => ⟨UX.d, h, trivial⟩)
    case c24_3 =>
      refine kcast (A := ∀ (φ24 : Nat → Nat) (xs24 : Xs) (J3_24 : IM), I22.Le J3_24 → (True) → Fun Tryd.prog 59 #[.agg #[.bool b19, .pointer p19, .int .u64 ((b2_19 : Nat) : Int), .pointer p2_19], .agg #[.bool false, .pointer none, .int .u64 ((eb5 : Nat) : Int), .pointer ep5]] J3_24 (fun v J' => ∃ x : UX, v = .tuple #[.agg #[.bool (x.b 0), .pointer (x.p 0), .int .u64 ((x.n 0 : Nat) : Int), .pointer (x.p 1)], .int .i64 0] ∧ (TRep J' i5 (x.b 0) (x.p 0) ∧ ERep J' (joinF 64 (joinF 64 e8 e11) e5) (x.n 0) (x.p 1)))) (by kernel_rfl) ?_
      intro φ24 xs24 J3_24 leJ
      rintro _
      have h5_3 := ERep.mono leJ h5_3
      have h19_0 := TRep.mono leJ h19_0
      have h19_1 := ERep.mono leJ h19_1
      exact Fun.mono (joinOK_c (S := i5) h19_0 (TRep.z _) h19_1 h5_3 (sum_zero i5) (by have q1 := h5_0.2; have q2 := cut_depth i5; first | omega | exact Nat.zero_le _) (by have q1 := h5_0.2; have q2 := cut_depth i5; first | omega | exact Nat.zero_le _) (ok_join (ok_of h8_1) (ok_of h11_1)).1 (ok_of h5_1)) (fun v J' _ ⟨y0, y1, y2, y3, hv, g0, g1⟩ => ⟨{ UX.d with b := fun j => y0, p := fun j => cond (Nat.beq j 0) y1 (y3), n := fun j => y2 }, hv, ⟨g0, g1⟩⟩)
    case k24 =>
      rintro φ24 xs24 I24 w24 le24 s _ ⟨h24_3_0, h24_3_1⟩
      replace hT := Tab.mono le24 hT
      replace hla := BSl.mono le24 hla
      replace hlb := BSl.mono le24 hlb
      replace hlc := BSl.mono le24 hlc
      replace hld := BSl.mono le24 hld
      replace h5_2 := TRep.mono le24 h5_2
      replace h5_3 := ERep.mono le24 h5_3
      replace h5_4 := RT.mono le24 h5_4
      replace h5_5 := RE.mono le24 h5_5
      replace h8_2 := TRep.mono le24 h8_2
      replace h8_3 := ERep.mono le24 h8_3
      replace h8_4 := RT.mono le24 h8_4
      replace h8_5 := RE.mono le24 h8_5
      replace h11_2 := TRep.mono le24 h11_2
      replace h11_3 := ERep.mono le24 h11_3
      replace h11_4 := RT.mono le24 h11_4
      replace h11_5 := RE.mono le24 h11_5
      replace h14_0 := TRep.mono le24 h14_0
      replace h14_1 := TRep.mono le24 h14_1
      replace h14_2 := ERep.mono le24 h14_2
      replace h19_0 := TRep.mono le24 h19_0
      replace h19_1 := ERep.mono le24 h19_1
      replace h22_0 := TRep.mono le24 h22_0
      replace h22_1 := ERep.mono le24 h22_1
      refine wp_seq ?_
      refine draw_rule (C := []) ⟨(fun φ25 xs25 => [.look 0 [.o 2, .o 2, .o 2, .o 2] [(φ9 0), (φ9 0), (φ9 0), (φ9 0)], .look 0 [.o 0, .o 0, .o 0, .o 0] [(φ6 0), (φ6 0), (φ6 0), (φ6 0)], .call 60 #[.agg #[.bool ib5, .pointer ip5, .int .u64 ((eb5 : Nat) : Int), .pointer ep5]], .call 59 #[.agg #[.bool b14, .pointer p14, .int .u64 ((eb8 : Nat) : Int), .pointer ep8], .agg #[.bool false, .pointer none, .int .u64 ((eb5 : Nat) : Int), .pointer ep5]], .look 0 [] [], .look 0 [] [], .look 0 [] [], .new, .store 0 [.o 11, .o 11, .o 11, .o 11] [(φ25 7), (φ25 7), (φ25 7), (φ25 7)], .look 1 [] []]), (fun φ25 xs25 => [.agg #[.bool b14, .pointer p14, .int .u64 ((eb8 : Nat) : Int), .pointer ep8], .agg #[.bool ib5, .pointer ip5, .int .u64 ((eb5 : Nat) : Int), .pointer ep5], .agg #[.bool false, .pointer none, .int .u64 ((eb5 : Nat) : Int), .pointer ep5], .tuple #[.agg #[.bool ((xs25 3).b 0), .pointer ((xs25 3).p 0), .int .u64 (((xs25 3).n 0 : Nat) : Int), .pointer ((xs25 3).p 1)], .int .i64 0], .tuple #[.agg #[.bool ((xs25 3).b 0), .pointer ((xs25 3).p 0), .int .u64 (((xs25 3).n 0 : Nat) : Int), .pointer ((xs25 3).p 1)], .int .i64 0], .agg #[.bool ((xs25 3).b 0), .pointer ((xs25 3).p 0), .int .u64 (((xs25 3).n 0 : Nat) : Int), .pointer ((xs25 3).p 1)], .int .i64 0, .pointer (some ⟨(φ25 7), 0, none⟩), undef, .int .i64 0]), (fun φ25 xs25 => [[((φ6 0), .cells #[.bool ib5, .pointer ip5, .int .u64 ((eb5 : Nat) : Int), .pointer ep5] 64), ((φ6 1), .cells #[.pointer (some ⟨ki5, 0, none⟩), .pointer (some ⟨ke5, 0, none⟩)] 67), ((φ9 0), .cells #[.bool b14, .pointer p14, .int .u64 ((eb8 : Nat) : Int), .pointer ep8] 64), ((φ9 1), .cells #[.pointer (some ⟨ki8, 0, none⟩), .pointer (some ⟨ke8, 0, none⟩)] 67), ((φ12 0), .cells #[.bool b2_14, .pointer p2_14, .int .u64 ((eb11 : Nat) : Int), .pointer ep11] 64), ((φ12 1), .cells #[.pointer (some ⟨ki11, 0, none⟩), .pointer (some ⟨ke11, 0, none⟩)] 67), ((φ15 0), .cells #[.bool b14, .pointer p14, .int .u64 ((b3_14 : Nat) : Int), .pointer p3_14] 64), ((φ15 1), .cells #[.bool b2_14, .pointer p2_14, .int .u64 ((b3_14 : Nat) : Int), .pointer p3_14] 64), ((φ20 0), .cells #[.bool b19, .pointer p19, .int .u64 ((b2_19 : Nat) : Int), .pointer p2_19] 64), ((φ23 0), .cells #[.bool b22, .pointer p22, .int .u64 ((b2_22 : Nat) : Int), .pointer p2_22] 64), ((φ24 7), .cells #[.bool ((xs24 3).b 0), .pointer ((xs24 3).p 0), .int .u64 (((xs24 3).n 0 : Nat) : Int), .pointer ((xs24 3).p 1)] 64)], [((φ6 0), .cells #[.bool ib5, .pointer ip5, .int .u64 ((eb5 : Nat) : Int), .pointer ep5] 64), ((φ6 1), .cells #[.pointer (some ⟨ki5, 0, none⟩), .pointer (some ⟨ke5, 0, none⟩)] 67), ((φ9 0), .cells #[.bool b14, .pointer p14, .int .u64 ((eb8 : Nat) : Int), .pointer ep8] 64), ((φ9 1), .cells #[.pointer (some ⟨ki8, 0, none⟩), .pointer (some ⟨ke8, 0, none⟩)] 67), ((φ12 0), .cells #[.bool b2_14, .pointer p2_14, .int .u64 ((eb11 : Nat) : Int), .pointer ep11] 64), ((φ12 1), .cells #[.pointer (some ⟨ki11, 0, none⟩), .pointer (some ⟨ke11, 0, none⟩)] 67), ((φ15 0), .cells #[.bool b14, .pointer p14, .int .u64 ((b3_14 : Nat) : Int), .pointer p3_14] 64), ((φ15 1), .cells #[.bool b2_14, .pointer p2_14, .int .u64 ((b3_14 : Nat) : Int), .pointer p3_14] 64), ((φ20 0), .cells #[.bool b19, .pointer p19, .int .u64 ((b2_19 : Nat) : Int), .pointer p2_19] 64), ((φ23 0), .cells #[.bool b22, .pointer p22, .int .u64 ((b2_22 : Nat) : Int), .pointer p2_22] 64), ((φ24 7), .cells #[.bool ((xs24 3).b 0), .pointer ((xs24 3).p 0), .int .u64 (((xs24 3).n 0 : Nat) : Int), .pointer ((xs24 3).p 1)] 64)]]), (fun φ25 xs25 => [[default, default, default, default, default, default, default, .cells #[.bool false, .pointer none, .int .u64 0, .pointer none] 64, default, default], [default, default, default, default, default, default, default, .cells #[.bool ((xs25 3).b 0), .pointer ((xs25 3).p 0), .int .u64 (((xs25 3).n 0 : Nat) : Int), .pointer ((xs25 3).p 1)] 64, default, default]]), [8], [1, 1, 3, 3, 1, 1, 1, 2, 4, 1]⟩ (fun j => ([MP.any, MP.any, MP.any, ⟨fun x J => TRep J ((cutT i5).1) (x.b 0) (x.p 0) ∧ ERep J (joinF 64 e8 e5) (x.n 0) (x.p 1), fun le h => ⟨TRep.mono le (h.1), ERep.mono le (h.2)⟩⟩, MP.any, MP.any, MP.any, MP.any, MP.any, MP.any] : List MP).getD j MP.any) [2, 3] [] [] (fun φ25 xs25 => [[none, none, none, none, none, none, none, none, none, none]]) (fun φ25 xs25 => [(81, .agg #[.bool b14, .pointer p14, .int .u64 ((eb8 : Nat) : Int), .pointer ep8]), (82, .agg #[.bool ib5, .pointer ip5, .int .u64 ((eb5 : Nat) : Int), .pointer ep5]), (83, .agg #[.bool false, .pointer none, .int .u64 ((eb5 : Nat) : Int), .pointer ep5]), (84, .tuple #[.agg #[.bool ((xs25 3).b 0), .pointer ((xs25 3).p 0), .int .u64 (((xs25 3).n 0 : Nat) : Int), .pointer ((xs25 3).p 1)], .int .i64 0]), (80, .tuple #[.agg #[.bool ((xs25 3).b 0), .pointer ((xs25 3).p 0), .int .u64 (((xs25 3).n 0 : Nat) : Int), .pointer ((xs25 3).p 1)], .int .i64 0]), (85, .agg #[.bool ((xs25 3).b 0), .pointer ((xs25 3).p 0), .int .u64 (((xs25 3).n 0 : Nat) : Int), .pointer ((xs25 3).p 1)]), (86, .int .i64 0), (23, .pointer (some ⟨(φ25 7), 0, none⟩)), (24, .int .i64 0)]) (fun φ25 xs25 => [((φ6 0), .cells #[.bool ib5, .pointer ip5, .int .u64 ((eb5 : Nat) : Int), .pointer ep5] 64), ((φ6 1), .cells #[.pointer (some ⟨ki5, 0, none⟩), .pointer (some ⟨ke5, 0, none⟩)] 67), ((φ9 0), .cells #[.bool b14, .pointer p14, .int .u64 ((eb8 : Nat) : Int), .pointer ep8] 64), ((φ9 1), .cells #[.pointer (some ⟨ki8, 0, none⟩), .pointer (some ⟨ke8, 0, none⟩)] 67), ((φ12 0), .cells #[.bool b2_14, .pointer p2_14, .int .u64 ((eb11 : Nat) : Int), .pointer ep11] 64), ((φ12 1), .cells #[.pointer (some ⟨ki11, 0, none⟩), .pointer (some ⟨ke11, 0, none⟩)] 67), ((φ15 0), .cells #[.bool b14, .pointer p14, .int .u64 ((b3_14 : Nat) : Int), .pointer p3_14] 64), ((φ15 1), .cells #[.bool b2_14, .pointer p2_14, .int .u64 ((b3_14 : Nat) : Int), .pointer p3_14] 64), ((φ20 0), .cells #[.bool b19, .pointer p19, .int .u64 ((b2_19 : Nat) : Int), .pointer p2_19] 64), ((φ23 0), .cells #[.bool b22, .pointer p22, .int .u64 ((b2_22 : Nat) : Int), .pointer p2_22] 64), ((φ24 7), .cells #[.bool ((xs24 3).b 0), .pointer ((xs24 3).p 0), .int .u64 (((xs24 3).n 0 : Nat) : Int), .pointer ((xs24 3).p 1)] 64), ((φ25 7), .cells #[.bool ((xs25 3).b 0), .pointer ((xs25 3).p 0), .int .u64 (((xs25 3).n 0 : Nat) : Int), .pointer ((xs25 3).p 1)] 64)]) s trivial (by kernel_rfl) (by kernel_rfl) (fun _ _ => by kernel_rfl) (fun _ _ => by kernel_rfl) ⟨fun _ _ => by kernel_rfl, fun _ _ => by kernel_rfl, fun _ _ => by kernel_rfl, fun _ _ => by kernel_rfl⟩ (fun _ _ _ => by kernel_rfl) (fun _ _ => by kernel_rfl) (fun _ _ => by kernel_rfl) (fun _ _ => by kernel_rfl) (fun _ _ => by kernel_rfl) (fun _ _ => by kernel_rfl) trivial trivial ⟨?c25_2, ?c25_3, trivial⟩ ?k25
      case c25_2 =>
        refine kcast (A := ∀ (φ25 : Nat → Nat) (xs25 : Xs) (J2_25 : IM), I24.Le J2_25 → Fun Tryd.prog 60 #[.agg #[.bool ib5, .pointer ip5, .int .u64 ((eb5 : Nat) : Int), .pointer ep5]] J2_25 (fun v J' => ∃ x : UX, v = .agg #[.bool false, .pointer none, .int .u64 ((eb5 : Nat) : Int), .pointer ep5] ∧ (True))) (by kernel_rfl) ?_
        intro φ25 xs25 J2_25 leJ
        exact Fun.mono (peek_c) (fun v J' _ h => ⟨UX.d, h, trivial⟩)
      case c25_3 =>
        refine kcast (A := ∀ (φ25 : Nat → Nat) (xs25 : Xs) (J3_25 : IM), I24.Le J3_25 → (True) → Fun Tryd.prog 59 #[.agg #[.bool b14, .pointer p14, .int .u64 ((eb8 : Nat) : Int), .pointer ep8], .agg #[.bool false, .pointer none, .int .u64 ((eb5 : Nat) : Int), .pointer ep5]] J3_25 (fun v J' => ∃ x : UX, v = .tuple #[.agg #[.bool (x.b 0), .pointer (x.p 0), .int .u64 ((x.n 0 : Nat) : Int), .pointer (x.p 1)], .int .i64 0] ∧ (TRep J' ((cutT i5).1) (x.b 0) (x.p 0) ∧ ERep J' (joinF 64 e8 e5) (x.n 0) (x.p 1)))) (by kernel_rfl) ?_
        intro φ25 xs25 J3_25 leJ
        rintro _
        have h5_3 := ERep.mono leJ h5_3
        have h8_3 := ERep.mono leJ h8_3
        have h14_0 := TRep.mono leJ h14_0
        exact Fun.mono (joinOK_c (S := (cutT i5).1) h14_0 (TRep.z _) h8_3 h5_3 (sum_zero (cutT i5).1) (by have q1 := h5_0.2; have q2 := cut_depth i5; first | omega | exact Nat.zero_le _) (by have q1 := h5_0.2; have q2 := cut_depth i5; first | omega | exact Nat.zero_le _) (ok_of h8_1) (ok_of h5_1)) (fun v J' _ ⟨y0, y1, y2, y3, hv, g0, g1⟩ => ⟨{ UX.d with b := fun j => y0, p := fun j => cond (Nat.beq j 0) y1 (y3), n := fun j => y2 }, hv, ⟨g0, g1⟩⟩)
      case k25 =>
        rintro φ25 xs25 I25 w25 le25 s _ ⟨h25_3_0, h25_3_1⟩
        replace hT := Tab.mono le25 hT
        replace hla := BSl.mono le25 hla
        replace hlb := BSl.mono le25 hlb
        replace hlc := BSl.mono le25 hlc
        replace hld := BSl.mono le25 hld
        replace h5_2 := TRep.mono le25 h5_2
        replace h5_3 := ERep.mono le25 h5_3
        replace h5_4 := RT.mono le25 h5_4
        replace h5_5 := RE.mono le25 h5_5
        replace h8_2 := TRep.mono le25 h8_2
        replace h8_3 := ERep.mono le25 h8_3
        replace h8_4 := RT.mono le25 h8_4
        replace h8_5 := RE.mono le25 h8_5
        replace h11_2 := TRep.mono le25 h11_2
        replace h11_3 := ERep.mono le25 h11_3
        replace h11_4 := RT.mono le25 h11_4
        replace h11_5 := RE.mono le25 h11_5
        replace h14_0 := TRep.mono le25 h14_0
        replace h14_1 := TRep.mono le25 h14_1
        replace h14_2 := ERep.mono le25 h14_2
        replace h19_0 := TRep.mono le25 h19_0
        replace h19_1 := ERep.mono le25 h19_1
        replace h22_0 := TRep.mono le25 h22_0
        replace h22_1 := ERep.mono le25 h22_1
        replace h24_3_0 := TRep.mono le25 h24_3_0
        replace h24_3_1 := ERep.mono le25 h24_3_1
        refine wp_seq ?_
        refine region_rule ?_
        refine ops_rule (C := []) [((φ6 0), .cells #[.bool ib5, .pointer ip5, .int .u64 ((eb5 : Nat) : Int), .pointer ep5] 64), ((φ6 1), .cells #[.pointer (some ⟨ki5, 0, none⟩), .pointer (some ⟨ke5, 0, none⟩)] 67), ((φ9 0), .cells #[.bool b14, .pointer p14, .int .u64 ((eb8 : Nat) : Int), .pointer ep8] 64), ((φ9 1), .cells #[.pointer (some ⟨ki8, 0, none⟩), .pointer (some ⟨ke8, 0, none⟩)] 67), ((φ12 0), .cells #[.bool b2_14, .pointer p2_14, .int .u64 ((eb11 : Nat) : Int), .pointer ep11] 64), ((φ12 1), .cells #[.pointer (some ⟨ki11, 0, none⟩), .pointer (some ⟨ke11, 0, none⟩)] 67), ((φ15 0), .cells #[.bool b14, .pointer p14, .int .u64 ((b3_14 : Nat) : Int), .pointer p3_14] 64), ((φ15 1), .cells #[.bool b2_14, .pointer p2_14, .int .u64 ((b3_14 : Nat) : Int), .pointer p3_14] 64), ((φ20 0), .cells #[.bool b19, .pointer p19, .int .u64 ((b2_19 : Nat) : Int), .pointer p2_19] 64), ((φ23 0), .cells #[.bool b22, .pointer p22, .int .u64 ((b2_22 : Nat) : Int), .pointer p2_22] 64), ((φ24 7), .cells #[.bool ((xs24 3).b 0), .pointer ((xs24 3).p 0), .int .u64 (((xs24 3).n 0 : Nat) : Int), .pointer ((xs24 3).p 1)] 64), ((φ25 7), .cells #[.bool ((xs25 3).b 0), .pointer ((xs25 3).p 0), .int .u64 (((xs25 3).n 0 : Nat) : Int), .pointer ((xs25 3).p 1)] 64)] [] 2 [.o 11, .o 11, .o 11, .o 11, .o 4, .o 4, .o 4, .o 4] 0 (fun φ26 => [(89, .agg #[.bool b2_14, .pointer p2_14, .int .u64 ((eb11 : Nat) : Int), .pointer ep11]), (88, .agg #[.bool ((xs25 3).b 0), .pointer ((xs25 3).p 0), .int .u64 (((xs25 3).n 0 : Nat) : Int), .pointer ((xs25 3).p 1)])]) (fun φ26 => [((φ6 0), .cells #[.bool ib5, .pointer ip5, .int .u64 ((eb5 : Nat) : Int), .pointer ep5] 64), ((φ6 1), .cells #[.pointer (some ⟨ki5, 0, none⟩), .pointer (some ⟨ke5, 0, none⟩)] 67), ((φ9 0), .cells #[.bool b14, .pointer p14, .int .u64 ((eb8 : Nat) : Int), .pointer ep8] 64), ((φ9 1), .cells #[.pointer (some ⟨ki8, 0, none⟩), .pointer (some ⟨ke8, 0, none⟩)] 67), ((φ12 0), .cells #[.bool b2_14, .pointer p2_14, .int .u64 ((eb11 : Nat) : Int), .pointer ep11] 64), ((φ12 1), .cells #[.pointer (some ⟨ki11, 0, none⟩), .pointer (some ⟨ke11, 0, none⟩)] 67), ((φ15 0), .cells #[.bool b14, .pointer p14, .int .u64 ((b3_14 : Nat) : Int), .pointer p3_14] 64), ((φ15 1), .cells #[.bool b2_14, .pointer p2_14, .int .u64 ((b3_14 : Nat) : Int), .pointer p3_14] 64), ((φ20 0), .cells #[.bool b19, .pointer p19, .int .u64 ((b2_19 : Nat) : Int), .pointer p2_19] 64), ((φ23 0), .cells #[.bool b22, .pointer p22, .int .u64 ((b2_22 : Nat) : Int), .pointer p2_22] 64), ((φ24 7), .cells #[.bool ((xs24 3).b 0), .pointer ((xs24 3).p 0), .int .u64 (((xs24 3).n 0 : Nat) : Int), .pointer ((xs24 3).p 1)] 64), ((φ25 7), .cells #[.bool ((xs25 3).b 0), .pointer ((xs25 3).p 0), .int .u64 (((xs25 3).n 0 : Nat) : Int), .pointer ((xs25 3).p 1)] 64)]) (fun φ26 => [(φ25 7), (φ25 7), (φ25 7), (φ25 7), (φ12 0), (φ12 0), (φ12 0), (φ12 0)]) s trivial (fun φ26 => by kernel_rfl) ?_
        intro φ26 w26 s
        refine call_rule (some 90) s (joinOK_c (S := i5) h25_3_0 h14_1 h25_3_1 h11_3 (sum_cut h5_0.1) (by have q1 := h5_0.2; have q2 := cut_depth i5; first | omega | exact Nat.zero_le _) (by have q1 := h5_0.2; have q2 := cut_depth i5; first | omega | exact Nat.zero_le _) (ok_join (ok_of h8_1) (ok_of h5_1)).1 (ok_of h11_1)) (by kernel_rfl) ?_
        intro v27 I27 w27 le27 h27 s
        replace hT := Tab.mono le27 hT
        replace hla := BSl.mono le27 hla
        replace hlb := BSl.mono le27 hlb
        replace hlc := BSl.mono le27 hlc
        replace hld := BSl.mono le27 hld
        replace h5_2 := TRep.mono le27 h5_2
        replace h5_3 := ERep.mono le27 h5_3
        replace h5_4 := RT.mono le27 h5_4
        replace h5_5 := RE.mono le27 h5_5
        replace h8_2 := TRep.mono le27 h8_2
        replace h8_3 := ERep.mono le27 h8_3
        replace h8_4 := RT.mono le27 h8_4
        replace h8_5 := RE.mono le27 h8_5
        replace h11_2 := TRep.mono le27 h11_2
        replace h11_3 := ERep.mono le27 h11_3
        replace h11_4 := RT.mono le27 h11_4
        replace h11_5 := RE.mono le27 h11_5
        replace h14_0 := TRep.mono le27 h14_0
        replace h14_1 := TRep.mono le27 h14_1
        replace h14_2 := ERep.mono le27 h14_2
        replace h19_0 := TRep.mono le27 h19_0
        replace h19_1 := ERep.mono le27 h19_1
        replace h22_0 := TRep.mono le27 h22_0
        replace h22_1 := ERep.mono le27 h22_1
        replace h24_3_0 := TRep.mono le27 h24_3_0
        replace h24_3_1 := ERep.mono le27 h24_3_1
        replace h25_3_0 := TRep.mono le27 h25_3_0
        replace h25_3_1 := ERep.mono le27 h25_3_1
        obtain ⟨b27, p27, b2_27, p2_27, rfl, h27_0, h27_1⟩ := h27
        refine ops_rule (C := []) [((φ6 0), .cells #[.bool ib5, .pointer ip5, .int .u64 ((eb5 : Nat) : Int), .pointer ep5] 64), ((φ6 1), .cells #[.pointer (some ⟨ki5, 0, none⟩), .pointer (some ⟨ke5, 0, none⟩)] 67), ((φ9 0), .cells #[.bool b14, .pointer p14, .int .u64 ((eb8 : Nat) : Int), .pointer ep8] 64), ((φ9 1), .cells #[.pointer (some ⟨ki8, 0, none⟩), .pointer (some ⟨ke8, 0, none⟩)] 67), ((φ12 0), .cells #[.bool b2_14, .pointer p2_14, .int .u64 ((eb11 : Nat) : Int), .pointer ep11] 64), ((φ12 1), .cells #[.pointer (some ⟨ki11, 0, none⟩), .pointer (some ⟨ke11, 0, none⟩)] 67), ((φ15 0), .cells #[.bool b14, .pointer p14, .int .u64 ((b3_14 : Nat) : Int), .pointer p3_14] 64), ((φ15 1), .cells #[.bool b2_14, .pointer p2_14, .int .u64 ((b3_14 : Nat) : Int), .pointer p3_14] 64), ((φ20 0), .cells #[.bool b19, .pointer p19, .int .u64 ((b2_19 : Nat) : Int), .pointer p2_19] 64), ((φ23 0), .cells #[.bool b22, .pointer p22, .int .u64 ((b2_22 : Nat) : Int), .pointer p2_22] 64), ((φ24 7), .cells #[.bool ((xs24 3).b 0), .pointer ((xs24 3).p 0), .int .u64 (((xs24 3).n 0 : Nat) : Int), .pointer ((xs24 3).p 1)] 64), ((φ25 7), .cells #[.bool ((xs25 3).b 0), .pointer ((xs25 3).p 0), .int .u64 (((xs25 3).n 0 : Nat) : Int), .pointer ((xs25 3).p 1)] 64)] [] 6 [.o 12, .o 12, .o 12, .o 12] 1 (fun φ28 => [(26, .int .i64 0), (25, .pointer (some ⟨(φ28 0), 0, none⟩)), (92, .int .i64 0), (91, .agg #[.bool b27, .pointer p27, .int .u64 ((b2_27 : Nat) : Int), .pointer p2_27]), (87, .tuple #[.agg #[.bool b27, .pointer p27, .int .u64 ((b2_27 : Nat) : Int), .pointer p2_27], .int .i64 0])]) (fun φ28 => [((φ6 0), .cells #[.bool ib5, .pointer ip5, .int .u64 ((eb5 : Nat) : Int), .pointer ep5] 64), ((φ6 1), .cells #[.pointer (some ⟨ki5, 0, none⟩), .pointer (some ⟨ke5, 0, none⟩)] 67), ((φ9 0), .cells #[.bool b14, .pointer p14, .int .u64 ((eb8 : Nat) : Int), .pointer ep8] 64), ((φ9 1), .cells #[.pointer (some ⟨ki8, 0, none⟩), .pointer (some ⟨ke8, 0, none⟩)] 67), ((φ12 0), .cells #[.bool b2_14, .pointer p2_14, .int .u64 ((eb11 : Nat) : Int), .pointer ep11] 64), ((φ12 1), .cells #[.pointer (some ⟨ki11, 0, none⟩), .pointer (some ⟨ke11, 0, none⟩)] 67), ((φ15 0), .cells #[.bool b14, .pointer p14, .int .u64 ((b3_14 : Nat) : Int), .pointer p3_14] 64), ((φ15 1), .cells #[.bool b2_14, .pointer p2_14, .int .u64 ((b3_14 : Nat) : Int), .pointer p3_14] 64), ((φ20 0), .cells #[.bool b19, .pointer p19, .int .u64 ((b2_19 : Nat) : Int), .pointer p2_19] 64), ((φ23 0), .cells #[.bool b22, .pointer p22, .int .u64 ((b2_22 : Nat) : Int), .pointer p2_22] 64), ((φ24 7), .cells #[.bool ((xs24 3).b 0), .pointer ((xs24 3).p 0), .int .u64 (((xs24 3).n 0 : Nat) : Int), .pointer ((xs24 3).p 1)] 64), ((φ25 7), .cells #[.bool ((xs25 3).b 0), .pointer ((xs25 3).p 0), .int .u64 (((xs25 3).n 0 : Nat) : Int), .pointer ((xs25 3).p 1)] 64), ((φ28 0), .cells #[.bool b27, .pointer p27, .int .u64 ((b2_27 : Nat) : Int), .pointer p2_27] 64)]) (fun φ28 => [(φ28 0), (φ28 0), (φ28 0), (φ28 0)]) s trivial (fun φ28 => by kernel_rfl) ?_
        intro φ28 w28 s
        refine ops_done (by kernel_rfl) ?_
        refine wp_seq ?_
        refine draw_rule (C := []) ⟨(fun φ29 xs29 => [.look 0 [.o 10, .o 10, .o 10, .o 10] [(φ24 7), (φ24 7), (φ24 7), (φ24 7)], .look 0 [.o 2, .o 2, .o 2, .o 2] [(φ9 0), (φ9 0), (φ9 0), (φ9 0)], .call 60 #[.agg #[.bool b14, .pointer p14, .int .u64 ((eb8 : Nat) : Int), .pointer ep8]], .call 59 #[.agg #[.bool ((xs24 3).b 0), .pointer ((xs24 3).p 0), .int .u64 (((xs24 3).n 0 : Nat) : Int), .pointer ((xs24 3).p 1)], .agg #[.bool false, .pointer none, .int .u64 ((eb8 : Nat) : Int), .pointer ep8]], .look 0 [] [], .look 0 [] [], .look 0 [] [], .new, .store 0 [.o 13, .o 13, .o 13, .o 13] [(φ29 7), (φ29 7), (φ29 7), (φ29 7)], .look 1 [] []]), (fun φ29 xs29 => [.agg #[.bool ((xs24 3).b 0), .pointer ((xs24 3).p 0), .int .u64 (((xs24 3).n 0 : Nat) : Int), .pointer ((xs24 3).p 1)], .agg #[.bool b14, .pointer p14, .int .u64 ((eb8 : Nat) : Int), .pointer ep8], .agg #[.bool false, .pointer none, .int .u64 ((eb8 : Nat) : Int), .pointer ep8], .tuple #[.agg #[.bool ((xs29 3).b 0), .pointer ((xs29 3).p 0), .int .u64 (((xs29 3).n 0 : Nat) : Int), .pointer ((xs29 3).p 1)], .int .i64 0], .tuple #[.agg #[.bool ((xs29 3).b 0), .pointer ((xs29 3).p 0), .int .u64 (((xs29 3).n 0 : Nat) : Int), .pointer ((xs29 3).p 1)], .int .i64 0], .agg #[.bool ((xs29 3).b 0), .pointer ((xs29 3).p 0), .int .u64 (((xs29 3).n 0 : Nat) : Int), .pointer ((xs29 3).p 1)], .int .i64 0, .pointer (some ⟨(φ29 7), 0, none⟩), undef, .int .i64 0]), (fun φ29 xs29 => [[((φ6 0), .cells #[.bool ib5, .pointer ip5, .int .u64 ((eb5 : Nat) : Int), .pointer ep5] 64), ((φ6 1), .cells #[.pointer (some ⟨ki5, 0, none⟩), .pointer (some ⟨ke5, 0, none⟩)] 67), ((φ9 0), .cells #[.bool b14, .pointer p14, .int .u64 ((eb8 : Nat) : Int), .pointer ep8] 64), ((φ9 1), .cells #[.pointer (some ⟨ki8, 0, none⟩), .pointer (some ⟨ke8, 0, none⟩)] 67), ((φ12 0), .cells #[.bool b2_14, .pointer p2_14, .int .u64 ((eb11 : Nat) : Int), .pointer ep11] 64), ((φ12 1), .cells #[.pointer (some ⟨ki11, 0, none⟩), .pointer (some ⟨ke11, 0, none⟩)] 67), ((φ15 0), .cells #[.bool b14, .pointer p14, .int .u64 ((b3_14 : Nat) : Int), .pointer p3_14] 64), ((φ15 1), .cells #[.bool b2_14, .pointer p2_14, .int .u64 ((b3_14 : Nat) : Int), .pointer p3_14] 64), ((φ20 0), .cells #[.bool b19, .pointer p19, .int .u64 ((b2_19 : Nat) : Int), .pointer p2_19] 64), ((φ23 0), .cells #[.bool b22, .pointer p22, .int .u64 ((b2_22 : Nat) : Int), .pointer p2_22] 64), ((φ24 7), .cells #[.bool ((xs24 3).b 0), .pointer ((xs24 3).p 0), .int .u64 (((xs24 3).n 0 : Nat) : Int), .pointer ((xs24 3).p 1)] 64), ((φ25 7), .cells #[.bool ((xs25 3).b 0), .pointer ((xs25 3).p 0), .int .u64 (((xs25 3).n 0 : Nat) : Int), .pointer ((xs25 3).p 1)] 64), ((φ28 0), .cells #[.bool b27, .pointer p27, .int .u64 ((b2_27 : Nat) : Int), .pointer p2_27] 64)], [((φ6 0), .cells #[.bool ib5, .pointer ip5, .int .u64 ((eb5 : Nat) : Int), .pointer ep5] 64), ((φ6 1), .cells #[.pointer (some ⟨ki5, 0, none⟩), .pointer (some ⟨ke5, 0, none⟩)] 67), ((φ9 0), .cells #[.bool b14, .pointer p14, .int .u64 ((eb8 : Nat) : Int), .pointer ep8] 64), ((φ9 1), .cells #[.pointer (some ⟨ki8, 0, none⟩), .pointer (some ⟨ke8, 0, none⟩)] 67), ((φ12 0), .cells #[.bool b2_14, .pointer p2_14, .int .u64 ((eb11 : Nat) : Int), .pointer ep11] 64), ((φ12 1), .cells #[.pointer (some ⟨ki11, 0, none⟩), .pointer (some ⟨ke11, 0, none⟩)] 67), ((φ15 0), .cells #[.bool b14, .pointer p14, .int .u64 ((b3_14 : Nat) : Int), .pointer p3_14] 64), ((φ15 1), .cells #[.bool b2_14, .pointer p2_14, .int .u64 ((b3_14 : Nat) : Int), .pointer p3_14] 64), ((φ20 0), .cells #[.bool b19, .pointer p19, .int .u64 ((b2_19 : Nat) : Int), .pointer p2_19] 64), ((φ23 0), .cells #[.bool b22, .pointer p22, .int .u64 ((b2_22 : Nat) : Int), .pointer p2_22] 64), ((φ24 7), .cells #[.bool ((xs24 3).b 0), .pointer ((xs24 3).p 0), .int .u64 (((xs24 3).n 0 : Nat) : Int), .pointer ((xs24 3).p 1)] 64), ((φ25 7), .cells #[.bool ((xs25 3).b 0), .pointer ((xs25 3).p 0), .int .u64 (((xs25 3).n 0 : Nat) : Int), .pointer ((xs25 3).p 1)] 64), ((φ28 0), .cells #[.bool b27, .pointer p27, .int .u64 ((b2_27 : Nat) : Int), .pointer p2_27] 64)]]), (fun φ29 xs29 => [[default, default, default, default, default, default, default, .cells #[.bool false, .pointer none, .int .u64 0, .pointer none] 64, default, default], [default, default, default, default, default, default, default, .cells #[.bool ((xs29 3).b 0), .pointer ((xs29 3).p 0), .int .u64 (((xs29 3).n 0 : Nat) : Int), .pointer ((xs29 3).p 1)] 64, default, default]]), [8], [1, 1, 3, 3, 1, 1, 1, 2, 4, 1]⟩ (fun j => ([MP.any, MP.any, MP.any, ⟨fun x J => TRep J i5 (x.b 0) (x.p 0) ∧ ERep J (joinF 64 (joinF 64 (joinF 64 e8 e11) e5) e8) (x.n 0) (x.p 1), fun le h => ⟨TRep.mono le (h.1), ERep.mono le (h.2)⟩⟩, MP.any, MP.any, MP.any, MP.any, MP.any, MP.any] : List MP).getD j MP.any) [2, 3] [] [] (fun φ29 xs29 => [[none, none, none, none, none, none, none, none, none, none]]) (fun φ29 xs29 => [(94, .agg #[.bool ((xs24 3).b 0), .pointer ((xs24 3).p 0), .int .u64 (((xs24 3).n 0 : Nat) : Int), .pointer ((xs24 3).p 1)]), (95, .agg #[.bool b14, .pointer p14, .int .u64 ((eb8 : Nat) : Int), .pointer ep8]), (96, .agg #[.bool false, .pointer none, .int .u64 ((eb8 : Nat) : Int), .pointer ep8]), (97, .tuple #[.agg #[.bool ((xs29 3).b 0), .pointer ((xs29 3).p 0), .int .u64 (((xs29 3).n 0 : Nat) : Int), .pointer ((xs29 3).p 1)], .int .i64 0]), (93, .tuple #[.agg #[.bool ((xs29 3).b 0), .pointer ((xs29 3).p 0), .int .u64 (((xs29 3).n 0 : Nat) : Int), .pointer ((xs29 3).p 1)], .int .i64 0]), (98, .agg #[.bool ((xs29 3).b 0), .pointer ((xs29 3).p 0), .int .u64 (((xs29 3).n 0 : Nat) : Int), .pointer ((xs29 3).p 1)]), (99, .int .i64 0), (27, .pointer (some ⟨(φ29 7), 0, none⟩)), (28, .int .i64 0)]) (fun φ29 xs29 => [((φ6 0), .cells #[.bool ib5, .pointer ip5, .int .u64 ((eb5 : Nat) : Int), .pointer ep5] 64), ((φ6 1), .cells #[.pointer (some ⟨ki5, 0, none⟩), .pointer (some ⟨ke5, 0, none⟩)] 67), ((φ9 0), .cells #[.bool b14, .pointer p14, .int .u64 ((eb8 : Nat) : Int), .pointer ep8] 64), ((φ9 1), .cells #[.pointer (some ⟨ki8, 0, none⟩), .pointer (some ⟨ke8, 0, none⟩)] 67), ((φ12 0), .cells #[.bool b2_14, .pointer p2_14, .int .u64 ((eb11 : Nat) : Int), .pointer ep11] 64), ((φ12 1), .cells #[.pointer (some ⟨ki11, 0, none⟩), .pointer (some ⟨ke11, 0, none⟩)] 67), ((φ15 0), .cells #[.bool b14, .pointer p14, .int .u64 ((b3_14 : Nat) : Int), .pointer p3_14] 64), ((φ15 1), .cells #[.bool b2_14, .pointer p2_14, .int .u64 ((b3_14 : Nat) : Int), .pointer p3_14] 64), ((φ20 0), .cells #[.bool b19, .pointer p19, .int .u64 ((b2_19 : Nat) : Int), .pointer p2_19] 64), ((φ23 0), .cells #[.bool b22, .pointer p22, .int .u64 ((b2_22 : Nat) : Int), .pointer p2_22] 64), ((φ24 7), .cells #[.bool ((xs24 3).b 0), .pointer ((xs24 3).p 0), .int .u64 (((xs24 3).n 0 : Nat) : Int), .pointer ((xs24 3).p 1)] 64), ((φ25 7), .cells #[.bool ((xs25 3).b 0), .pointer ((xs25 3).p 0), .int .u64 (((xs25 3).n 0 : Nat) : Int), .pointer ((xs25 3).p 1)] 64), ((φ28 0), .cells #[.bool b27, .pointer p27, .int .u64 ((b2_27 : Nat) : Int), .pointer p2_27] 64), ((φ29 7), .cells #[.bool ((xs29 3).b 0), .pointer ((xs29 3).p 0), .int .u64 (((xs29 3).n 0 : Nat) : Int), .pointer ((xs29 3).p 1)] 64)]) s trivial (by kernel_rfl) (by kernel_rfl) (fun _ _ => by kernel_rfl) (fun _ _ => by kernel_rfl) ⟨fun _ _ => by kernel_rfl, fun _ _ => by kernel_rfl, fun _ _ => by kernel_rfl, fun _ _ => by kernel_rfl⟩ (fun _ _ _ => by kernel_rfl) (fun _ _ => by kernel_rfl) (fun _ _ => by kernel_rfl) (fun _ _ => by kernel_rfl) (fun _ _ => by kernel_rfl) (fun _ _ => by kernel_rfl) trivial trivial ⟨?c29_2, ?c29_3, trivial⟩ ?k29
        case c29_2 =>
          refine kcast (A := ∀ (φ29 : Nat → Nat) (xs29 : Xs) (J2_29 : IM), I27.Le J2_29 → Fun Tryd.prog 60 #[.agg #[.bool b14, .pointer p14, .int .u64 ((eb8 : Nat) : Int), .pointer ep8]] J2_29 (fun v J' => ∃ x : UX, v = .agg #[.bool false, .pointer none, .int .u64 ((eb8 : Nat) : Int), .pointer ep8] ∧ (True))) (by kernel_rfl) ?_
          intro φ29 xs29 J2_29 leJ
          exact Fun.mono (peek_c) (fun v J' _ h => ⟨UX.d, h, trivial⟩)
        case c29_3 =>
          refine kcast (A := ∀ (φ29 : Nat → Nat) (xs29 : Xs) (J3_29 : IM), I27.Le J3_29 → (True) → Fun Tryd.prog 59 #[.agg #[.bool ((xs24 3).b 0), .pointer ((xs24 3).p 0), .int .u64 (((xs24 3).n 0 : Nat) : Int), .pointer ((xs24 3).p 1)], .agg #[.bool false, .pointer none, .int .u64 ((eb8 : Nat) : Int), .pointer ep8]] J3_29 (fun v J' => ∃ x : UX, v = .tuple #[.agg #[.bool (x.b 0), .pointer (x.p 0), .int .u64 ((x.n 0 : Nat) : Int), .pointer (x.p 1)], .int .i64 0] ∧ (TRep J' i5 (x.b 0) (x.p 0) ∧ ERep J' (joinF 64 (joinF 64 (joinF 64 e8 e11) e5) e8) (x.n 0) (x.p 1)))) (by kernel_rfl) ?_
          intro φ29 xs29 J3_29 leJ
          rintro _
          have h8_3 := ERep.mono leJ h8_3
          have h24_3_0 := TRep.mono leJ h24_3_0
          have h24_3_1 := ERep.mono leJ h24_3_1
          exact Fun.mono (joinOK_c (S := i5) h24_3_0 (TRep.z _) h24_3_1 h8_3 (sum_zero i5) (by have q1 := h5_0.2; have q2 := cut_depth i5; first | omega | exact Nat.zero_le _) (by have q1 := h5_0.2; have q2 := cut_depth i5; first | omega | exact Nat.zero_le _) (ok_join (ok_join (ok_of h8_1) (ok_of h11_1)).1 (ok_of h5_1)).1 (ok_of h8_1)) (fun v J' _ ⟨y0, y1, y2, y3, hv, g0, g1⟩ => ⟨{ UX.d with b := fun j => y0, p := fun j => cond (Nat.beq j 0) y1 (y3), n := fun j => y2 }, hv, ⟨g0, g1⟩⟩)
        case k29 =>
          rintro φ29 xs29 I29 w29 le29 s _ ⟨h29_3_0, h29_3_1⟩
          replace hT := Tab.mono le29 hT
          replace hla := BSl.mono le29 hla
          replace hlb := BSl.mono le29 hlb
          replace hlc := BSl.mono le29 hlc
          replace hld := BSl.mono le29 hld
          replace h5_2 := TRep.mono le29 h5_2
          replace h5_3 := ERep.mono le29 h5_3
          replace h5_4 := RT.mono le29 h5_4
          replace h5_5 := RE.mono le29 h5_5
          replace h8_2 := TRep.mono le29 h8_2
          replace h8_3 := ERep.mono le29 h8_3
          replace h8_4 := RT.mono le29 h8_4
          replace h8_5 := RE.mono le29 h8_5
          replace h11_2 := TRep.mono le29 h11_2
          replace h11_3 := ERep.mono le29 h11_3
          replace h11_4 := RT.mono le29 h11_4
          replace h11_5 := RE.mono le29 h11_5
          replace h14_0 := TRep.mono le29 h14_0
          replace h14_1 := TRep.mono le29 h14_1
          replace h14_2 := ERep.mono le29 h14_2
          replace h19_0 := TRep.mono le29 h19_0
          replace h19_1 := ERep.mono le29 h19_1
          replace h22_0 := TRep.mono le29 h22_0
          replace h22_1 := ERep.mono le29 h22_1
          replace h24_3_0 := TRep.mono le29 h24_3_0
          replace h24_3_1 := ERep.mono le29 h24_3_1
          replace h25_3_0 := TRep.mono le29 h25_3_0
          replace h25_3_1 := ERep.mono le29 h25_3_1
          replace h27_0 := TRep.mono le29 h27_0
          replace h27_1 := ERep.mono le29 h27_1
          refine wp_seq ?_
          refine region_rule ?_
          refine ops_rule (C := []) [((φ6 0), .cells #[.bool ib5, .pointer ip5, .int .u64 ((eb5 : Nat) : Int), .pointer ep5] 64), ((φ6 1), .cells #[.pointer (some ⟨ki5, 0, none⟩), .pointer (some ⟨ke5, 0, none⟩)] 67), ((φ9 0), .cells #[.bool b14, .pointer p14, .int .u64 ((eb8 : Nat) : Int), .pointer ep8] 64), ((φ9 1), .cells #[.pointer (some ⟨ki8, 0, none⟩), .pointer (some ⟨ke8, 0, none⟩)] 67), ((φ12 0), .cells #[.bool b2_14, .pointer p2_14, .int .u64 ((eb11 : Nat) : Int), .pointer ep11] 64), ((φ12 1), .cells #[.pointer (some ⟨ki11, 0, none⟩), .pointer (some ⟨ke11, 0, none⟩)] 67), ((φ15 0), .cells #[.bool b14, .pointer p14, .int .u64 ((b3_14 : Nat) : Int), .pointer p3_14] 64), ((φ15 1), .cells #[.bool b2_14, .pointer p2_14, .int .u64 ((b3_14 : Nat) : Int), .pointer p3_14] 64), ((φ20 0), .cells #[.bool b19, .pointer p19, .int .u64 ((b2_19 : Nat) : Int), .pointer p2_19] 64), ((φ23 0), .cells #[.bool b22, .pointer p22, .int .u64 ((b2_22 : Nat) : Int), .pointer p2_22] 64), ((φ24 7), .cells #[.bool ((xs24 3).b 0), .pointer ((xs24 3).p 0), .int .u64 (((xs24 3).n 0 : Nat) : Int), .pointer ((xs24 3).p 1)] 64), ((φ25 7), .cells #[.bool ((xs25 3).b 0), .pointer ((xs25 3).p 0), .int .u64 (((xs25 3).n 0 : Nat) : Int), .pointer ((xs25 3).p 1)] 64), ((φ28 0), .cells #[.bool b27, .pointer p27, .int .u64 ((b2_27 : Nat) : Int), .pointer p2_27] 64), ((φ29 7), .cells #[.bool ((xs29 3).b 0), .pointer ((xs29 3).p 0), .int .u64 (((xs29 3).n 0 : Nat) : Int), .pointer ((xs29 3).p 1)] 64)] [] 25 [.o 8, .o 8, .o 8, .o 8, .o 9, .o 9, .o 9, .o 9] 0 (fun φ30 => [(124, .agg #[.bool b22, .pointer p22, .int .u64 ((b2_22 : Nat) : Int), .pointer p2_22]), (123, .agg #[.bool b19, .pointer p19, .int .u64 ((b2_19 : Nat) : Int), .pointer p2_19]), (122, .bool true), (121, .bool true), (120, .bool true), (119, .int .i64 0), (118, .bool true), (117, .bool true), (116, .bool true), (115, .int .i64 0), (114, .bool true), (113, .bool true), (112, .bool true), (111, .int .i64 0), (110, .bool true), (109, .bool true), (108, .bool true), (107, .int .i64 0), (106, .bool true), (105, .bool true), (104, .bool true), (103, .int .i64 0), (102, .bool true), (101, .bool true), (100, .int .i64 0)]) (fun φ30 => [((φ6 0), .cells #[.bool ib5, .pointer ip5, .int .u64 ((eb5 : Nat) : Int), .pointer ep5] 64), ((φ6 1), .cells #[.pointer (some ⟨ki5, 0, none⟩), .pointer (some ⟨ke5, 0, none⟩)] 67), ((φ9 0), .cells #[.bool b14, .pointer p14, .int .u64 ((eb8 : Nat) : Int), .pointer ep8] 64), ((φ9 1), .cells #[.pointer (some ⟨ki8, 0, none⟩), .pointer (some ⟨ke8, 0, none⟩)] 67), ((φ12 0), .cells #[.bool b2_14, .pointer p2_14, .int .u64 ((eb11 : Nat) : Int), .pointer ep11] 64), ((φ12 1), .cells #[.pointer (some ⟨ki11, 0, none⟩), .pointer (some ⟨ke11, 0, none⟩)] 67), ((φ15 0), .cells #[.bool b14, .pointer p14, .int .u64 ((b3_14 : Nat) : Int), .pointer p3_14] 64), ((φ15 1), .cells #[.bool b2_14, .pointer p2_14, .int .u64 ((b3_14 : Nat) : Int), .pointer p3_14] 64), ((φ20 0), .cells #[.bool b19, .pointer p19, .int .u64 ((b2_19 : Nat) : Int), .pointer p2_19] 64), ((φ23 0), .cells #[.bool b22, .pointer p22, .int .u64 ((b2_22 : Nat) : Int), .pointer p2_22] 64), ((φ24 7), .cells #[.bool ((xs24 3).b 0), .pointer ((xs24 3).p 0), .int .u64 (((xs24 3).n 0 : Nat) : Int), .pointer ((xs24 3).p 1)] 64), ((φ25 7), .cells #[.bool ((xs25 3).b 0), .pointer ((xs25 3).p 0), .int .u64 (((xs25 3).n 0 : Nat) : Int), .pointer ((xs25 3).p 1)] 64), ((φ28 0), .cells #[.bool b27, .pointer p27, .int .u64 ((b2_27 : Nat) : Int), .pointer p2_27] 64), ((φ29 7), .cells #[.bool ((xs29 3).b 0), .pointer ((xs29 3).p 0), .int .u64 (((xs29 3).n 0 : Nat) : Int), .pointer ((xs29 3).p 1)] 64)]) (fun φ30 => [(φ20 0), (φ20 0), (φ20 0), (φ20 0), (φ23 0), (φ23 0), (φ23 0), (φ23 0)]) s trivial (fun φ30 => by kernel_rfl) ?_
          intro φ30 w30 s
          refine call_rule (some 125) s (ssameJ_c h19_0 h22_0 h19_1 h22_1 (ok_join (ok_of h8_1) (ok_of h11_1)).1 (ok_join (ok_of h11_1) (ok_of h8_1)).1 (fun k => by have q0 := (ok_join (ok_of h8_1) (ok_of h11_1)).2 k; have q1 := (ok_join (ok_of h11_1) (ok_of h8_1)).2 k; omega)) (by kernel_rfl) ?_
          intro v31 I31 w31 le31 h31 s
          replace hT := Tab.mono le31 hT
          replace hla := BSl.mono le31 hla
          replace hlb := BSl.mono le31 hlb
          replace hlc := BSl.mono le31 hlc
          replace hld := BSl.mono le31 hld
          replace h5_2 := TRep.mono le31 h5_2
          replace h5_3 := ERep.mono le31 h5_3
          replace h5_4 := RT.mono le31 h5_4
          replace h5_5 := RE.mono le31 h5_5
          replace h8_2 := TRep.mono le31 h8_2
          replace h8_3 := ERep.mono le31 h8_3
          replace h8_4 := RT.mono le31 h8_4
          replace h8_5 := RE.mono le31 h8_5
          replace h11_2 := TRep.mono le31 h11_2
          replace h11_3 := ERep.mono le31 h11_3
          replace h11_4 := RT.mono le31 h11_4
          replace h11_5 := RE.mono le31 h11_5
          replace h14_0 := TRep.mono le31 h14_0
          replace h14_1 := TRep.mono le31 h14_1
          replace h14_2 := ERep.mono le31 h14_2
          replace h19_0 := TRep.mono le31 h19_0
          replace h19_1 := ERep.mono le31 h19_1
          replace h22_0 := TRep.mono le31 h22_0
          replace h22_1 := ERep.mono le31 h22_1
          replace h24_3_0 := TRep.mono le31 h24_3_0
          replace h24_3_1 := ERep.mono le31 h24_3_1
          replace h25_3_0 := TRep.mono le31 h25_3_0
          replace h25_3_1 := ERep.mono le31 h25_3_1
          replace h27_0 := TRep.mono le31 h27_0
          replace h27_1 := ERep.mono le31 h27_1
          replace h29_3_0 := TRep.mono le31 h29_3_0
          replace h29_3_1 := ERep.mono le31 h29_3_1
          obtain rfl := h31
          refine ops_rule (C := []) [((φ6 0), .cells #[.bool ib5, .pointer ip5, .int .u64 ((eb5 : Nat) : Int), .pointer ep5] 64), ((φ6 1), .cells #[.pointer (some ⟨ki5, 0, none⟩), .pointer (some ⟨ke5, 0, none⟩)] 67), ((φ9 0), .cells #[.bool b14, .pointer p14, .int .u64 ((eb8 : Nat) : Int), .pointer ep8] 64), ((φ9 1), .cells #[.pointer (some ⟨ki8, 0, none⟩), .pointer (some ⟨ke8, 0, none⟩)] 67), ((φ12 0), .cells #[.bool b2_14, .pointer p2_14, .int .u64 ((eb11 : Nat) : Int), .pointer ep11] 64), ((φ12 1), .cells #[.pointer (some ⟨ki11, 0, none⟩), .pointer (some ⟨ke11, 0, none⟩)] 67), ((φ15 0), .cells #[.bool b14, .pointer p14, .int .u64 ((b3_14 : Nat) : Int), .pointer p3_14] 64), ((φ15 1), .cells #[.bool b2_14, .pointer p2_14, .int .u64 ((b3_14 : Nat) : Int), .pointer p3_14] 64), ((φ20 0), .cells #[.bool b19, .pointer p19, .int .u64 ((b2_19 : Nat) : Int), .pointer p2_19] 64), ((φ23 0), .cells #[.bool b22, .pointer p22, .int .u64 ((b2_22 : Nat) : Int), .pointer p2_22] 64), ((φ24 7), .cells #[.bool ((xs24 3).b 0), .pointer ((xs24 3).p 0), .int .u64 (((xs24 3).n 0 : Nat) : Int), .pointer ((xs24 3).p 1)] 64), ((φ25 7), .cells #[.bool ((xs25 3).b 0), .pointer ((xs25 3).p 0), .int .u64 (((xs25 3).n 0 : Nat) : Int), .pointer ((xs25 3).p 1)] 64), ((φ28 0), .cells #[.bool b27, .pointer p27, .int .u64 ((b2_27 : Nat) : Int), .pointer p2_27] 64), ((φ29 7), .cells #[.bool ((xs29 3).b 0), .pointer ((xs29 3).p 0), .int .u64 (((xs29 3).n 0 : Nat) : Int), .pointer ((xs29 3).p 1)] 64)] [] 4 [.o 10, .o 10, .o 10, .o 10, .o 12, .o 12, .o 12, .o 12] 0 (fun φ32 => [(129, .agg #[.bool b27, .pointer p27, .int .u64 ((b2_27 : Nat) : Int), .pointer p2_27]), (128, .agg #[.bool ((xs24 3).b 0), .pointer ((xs24 3).p 0), .int .u64 (((xs24 3).n 0 : Nat) : Int), .pointer ((xs24 3).p 1)]), (127, .bool true), (126, .bool true)]) (fun φ32 => [((φ6 0), .cells #[.bool ib5, .pointer ip5, .int .u64 ((eb5 : Nat) : Int), .pointer ep5] 64), ((φ6 1), .cells #[.pointer (some ⟨ki5, 0, none⟩), .pointer (some ⟨ke5, 0, none⟩)] 67), ((φ9 0), .cells #[.bool b14, .pointer p14, .int .u64 ((eb8 : Nat) : Int), .pointer ep8] 64), ((φ9 1), .cells #[.pointer (some ⟨ki8, 0, none⟩), .pointer (some ⟨ke8, 0, none⟩)] 67), ((φ12 0), .cells #[.bool b2_14, .pointer p2_14, .int .u64 ((eb11 : Nat) : Int), .pointer ep11] 64), ((φ12 1), .cells #[.pointer (some ⟨ki11, 0, none⟩), .pointer (some ⟨ke11, 0, none⟩)] 67), ((φ15 0), .cells #[.bool b14, .pointer p14, .int .u64 ((b3_14 : Nat) : Int), .pointer p3_14] 64), ((φ15 1), .cells #[.bool b2_14, .pointer p2_14, .int .u64 ((b3_14 : Nat) : Int), .pointer p3_14] 64), ((φ20 0), .cells #[.bool b19, .pointer p19, .int .u64 ((b2_19 : Nat) : Int), .pointer p2_19] 64), ((φ23 0), .cells #[.bool b22, .pointer p22, .int .u64 ((b2_22 : Nat) : Int), .pointer p2_22] 64), ((φ24 7), .cells #[.bool ((xs24 3).b 0), .pointer ((xs24 3).p 0), .int .u64 (((xs24 3).n 0 : Nat) : Int), .pointer ((xs24 3).p 1)] 64), ((φ25 7), .cells #[.bool ((xs25 3).b 0), .pointer ((xs25 3).p 0), .int .u64 (((xs25 3).n 0 : Nat) : Int), .pointer ((xs25 3).p 1)] 64), ((φ28 0), .cells #[.bool b27, .pointer p27, .int .u64 ((b2_27 : Nat) : Int), .pointer p2_27] 64), ((φ29 7), .cells #[.bool ((xs29 3).b 0), .pointer ((xs29 3).p 0), .int .u64 (((xs29 3).n 0 : Nat) : Int), .pointer ((xs29 3).p 1)] 64)]) (fun φ32 => [(φ24 7), (φ24 7), (φ24 7), (φ24 7), (φ28 0), (φ28 0), (φ28 0), (φ28 0)]) s trivial (fun φ32 => by kernel_rfl) ?_
          intro φ32 w32 s
          refine call_rule (some 130) s (ssameJ_c h24_3_0 h27_0 h24_3_1 h27_1 (ok_join (ok_join (ok_of h8_1) (ok_of h11_1)).1 (ok_of h5_1)).1 (ok_join (ok_join (ok_of h8_1) (ok_of h5_1)).1 (ok_of h11_1)).1 (fun k => by have q0 := (ok_join (ok_join (ok_of h8_1) (ok_of h11_1)).1 (ok_of h5_1)).2 k; have q1 := (ok_join (ok_of h8_1) (ok_of h11_1)).2 k; have q2 := (ok_join (ok_join (ok_of h8_1) (ok_of h5_1)).1 (ok_of h11_1)).2 k; have q3 := (ok_join (ok_of h8_1) (ok_of h5_1)).2 k; omega)) (by kernel_rfl) ?_
          intro v33 I33 w33 le33 h33 s
          replace hT := Tab.mono le33 hT
          replace hla := BSl.mono le33 hla
          replace hlb := BSl.mono le33 hlb
          replace hlc := BSl.mono le33 hlc
          replace hld := BSl.mono le33 hld
          replace h5_2 := TRep.mono le33 h5_2
          replace h5_3 := ERep.mono le33 h5_3
          replace h5_4 := RT.mono le33 h5_4
          replace h5_5 := RE.mono le33 h5_5
          replace h8_2 := TRep.mono le33 h8_2
          replace h8_3 := ERep.mono le33 h8_3
          replace h8_4 := RT.mono le33 h8_4
          replace h8_5 := RE.mono le33 h8_5
          replace h11_2 := TRep.mono le33 h11_2
          replace h11_3 := ERep.mono le33 h11_3
          replace h11_4 := RT.mono le33 h11_4
          replace h11_5 := RE.mono le33 h11_5
          replace h14_0 := TRep.mono le33 h14_0
          replace h14_1 := TRep.mono le33 h14_1
          replace h14_2 := ERep.mono le33 h14_2
          replace h19_0 := TRep.mono le33 h19_0
          replace h19_1 := ERep.mono le33 h19_1
          replace h22_0 := TRep.mono le33 h22_0
          replace h22_1 := ERep.mono le33 h22_1
          replace h24_3_0 := TRep.mono le33 h24_3_0
          replace h24_3_1 := ERep.mono le33 h24_3_1
          replace h25_3_0 := TRep.mono le33 h25_3_0
          replace h25_3_1 := ERep.mono le33 h25_3_1
          replace h27_0 := TRep.mono le33 h27_0
          replace h27_1 := ERep.mono le33 h27_1
          replace h29_3_0 := TRep.mono le33 h29_3_0
          replace h29_3_1 := ERep.mono le33 h29_3_1
          obtain rfl := h33
          refine ops_rule (C := []) [((φ6 0), .cells #[.bool ib5, .pointer ip5, .int .u64 ((eb5 : Nat) : Int), .pointer ep5] 64), ((φ6 1), .cells #[.pointer (some ⟨ki5, 0, none⟩), .pointer (some ⟨ke5, 0, none⟩)] 67), ((φ9 0), .cells #[.bool b14, .pointer p14, .int .u64 ((eb8 : Nat) : Int), .pointer ep8] 64), ((φ9 1), .cells #[.pointer (some ⟨ki8, 0, none⟩), .pointer (some ⟨ke8, 0, none⟩)] 67), ((φ12 0), .cells #[.bool b2_14, .pointer p2_14, .int .u64 ((eb11 : Nat) : Int), .pointer ep11] 64), ((φ12 1), .cells #[.pointer (some ⟨ki11, 0, none⟩), .pointer (some ⟨ke11, 0, none⟩)] 67), ((φ15 0), .cells #[.bool b14, .pointer p14, .int .u64 ((b3_14 : Nat) : Int), .pointer p3_14] 64), ((φ15 1), .cells #[.bool b2_14, .pointer p2_14, .int .u64 ((b3_14 : Nat) : Int), .pointer p3_14] 64), ((φ20 0), .cells #[.bool b19, .pointer p19, .int .u64 ((b2_19 : Nat) : Int), .pointer p2_19] 64), ((φ23 0), .cells #[.bool b22, .pointer p22, .int .u64 ((b2_22 : Nat) : Int), .pointer p2_22] 64), ((φ24 7), .cells #[.bool ((xs24 3).b 0), .pointer ((xs24 3).p 0), .int .u64 (((xs24 3).n 0 : Nat) : Int), .pointer ((xs24 3).p 1)] 64), ((φ25 7), .cells #[.bool ((xs25 3).b 0), .pointer ((xs25 3).p 0), .int .u64 (((xs25 3).n 0 : Nat) : Int), .pointer ((xs25 3).p 1)] 64), ((φ28 0), .cells #[.bool b27, .pointer p27, .int .u64 ((b2_27 : Nat) : Int), .pointer p2_27] 64), ((φ29 7), .cells #[.bool ((xs29 3).b 0), .pointer ((xs29 3).p 0), .int .u64 (((xs29 3).n 0 : Nat) : Int), .pointer ((xs29 3).p 1)] 64)] [] 4 [.o 13, .o 13, .o 13, .o 13, .o 10, .o 10, .o 10, .o 10] 0 (fun φ34 => [(134, .agg #[.bool ((xs24 3).b 0), .pointer ((xs24 3).p 0), .int .u64 (((xs24 3).n 0 : Nat) : Int), .pointer ((xs24 3).p 1)]), (133, .agg #[.bool ((xs29 3).b 0), .pointer ((xs29 3).p 0), .int .u64 (((xs29 3).n 0 : Nat) : Int), .pointer ((xs29 3).p 1)]), (132, .bool true), (131, .bool true)]) (fun φ34 => [((φ6 0), .cells #[.bool ib5, .pointer ip5, .int .u64 ((eb5 : Nat) : Int), .pointer ep5] 64), ((φ6 1), .cells #[.pointer (some ⟨ki5, 0, none⟩), .pointer (some ⟨ke5, 0, none⟩)] 67), ((φ9 0), .cells #[.bool b14, .pointer p14, .int .u64 ((eb8 : Nat) : Int), .pointer ep8] 64), ((φ9 1), .cells #[.pointer (some ⟨ki8, 0, none⟩), .pointer (some ⟨ke8, 0, none⟩)] 67), ((φ12 0), .cells #[.bool b2_14, .pointer p2_14, .int .u64 ((eb11 : Nat) : Int), .pointer ep11] 64), ((φ12 1), .cells #[.pointer (some ⟨ki11, 0, none⟩), .pointer (some ⟨ke11, 0, none⟩)] 67), ((φ15 0), .cells #[.bool b14, .pointer p14, .int .u64 ((b3_14 : Nat) : Int), .pointer p3_14] 64), ((φ15 1), .cells #[.bool b2_14, .pointer p2_14, .int .u64 ((b3_14 : Nat) : Int), .pointer p3_14] 64), ((φ20 0), .cells #[.bool b19, .pointer p19, .int .u64 ((b2_19 : Nat) : Int), .pointer p2_19] 64), ((φ23 0), .cells #[.bool b22, .pointer p22, .int .u64 ((b2_22 : Nat) : Int), .pointer p2_22] 64), ((φ24 7), .cells #[.bool ((xs24 3).b 0), .pointer ((xs24 3).p 0), .int .u64 (((xs24 3).n 0 : Nat) : Int), .pointer ((xs24 3).p 1)] 64), ((φ25 7), .cells #[.bool ((xs25 3).b 0), .pointer ((xs25 3).p 0), .int .u64 (((xs25 3).n 0 : Nat) : Int), .pointer ((xs25 3).p 1)] 64), ((φ28 0), .cells #[.bool b27, .pointer p27, .int .u64 ((b2_27 : Nat) : Int), .pointer p2_27] 64), ((φ29 7), .cells #[.bool ((xs29 3).b 0), .pointer ((xs29 3).p 0), .int .u64 (((xs29 3).n 0 : Nat) : Int), .pointer ((xs29 3).p 1)] 64)]) (fun φ34 => [(φ29 7), (φ29 7), (φ29 7), (φ29 7), (φ24 7), (φ24 7), (φ24 7), (φ24 7)]) s trivial (fun φ34 => by kernel_rfl) ?_
          intro φ34 w34 s
          refine call_rule (some 135) s (ssameJ_c h29_3_0 h24_3_0 h29_3_1 h24_3_1 (ok_join (ok_join (ok_join (ok_of h8_1) (ok_of h11_1)).1 (ok_of h5_1)).1 (ok_of h8_1)).1 (ok_join (ok_join (ok_of h8_1) (ok_of h11_1)).1 (ok_of h5_1)).1 (fun k => by have q0 := (ok_join (ok_join (ok_join (ok_of h8_1) (ok_of h11_1)).1 (ok_of h5_1)).1 (ok_of h8_1)).2 k; have q1 := (ok_join (ok_join (ok_of h8_1) (ok_of h11_1)).1 (ok_of h5_1)).2 k; have q2 := (ok_join (ok_of h8_1) (ok_of h11_1)).2 k; have q3 := (ok_join (ok_join (ok_of h8_1) (ok_of h11_1)).1 (ok_of h5_1)).2 k; have q4 := (ok_join (ok_of h8_1) (ok_of h11_1)).2 k; omega)) (by kernel_rfl) ?_
          intro v35 I35 w35 le35 h35 s
          replace hT := Tab.mono le35 hT
          replace hla := BSl.mono le35 hla
          replace hlb := BSl.mono le35 hlb
          replace hlc := BSl.mono le35 hlc
          replace hld := BSl.mono le35 hld
          replace h5_2 := TRep.mono le35 h5_2
          replace h5_3 := ERep.mono le35 h5_3
          replace h5_4 := RT.mono le35 h5_4
          replace h5_5 := RE.mono le35 h5_5
          replace h8_2 := TRep.mono le35 h8_2
          replace h8_3 := ERep.mono le35 h8_3
          replace h8_4 := RT.mono le35 h8_4
          replace h8_5 := RE.mono le35 h8_5
          replace h11_2 := TRep.mono le35 h11_2
          replace h11_3 := ERep.mono le35 h11_3
          replace h11_4 := RT.mono le35 h11_4
          replace h11_5 := RE.mono le35 h11_5
          replace h14_0 := TRep.mono le35 h14_0
          replace h14_1 := TRep.mono le35 h14_1
          replace h14_2 := ERep.mono le35 h14_2
          replace h19_0 := TRep.mono le35 h19_0
          replace h19_1 := ERep.mono le35 h19_1
          replace h22_0 := TRep.mono le35 h22_0
          replace h22_1 := ERep.mono le35 h22_1
          replace h24_3_0 := TRep.mono le35 h24_3_0
          replace h24_3_1 := ERep.mono le35 h24_3_1
          replace h25_3_0 := TRep.mono le35 h25_3_0
          replace h25_3_1 := ERep.mono le35 h25_3_1
          replace h27_0 := TRep.mono le35 h27_0
          replace h27_1 := ERep.mono le35 h27_1
          replace h29_3_0 := TRep.mono le35 h29_3_0
          replace h29_3_1 := ERep.mono le35 h29_3_1
          obtain rfl := h35
          refine ops_rule (C := []) [((φ6 0), .cells #[.bool ib5, .pointer ip5, .int .u64 ((eb5 : Nat) : Int), .pointer ep5] 64), ((φ6 1), .cells #[.pointer (some ⟨ki5, 0, none⟩), .pointer (some ⟨ke5, 0, none⟩)] 67), ((φ9 0), .cells #[.bool b14, .pointer p14, .int .u64 ((eb8 : Nat) : Int), .pointer ep8] 64), ((φ9 1), .cells #[.pointer (some ⟨ki8, 0, none⟩), .pointer (some ⟨ke8, 0, none⟩)] 67), ((φ12 0), .cells #[.bool b2_14, .pointer p2_14, .int .u64 ((eb11 : Nat) : Int), .pointer ep11] 64), ((φ12 1), .cells #[.pointer (some ⟨ki11, 0, none⟩), .pointer (some ⟨ke11, 0, none⟩)] 67), ((φ15 0), .cells #[.bool b14, .pointer p14, .int .u64 ((b3_14 : Nat) : Int), .pointer p3_14] 64), ((φ15 1), .cells #[.bool b2_14, .pointer p2_14, .int .u64 ((b3_14 : Nat) : Int), .pointer p3_14] 64), ((φ20 0), .cells #[.bool b19, .pointer p19, .int .u64 ((b2_19 : Nat) : Int), .pointer p2_19] 64), ((φ23 0), .cells #[.bool b22, .pointer p22, .int .u64 ((b2_22 : Nat) : Int), .pointer p2_22] 64), ((φ24 7), .cells #[.bool ((xs24 3).b 0), .pointer ((xs24 3).p 0), .int .u64 (((xs24 3).n 0 : Nat) : Int), .pointer ((xs24 3).p 1)] 64), ((φ25 7), .cells #[.bool ((xs25 3).b 0), .pointer ((xs25 3).p 0), .int .u64 (((xs25 3).n 0 : Nat) : Int), .pointer ((xs25 3).p 1)] 64), ((φ28 0), .cells #[.bool b27, .pointer p27, .int .u64 ((b2_27 : Nat) : Int), .pointer p2_27] 64), ((φ29 7), .cells #[.bool ((xs29 3).b 0), .pointer ((xs29 3).p 0), .int .u64 (((xs29 3).n 0 : Nat) : Int), .pointer ((xs29 3).p 1)] 64)] [] 6 [.o 10, .o 10, .o 0, .o 0] 0 (fun φ36 => [(141, .agg #[.bool ib5, .pointer ip5]), (140, .pointer (some ⟨(φ6 0), 0, none⟩)), (139, .agg #[.bool ((xs24 3).b 0), .pointer ((xs24 3).p 0)]), (138, .pointer (some ⟨(φ24 7), 0, none⟩)), (137, .bool true), (136, .bool true)]) (fun φ36 => [((φ6 0), .cells #[.bool ib5, .pointer ip5, .int .u64 ((eb5 : Nat) : Int), .pointer ep5] 64), ((φ6 1), .cells #[.pointer (some ⟨ki5, 0, none⟩), .pointer (some ⟨ke5, 0, none⟩)] 67), ((φ9 0), .cells #[.bool b14, .pointer p14, .int .u64 ((eb8 : Nat) : Int), .pointer ep8] 64), ((φ9 1), .cells #[.pointer (some ⟨ki8, 0, none⟩), .pointer (some ⟨ke8, 0, none⟩)] 67), ((φ12 0), .cells #[.bool b2_14, .pointer p2_14, .int .u64 ((eb11 : Nat) : Int), .pointer ep11] 64), ((φ12 1), .cells #[.pointer (some ⟨ki11, 0, none⟩), .pointer (some ⟨ke11, 0, none⟩)] 67), ((φ15 0), .cells #[.bool b14, .pointer p14, .int .u64 ((b3_14 : Nat) : Int), .pointer p3_14] 64), ((φ15 1), .cells #[.bool b2_14, .pointer p2_14, .int .u64 ((b3_14 : Nat) : Int), .pointer p3_14] 64), ((φ20 0), .cells #[.bool b19, .pointer p19, .int .u64 ((b2_19 : Nat) : Int), .pointer p2_19] 64), ((φ23 0), .cells #[.bool b22, .pointer p22, .int .u64 ((b2_22 : Nat) : Int), .pointer p2_22] 64), ((φ24 7), .cells #[.bool ((xs24 3).b 0), .pointer ((xs24 3).p 0), .int .u64 (((xs24 3).n 0 : Nat) : Int), .pointer ((xs24 3).p 1)] 64), ((φ25 7), .cells #[.bool ((xs25 3).b 0), .pointer ((xs25 3).p 0), .int .u64 (((xs25 3).n 0 : Nat) : Int), .pointer ((xs25 3).p 1)] 64), ((φ28 0), .cells #[.bool b27, .pointer p27, .int .u64 ((b2_27 : Nat) : Int), .pointer p2_27] 64), ((φ29 7), .cells #[.bool ((xs29 3).b 0), .pointer ((xs29 3).p 0), .int .u64 (((xs29 3).n 0 : Nat) : Int), .pointer ((xs29 3).p 1)] 64)]) (fun φ36 => [(φ24 7), (φ24 7), (φ6 0), (φ6 0)]) s trivial (fun φ36 => by kernel_rfl) ?_
          intro φ36 w36 s
          refine call_rule (some 142) s (idsameSelf_c h24_3_0 h5_2) (by kernel_rfl) ?_
          intro v37 I37 w37 le37 h37 s
          replace hT := Tab.mono le37 hT
          replace hla := BSl.mono le37 hla
          replace hlb := BSl.mono le37 hlb
          replace hlc := BSl.mono le37 hlc
          replace hld := BSl.mono le37 hld
          replace h5_2 := TRep.mono le37 h5_2
          replace h5_3 := ERep.mono le37 h5_3
          replace h5_4 := RT.mono le37 h5_4
          replace h5_5 := RE.mono le37 h5_5
          replace h8_2 := TRep.mono le37 h8_2
          replace h8_3 := ERep.mono le37 h8_3
          replace h8_4 := RT.mono le37 h8_4
          replace h8_5 := RE.mono le37 h8_5
          replace h11_2 := TRep.mono le37 h11_2
          replace h11_3 := ERep.mono le37 h11_3
          replace h11_4 := RT.mono le37 h11_4
          replace h11_5 := RE.mono le37 h11_5
          replace h14_0 := TRep.mono le37 h14_0
          replace h14_1 := TRep.mono le37 h14_1
          replace h14_2 := ERep.mono le37 h14_2
          replace h19_0 := TRep.mono le37 h19_0
          replace h19_1 := ERep.mono le37 h19_1
          replace h22_0 := TRep.mono le37 h22_0
          replace h22_1 := ERep.mono le37 h22_1
          replace h24_3_0 := TRep.mono le37 h24_3_0
          replace h24_3_1 := ERep.mono le37 h24_3_1
          replace h25_3_0 := TRep.mono le37 h25_3_0
          replace h25_3_1 := ERep.mono le37 h25_3_1
          replace h27_0 := TRep.mono le37 h27_0
          replace h27_1 := ERep.mono le37 h27_1
          replace h29_3_0 := TRep.mono le37 h29_3_0
          replace h29_3_1 := ERep.mono le37 h29_3_1
          obtain rfl := h37
          refine ops_rule (C := []) [((φ6 0), .cells #[.bool ib5, .pointer ip5, .int .u64 ((eb5 : Nat) : Int), .pointer ep5] 64), ((φ6 1), .cells #[.pointer (some ⟨ki5, 0, none⟩), .pointer (some ⟨ke5, 0, none⟩)] 67), ((φ9 0), .cells #[.bool b14, .pointer p14, .int .u64 ((eb8 : Nat) : Int), .pointer ep8] 64), ((φ9 1), .cells #[.pointer (some ⟨ki8, 0, none⟩), .pointer (some ⟨ke8, 0, none⟩)] 67), ((φ12 0), .cells #[.bool b2_14, .pointer p2_14, .int .u64 ((eb11 : Nat) : Int), .pointer ep11] 64), ((φ12 1), .cells #[.pointer (some ⟨ki11, 0, none⟩), .pointer (some ⟨ke11, 0, none⟩)] 67), ((φ15 0), .cells #[.bool b14, .pointer p14, .int .u64 ((b3_14 : Nat) : Int), .pointer p3_14] 64), ((φ15 1), .cells #[.bool b2_14, .pointer p2_14, .int .u64 ((b3_14 : Nat) : Int), .pointer p3_14] 64), ((φ20 0), .cells #[.bool b19, .pointer p19, .int .u64 ((b2_19 : Nat) : Int), .pointer p2_19] 64), ((φ23 0), .cells #[.bool b22, .pointer p22, .int .u64 ((b2_22 : Nat) : Int), .pointer p2_22] 64), ((φ24 7), .cells #[.bool ((xs24 3).b 0), .pointer ((xs24 3).p 0), .int .u64 (((xs24 3).n 0 : Nat) : Int), .pointer ((xs24 3).p 1)] 64), ((φ25 7), .cells #[.bool ((xs25 3).b 0), .pointer ((xs25 3).p 0), .int .u64 (((xs25 3).n 0 : Nat) : Int), .pointer ((xs25 3).p 1)] 64), ((φ28 0), .cells #[.bool b27, .pointer p27, .int .u64 ((b2_27 : Nat) : Int), .pointer p2_27] 64), ((φ29 7), .cells #[.bool ((xs29 3).b 0), .pointer ((xs29 3).p 0), .int .u64 (((xs29 3).n 0 : Nat) : Int), .pointer ((xs29 3).p 1)] 64)] [] 4 [.o 0, .o 0, .o 0, .o 0, .o 10, .o 10, .o 10, .o 10] 0 (fun φ38 => [(146, .agg #[.bool ((xs24 3).b 0), .pointer ((xs24 3).p 0), .int .u64 (((xs24 3).n 0 : Nat) : Int), .pointer ((xs24 3).p 1)]), (145, .agg #[.bool ib5, .pointer ip5, .int .u64 ((eb5 : Nat) : Int), .pointer ep5]), (144, .bool true), (143, .bool true)]) (fun φ38 => [((φ6 0), .cells #[.bool ib5, .pointer ip5, .int .u64 ((eb5 : Nat) : Int), .pointer ep5] 64), ((φ6 1), .cells #[.pointer (some ⟨ki5, 0, none⟩), .pointer (some ⟨ke5, 0, none⟩)] 67), ((φ9 0), .cells #[.bool b14, .pointer p14, .int .u64 ((eb8 : Nat) : Int), .pointer ep8] 64), ((φ9 1), .cells #[.pointer (some ⟨ki8, 0, none⟩), .pointer (some ⟨ke8, 0, none⟩)] 67), ((φ12 0), .cells #[.bool b2_14, .pointer p2_14, .int .u64 ((eb11 : Nat) : Int), .pointer ep11] 64), ((φ12 1), .cells #[.pointer (some ⟨ki11, 0, none⟩), .pointer (some ⟨ke11, 0, none⟩)] 67), ((φ15 0), .cells #[.bool b14, .pointer p14, .int .u64 ((b3_14 : Nat) : Int), .pointer p3_14] 64), ((φ15 1), .cells #[.bool b2_14, .pointer p2_14, .int .u64 ((b3_14 : Nat) : Int), .pointer p3_14] 64), ((φ20 0), .cells #[.bool b19, .pointer p19, .int .u64 ((b2_19 : Nat) : Int), .pointer p2_19] 64), ((φ23 0), .cells #[.bool b22, .pointer p22, .int .u64 ((b2_22 : Nat) : Int), .pointer p2_22] 64), ((φ24 7), .cells #[.bool ((xs24 3).b 0), .pointer ((xs24 3).p 0), .int .u64 (((xs24 3).n 0 : Nat) : Int), .pointer ((xs24 3).p 1)] 64), ((φ25 7), .cells #[.bool ((xs25 3).b 0), .pointer ((xs25 3).p 0), .int .u64 (((xs25 3).n 0 : Nat) : Int), .pointer ((xs25 3).p 1)] 64), ((φ28 0), .cells #[.bool b27, .pointer p27, .int .u64 ((b2_27 : Nat) : Int), .pointer p2_27] 64), ((φ29 7), .cells #[.bool ((xs29 3).b 0), .pointer ((xs29 3).p 0), .int .u64 (((xs29 3).n 0 : Nat) : Int), .pointer ((xs29 3).p 1)] 64)]) (fun φ38 => [(φ6 0), (φ6 0), (φ6 0), (φ6 0), (φ24 7), (φ24 7), (φ24 7), (φ24 7)]) s trivial (fun φ38 => by kernel_rfl) ?_
          intro φ38 w38 s
          refine call_rule (some 147) s (sleqJ_c h5_2 h24_3_0 h5_3 h24_3_1 (ok_of h5_1) (ok_join (ok_join (ok_of h8_1) (ok_of h11_1)).1 (ok_of h5_1)).1 (fun k => by have q0 := (ok_join (ok_join (ok_of h8_1) (ok_of h11_1)).1 (ok_of h5_1)).2 k; have q1 := (ok_join (ok_of h8_1) (ok_of h11_1)).2 k; omega)) (by kernel_rfl) ?_
          intro v39 I39 w39 le39 h39 s
          replace hT := Tab.mono le39 hT
          replace hla := BSl.mono le39 hla
          replace hlb := BSl.mono le39 hlb
          replace hlc := BSl.mono le39 hlc
          replace hld := BSl.mono le39 hld
          replace h5_2 := TRep.mono le39 h5_2
          replace h5_3 := ERep.mono le39 h5_3
          replace h5_4 := RT.mono le39 h5_4
          replace h5_5 := RE.mono le39 h5_5
          replace h8_2 := TRep.mono le39 h8_2
          replace h8_3 := ERep.mono le39 h8_3
          replace h8_4 := RT.mono le39 h8_4
          replace h8_5 := RE.mono le39 h8_5
          replace h11_2 := TRep.mono le39 h11_2
          replace h11_3 := ERep.mono le39 h11_3
          replace h11_4 := RT.mono le39 h11_4
          replace h11_5 := RE.mono le39 h11_5
          replace h14_0 := TRep.mono le39 h14_0
          replace h14_1 := TRep.mono le39 h14_1
          replace h14_2 := ERep.mono le39 h14_2
          replace h19_0 := TRep.mono le39 h19_0
          replace h19_1 := ERep.mono le39 h19_1
          replace h22_0 := TRep.mono le39 h22_0
          replace h22_1 := ERep.mono le39 h22_1
          replace h24_3_0 := TRep.mono le39 h24_3_0
          replace h24_3_1 := ERep.mono le39 h24_3_1
          replace h25_3_0 := TRep.mono le39 h25_3_0
          replace h25_3_1 := ERep.mono le39 h25_3_1
          replace h27_0 := TRep.mono le39 h27_0
          replace h27_1 := ERep.mono le39 h27_1
          replace h29_3_0 := TRep.mono le39 h29_3_0
          replace h29_3_1 := ERep.mono le39 h29_3_1
          obtain rfl := h39
          refine ops_rule (C := []) [((φ6 0), .cells #[.bool ib5, .pointer ip5, .int .u64 ((eb5 : Nat) : Int), .pointer ep5] 64), ((φ6 1), .cells #[.pointer (some ⟨ki5, 0, none⟩), .pointer (some ⟨ke5, 0, none⟩)] 67), ((φ9 0), .cells #[.bool b14, .pointer p14, .int .u64 ((eb8 : Nat) : Int), .pointer ep8] 64), ((φ9 1), .cells #[.pointer (some ⟨ki8, 0, none⟩), .pointer (some ⟨ke8, 0, none⟩)] 67), ((φ12 0), .cells #[.bool b2_14, .pointer p2_14, .int .u64 ((eb11 : Nat) : Int), .pointer ep11] 64), ((φ12 1), .cells #[.pointer (some ⟨ki11, 0, none⟩), .pointer (some ⟨ke11, 0, none⟩)] 67), ((φ15 0), .cells #[.bool b14, .pointer p14, .int .u64 ((b3_14 : Nat) : Int), .pointer p3_14] 64), ((φ15 1), .cells #[.bool b2_14, .pointer p2_14, .int .u64 ((b3_14 : Nat) : Int), .pointer p3_14] 64), ((φ20 0), .cells #[.bool b19, .pointer p19, .int .u64 ((b2_19 : Nat) : Int), .pointer p2_19] 64), ((φ23 0), .cells #[.bool b22, .pointer p22, .int .u64 ((b2_22 : Nat) : Int), .pointer p2_22] 64), ((φ24 7), .cells #[.bool ((xs24 3).b 0), .pointer ((xs24 3).p 0), .int .u64 (((xs24 3).n 0 : Nat) : Int), .pointer ((xs24 3).p 1)] 64), ((φ25 7), .cells #[.bool ((xs25 3).b 0), .pointer ((xs25 3).p 0), .int .u64 (((xs25 3).n 0 : Nat) : Int), .pointer ((xs25 3).p 1)] 64), ((φ28 0), .cells #[.bool b27, .pointer p27, .int .u64 ((b2_27 : Nat) : Int), .pointer p2_27] 64), ((φ29 7), .cells #[.bool ((xs29 3).b 0), .pointer ((xs29 3).p 0), .int .u64 (((xs29 3).n 0 : Nat) : Int), .pointer ((xs29 3).p 1)] 64)] [] 2 [] 0 (fun φ40 => [(8, .bool true), (148, .bool true)]) (fun φ40 => [((φ6 0), .cells #[.bool ib5, .pointer ip5, .int .u64 ((eb5 : Nat) : Int), .pointer ep5] 64), ((φ6 1), .cells #[.pointer (some ⟨ki5, 0, none⟩), .pointer (some ⟨ke5, 0, none⟩)] 67), ((φ9 0), .cells #[.bool b14, .pointer p14, .int .u64 ((eb8 : Nat) : Int), .pointer ep8] 64), ((φ9 1), .cells #[.pointer (some ⟨ki8, 0, none⟩), .pointer (some ⟨ke8, 0, none⟩)] 67), ((φ12 0), .cells #[.bool b2_14, .pointer p2_14, .int .u64 ((eb11 : Nat) : Int), .pointer ep11] 64), ((φ12 1), .cells #[.pointer (some ⟨ki11, 0, none⟩), .pointer (some ⟨ke11, 0, none⟩)] 67), ((φ15 0), .cells #[.bool b14, .pointer p14, .int .u64 ((b3_14 : Nat) : Int), .pointer p3_14] 64), ((φ15 1), .cells #[.bool b2_14, .pointer p2_14, .int .u64 ((b3_14 : Nat) : Int), .pointer p3_14] 64), ((φ20 0), .cells #[.bool b19, .pointer p19, .int .u64 ((b2_19 : Nat) : Int), .pointer p2_19] 64), ((φ23 0), .cells #[.bool b22, .pointer p22, .int .u64 ((b2_22 : Nat) : Int), .pointer p2_22] 64), ((φ24 7), .cells #[.bool ((xs24 3).b 0), .pointer ((xs24 3).p 0), .int .u64 (((xs24 3).n 0 : Nat) : Int), .pointer ((xs24 3).p 1)] 64), ((φ25 7), .cells #[.bool ((xs25 3).b 0), .pointer ((xs25 3).p 0), .int .u64 (((xs25 3).n 0 : Nat) : Int), .pointer ((xs25 3).p 1)] 64), ((φ28 0), .cells #[.bool b27, .pointer p27, .int .u64 ((b2_27 : Nat) : Int), .pointer p2_27] 64), ((φ29 7), .cells #[.bool ((xs29 3).b 0), .pointer ((xs29 3).p 0), .int .u64 (((xs29 3).n 0 : Nat) : Int), .pointer ((xs29 3).p 1)] 64)]) (fun φ40 => []) s trivial (fun φ40 => by kernel_rfl) ?_
          intro φ40 w40 s
          refine ops_done (by kernel_rfl) ?_
          refine wp_ret ?_
          refine ret_rule (C := []) [((φ6 0), .cells #[.bool ib5, .pointer ip5, .int .u64 ((eb5 : Nat) : Int), .pointer ep5] 64), ((φ6 1), .cells #[.pointer (some ⟨ki5, 0, none⟩), .pointer (some ⟨ke5, 0, none⟩)] 67), ((φ9 0), .cells #[.bool b14, .pointer p14, .int .u64 ((eb8 : Nat) : Int), .pointer ep8] 64), ((φ9 1), .cells #[.pointer (some ⟨ki8, 0, none⟩), .pointer (some ⟨ke8, 0, none⟩)] 67), ((φ12 0), .cells #[.bool b2_14, .pointer p2_14, .int .u64 ((eb11 : Nat) : Int), .pointer ep11] 64), ((φ12 1), .cells #[.pointer (some ⟨ki11, 0, none⟩), .pointer (some ⟨ke11, 0, none⟩)] 67), ((φ15 0), .cells #[.bool b14, .pointer p14, .int .u64 ((b3_14 : Nat) : Int), .pointer p3_14] 64), ((φ15 1), .cells #[.bool b2_14, .pointer p2_14, .int .u64 ((b3_14 : Nat) : Int), .pointer p3_14] 64), ((φ20 0), .cells #[.bool b19, .pointer p19, .int .u64 ((b2_19 : Nat) : Int), .pointer p2_19] 64), ((φ23 0), .cells #[.bool b22, .pointer p22, .int .u64 ((b2_22 : Nat) : Int), .pointer p2_22] 64), ((φ24 7), .cells #[.bool ((xs24 3).b 0), .pointer ((xs24 3).p 0), .int .u64 (((xs24 3).n 0 : Nat) : Int), .pointer ((xs24 3).p 1)] 64), ((φ25 7), .cells #[.bool ((xs25 3).b 0), .pointer ((xs25 3).p 0), .int .u64 (((xs25 3).n 0 : Nat) : Int), .pointer ((xs25 3).p 1)] 64), ((φ28 0), .cells #[.bool b27, .pointer p27, .int .u64 ((b2_27 : Nat) : Int), .pointer p2_27] 64), ((φ29 7), .cells #[.bool ((xs29 3).b 0), .pointer ((xs29 3).p 0), .int .u64 (((xs29 3).n 0 : Nat) : Int), .pointer ((xs29 3).p 1)] 64)] [] (.bool true) [] [] s trivial (by kernel_rfl) ?_
          exact ⟨_, _, _, rfl, s, rfl⟩

end Go.Proofs.YtgdickihjaomjaaDoor
