/- StampTicks. -/
import Derived.Test.YtgdickihjaomjaaDoorTkP24
set_option linter.all false
set_option maxRecDepth 100000
namespace Go.Proofs.YtgdickihjaomjaaDoor
open Go.RowKit Go.Sep

theorem tickS_c {I : IM} {i : T} {e : E} {ib : Bool} {ip : Option Addr} {eb : Nat} {ep : Option Addr} (hi : TRep I i ib ip) (he : ERep I e eb ep) (hl : i.nf) (h1 : i.depth ≤ 6) (h2 : e.depth ≤ 6) (h3 : e.top ≤ 1000000) : Fun Tryd.prog 45 #[stv ib ip eb ep] I (fun v J => ∃ b p, v = .tuple #[stv ib ip b p, .int .i64 (((tickD i e).2 : Nat) : Int)] ∧ ERep J (tickD i e).1 b p) := by
  have h := tick_c hi he (T.nf_live hl) (by omega) (by omega) (by omega)
  rw [tickR_D hl h1 h2 h3] at h
  exact h
theorem ssameT_c {I : IM} {i : T} {e : E} {ba bb : Bool} {pa pb : Option Addr} {bc bd : Nat} {pc pd : Option Addr} (hA : TRep I i ba pa) (hB : TRep I i bb pb) (hC : ERep I (tickD i e).1 bc pc) (hD : ERep I e bd pd) (hne : (tickD i e).2 ≠ 0) (hde : e.depth ≤ 16) (hte : e.top ≤ 1048576) : Fun Tryd.prog 49 #[stv ba pa bc pc, stv bb pb bd pd] I (fun v J => v = .bool true) := by
  have q := (tickD_no hne).2
  have q1 : (tickD i e).1 = e := by rw [q]
  rw [q1] at hC
  refine (ssame_c hA hB hC hD hde hde hte hte).mono fun v J _ h => ?_
  rw [h, same_self, sameE_self (by omega)]; rfl
theorem sleqT_c {I : IM} {i j : T} {A B : E} {r : Bool} {ba bb : Bool} {pa pb : Option Addr} {bc bd : Nat} {pc pd : Option Addr} (hA : TRep I i ba pa) (hB : TRep I j bb pb) (hC : ERep I A bc pc) (hD : ERep I B bd pd) (hr : leqF 64 A B = r) (h1 : A.depth ≤ 16) (h2 : B.depth ≤ 16) (t1 : A.top ≤ 1048576) (t2 : B.top ≤ 1048576) : Fun Tryd.prog 51 #[stv ba pa bc pc, stv bb pb bd pd] I (fun v J => v = .bool r) := by
  rw [← hr]
  exact sleq_c hA hB hC hD h1 h2 t1 t2

theorem idsameSelf_c {I : IM} {A : T} {ba bb : Bool} {pa pb : Option Addr} (hA : TRep I A ba pa) (hB : TRep I A bb pb) : Fun Tryd.prog 52 #[idv ba pa, idv bb pb] I (fun v J => v = .bool true) :=
  (idsame_c hA hB).mono fun v J _ h => by rw [h, cover_self]; rfl

set_option maxHeartbeats 4000000 in
theorem stampTicks_c {I : IM} (hT : Tab I) {p q : List UInt8} {vp vq : Value} (hp : BSl I p vp) (hq : BSl I q vq) : Fun Tryd.prog 9 #[vp, vq] I (fun v J => v = .bool true) := by
  refine enter_rule 118 [(0, vp), (1, vq)] Tryd.func9 rfl (by kernel_rfl) ?_
  intro w s
  refine wp_seq ?_
  refine region_rule ?_
  refine ops_rule (C := []) [] [] 1 [] 0 (fun φ1 => [(4, .bool false)]) (fun φ1 => []) (fun φ1 => []) s trivial (fun φ1 => by kernel_rfl) ?_
  intro φ1 w1 s
  refine ops_done (by kernel_rfl) ?_
  refine wp_seq ?_
  refine wp_seq ?_
  refine region_rule ?_
  refine call_rule (some 16) s (awakeS_c hT) (by kernel_rfl) ?_
  intro v2 I2 w2 le2 h2 s
  replace hT := Tab.mono le2 hT
  replace hp := BSl.mono le2 hp
  replace hq := BSl.mono le2 hq
  obtain rfl := h2
  refine ops_rule (C := []) [] [] 1 [] 0 (fun φ3 => [(17, .bool false)]) (fun φ3 => []) (fun φ3 => []) s trivial (fun φ3 => by kernel_rfl) ?_
  intro φ3 w3 s
  refine ops_done (by kernel_rfl) ?_
  refine cond_false_rule (b := false) (by kernel_rfl) rfl ?_
  refine wp_skip ?_
  refine wp_seq ?_
  refine region_rule ?_
  refine ops_rule (C := []) [] [] 2 [] 0 (fun φ4 => [(20, vq), (19, vp)]) (fun φ4 => []) (fun φ4 => []) s trivial (fun φ4 => by kernel_rfl) ?_
  intro φ4 w4 s
  refine call_rule (some 21) s (made_c hp hq) (by kernel_rfl) ?_
  intro v5 I5 w5 le5 h5 s
  replace hT := Tab.mono le5 hT
  replace hp := BSl.mono le5 hp
  replace hq := BSl.mono le5 hq
  obtain ⟨ib5, ip5, eb5, ep5, ki5, ke5, i5, e5, rfl, h5_0, h5_1, h5_2, h5_3, h5_4, h5_5⟩ := h5
  refine ops_rule (C := []) [] [] 7 [.o 0, .o 0, .o 0, .o 0, .o 1, .o 1] 2 (fun φ6 => [(6, .pointer (some ⟨(φ6 1), 0, none⟩)), (5, .pointer (some ⟨(φ6 0), 0, none⟩)), (23, .agg #[.pointer (some ⟨ki5, 0, none⟩), .pointer (some ⟨ke5, 0, none⟩)]), (22, .agg #[.bool ib5, .pointer ip5, .int .u64 ((eb5 : Nat) : Int), .pointer ep5]), (18, .tuple #[.agg #[.bool ib5, .pointer ip5, .int .u64 ((eb5 : Nat) : Int), .pointer ep5], .agg #[.pointer (some ⟨ki5, 0, none⟩), .pointer (some ⟨ke5, 0, none⟩)]])]) (fun φ6 => [((φ6 0), .cells #[.bool ib5, .pointer ip5, .int .u64 ((eb5 : Nat) : Int), .pointer ep5] 64), ((φ6 1), .cells #[.pointer (some ⟨ki5, 0, none⟩), .pointer (some ⟨ke5, 0, none⟩)] 67)]) (fun φ6 => [(φ6 0), (φ6 0), (φ6 0), (φ6 0), (φ6 1), (φ6 1)]) s trivial (fun φ6 => by kernel_rfl) ?_
  intro φ6 w6 s
  refine ops_done (by kernel_rfl) ?_
  refine wp_seq ?_
  refine region_rule ?_
  refine ops_rule (C := []) [((φ6 0), .cells #[.bool ib5, .pointer ip5, .int .u64 ((eb5 : Nat) : Int), .pointer ep5] 64), ((φ6 1), .cells #[.pointer (some ⟨ki5, 0, none⟩), .pointer (some ⟨ke5, 0, none⟩)] 67)] [] 1 [.o 0, .o 0, .o 0, .o 0] 0 (fun φ7 => [(25, .agg #[.bool ib5, .pointer ip5, .int .u64 ((eb5 : Nat) : Int), .pointer ep5])]) (fun φ7 => [((φ6 0), .cells #[.bool ib5, .pointer ip5, .int .u64 ((eb5 : Nat) : Int), .pointer ep5] 64), ((φ6 1), .cells #[.pointer (some ⟨ki5, 0, none⟩), .pointer (some ⟨ke5, 0, none⟩)] 67)]) (fun φ7 => [(φ6 0), (φ6 0), (φ6 0), (φ6 0)]) s trivial (fun φ7 => by kernel_rfl) ?_
  intro φ7 w7 s
  refine call_rule (some 26) s (tickS_c h5_2 h5_3 h5_0.1 h5_0.2 h5_1.2.1 (by have := h5_1.2.2; omega)) (by kernel_rfl) ?_
  intro v8 I8 w8 le8 h8 s
  replace hT := Tab.mono le8 hT
  replace hp := BSl.mono le8 hp
  replace hq := BSl.mono le8 hq
  replace h5_2 := TRep.mono le8 h5_2
  replace h5_3 := ERep.mono le8 h5_3
  replace h5_4 := RT.mono le8 h5_4
  replace h5_5 := RE.mono le8 h5_5
  obtain ⟨b8, p8, rfl, h8_0⟩ := h8
  refine ops_rule (C := []) [((φ6 0), .cells #[.bool ib5, .pointer ip5, .int .u64 ((eb5 : Nat) : Int), .pointer ep5] 64), ((φ6 1), .cells #[.pointer (some ⟨ki5, 0, none⟩), .pointer (some ⟨ke5, 0, none⟩)] 67)] [] 6 [.o 2, .o 2, .o 2, .o 2] 1 (fun φ9 => [(8, .int .i64 (((tickD i5 e5).2 : Nat) : Int)), (7, .pointer (some ⟨(φ9 0), 0, none⟩)), (28, .int .i64 (((tickD i5 e5).2 : Nat) : Int)), (27, .agg #[.bool ib5, .pointer ip5, .int .u64 ((b8 : Nat) : Int), .pointer p8]), (24, .tuple #[.agg #[.bool ib5, .pointer ip5, .int .u64 ((b8 : Nat) : Int), .pointer p8], .int .i64 (((tickD i5 e5).2 : Nat) : Int)])]) (fun φ9 => [((φ6 0), .cells #[.bool ib5, .pointer ip5, .int .u64 ((eb5 : Nat) : Int), .pointer ep5] 64), ((φ6 1), .cells #[.pointer (some ⟨ki5, 0, none⟩), .pointer (some ⟨ke5, 0, none⟩)] 67), ((φ9 0), .cells #[.bool ib5, .pointer ip5, .int .u64 ((b8 : Nat) : Int), .pointer p8] 64)]) (fun φ9 => [(φ9 0), (φ9 0), (φ9 0), (φ9 0)]) s trivial (fun φ9 => by kernel_rfl) ?_
  intro φ9 w9 s
  refine ops_done (by kernel_rfl) ?_
  refine wp_seq ?_
  refine region_rule ?_
  refine ops_rule (C := []) [((φ6 0), .cells #[.bool ib5, .pointer ip5, .int .u64 ((eb5 : Nat) : Int), .pointer ep5] 64), ((φ6 1), .cells #[.pointer (some ⟨ki5, 0, none⟩), .pointer (some ⟨ke5, 0, none⟩)] 67), ((φ9 0), .cells #[.bool ib5, .pointer ip5, .int .u64 ((b8 : Nat) : Int), .pointer p8] 64)] [] 1 [.o 1, .o 1] 0 (fun φ10 => [(30, .agg #[.pointer (some ⟨ki5, 0, none⟩), .pointer (some ⟨ke5, 0, none⟩)])]) (fun φ10 => [((φ6 0), .cells #[.bool ib5, .pointer ip5, .int .u64 ((eb5 : Nat) : Int), .pointer ep5] 64), ((φ6 1), .cells #[.pointer (some ⟨ki5, 0, none⟩), .pointer (some ⟨ke5, 0, none⟩)] 67), ((φ9 0), .cells #[.bool ib5, .pointer ip5, .int .u64 ((b8 : Nat) : Int), .pointer p8] 64)]) (fun φ10 => [(φ6 1), (φ6 1)]) s trivial (fun φ10 => by kernel_rfl) ?_
  intro φ10 w10 s
  refine call_rule (some 31) s (rtick_c h5_4 h5_5 h5_0.1 h5_1.1 h5_0.2 h5_1.2.1 (by have := h5_1.2.2; omega)) (by kernel_rfl) ?_
  intro v11 I11 w11 le11 h11 s
  replace hT := Tab.mono le11 hT
  replace hp := BSl.mono le11 hp
  replace hq := BSl.mono le11 hq
  replace h5_2 := TRep.mono le11 h5_2
  replace h5_3 := ERep.mono le11 h5_3
  replace h5_4 := RT.mono le11 h5_4
  replace h5_5 := RE.mono le11 h5_5
  replace h8_0 := ERep.mono le11 h8_0
  obtain ⟨ki11, ke11, rfl, h11_0, h11_1⟩ := h11
  refine ops_rule (C := []) [((φ6 0), .cells #[.bool ib5, .pointer ip5, .int .u64 ((eb5 : Nat) : Int), .pointer ep5] 64), ((φ6 1), .cells #[.pointer (some ⟨ki5, 0, none⟩), .pointer (some ⟨ke5, 0, none⟩)] 67), ((φ9 0), .cells #[.bool ib5, .pointer ip5, .int .u64 ((b8 : Nat) : Int), .pointer p8] 64)] [] 6 [.o 3, .o 3] 1 (fun φ12 => [(10, .int .i64 (((tickD i5 e5).2 : Nat) : Int)), (9, .pointer (some ⟨(φ12 0), 0, none⟩)), (33, .int .i64 (((tickD i5 e5).2 : Nat) : Int)), (32, .agg #[.pointer (some ⟨ki11, 0, none⟩), .pointer (some ⟨ke11, 0, none⟩)]), (29, .tuple #[.agg #[.pointer (some ⟨ki11, 0, none⟩), .pointer (some ⟨ke11, 0, none⟩)], .int .i64 (((tickD i5 e5).2 : Nat) : Int)])]) (fun φ12 => [((φ6 0), .cells #[.bool ib5, .pointer ip5, .int .u64 ((eb5 : Nat) : Int), .pointer ep5] 64), ((φ6 1), .cells #[.pointer (some ⟨ki5, 0, none⟩), .pointer (some ⟨ke5, 0, none⟩)] 67), ((φ9 0), .cells #[.bool ib5, .pointer ip5, .int .u64 ((b8 : Nat) : Int), .pointer p8] 64), ((φ12 0), .cells #[.pointer (some ⟨ki11, 0, none⟩), .pointer (some ⟨ke11, 0, none⟩)] 67)]) (fun φ12 => [(φ12 0), (φ12 0)]) s trivial (fun φ12 => by kernel_rfl) ?_
  intro φ12 w12 s
  refine ops_done (by kernel_rfl) ?_
  refine wp_seq ?_
  refine wp_seq ?_
  refine region_rule ?_
  refine ops_rule (C := []) [((φ6 0), .cells #[.bool ib5, .pointer ip5, .int .u64 ((eb5 : Nat) : Int), .pointer ep5] 64), ((φ6 1), .cells #[.pointer (some ⟨ki5, 0, none⟩), .pointer (some ⟨ke5, 0, none⟩)] 67), ((φ9 0), .cells #[.bool ib5, .pointer ip5, .int .u64 ((b8 : Nat) : Int), .pointer p8] 64), ((φ12 0), .cells #[.pointer (some ⟨ki11, 0, none⟩), .pointer (some ⟨ke11, 0, none⟩)] 67)] [] 4 [] 0 (fun φ13 => [(37, .bool ((((tickD i5 e5).2 : Nat) : Int) != (((tickD i5 e5).2 : Nat) : Int))), (36, .bool ((((tickD i5 e5).2 : Nat) : Int) != (((tickD i5 e5).2 : Nat) : Int))), (35, .int .i64 (((tickD i5 e5).2 : Nat) : Int)), (34, .int .i64 (((tickD i5 e5).2 : Nat) : Int))]) (fun φ13 => [((φ6 0), .cells #[.bool ib5, .pointer ip5, .int .u64 ((eb5 : Nat) : Int), .pointer ep5] 64), ((φ6 1), .cells #[.pointer (some ⟨ki5, 0, none⟩), .pointer (some ⟨ke5, 0, none⟩)] 67), ((φ9 0), .cells #[.bool ib5, .pointer ip5, .int .u64 ((b8 : Nat) : Int), .pointer p8] 64), ((φ12 0), .cells #[.pointer (some ⟨ki11, 0, none⟩), .pointer (some ⟨ke11, 0, none⟩)] 67)]) (fun φ13 => []) s trivial (fun φ13 => by kernel_rfl) ?_
  intro φ13 w13 s
  rw [nat_neq (a := ((tickD i5 e5).2)) (b := ((tickD i5 e5).2))]
  rcases Bool.eq_false_or_eq_true (decide (((tickD i5 e5).2) ≠ ((tickD i5 e5).2))) with hc14 | hc14
  ·
    exact absurd rfl (of_decide_eq_true hc14)
  ·
    rw [hc14]
    refine ops_rule (C := []) [((φ6 0), .cells #[.bool ib5, .pointer ip5, .int .u64 ((eb5 : Nat) : Int), .pointer ep5] 64), ((φ6 1), .cells #[.pointer (some ⟨ki5, 0, none⟩), .pointer (some ⟨ke5, 0, none⟩)] 67), ((φ9 0), .cells #[.bool ib5, .pointer ip5, .int .u64 ((b8 : Nat) : Int), .pointer p8] 64), ((φ12 0), .cells #[.pointer (some ⟨ki11, 0, none⟩), .pointer (some ⟨ke11, 0, none⟩)] 67)] [] 2 [.o 2, .o 2, .o 2, .o 2, .o 3, .o 3] 0 (fun φ15 => [(39, .agg #[.pointer (some ⟨ki11, 0, none⟩), .pointer (some ⟨ke11, 0, none⟩)]), (38, .agg #[.bool ib5, .pointer ip5, .int .u64 ((b8 : Nat) : Int), .pointer p8])]) (fun φ15 => [((φ6 0), .cells #[.bool ib5, .pointer ip5, .int .u64 ((eb5 : Nat) : Int), .pointer ep5] 64), ((φ6 1), .cells #[.pointer (some ⟨ki5, 0, none⟩), .pointer (some ⟨ke5, 0, none⟩)] 67), ((φ9 0), .cells #[.bool ib5, .pointer ip5, .int .u64 ((b8 : Nat) : Int), .pointer p8] 64), ((φ12 0), .cells #[.pointer (some ⟨ki11, 0, none⟩), .pointer (some ⟨ke11, 0, none⟩)] 67)]) (fun φ15 => [(φ9 0), (φ9 0), (φ9 0), (φ9 0), (φ12 0), (φ12 0)]) s trivial (fun φ15 => by kernel_rfl) ?_
    intro φ15 w15 s
    refine call_rule (some 40) s (like_c h5_2 h8_0 hT h11_0 h11_1 (by have q0 := h5_1.1; have q1 := h5_0.2; have q2 := h5_1.2; have q3 := (tickD_b h5_0.1 h5_1.1 h5_0.2 h5_1.2.1 (by have := h5_1.2.2; omega)); first | assumption | omega | exact textT_small (by omega) | exact textE_small (by omega) (by omega)) (by have q0 := h5_1.1; have q1 := h5_0.2; have q2 := h5_1.2; have q3 := (tickD_b h5_0.1 h5_1.1 h5_0.2 h5_1.2.1 (by have := h5_1.2.2; omega)); first | assumption | omega | exact textT_small (by omega) | exact textE_small (by omega) (by omega)) (by have q0 := h5_1.1; have q1 := h5_0.2; have q2 := h5_1.2; have q3 := (tickD_b h5_0.1 h5_1.1 h5_0.2 h5_1.2.1 (by have := h5_1.2.2; omega)); first | assumption | omega | exact textT_small (by omega) | exact textE_small (by omega) (by omega))) (by kernel_rfl) ?_
    intro v16 I16 w16 le16 h16 s
    replace hT := Tab.mono le16 hT
    replace hp := BSl.mono le16 hp
    replace hq := BSl.mono le16 hq
    replace h5_2 := TRep.mono le16 h5_2
    replace h5_3 := ERep.mono le16 h5_3
    replace h5_4 := RT.mono le16 h5_4
    replace h5_5 := RE.mono le16 h5_5
    replace h8_0 := ERep.mono le16 h8_0
    replace h11_0 := RT.mono le16 h11_0
    replace h11_1 := RE.mono le16 h11_1
    obtain rfl := h16
    refine ops_rule (C := []) [((φ6 0), .cells #[.bool ib5, .pointer ip5, .int .u64 ((eb5 : Nat) : Int), .pointer ep5] 64), ((φ6 1), .cells #[.pointer (some ⟨ki5, 0, none⟩), .pointer (some ⟨ke5, 0, none⟩)] 67), ((φ9 0), .cells #[.bool ib5, .pointer ip5, .int .u64 ((b8 : Nat) : Int), .pointer p8] 64), ((φ12 0), .cells #[.pointer (some ⟨ki11, 0, none⟩), .pointer (some ⟨ke11, 0, none⟩)] 67)] [] 2 [] 0 (fun φ17 => [(42, .bool false), (41, .bool false)]) (fun φ17 => [((φ6 0), .cells #[.bool ib5, .pointer ip5, .int .u64 ((eb5 : Nat) : Int), .pointer ep5] 64), ((φ6 1), .cells #[.pointer (some ⟨ki5, 0, none⟩), .pointer (some ⟨ke5, 0, none⟩)] 67), ((φ9 0), .cells #[.bool ib5, .pointer ip5, .int .u64 ((b8 : Nat) : Int), .pointer p8] 64), ((φ12 0), .cells #[.pointer (some ⟨ki11, 0, none⟩), .pointer (some ⟨ke11, 0, none⟩)] 67)]) (fun φ17 => []) s trivial (fun φ17 => by kernel_rfl) ?_
    intro φ17 w17 s
    refine ops_done (by kernel_rfl) ?_
    refine cond_false_rule (b := false) (by kernel_rfl) rfl ?_
    refine wp_skip ?_
    refine wp_seq ?_
    refine wp_seq ?_
    refine region_rule ?_
    refine ops_rule (C := []) [((φ6 0), .cells #[.bool ib5, .pointer ip5, .int .u64 ((eb5 : Nat) : Int), .pointer ep5] 64), ((φ6 1), .cells #[.pointer (some ⟨ki5, 0, none⟩), .pointer (some ⟨ke5, 0, none⟩)] 67), ((φ9 0), .cells #[.bool ib5, .pointer ip5, .int .u64 ((b8 : Nat) : Int), .pointer p8] 64), ((φ12 0), .cells #[.pointer (some ⟨ki11, 0, none⟩), .pointer (some ⟨ke11, 0, none⟩)] 67)] [] 2 [] 0 (fun φ18 => [(44, .bool ((((tickD i5 e5).2 : Nat) : Int) != ((0 : Nat) : Int))), (43, .int .i64 (((tickD i5 e5).2 : Nat) : Int))]) (fun φ18 => [((φ6 0), .cells #[.bool ib5, .pointer ip5, .int .u64 ((eb5 : Nat) : Int), .pointer ep5] 64), ((φ6 1), .cells #[.pointer (some ⟨ki5, 0, none⟩), .pointer (some ⟨ke5, 0, none⟩)] 67), ((φ9 0), .cells #[.bool ib5, .pointer ip5, .int .u64 ((b8 : Nat) : Int), .pointer p8] 64), ((φ12 0), .cells #[.pointer (some ⟨ki11, 0, none⟩), .pointer (some ⟨ke11, 0, none⟩)] 67)]) (fun φ18 => []) s trivial (fun φ18 => by kernel_rfl) ?_
    intro φ18 w18 s
    rw [nat_neq (a := ((tickD i5 e5).2)) (b := 0)]
    refine ops_done (by kernel_rfl) ?_
    rcases Bool.eq_false_or_eq_true (decide (((tickD i5 e5).2) ≠ 0)) with hc19 | hc19
    ·
      rw [hc19]
      refine cond_true_rule (b := true) (by kernel_rfl) rfl ?_
      refine wp_seq ?_
      refine region_rule ?_
      refine ops_rule (C := []) [((φ6 0), .cells #[.bool ib5, .pointer ip5, .int .u64 ((eb5 : Nat) : Int), .pointer ep5] 64), ((φ6 1), .cells #[.pointer (some ⟨ki5, 0, none⟩), .pointer (some ⟨ke5, 0, none⟩)] 67), ((φ9 0), .cells #[.bool ib5, .pointer ip5, .int .u64 ((b8 : Nat) : Int), .pointer p8] 64), ((φ12 0), .cells #[.pointer (some ⟨ki11, 0, none⟩), .pointer (some ⟨ke11, 0, none⟩)] 67)] [] 3 [] 0 (fun φ20 => [(47, .bool ((((tickD i5 e5).2 : Nat) : Int) == ((2 : Nat) : Int))), (46, .bool ((((tickD i5 e5).2 : Nat) : Int) == ((2 : Nat) : Int))), (45, .int .i64 (((tickD i5 e5).2 : Nat) : Int))]) (fun φ20 => [((φ6 0), .cells #[.bool ib5, .pointer ip5, .int .u64 ((eb5 : Nat) : Int), .pointer ep5] 64), ((φ6 1), .cells #[.pointer (some ⟨ki5, 0, none⟩), .pointer (some ⟨ke5, 0, none⟩)] 67), ((φ9 0), .cells #[.bool ib5, .pointer ip5, .int .u64 ((b8 : Nat) : Int), .pointer p8] 64), ((φ12 0), .cells #[.pointer (some ⟨ki11, 0, none⟩), .pointer (some ⟨ke11, 0, none⟩)] 67)]) (fun φ20 => []) s trivial (fun φ20 => by kernel_rfl) ?_
      intro φ20 w20 s
      rw [nat_eql (a := ((tickD i5 e5).2)) (b := 2)]
      rcases Bool.eq_false_or_eq_true (decide (((tickD i5 e5).2) = 2)) with hc21 | hc21
      ·
        rw [hc21]
        refine ops_rule (C := []) [((φ6 0), .cells #[.bool ib5, .pointer ip5, .int .u64 ((eb5 : Nat) : Int), .pointer ep5] 64), ((φ6 1), .cells #[.pointer (some ⟨ki5, 0, none⟩), .pointer (some ⟨ke5, 0, none⟩)] 67), ((φ9 0), .cells #[.bool ib5, .pointer ip5, .int .u64 ((b8 : Nat) : Int), .pointer p8] 64), ((φ12 0), .cells #[.pointer (some ⟨ki11, 0, none⟩), .pointer (some ⟨ke11, 0, none⟩)] 67)] [] 2 [.o 0, .o 0] 0 (fun φ22 => [(49, .agg #[.bool ib5, .pointer ip5]), (48, .pointer (some ⟨(φ6 0), 0, none⟩))]) (fun φ22 => [((φ6 0), .cells #[.bool ib5, .pointer ip5, .int .u64 ((eb5 : Nat) : Int), .pointer ep5] 64), ((φ6 1), .cells #[.pointer (some ⟨ki5, 0, none⟩), .pointer (some ⟨ke5, 0, none⟩)] 67), ((φ9 0), .cells #[.bool ib5, .pointer ip5, .int .u64 ((b8 : Nat) : Int), .pointer p8] 64), ((φ12 0), .cells #[.pointer (some ⟨ki11, 0, none⟩), .pointer (some ⟨ke11, 0, none⟩)] 67)]) (fun φ22 => [(φ6 0), (φ6 0)]) s trivial (fun φ22 => by kernel_rfl) ?_
        intro φ22 w22 s
        refine call_rule (some 50) s (isZero_c h5_2) (by kernel_rfl) ?_
        intro v23 I23 w23 le23 h23 s
        replace hT := Tab.mono le23 hT
        replace hp := BSl.mono le23 hp
        replace hq := BSl.mono le23 hq
        replace h5_2 := TRep.mono le23 h5_2
        replace h5_3 := ERep.mono le23 h5_3
        replace h5_4 := RT.mono le23 h5_4
        replace h5_5 := RE.mono le23 h5_5
        replace h8_0 := ERep.mono le23 h8_0
        replace h11_0 := RT.mono le23 h11_0
        replace h11_1 := RE.mono le23 h11_1
        obtain rfl := h23
        refine ops_rule (C := []) [((φ6 0), .cells #[.bool ib5, .pointer ip5, .int .u64 ((eb5 : Nat) : Int), .pointer ep5] 64), ((φ6 1), .cells #[.pointer (some ⟨ki5, 0, none⟩), .pointer (some ⟨ke5, 0, none⟩)] 67), ((φ9 0), .cells #[.bool ib5, .pointer ip5, .int .u64 ((b8 : Nat) : Int), .pointer p8] 64), ((φ12 0), .cells #[.pointer (some ⟨ki11, 0, none⟩), .pointer (some ⟨ke11, 0, none⟩)] 67)] [] 2 [] 0 (fun φ24 => [(52, .bool (T.isZero i5)), (51, .bool (T.isZero i5))]) (fun φ24 => [((φ6 0), .cells #[.bool ib5, .pointer ip5, .int .u64 ((eb5 : Nat) : Int), .pointer ep5] 64), ((φ6 1), .cells #[.pointer (some ⟨ki5, 0, none⟩), .pointer (some ⟨ke5, 0, none⟩)] 67), ((φ9 0), .cells #[.bool ib5, .pointer ip5, .int .u64 ((b8 : Nat) : Int), .pointer p8] 64), ((φ12 0), .cells #[.pointer (some ⟨ki11, 0, none⟩), .pointer (some ⟨ke11, 0, none⟩)] 67)]) (fun φ24 => []) s trivial (fun φ24 => by kernel_rfl) ?_
        intro φ24 w24 s
        rcases Bool.eq_false_or_eq_true (T.isZero i5) with hc25 | hc25
        ·
          rw [hc25]
          refine ops_rule (C := []) [((φ6 0), .cells #[.bool ib5, .pointer ip5, .int .u64 ((eb5 : Nat) : Int), .pointer ep5] 64), ((φ6 1), .cells #[.pointer (some ⟨ki5, 0, none⟩), .pointer (some ⟨ke5, 0, none⟩)] 67), ((φ9 0), .cells #[.bool ib5, .pointer ip5, .int .u64 ((b8 : Nat) : Int), .pointer p8] 64), ((φ12 0), .cells #[.pointer (some ⟨ki11, 0, none⟩), .pointer (some ⟨ke11, 0, none⟩)] 67)] [] 2 [.o 2, .o 2, .o 2, .o 2, .o 0, .o 0, .o 0, .o 0] 0 (fun φ26 => [(54, .agg #[.bool ib5, .pointer ip5, .int .u64 ((eb5 : Nat) : Int), .pointer ep5]), (53, .agg #[.bool ib5, .pointer ip5, .int .u64 ((b8 : Nat) : Int), .pointer p8])]) (fun φ26 => [((φ6 0), .cells #[.bool ib5, .pointer ip5, .int .u64 ((eb5 : Nat) : Int), .pointer ep5] 64), ((φ6 1), .cells #[.pointer (some ⟨ki5, 0, none⟩), .pointer (some ⟨ke5, 0, none⟩)] 67), ((φ9 0), .cells #[.bool ib5, .pointer ip5, .int .u64 ((b8 : Nat) : Int), .pointer p8] 64), ((φ12 0), .cells #[.pointer (some ⟨ki11, 0, none⟩), .pointer (some ⟨ke11, 0, none⟩)] 67)]) (fun φ26 => [(φ9 0), (φ9 0), (φ9 0), (φ9 0), (φ6 0), (φ6 0), (φ6 0), (φ6 0)]) s trivial (fun φ26 => by kernel_rfl) ?_
          intro φ26 w26 s
          refine call_rule (some 55) s (ssameT_c h5_2 h5_2 h8_0 h5_3 (of_decide_eq_true hc19) (by have := h5_1.2.1; omega) (by have := h5_1.2.2; omega)) (by kernel_rfl) ?_
          intro v27 I27 w27 le27 h27 s
          replace hT := Tab.mono le27 hT
          replace hp := BSl.mono le27 hp
          replace hq := BSl.mono le27 hq
          replace h5_2 := TRep.mono le27 h5_2
          replace h5_3 := ERep.mono le27 h5_3
          replace h5_4 := RT.mono le27 h5_4
          replace h5_5 := RE.mono le27 h5_5
          replace h8_0 := ERep.mono le27 h8_0
          replace h11_0 := RT.mono le27 h11_0
          replace h11_1 := RE.mono le27 h11_1
          obtain rfl := h27
          refine ops_rule (C := []) [((φ6 0), .cells #[.bool ib5, .pointer ip5, .int .u64 ((eb5 : Nat) : Int), .pointer ep5] 64), ((φ6 1), .cells #[.pointer (some ⟨ki5, 0, none⟩), .pointer (some ⟨ke5, 0, none⟩)] 67), ((φ9 0), .cells #[.bool ib5, .pointer ip5, .int .u64 ((b8 : Nat) : Int), .pointer p8] 64), ((φ12 0), .cells #[.pointer (some ⟨ki11, 0, none⟩), .pointer (some ⟨ke11, 0, none⟩)] 67)] [] 2 [] 0 (fun φ28 => [(4, .bool true), (56, .bool true)]) (fun φ28 => [((φ6 0), .cells #[.bool ib5, .pointer ip5, .int .u64 ((eb5 : Nat) : Int), .pointer ep5] 64), ((φ6 1), .cells #[.pointer (some ⟨ki5, 0, none⟩), .pointer (some ⟨ke5, 0, none⟩)] 67), ((φ9 0), .cells #[.bool ib5, .pointer ip5, .int .u64 ((b8 : Nat) : Int), .pointer p8] 64), ((φ12 0), .cells #[.pointer (some ⟨ki11, 0, none⟩), .pointer (some ⟨ke11, 0, none⟩)] 67)]) (fun φ28 => []) s trivial (fun φ28 => by kernel_rfl) ?_
          intro φ28 w28 s
          refine ops_done (by kernel_rfl) ?_
          refine wp_ret ?_
          refine ret_rule (C := []) [((φ6 0), .cells #[.bool ib5, .pointer ip5, .int .u64 ((eb5 : Nat) : Int), .pointer ep5] 64), ((φ6 1), .cells #[.pointer (some ⟨ki5, 0, none⟩), .pointer (some ⟨ke5, 0, none⟩)] 67), ((φ9 0), .cells #[.bool ib5, .pointer ip5, .int .u64 ((b8 : Nat) : Int), .pointer p8] 64), ((φ12 0), .cells #[.pointer (some ⟨ki11, 0, none⟩), .pointer (some ⟨ke11, 0, none⟩)] 67)] [] (.bool true) [] [] s trivial (by kernel_rfl) ?_
          exact ⟨_, _, _, rfl, s, rfl⟩
        ·
          exact absurd (kind_zero'.2 (tickD_no (of_decide_eq_true hc19)).1) (by rw [hc25]; simp)
      ·
        exact absurd (show (tickD i5 e5).2 = 2 by rw [(tickD_no (of_decide_eq_true hc19)).2]) (of_decide_eq_false hc21)
    ·
      rw [hc19]
      refine cond_false_rule (b := false) (by kernel_rfl) rfl ?_
      refine wp_skip ?_
      refine wp_seq ?_
      refine region_rule ?_
      refine ops_rule (C := []) [((φ6 0), .cells #[.bool ib5, .pointer ip5, .int .u64 ((eb5 : Nat) : Int), .pointer ep5] 64), ((φ6 1), .cells #[.pointer (some ⟨ki5, 0, none⟩), .pointer (some ⟨ke5, 0, none⟩)] 67), ((φ9 0), .cells #[.bool ib5, .pointer ip5, .int .u64 ((b8 : Nat) : Int), .pointer p8] 64), ((φ12 0), .cells #[.pointer (some ⟨ki11, 0, none⟩), .pointer (some ⟨ke11, 0, none⟩)] 67)] [] 1 [] 0 (fun φ29 => [(11, .int .i64 7)]) (fun φ29 => [((φ6 0), .cells #[.bool ib5, .pointer ip5, .int .u64 ((eb5 : Nat) : Int), .pointer ep5] 64), ((φ6 1), .cells #[.pointer (some ⟨ki5, 0, none⟩), .pointer (some ⟨ke5, 0, none⟩)] 67), ((φ9 0), .cells #[.bool ib5, .pointer ip5, .int .u64 ((b8 : Nat) : Int), .pointer p8] 64), ((φ12 0), .cells #[.pointer (some ⟨ki11, 0, none⟩), .pointer (some ⟨ke11, 0, none⟩)] 67)]) (fun φ29 => []) s trivial (fun φ29 => by kernel_rfl) ?_
      intro φ29 w29 s
      refine ops_done (by kernel_rfl) ?_
      refine wp_seq ?_
      refine draw_rule (C := []) ⟨(fun φ30 xs30 => [.look 0 [] [], .look 0 [.o 1] [(φ6 1)], .look 0 [] [], .call 22 #[.pointer (some ⟨ke5, 0, none⟩), .int .i64 7], .look 0 [] [], .look 0 [.o 3] [(φ12 0)], .look 0 [] [], .call 22 #[.pointer (some ⟨ke11, 0, none⟩), .int .i64 7], .look 0 [] [], .look 0 [.o 1] [(φ6 1)], .look 0 [] [], .call 50 #[.pointer (some ⟨ki5, 0, none⟩), .int .i64 7], .look 0 [] [], .look 0 [] [], .look 0 [] []]), (fun φ30 xs30 => [.pointer (some ⟨(φ6 1), 1, none⟩), .pointer (some ⟨ke5, 0, none⟩), .int .i64 7, .slice (some ⟨(xs30 3).n 0, 0, none⟩) 128 ((xs30 3).n 1), .pointer (some ⟨(φ12 0), 1, none⟩), .pointer (some ⟨ke11, 0, none⟩), .int .i64 7, .slice (some ⟨(xs30 7).n 0, 0, none⟩) 128 ((xs30 7).n 1), .pointer (some ⟨(φ6 1), 0, none⟩), .pointer (some ⟨ki5, 0, none⟩), .int .i64 7, .slice (some ⟨(xs30 11).n 0, 0, none⟩) 128 ((xs30 11).n 1), .slice (some ⟨(xs30 3).n 0, 0, none⟩) 128 ((xs30 3).n 1), .slice (some ⟨(xs30 7).n 0, 0, none⟩) 128 ((xs30 7).n 1), .slice (some ⟨(xs30 11).n 0, 0, none⟩) 128 ((xs30 11).n 1)]), (fun φ30 xs30 => [[((φ6 0), .cells #[.bool ib5, .pointer ip5, .int .u64 ((eb5 : Nat) : Int), .pointer ep5] 64), ((φ6 1), .cells #[.pointer (some ⟨ki5, 0, none⟩), .pointer (some ⟨ke5, 0, none⟩)] 67), ((φ9 0), .cells #[.bool ib5, .pointer ip5, .int .u64 ((b8 : Nat) : Int), .pointer p8] 64), ((φ12 0), .cells #[.pointer (some ⟨ki11, 0, none⟩), .pointer (some ⟨ke11, 0, none⟩)] 67)]]), (fun φ30 xs30 => [[default, default, default, default, default, default, default, default, default, default, default, default, default, default, default]]), [], [1, 1, 1, 3, 1, 1, 1, 3, 1, 1, 1, 3, 1, 1, 1]⟩ (fun j => ([MP.any, MP.any, MP.any, ⟨fun x J => VS J 24 ((hL 7 e5).map cU) (x.n 0), fun le h => VS.mono le h⟩, MP.any, MP.any, MP.any, ⟨fun x J => VS J 24 ((hL 7 (tickD i5 e5).1).map cU) (x.n 0), fun le h => VS.mono le h⟩, MP.any, MP.any, MP.any, ⟨fun x J => VS J 4 ((mL 7 i5).map Value.bool) (x.n 0), fun le h => VS.mono le h⟩, MP.any, MP.any, MP.any] : List MP).getD j MP.any) [3, 7, 11] [] [] (fun φ30 xs30 => []) (fun φ30 xs30 => [(57, .pointer (some ⟨(φ6 1), 1, none⟩)), (58, .pointer (some ⟨ke5, 0, none⟩)), (59, .int .i64 7), (60, .slice (some ⟨(xs30 3).n 0, 0, none⟩) 128 ((xs30 3).n 1)), (61, .pointer (some ⟨(φ12 0), 1, none⟩)), (62, .pointer (some ⟨ke11, 0, none⟩)), (63, .int .i64 7), (64, .slice (some ⟨(xs30 7).n 0, 0, none⟩) 128 ((xs30 7).n 1)), (65, .pointer (some ⟨(φ6 1), 0, none⟩)), (66, .pointer (some ⟨ki5, 0, none⟩)), (67, .int .i64 7), (68, .slice (some ⟨(xs30 11).n 0, 0, none⟩) 128 ((xs30 11).n 1)), (12, .slice (some ⟨(xs30 3).n 0, 0, none⟩) 128 ((xs30 3).n 1)), (13, .slice (some ⟨(xs30 7).n 0, 0, none⟩) 128 ((xs30 7).n 1)), (14, .slice (some ⟨(xs30 11).n 0, 0, none⟩) 128 ((xs30 11).n 1))]) (fun φ30 xs30 => [((φ6 0), .cells #[.bool ib5, .pointer ip5, .int .u64 ((eb5 : Nat) : Int), .pointer ep5] 64), ((φ6 1), .cells #[.pointer (some ⟨ki5, 0, none⟩), .pointer (some ⟨ke5, 0, none⟩)] 67), ((φ9 0), .cells #[.bool ib5, .pointer ip5, .int .u64 ((b8 : Nat) : Int), .pointer p8] 64), ((φ12 0), .cells #[.pointer (some ⟨ki11, 0, none⟩), .pointer (some ⟨ke11, 0, none⟩)] 67)]) s trivial (by kernel_rfl) (by kernel_rfl) (fun _ _ => by kernel_rfl) (fun _ _ => by kernel_rfl) ⟨fun _ _ => by kernel_rfl, fun _ _ => by kernel_rfl, fun _ _ => by kernel_rfl, fun _ _ => by kernel_rfl⟩ (fun _ _ _ => by kernel_rfl) (fun _ _ => by kernel_rfl) (fun _ _ => by kernel_rfl) (fun _ _ => by kernel_rfl) (fun _ _ => by kernel_rfl) (fun _ _ => by kernel_rfl) trivial trivial ⟨?c30_3, ?c30_7, ?c30_11, trivial⟩ ?k30
      case c30_3 =>
        refine kcast (A := ∀ (φ30 : Nat → Nat) (xs30 : Xs) (J3_30 : IM), I16.Le J3_30 → Fun Tryd.prog 22 #[.pointer (some ⟨ke5, 0, none⟩), .int .i64 7] J3_30 (fun v J' => ∃ x : UX, v = .slice (some ⟨x.n 0, 0, none⟩) 128 (x.n 1) ∧ (VS J' 24 ((hL 7 e5).map cU) (x.n 0)))) (by kernel_rfl) ?_
        intro φ30 xs30 J3_30 leJ
        have h5_5 := RE.mono leJ h5_5
        exact Fun.mono (heights7_c h5_5 (by have q0 := h5_1.1; have q1 := h5_0.2; have q2 := h5_1.2; have q3 := (tickD_b h5_0.1 h5_1.1 h5_0.2 h5_1.2.1 (by have := h5_1.2.2; omega)); first | assumption | omega | exact textT_small (by omega) | exact textE_small (by omega) (by omega))) (fun v J' _ ⟨y0, y1, hv, g0⟩ => ⟨{ UX.d with n := fun j => cond (Nat.beq j 0) y0 (y1) }, hv, g0⟩)
      case c30_7 =>
        refine kcast (A := ∀ (φ30 : Nat → Nat) (xs30 : Xs) (J7_30 : IM), I16.Le J7_30 → (VS J7_30 24 ((hL 7 e5).map cU) ((xs30 3).n 0)) → Fun Tryd.prog 22 #[.pointer (some ⟨ke11, 0, none⟩), .int .i64 7] J7_30 (fun v J' => ∃ x : UX, v = .slice (some ⟨x.n 0, 0, none⟩) 128 (x.n 1) ∧ (VS J' 24 ((hL 7 (tickD i5 e5).1).map cU) (x.n 0)))) (by kernel_rfl) ?_
        intro φ30 xs30 J7_30 leJ
        rintro h30_3_0
        have h11_1 := RE.mono leJ h11_1
        exact Fun.mono (heights7_c h11_1 (by have q0 := h5_1.1; have q1 := h5_0.2; have q2 := h5_1.2; have q3 := (tickD_b h5_0.1 h5_1.1 h5_0.2 h5_1.2.1 (by have := h5_1.2.2; omega)); first | assumption | omega | exact textT_small (by omega) | exact textE_small (by omega) (by omega))) (fun v J' _ ⟨y0, y1, hv, g0⟩ => ⟨{ UX.d with n := fun j => cond (Nat.beq j 0) y0 (y1) }, hv, g0⟩)
      case c30_11 =>
        refine kcast (A := ∀ (φ30 : Nat → Nat) (xs30 : Xs) (J11_30 : IM), I16.Le J11_30 → (VS J11_30 24 ((hL 7 e5).map cU) ((xs30 3).n 0)) → (VS J11_30 24 ((hL 7 (tickD i5 e5).1).map cU) ((xs30 7).n 0)) → Fun Tryd.prog 50 #[.pointer (some ⟨ki5, 0, none⟩), .int .i64 7] J11_30 (fun v J' => ∃ x : UX, v = .slice (some ⟨x.n 0, 0, none⟩) 128 (x.n 1) ∧ (VS J' 4 ((mL 7 i5).map Value.bool) (x.n 0)))) (by kernel_rfl) ?_
        intro φ30 xs30 J11_30 leJ
        rintro h30_3_0 h30_7_0
        have h5_4 := RT.mono leJ h5_4
        exact Fun.mono (has7_c h5_4) (fun v J' _ ⟨y0, y1, hv, g0⟩ => ⟨{ UX.d with n := fun j => cond (Nat.beq j 0) y0 (y1) }, hv, g0⟩)
      case k30 =>
        rintro φ30 xs30 I30 w30 le30 s h30_3_0 h30_7_0 h30_11_0
        replace hT := Tab.mono le30 hT
        replace hp := BSl.mono le30 hp
        replace hq := BSl.mono le30 hq
        replace h5_2 := TRep.mono le30 h5_2
        replace h5_3 := ERep.mono le30 h5_3
        replace h5_4 := RT.mono le30 h5_4
        replace h5_5 := RE.mono le30 h5_5
        replace h8_0 := ERep.mono le30 h8_0
        replace h11_0 := RT.mono le30 h11_0
        replace h11_1 := RE.mono le30 h11_1
        refine wp_seq ?_
        refine wp_seq ?_
        refine region_rule ?_
        refine ops_rule (C := []) [((φ6 0), .cells #[.bool ib5, .pointer ip5, .int .u64 ((eb5 : Nat) : Int), .pointer ep5] 64), ((φ6 1), .cells #[.pointer (some ⟨ki5, 0, none⟩), .pointer (some ⟨ke5, 0, none⟩)] 67), ((φ9 0), .cells #[.bool ib5, .pointer ip5, .int .u64 ((b8 : Nat) : Int), .pointer p8] 64), ((φ12 0), .cells #[.pointer (some ⟨ki11, 0, none⟩), .pointer (some ⟨ke11, 0, none⟩)] 67)] [] 3 [] 0 (fun φ31 => [(71, .int .i64 0), (70, .int .i64 128), (69, .slice (some ⟨(xs30 3).n 0, 0, none⟩) 128 ((xs30 3).n 1))]) (fun φ31 => [((φ6 0), .cells #[.bool ib5, .pointer ip5, .int .u64 ((eb5 : Nat) : Int), .pointer ep5] 64), ((φ6 1), .cells #[.pointer (some ⟨ki5, 0, none⟩), .pointer (some ⟨ke5, 0, none⟩)] 67), ((φ9 0), .cells #[.bool ib5, .pointer ip5, .int .u64 ((b8 : Nat) : Int), .pointer p8] 64), ((φ12 0), .cells #[.pointer (some ⟨ki11, 0, none⟩), .pointer (some ⟨ke11, 0, none⟩)] 67)]) (fun φ31 => []) s trivial (fun φ31 => by kernel_rfl) ?_
        intro φ31 w31 s
        refine ops_done (by kernel_rfl) ?_
        refine wp_block ?_
        have hle32 := IM.Le.refl I30
        refine loop_rule (fun (x : Nat) => [(5, .pointer (some ⟨(φ6 0), 0, none⟩)), (6, .pointer (some ⟨(φ6 1), 0, none⟩)), (7, .pointer (some ⟨(φ9 0), 0, none⟩)), (9, .pointer (some ⟨(φ12 0), 0, none⟩)), (12, .slice (some ⟨(xs30 3).n 0, 0, none⟩) 128 ((xs30 3).n 1)), (13, .slice (some ⟨(xs30 7).n 0, 0, none⟩) 128 ((xs30 7).n 1)), (14, .slice (some ⟨(xs30 11).n 0, 0, none⟩) 128 ((xs30 11).n 1)), (70, .int .i64 128), (71, .int .i64 ((x : Nat) : Int))]) (fun (_ : Nat) => [((φ6 0), .cells #[.bool ib5, .pointer ip5, .int .u64 ((eb5 : Nat) : Int), .pointer ep5] 64), ((φ6 1), .cells #[.pointer (some ⟨ki5, 0, none⟩), .pointer (some ⟨ke5, 0, none⟩)] 67), ((φ9 0), .cells #[.bool ib5, .pointer ip5, .int .u64 ((b8 : Nat) : Int), .pointer p8] 64), ((φ12 0), .cells #[.pointer (some ⟨ki11, 0, none⟩), .pointer (some ⟨ke11, 0, none⟩)] 67)]) (fun m (x : Nat) J => IM.Le I30 J ∧ x + m = 128) 128 0 s (by kernel_rfl) (List.Sublist.cons₂ _ (List.Sublist.cons₂ _ (List.Sublist.cons₂ _ (List.Sublist.cons₂ _ List.Sublist.slnil)))) ⟨IM.Le.refl _, rfl⟩ ?_
        rintro m k I33 w33 evj s ⟨le33, hm⟩
        try dsimp only at s hm ⊢
        replace hT := Tab.mono le33 hT
        replace hp := BSl.mono le33 hp
        replace hq := BSl.mono le33 hq
        replace h5_2 := TRep.mono le33 h5_2
        replace h5_3 := ERep.mono le33 h5_3
        replace h5_4 := RT.mono le33 h5_4
        replace h5_5 := RE.mono le33 h5_5
        replace h8_0 := ERep.mono le33 h8_0
        replace h11_0 := RT.mono le33 h11_0
        replace h11_1 := RE.mono le33 h11_1
        replace h30_3_0 := VS.mono le33 h30_3_0
        replace h30_7_0 := VS.mono le33 h30_7_0
        replace h30_11_0 := VS.mono le33 h30_11_0
        replace hle32 := leMono le33 hle32
        refine wp_seq ?_
        refine region_rule ?_
        refine ops_rule (C := []) [((φ6 0), .cells #[.bool ib5, .pointer ip5, .int .u64 ((eb5 : Nat) : Int), .pointer ep5] 64), ((φ6 1), .cells #[.pointer (some ⟨ki5, 0, none⟩), .pointer (some ⟨ke5, 0, none⟩)] 67), ((φ9 0), .cells #[.bool ib5, .pointer ip5, .int .u64 ((b8 : Nat) : Int), .pointer p8] 64), ((φ12 0), .cells #[.pointer (some ⟨ki11, 0, none⟩), .pointer (some ⟨ke11, 0, none⟩)] 67)] [] 1 [] 0 (fun φ34 => [(72, .bool (decide (((k : Nat) : Int) < ((128 : Nat) : Int))))]) (fun φ34 => [((φ6 0), .cells #[.bool ib5, .pointer ip5, .int .u64 ((eb5 : Nat) : Int), .pointer ep5] 64), ((φ6 1), .cells #[.pointer (some ⟨ki5, 0, none⟩), .pointer (some ⟨ke5, 0, none⟩)] 67), ((φ9 0), .cells #[.bool ib5, .pointer ip5, .int .u64 ((b8 : Nat) : Int), .pointer p8] 64), ((φ12 0), .cells #[.pointer (some ⟨ki11, 0, none⟩), .pointer (some ⟨ke11, 0, none⟩)] 67)]) (fun φ34 => []) s trivial (fun φ34 => by kernel_rfl) ?_
        intro φ34 w34 s
        rw [nat_lss (a := k) (b := 128)]
        refine ops_done (by kernel_rfl) ?_
        refine wp_seq ?_
        rcases Bool.eq_false_or_eq_true (decide (k < 128)) with hc35 | hc35
        ·
          rw [hc35]
          refine cond_true_rule (b := true) (by kernel_rfl) rfl ?_
          refine wp_skip ?_
          refine wp_seq ?_
          refine wp_block ?_
          refine wp_seq ?_
          refine region_rule ?_
          refine ops_rule (C := []) [((φ6 0), .cells #[.bool ib5, .pointer ip5, .int .u64 ((eb5 : Nat) : Int), .pointer ep5] 64), ((φ6 1), .cells #[.pointer (some ⟨ki5, 0, none⟩), .pointer (some ⟨ke5, 0, none⟩)] 67), ((φ9 0), .cells #[.bool ib5, .pointer ip5, .int .u64 ((b8 : Nat) : Int), .pointer p8] 64), ((φ12 0), .cells #[.pointer (some ⟨ki11, 0, none⟩), .pointer (some ⟨ke11, 0, none⟩)] 67)] [] 2 [] 0 (fun φ36 => [(15, .int .i64 ((k : Nat) : Int)), (73, .int .i64 ((k : Nat) : Int))]) (fun φ36 => [((φ6 0), .cells #[.bool ib5, .pointer ip5, .int .u64 ((eb5 : Nat) : Int), .pointer ep5] 64), ((φ6 1), .cells #[.pointer (some ⟨ki5, 0, none⟩), .pointer (some ⟨ke5, 0, none⟩)] 67), ((φ9 0), .cells #[.bool ib5, .pointer ip5, .int .u64 ((b8 : Nat) : Int), .pointer p8] 64), ((φ12 0), .cells #[.pointer (some ⟨ki11, 0, none⟩), .pointer (some ⟨ke11, 0, none⟩)] 67)]) (fun φ36 => []) s trivial (fun φ36 => by kernel_rfl) ?_
          intro φ36 w36 s
          refine ops_done (by kernel_rfl) ?_
          refine wp_seq ?_
          rcases Bool.eq_false_or_eq_true (decide ((hAt 7 (tickD i5 e5).1 k) < (hAt 7 e5 k))) with hc37 | hc37
          ·
            exact absurd (of_decide_eq_true hc37) (by have := (tickD_yes h5_0.1 h5_1.1 h5_0.2 h5_1.2.1 (by have := h5_1.2.2; omega) (by have := of_decide_eq_false hc19; omega)).1 k; omega)
          ·
            rcases Bool.eq_false_or_eq_true (decide ((hAt 7 e5 k) ≠ (hAt 7 (tickD i5 e5).1 k))) with hc38 | hc38
            ·
              refine draw_rule (C := []) ⟨(fun φ39 xs39 => [.look 0 [] [], .look 0 [] [], .ran (Instr.indexAt 37 (.slice (some ⟨(xs30 3).n 0, 0, none⟩) 128 ((xs30 3).n 1)) (.int .i64 ((k : Nat) : Int))), .ran (Instr.loadAt 24 (.pointer (some ⟨(xs30 3).n 0, k, none⟩))), .look 0 [] [], .look 0 [] [], .ran (Instr.indexAt 37 (.slice (some ⟨(xs30 7).n 0, 0, none⟩) 128 ((xs30 7).n 1)) (.int .i64 ((k : Nat) : Int))), .ran (Instr.loadAt 24 (.pointer (some ⟨(xs30 7).n 0, k, none⟩))), .sub 0 [] [] (.bool (decide (((hAt 7 e5 k : Nat) : Int) > ((hAt 7 (tickD i5 e5).1 k : Nat) : Int)))), .look 0 [] [], .look 0 [] [], .look 0 [] [], .ran (Instr.indexAt 37 (.slice (some ⟨(xs30 3).n 0, 0, none⟩) 128 ((xs30 3).n 1)) (.int .i64 ((k : Nat) : Int))), .ran (Instr.loadAt 24 (.pointer (some ⟨(xs30 3).n 0, k, none⟩))), .look 0 [] [], .look 0 [] [], .ran (Instr.indexAt 37 (.slice (some ⟨(xs30 7).n 0, 0, none⟩) 128 ((xs30 7).n 1)) (.int .i64 ((k : Nat) : Int))), .ran (Instr.loadAt 24 (.pointer (some ⟨(xs30 7).n 0, k, none⟩))), .sub 0 [] [] (.bool (((hAt 7 e5 k : Nat) : Int) != ((hAt 7 (tickD i5 e5).1 k : Nat) : Int))), .look 0 [] [], .look 0 [] [], .look 0 [] [], .ran (Instr.indexAt 76 (.slice (some ⟨(xs30 11).n 0, 0, none⟩) 128 ((xs30 11).n 1)) (.int .i64 ((k : Nat) : Int))), .ran (Instr.loadAt 4 (.pointer (some ⟨(xs30 11).n 0, k, none⟩))), .look 0 [] [], .look 0 [] [], .look 0 [] []]), (fun φ39 xs39 => [.slice (some ⟨(xs30 3).n 0, 0, none⟩) 128 ((xs30 3).n 1), .int .i64 ((k : Nat) : Int), .pointer (some ⟨(xs30 3).n 0, k, none⟩), .int .u64 ((hAt 7 e5 k : Nat) : Int), .slice (some ⟨(xs30 7).n 0, 0, none⟩) 128 ((xs30 7).n 1), .int .i64 ((k : Nat) : Int), .pointer (some ⟨(xs30 7).n 0, k, none⟩), .int .u64 ((hAt 7 (tickD i5 e5).1 k : Nat) : Int), .bool false, .bool false, .slice (some ⟨(xs30 3).n 0, 0, none⟩) 128 ((xs30 3).n 1), .int .i64 ((k : Nat) : Int), .pointer (some ⟨(xs30 3).n 0, k, none⟩), .int .u64 ((hAt 7 e5 k : Nat) : Int), .slice (some ⟨(xs30 7).n 0, 0, none⟩) 128 ((xs30 7).n 1), .int .i64 ((k : Nat) : Int), .pointer (some ⟨(xs30 7).n 0, k, none⟩), .int .u64 ((hAt 7 (tickD i5 e5).1 k : Nat) : Int), .bool true, .bool true, .slice (some ⟨(xs30 11).n 0, 0, none⟩) 128 ((xs30 11).n 1), .int .i64 ((k : Nat) : Int), .pointer (some ⟨(xs30 11).n 0, k, none⟩), .bool (mAt 7 i5 k), .bool (!(mAt 7 i5 k)), .bool (!(mAt 7 i5 k)), .bool (!(mAt 7 i5 k))]), (fun φ39 xs39 => [[((φ6 0), .cells #[.bool ib5, .pointer ip5, .int .u64 ((eb5 : Nat) : Int), .pointer ep5] 64), ((φ6 1), .cells #[.pointer (some ⟨ki5, 0, none⟩), .pointer (some ⟨ke5, 0, none⟩)] 67), ((φ9 0), .cells #[.bool ib5, .pointer ip5, .int .u64 ((b8 : Nat) : Int), .pointer p8] 64), ((φ12 0), .cells #[.pointer (some ⟨ki11, 0, none⟩), .pointer (some ⟨ke11, 0, none⟩)] 67)]]), (fun φ39 xs39 => [[default, default, default, default, default, default, default, default, default, default, default, default, default, default, default, default, default, default, default, default, default, default, default, default, default, default, default]]), [], [1, 1, 6, 6, 1, 1, 6, 6, 5, 1, 1, 1, 6, 6, 1, 1, 6, 6, 5, 1, 1, 1, 6, 6, 1, 1, 1]⟩ (fun j => ([MP.any, MP.any, MP.any, MP.any, MP.any, MP.any, MP.any, MP.any, MP.any, MP.any, MP.any, MP.any, MP.any, MP.any, MP.any, MP.any, MP.any, MP.any, MP.any, MP.any, MP.any, MP.any, MP.any, MP.any, MP.any, MP.any, MP.any] : List MP).getD j MP.any) [] [8, 18] [2, 3, 6, 7, 12, 13, 16, 17, 22, 23] (fun φ39 xs39 => []) (fun φ39 xs39 => [(74, .slice (some ⟨(xs30 3).n 0, 0, none⟩) 128 ((xs30 3).n 1)), (75, .int .i64 ((k : Nat) : Int)), (76, .pointer (some ⟨(xs30 3).n 0, k, none⟩)), (77, .int .u64 ((hAt 7 e5 k : Nat) : Int)), (78, .slice (some ⟨(xs30 7).n 0, 0, none⟩) 128 ((xs30 7).n 1)), (79, .int .i64 ((k : Nat) : Int)), (80, .pointer (some ⟨(xs30 7).n 0, k, none⟩)), (81, .int .u64 ((hAt 7 (tickD i5 e5).1 k : Nat) : Int)), (82, .bool false), (83, .bool false), (84, .slice (some ⟨(xs30 3).n 0, 0, none⟩) 128 ((xs30 3).n 1)), (85, .int .i64 ((k : Nat) : Int)), (86, .pointer (some ⟨(xs30 3).n 0, k, none⟩)), (87, .int .u64 ((hAt 7 e5 k : Nat) : Int)), (88, .slice (some ⟨(xs30 7).n 0, 0, none⟩) 128 ((xs30 7).n 1)), (89, .int .i64 ((k : Nat) : Int)), (90, .pointer (some ⟨(xs30 7).n 0, k, none⟩)), (91, .int .u64 ((hAt 7 (tickD i5 e5).1 k : Nat) : Int)), (92, .bool true), (93, .bool true), (94, .slice (some ⟨(xs30 11).n 0, 0, none⟩) 128 ((xs30 11).n 1)), (95, .int .i64 ((k : Nat) : Int)), (96, .pointer (some ⟨(xs30 11).n 0, k, none⟩)), (97, .bool (mAt 7 i5 k)), (98, .bool (!(mAt 7 i5 k))), (99, .bool (!(mAt 7 i5 k))), (100, .bool (!(mAt 7 i5 k)))]) (fun φ39 xs39 => [((φ6 0), .cells #[.bool ib5, .pointer ip5, .int .u64 ((eb5 : Nat) : Int), .pointer ep5] 64), ((φ6 1), .cells #[.pointer (some ⟨ki5, 0, none⟩), .pointer (some ⟨ke5, 0, none⟩)] 67), ((φ9 0), .cells #[.bool ib5, .pointer ip5, .int .u64 ((b8 : Nat) : Int), .pointer p8] 64), ((φ12 0), .cells #[.pointer (some ⟨ki11, 0, none⟩), .pointer (some ⟨ke11, 0, none⟩)] 67)]) s trivial (by kernel_rfl) (by kernel_rfl) (fun _ _ => by kernel_rfl) (fun _ _ => by kernel_rfl) ⟨fun _ _ => by kernel_rfl, fun _ _ => by kernel_rfl, fun _ _ => by kernel_rfl, fun _ _ => by kernel_rfl⟩ (fun _ _ _ => by kernel_rfl) (fun _ _ => by kernel_rfl) (fun _ _ => by kernel_rfl) (fun _ _ => by kernel_rfl) (fun _ _ => by kernel_rfl) (fun _ _ => by kernel_rfl) ⟨kcast (A := ∀ (φ39 : Nat → Nat) (xs39 : Xs), (.bool (decide (((hAt 7 e5 k : Nat) : Int) > ((hAt 7 (tickD i5 e5).1 k : Nat) : Int))) : Value) = .bool false) (by kernel_rfl) (fun φ39 xs39 => congrArg Value.bool ((nat_gtr (a := (hAt 7 e5 k)) (b := (hAt 7 (tickD i5 e5).1 k))).trans (hc37))), ⟨kcast (A := ∀ (φ39 : Nat → Nat) (xs39 : Xs), (.bool (((hAt 7 e5 k : Nat) : Int) != ((hAt 7 (tickD i5 e5).1 k : Nat) : Int)) : Value) = .bool true) (by kernel_rfl) (fun φ39 xs39 => congrArg Value.bool ((nat_neq (a := (hAt 7 e5 k)) (b := (hAt 7 (tickD i5 e5).1 k))).trans (hc38))), trivial⟩⟩ ⟨kcast (A := ∀ (φ39 : Nat → Nat) (xs39 : Xs) (J : IM) (w : World), I33.Le J → J.Sub w → ((Instr.indexAt 37 (.slice (some ⟨(xs30 3).n 0, 0, none⟩) 128 ((xs30 3).n 1)) (.int .i64 ((k : Nat) : Int))) : Sem Value).run Tryd.prog w = .ok (.pointer (some ⟨(xs30 3).n 0, k, none⟩)) w) (by kernel_rfl) (fun φ39 xs39 J w hJ hS => run_idx37 (of_decide_eq_true hc35)), ⟨kcast (A := ∀ (φ39 : Nat → Nat) (xs39 : Xs) (J : IM) (w : World), I33.Le J → J.Sub w → ((Instr.loadAt 24 (.pointer (some ⟨(xs30 3).n 0, k, none⟩))) : Sem Value).run Tryd.prog w = .ok (.int .u64 ((hAt 7 e5 k : Nat) : Int)) w) (by kernel_rfl) (fun φ39 xs39 J w hJ hS => run_load24 hS (VS.mono hJ h30_3_0) (h7 (of_decide_eq_true hc35))), ⟨kcast (A := ∀ (φ39 : Nat → Nat) (xs39 : Xs) (J : IM) (w : World), I33.Le J → J.Sub w → ((Instr.indexAt 37 (.slice (some ⟨(xs30 7).n 0, 0, none⟩) 128 ((xs30 7).n 1)) (.int .i64 ((k : Nat) : Int))) : Sem Value).run Tryd.prog w = .ok (.pointer (some ⟨(xs30 7).n 0, k, none⟩)) w) (by kernel_rfl) (fun φ39 xs39 J w hJ hS => run_idx37 (of_decide_eq_true hc35)), ⟨kcast (A := ∀ (φ39 : Nat → Nat) (xs39 : Xs) (J : IM) (w : World), I33.Le J → J.Sub w → ((Instr.loadAt 24 (.pointer (some ⟨(xs30 7).n 0, k, none⟩))) : Sem Value).run Tryd.prog w = .ok (.int .u64 ((hAt 7 (tickD i5 e5).1 k : Nat) : Int)) w) (by kernel_rfl) (fun φ39 xs39 J w hJ hS => run_load24 hS (VS.mono hJ h30_7_0) (h7 (of_decide_eq_true hc35))), ⟨kcast (A := ∀ (φ39 : Nat → Nat) (xs39 : Xs) (J : IM) (w : World), I33.Le J → J.Sub w → ((Instr.indexAt 37 (.slice (some ⟨(xs30 3).n 0, 0, none⟩) 128 ((xs30 3).n 1)) (.int .i64 ((k : Nat) : Int))) : Sem Value).run Tryd.prog w = .ok (.pointer (some ⟨(xs30 3).n 0, k, none⟩)) w) (by kernel_rfl) (fun φ39 xs39 J w hJ hS => run_idx37 (of_decide_eq_true hc35)), ⟨kcast (A := ∀ (φ39 : Nat → Nat) (xs39 : Xs) (J : IM) (w : World), I33.Le J → J.Sub w → ((Instr.loadAt 24 (.pointer (some ⟨(xs30 3).n 0, k, none⟩))) : Sem Value).run Tryd.prog w = .ok (.int .u64 ((hAt 7 e5 k : Nat) : Int)) w) (by kernel_rfl) (fun φ39 xs39 J w hJ hS => run_load24 hS (VS.mono hJ h30_3_0) (h7 (of_decide_eq_true hc35))), ⟨kcast (A := ∀ (φ39 : Nat → Nat) (xs39 : Xs) (J : IM) (w : World), I33.Le J → J.Sub w → ((Instr.indexAt 37 (.slice (some ⟨(xs30 7).n 0, 0, none⟩) 128 ((xs30 7).n 1)) (.int .i64 ((k : Nat) : Int))) : Sem Value).run Tryd.prog w = .ok (.pointer (some ⟨(xs30 7).n 0, k, none⟩)) w) (by kernel_rfl) (fun φ39 xs39 J w hJ hS => run_idx37 (of_decide_eq_true hc35)), ⟨kcast (A := ∀ (φ39 : Nat → Nat) (xs39 : Xs) (J : IM) (w : World), I33.Le J → J.Sub w → ((Instr.loadAt 24 (.pointer (some ⟨(xs30 7).n 0, k, none⟩))) : Sem Value).run Tryd.prog w = .ok (.int .u64 ((hAt 7 (tickD i5 e5).1 k : Nat) : Int)) w) (by kernel_rfl) (fun φ39 xs39 J w hJ hS => run_load24 hS (VS.mono hJ h30_7_0) (h7 (of_decide_eq_true hc35))), ⟨kcast (A := ∀ (φ39 : Nat → Nat) (xs39 : Xs) (J : IM) (w : World), I33.Le J → J.Sub w → ((Instr.indexAt 76 (.slice (some ⟨(xs30 11).n 0, 0, none⟩) 128 ((xs30 11).n 1)) (.int .i64 ((k : Nat) : Int))) : Sem Value).run Tryd.prog w = .ok (.pointer (some ⟨(xs30 11).n 0, k, none⟩)) w) (by kernel_rfl) (fun φ39 xs39 J w hJ hS => run_idx76 (of_decide_eq_true hc35)), ⟨kcast (A := ∀ (φ39 : Nat → Nat) (xs39 : Xs) (J : IM) (w : World), I33.Le J → J.Sub w → ((Instr.loadAt 4 (.pointer (some ⟨(xs30 11).n 0, k, none⟩))) : Sem Value).run Tryd.prog w = .ok (.bool (mAt 7 i5 k)) w) (by kernel_rfl) (fun φ39 xs39 J w hJ hS => run_load4 hS (VS.mono hJ h30_11_0) (m7 (of_decide_eq_true hc35))), trivial⟩⟩⟩⟩⟩⟩⟩⟩⟩⟩ trivial ?k39
              case k39 =>
                rintro φ39 xs39 I39 w39 le39 s 
                replace hT := Tab.mono le39 hT
                replace hp := BSl.mono le39 hp
                replace hq := BSl.mono le39 hq
                replace h5_2 := TRep.mono le39 h5_2
                replace h5_3 := ERep.mono le39 h5_3
                replace h5_4 := RT.mono le39 h5_4
                replace h5_5 := RE.mono le39 h5_5
                replace h8_0 := ERep.mono le39 h8_0
                replace h11_0 := RT.mono le39 h11_0
                replace h11_1 := RE.mono le39 h11_1
                replace h30_3_0 := VS.mono le39 h30_3_0
                replace h30_7_0 := VS.mono le39 h30_7_0
                replace h30_11_0 := VS.mono le39 h30_11_0
                replace hle32 := leMono le39 hle32
                rcases Bool.eq_false_or_eq_true (mAt 7 i5 k) with hc40 | hc40
                ·
                  rw [hc40]
                  refine cond_false_rule (b := false) (by kernel_rfl) rfl ?_
                  refine wp_skip ?_
                  refine region_rule ?_
                  refine ops_rule (C := []) [((φ6 0), .cells #[.bool ib5, .pointer ip5, .int .u64 ((eb5 : Nat) : Int), .pointer ep5] 64), ((φ6 1), .cells #[.pointer (some ⟨ki5, 0, none⟩), .pointer (some ⟨ke5, 0, none⟩)] 67), ((φ9 0), .cells #[.bool ib5, .pointer ip5, .int .u64 ((b8 : Nat) : Int), .pointer p8] 64), ((φ12 0), .cells #[.pointer (some ⟨ki11, 0, none⟩), .pointer (some ⟨ke11, 0, none⟩)] 67)] [] 2 [] 0 (fun φ41 => [(71, .int .i64 (IntKind.wrap .i64 (((k : Nat) : Int) + ((1 : Nat) : Int)))), (101, .int .i64 (IntKind.wrap .i64 (((k : Nat) : Int) + ((1 : Nat) : Int))))]) (fun φ41 => [((φ6 0), .cells #[.bool ib5, .pointer ip5, .int .u64 ((eb5 : Nat) : Int), .pointer ep5] 64), ((φ6 1), .cells #[.pointer (some ⟨ki5, 0, none⟩), .pointer (some ⟨ke5, 0, none⟩)] 67), ((φ9 0), .cells #[.bool ib5, .pointer ip5, .int .u64 ((b8 : Nat) : Int), .pointer p8] 64), ((φ12 0), .cells #[.pointer (some ⟨ki11, 0, none⟩), .pointer (some ⟨ke11, 0, none⟩)] 67)]) (fun φ41 => []) s trivial (fun φ41 => by kernel_rfl) ?_
                  intro φ41 w41 s
                  rw [nat_addI (a := k) (b := 1) (by omega)]
                  refine ops_done (by kernel_rfl) ?_
                  have hk9 := (of_decide_eq_true hc35)
                  exact ⟨⟨m - 1, k + 1, _, _, _, by omega, rfl, s, (List.Sublist.cons₂ _ (List.Sublist.cons₂ _ (List.Sublist.cons₂ _ (List.Sublist.cons₂ _ List.Sublist.slnil)))), by kernel_rfl, hle32, by omega⟩⟩
                ·
                  exact absurd (((tickD_yes h5_0.1 h5_1.1 h5_0.2 h5_1.2.1 (by have := h5_1.2.2; omega) (by have := of_decide_eq_false hc19; omega)).1 k).2 (of_decide_eq_true hc38)) (by rw [hc40]; simp)
            ·
              refine draw_rule (C := []) ⟨(fun φ42 xs42 => [.look 0 [] [], .look 0 [] [], .ran (Instr.indexAt 37 (.slice (some ⟨(xs30 3).n 0, 0, none⟩) 128 ((xs30 3).n 1)) (.int .i64 ((k : Nat) : Int))), .ran (Instr.loadAt 24 (.pointer (some ⟨(xs30 3).n 0, k, none⟩))), .look 0 [] [], .look 0 [] [], .ran (Instr.indexAt 37 (.slice (some ⟨(xs30 7).n 0, 0, none⟩) 128 ((xs30 7).n 1)) (.int .i64 ((k : Nat) : Int))), .ran (Instr.loadAt 24 (.pointer (some ⟨(xs30 7).n 0, k, none⟩))), .sub 0 [] [] (.bool (decide (((hAt 7 e5 k : Nat) : Int) > ((hAt 7 (tickD i5 e5).1 k : Nat) : Int)))), .look 0 [] [], .look 0 [] [], .look 0 [] [], .ran (Instr.indexAt 37 (.slice (some ⟨(xs30 3).n 0, 0, none⟩) 128 ((xs30 3).n 1)) (.int .i64 ((k : Nat) : Int))), .ran (Instr.loadAt 24 (.pointer (some ⟨(xs30 3).n 0, k, none⟩))), .look 0 [] [], .look 0 [] [], .ran (Instr.indexAt 37 (.slice (some ⟨(xs30 7).n 0, 0, none⟩) 128 ((xs30 7).n 1)) (.int .i64 ((k : Nat) : Int))), .ran (Instr.loadAt 24 (.pointer (some ⟨(xs30 7).n 0, k, none⟩))), .sub 0 [] [] (.bool (((hAt 7 e5 k : Nat) : Int) != ((hAt 7 (tickD i5 e5).1 k : Nat) : Int))), .look 0 [] [], .skip, .skip, .skip, .skip, .skip, .look 0 [] [], .look 0 [] []]), (fun φ42 xs42 => [.slice (some ⟨(xs30 3).n 0, 0, none⟩) 128 ((xs30 3).n 1), .int .i64 ((k : Nat) : Int), .pointer (some ⟨(xs30 3).n 0, k, none⟩), .int .u64 ((hAt 7 e5 k : Nat) : Int), .slice (some ⟨(xs30 7).n 0, 0, none⟩) 128 ((xs30 7).n 1), .int .i64 ((k : Nat) : Int), .pointer (some ⟨(xs30 7).n 0, k, none⟩), .int .u64 ((hAt 7 (tickD i5 e5).1 k : Nat) : Int), .bool false, .bool false, .slice (some ⟨(xs30 3).n 0, 0, none⟩) 128 ((xs30 3).n 1), .int .i64 ((k : Nat) : Int), .pointer (some ⟨(xs30 3).n 0, k, none⟩), .int .u64 ((hAt 7 e5 k : Nat) : Int), .slice (some ⟨(xs30 7).n 0, 0, none⟩) 128 ((xs30 7).n 1), .int .i64 ((k : Nat) : Int), .pointer (some ⟨(xs30 7).n 0, k, none⟩), .int .u64 ((hAt 7 (tickD i5 e5).1 k : Nat) : Int), .bool false, .bool false, undef, undef, undef, undef, undef, .bool false, .bool false]), (fun φ42 xs42 => [[((φ6 0), .cells #[.bool ib5, .pointer ip5, .int .u64 ((eb5 : Nat) : Int), .pointer ep5] 64), ((φ6 1), .cells #[.pointer (some ⟨ki5, 0, none⟩), .pointer (some ⟨ke5, 0, none⟩)] 67), ((φ9 0), .cells #[.bool ib5, .pointer ip5, .int .u64 ((b8 : Nat) : Int), .pointer p8] 64), ((φ12 0), .cells #[.pointer (some ⟨ki11, 0, none⟩), .pointer (some ⟨ke11, 0, none⟩)] 67)]]), (fun φ42 xs42 => [[default, default, default, default, default, default, default, default, default, default, default, default, default, default, default, default, default, default, default, default, default, default, default, default, default, default, default]]), [], [1, 1, 6, 6, 1, 1, 6, 6, 5, 1, 1, 1, 6, 6, 1, 1, 6, 6, 5, 1, 0, 0, 0, 0, 0, 1, 1]⟩ (fun j => ([MP.any, MP.any, MP.any, MP.any, MP.any, MP.any, MP.any, MP.any, MP.any, MP.any, MP.any, MP.any, MP.any, MP.any, MP.any, MP.any, MP.any, MP.any, MP.any, MP.any, MP.any, MP.any, MP.any, MP.any, MP.any, MP.any, MP.any] : List MP).getD j MP.any) [] [8, 18] [2, 3, 6, 7, 12, 13, 16, 17] (fun φ42 xs42 => []) (fun φ42 xs42 => [(74, .slice (some ⟨(xs30 3).n 0, 0, none⟩) 128 ((xs30 3).n 1)), (75, .int .i64 ((k : Nat) : Int)), (76, .pointer (some ⟨(xs30 3).n 0, k, none⟩)), (77, .int .u64 ((hAt 7 e5 k : Nat) : Int)), (78, .slice (some ⟨(xs30 7).n 0, 0, none⟩) 128 ((xs30 7).n 1)), (79, .int .i64 ((k : Nat) : Int)), (80, .pointer (some ⟨(xs30 7).n 0, k, none⟩)), (81, .int .u64 ((hAt 7 (tickD i5 e5).1 k : Nat) : Int)), (82, .bool false), (83, .bool false), (84, .slice (some ⟨(xs30 3).n 0, 0, none⟩) 128 ((xs30 3).n 1)), (85, .int .i64 ((k : Nat) : Int)), (86, .pointer (some ⟨(xs30 3).n 0, k, none⟩)), (87, .int .u64 ((hAt 7 e5 k : Nat) : Int)), (88, .slice (some ⟨(xs30 7).n 0, 0, none⟩) 128 ((xs30 7).n 1)), (89, .int .i64 ((k : Nat) : Int)), (90, .pointer (some ⟨(xs30 7).n 0, k, none⟩)), (91, .int .u64 ((hAt 7 (tickD i5 e5).1 k : Nat) : Int)), (92, .bool false), (93, .bool false), (94, undef), (95, undef), (96, undef), (97, undef), (98, undef), (99, .bool false), (100, .bool false)]) (fun φ42 xs42 => [((φ6 0), .cells #[.bool ib5, .pointer ip5, .int .u64 ((eb5 : Nat) : Int), .pointer ep5] 64), ((φ6 1), .cells #[.pointer (some ⟨ki5, 0, none⟩), .pointer (some ⟨ke5, 0, none⟩)] 67), ((φ9 0), .cells #[.bool ib5, .pointer ip5, .int .u64 ((b8 : Nat) : Int), .pointer p8] 64), ((φ12 0), .cells #[.pointer (some ⟨ki11, 0, none⟩), .pointer (some ⟨ke11, 0, none⟩)] 67)]) s trivial (by kernel_rfl) (by kernel_rfl) (fun _ _ => by kernel_rfl) (fun _ _ => by kernel_rfl) ⟨fun _ _ => by kernel_rfl, fun _ _ => by kernel_rfl, fun _ _ => by kernel_rfl, fun _ _ => by kernel_rfl⟩ (fun _ _ _ => by kernel_rfl) (fun _ _ => by kernel_rfl) (fun _ _ => by kernel_rfl) (fun _ _ => by kernel_rfl) (fun _ _ => by kernel_rfl) (fun _ _ => by kernel_rfl) ⟨kcast (A := ∀ (φ42 : Nat → Nat) (xs42 : Xs), (.bool (decide (((hAt 7 e5 k : Nat) : Int) > ((hAt 7 (tickD i5 e5).1 k : Nat) : Int))) : Value) = .bool false) (by kernel_rfl) (fun φ42 xs42 => congrArg Value.bool ((nat_gtr (a := (hAt 7 e5 k)) (b := (hAt 7 (tickD i5 e5).1 k))).trans (hc37))), ⟨kcast (A := ∀ (φ42 : Nat → Nat) (xs42 : Xs), (.bool (((hAt 7 e5 k : Nat) : Int) != ((hAt 7 (tickD i5 e5).1 k : Nat) : Int)) : Value) = .bool false) (by kernel_rfl) (fun φ42 xs42 => congrArg Value.bool ((nat_neq (a := (hAt 7 e5 k)) (b := (hAt 7 (tickD i5 e5).1 k))).trans (hc38))), trivial⟩⟩ ⟨kcast (A := ∀ (φ42 : Nat → Nat) (xs42 : Xs) (J : IM) (w : World), I33.Le J → J.Sub w → ((Instr.indexAt 37 (.slice (some ⟨(xs30 3).n 0, 0, none⟩) 128 ((xs30 3).n 1)) (.int .i64 ((k : Nat) : Int))) : Sem Value).run Tryd.prog w = .ok (.pointer (some ⟨(xs30 3).n 0, k, none⟩)) w) (by kernel_rfl) (fun φ42 xs42 J w hJ hS => run_idx37 (of_decide_eq_true hc35)), ⟨kcast (A := ∀ (φ42 : Nat → Nat) (xs42 : Xs) (J : IM) (w : World), I33.Le J → J.Sub w → ((Instr.loadAt 24 (.pointer (some ⟨(xs30 3).n 0, k, none⟩))) : Sem Value).run Tryd.prog w = .ok (.int .u64 ((hAt 7 e5 k : Nat) : Int)) w) (by kernel_rfl) (fun φ42 xs42 J w hJ hS => run_load24 hS (VS.mono hJ h30_3_0) (h7 (of_decide_eq_true hc35))), ⟨kcast (A := ∀ (φ42 : Nat → Nat) (xs42 : Xs) (J : IM) (w : World), I33.Le J → J.Sub w → ((Instr.indexAt 37 (.slice (some ⟨(xs30 7).n 0, 0, none⟩) 128 ((xs30 7).n 1)) (.int .i64 ((k : Nat) : Int))) : Sem Value).run Tryd.prog w = .ok (.pointer (some ⟨(xs30 7).n 0, k, none⟩)) w) (by kernel_rfl) (fun φ42 xs42 J w hJ hS => run_idx37 (of_decide_eq_true hc35)), ⟨kcast (A := ∀ (φ42 : Nat → Nat) (xs42 : Xs) (J : IM) (w : World), I33.Le J → J.Sub w → ((Instr.loadAt 24 (.pointer (some ⟨(xs30 7).n 0, k, none⟩))) : Sem Value).run Tryd.prog w = .ok (.int .u64 ((hAt 7 (tickD i5 e5).1 k : Nat) : Int)) w) (by kernel_rfl) (fun φ42 xs42 J w hJ hS => run_load24 hS (VS.mono hJ h30_7_0) (h7 (of_decide_eq_true hc35))), ⟨kcast (A := ∀ (φ42 : Nat → Nat) (xs42 : Xs) (J : IM) (w : World), I33.Le J → J.Sub w → ((Instr.indexAt 37 (.slice (some ⟨(xs30 3).n 0, 0, none⟩) 128 ((xs30 3).n 1)) (.int .i64 ((k : Nat) : Int))) : Sem Value).run Tryd.prog w = .ok (.pointer (some ⟨(xs30 3).n 0, k, none⟩)) w) (by kernel_rfl) (fun φ42 xs42 J w hJ hS => run_idx37 (of_decide_eq_true hc35)), ⟨kcast (A := ∀ (φ42 : Nat → Nat) (xs42 : Xs) (J : IM) (w : World), I33.Le J → J.Sub w → ((Instr.loadAt 24 (.pointer (some ⟨(xs30 3).n 0, k, none⟩))) : Sem Value).run Tryd.prog w = .ok (.int .u64 ((hAt 7 e5 k : Nat) : Int)) w) (by kernel_rfl) (fun φ42 xs42 J w hJ hS => run_load24 hS (VS.mono hJ h30_3_0) (h7 (of_decide_eq_true hc35))), ⟨kcast (A := ∀ (φ42 : Nat → Nat) (xs42 : Xs) (J : IM) (w : World), I33.Le J → J.Sub w → ((Instr.indexAt 37 (.slice (some ⟨(xs30 7).n 0, 0, none⟩) 128 ((xs30 7).n 1)) (.int .i64 ((k : Nat) : Int))) : Sem Value).run Tryd.prog w = .ok (.pointer (some ⟨(xs30 7).n 0, k, none⟩)) w) (by kernel_rfl) (fun φ42 xs42 J w hJ hS => run_idx37 (of_decide_eq_true hc35)), ⟨kcast (A := ∀ (φ42 : Nat → Nat) (xs42 : Xs) (J : IM) (w : World), I33.Le J → J.Sub w → ((Instr.loadAt 24 (.pointer (some ⟨(xs30 7).n 0, k, none⟩))) : Sem Value).run Tryd.prog w = .ok (.int .u64 ((hAt 7 (tickD i5 e5).1 k : Nat) : Int)) w) (by kernel_rfl) (fun φ42 xs42 J w hJ hS => run_load24 hS (VS.mono hJ h30_7_0) (h7 (of_decide_eq_true hc35))), trivial⟩⟩⟩⟩⟩⟩⟩⟩ trivial ?k42
              case k42 =>
                rintro φ42 xs42 I42 w42 le42 s 
                replace hT := Tab.mono le42 hT
                replace hp := BSl.mono le42 hp
                replace hq := BSl.mono le42 hq
                replace h5_2 := TRep.mono le42 h5_2
                replace h5_3 := ERep.mono le42 h5_3
                replace h5_4 := RT.mono le42 h5_4
                replace h5_5 := RE.mono le42 h5_5
                replace h8_0 := ERep.mono le42 h8_0
                replace h11_0 := RT.mono le42 h11_0
                replace h11_1 := RE.mono le42 h11_1
                replace h30_3_0 := VS.mono le42 h30_3_0
                replace h30_7_0 := VS.mono le42 h30_7_0
                replace h30_11_0 := VS.mono le42 h30_11_0
                replace hle32 := leMono le42 hle32
                refine cond_false_rule (b := false) (by kernel_rfl) rfl ?_
                refine wp_skip ?_
                refine region_rule ?_
                refine ops_rule (C := []) [((φ6 0), .cells #[.bool ib5, .pointer ip5, .int .u64 ((eb5 : Nat) : Int), .pointer ep5] 64), ((φ6 1), .cells #[.pointer (some ⟨ki5, 0, none⟩), .pointer (some ⟨ke5, 0, none⟩)] 67), ((φ9 0), .cells #[.bool ib5, .pointer ip5, .int .u64 ((b8 : Nat) : Int), .pointer p8] 64), ((φ12 0), .cells #[.pointer (some ⟨ki11, 0, none⟩), .pointer (some ⟨ke11, 0, none⟩)] 67)] [] 2 [] 0 (fun φ43 => [(71, .int .i64 (IntKind.wrap .i64 (((k : Nat) : Int) + ((1 : Nat) : Int)))), (101, .int .i64 (IntKind.wrap .i64 (((k : Nat) : Int) + ((1 : Nat) : Int))))]) (fun φ43 => [((φ6 0), .cells #[.bool ib5, .pointer ip5, .int .u64 ((eb5 : Nat) : Int), .pointer ep5] 64), ((φ6 1), .cells #[.pointer (some ⟨ki5, 0, none⟩), .pointer (some ⟨ke5, 0, none⟩)] 67), ((φ9 0), .cells #[.bool ib5, .pointer ip5, .int .u64 ((b8 : Nat) : Int), .pointer p8] 64), ((φ12 0), .cells #[.pointer (some ⟨ki11, 0, none⟩), .pointer (some ⟨ke11, 0, none⟩)] 67)]) (fun φ43 => []) s trivial (fun φ43 => by kernel_rfl) ?_
                intro φ43 w43 s
                rw [nat_addI (a := k) (b := 1) (by omega)]
                refine ops_done (by kernel_rfl) ?_
                have hk9 := (of_decide_eq_true hc35)
                exact ⟨⟨m - 1, k + 1, _, _, _, by omega, rfl, s, (List.Sublist.cons₂ _ (List.Sublist.cons₂ _ (List.Sublist.cons₂ _ (List.Sublist.cons₂ _ List.Sublist.slnil)))), by kernel_rfl, hle32, by omega⟩⟩
        ·
          rw [hc35]
          refine cond_false_rule (b := false) (by kernel_rfl) rfl ?_
          refine wp_exit ?_
          refine wp_seq ?_
          refine region_rule ?_
          refine ops_rule (C := []) [((φ6 0), .cells #[.bool ib5, .pointer ip5, .int .u64 ((eb5 : Nat) : Int), .pointer ep5] 64), ((φ6 1), .cells #[.pointer (some ⟨ki5, 0, none⟩), .pointer (some ⟨ke5, 0, none⟩)] 67), ((φ9 0), .cells #[.bool ib5, .pointer ip5, .int .u64 ((b8 : Nat) : Int), .pointer p8] 64), ((φ12 0), .cells #[.pointer (some ⟨ki11, 0, none⟩), .pointer (some ⟨ke11, 0, none⟩)] 67)] [] 2 [.o 0, .o 0, .o 0, .o 0, .o 2, .o 2, .o 2, .o 2] 0 (fun φ44 => [(103, .agg #[.bool ib5, .pointer ip5, .int .u64 ((b8 : Nat) : Int), .pointer p8]), (102, .agg #[.bool ib5, .pointer ip5, .int .u64 ((eb5 : Nat) : Int), .pointer ep5])]) (fun φ44 => [((φ6 0), .cells #[.bool ib5, .pointer ip5, .int .u64 ((eb5 : Nat) : Int), .pointer ep5] 64), ((φ6 1), .cells #[.pointer (some ⟨ki5, 0, none⟩), .pointer (some ⟨ke5, 0, none⟩)] 67), ((φ9 0), .cells #[.bool ib5, .pointer ip5, .int .u64 ((b8 : Nat) : Int), .pointer p8] 64), ((φ12 0), .cells #[.pointer (some ⟨ki11, 0, none⟩), .pointer (some ⟨ke11, 0, none⟩)] 67)]) (fun φ44 => [(φ6 0), (φ6 0), (φ6 0), (φ6 0), (φ9 0), (φ9 0), (φ9 0), (φ9 0)]) s trivial (fun φ44 => by kernel_rfl) ?_
          intro φ44 w44 s
          refine call_rule (some 104) s (sleqT_c h5_2 h5_2 h5_3 h8_0 (tickD_yes h5_0.1 h5_1.1 h5_0.2 h5_1.2.1 (by have := h5_1.2.2; omega) (by have := of_decide_eq_false hc19; omega)).2.1 (by have q1 := (tickD_b h5_0.1 h5_1.1 h5_0.2 h5_1.2.1 (by have := h5_1.2.2; omega)); have q2 := h5_1.2; omega) (by have q1 := (tickD_b h5_0.1 h5_1.1 h5_0.2 h5_1.2.1 (by have := h5_1.2.2; omega)); have q2 := h5_1.2; omega) (by have q1 := (tickD_b h5_0.1 h5_1.1 h5_0.2 h5_1.2.1 (by have := h5_1.2.2; omega)); have q2 := h5_1.2; omega) (by have q1 := (tickD_b h5_0.1 h5_1.1 h5_0.2 h5_1.2.1 (by have := h5_1.2.2; omega)); have q2 := h5_1.2; omega)) (by kernel_rfl) ?_
          intro v45 I45 w45 le45 h45 s
          replace hT := Tab.mono le45 hT
          replace hp := BSl.mono le45 hp
          replace hq := BSl.mono le45 hq
          replace h5_2 := TRep.mono le45 h5_2
          replace h5_3 := ERep.mono le45 h5_3
          replace h5_4 := RT.mono le45 h5_4
          replace h5_5 := RE.mono le45 h5_5
          replace h8_0 := ERep.mono le45 h8_0
          replace h11_0 := RT.mono le45 h11_0
          replace h11_1 := RE.mono le45 h11_1
          replace h30_3_0 := VS.mono le45 h30_3_0
          replace h30_7_0 := VS.mono le45 h30_7_0
          replace h30_11_0 := VS.mono le45 h30_11_0
          replace hle32 := leMono le45 hle32
          obtain rfl := h45
          refine ops_rule (C := []) [((φ6 0), .cells #[.bool ib5, .pointer ip5, .int .u64 ((eb5 : Nat) : Int), .pointer ep5] 64), ((φ6 1), .cells #[.pointer (some ⟨ki5, 0, none⟩), .pointer (some ⟨ke5, 0, none⟩)] 67), ((φ9 0), .cells #[.bool ib5, .pointer ip5, .int .u64 ((b8 : Nat) : Int), .pointer p8] 64), ((φ12 0), .cells #[.pointer (some ⟨ki11, 0, none⟩), .pointer (some ⟨ke11, 0, none⟩)] 67)] [] 3 [.o 2, .o 2, .o 2, .o 2, .o 0, .o 0, .o 0, .o 0] 0 (fun φ46 => [(107, .agg #[.bool ib5, .pointer ip5, .int .u64 ((eb5 : Nat) : Int), .pointer ep5]), (106, .agg #[.bool ib5, .pointer ip5, .int .u64 ((b8 : Nat) : Int), .pointer p8]), (105, .bool true)]) (fun φ46 => [((φ6 0), .cells #[.bool ib5, .pointer ip5, .int .u64 ((eb5 : Nat) : Int), .pointer ep5] 64), ((φ6 1), .cells #[.pointer (some ⟨ki5, 0, none⟩), .pointer (some ⟨ke5, 0, none⟩)] 67), ((φ9 0), .cells #[.bool ib5, .pointer ip5, .int .u64 ((b8 : Nat) : Int), .pointer p8] 64), ((φ12 0), .cells #[.pointer (some ⟨ki11, 0, none⟩), .pointer (some ⟨ke11, 0, none⟩)] 67)]) (fun φ46 => [(φ9 0), (φ9 0), (φ9 0), (φ9 0), (φ6 0), (φ6 0), (φ6 0), (φ6 0)]) s trivial (fun φ46 => by kernel_rfl) ?_
          intro φ46 w46 s
          refine call_rule (some 108) s (sleqT_c h5_2 h5_2 h8_0 h5_3 (tickD_yes h5_0.1 h5_1.1 h5_0.2 h5_1.2.1 (by have := h5_1.2.2; omega) (by have := of_decide_eq_false hc19; omega)).2.2 (by have q1 := (tickD_b h5_0.1 h5_1.1 h5_0.2 h5_1.2.1 (by have := h5_1.2.2; omega)); have q2 := h5_1.2; omega) (by have q1 := (tickD_b h5_0.1 h5_1.1 h5_0.2 h5_1.2.1 (by have := h5_1.2.2; omega)); have q2 := h5_1.2; omega) (by have q1 := (tickD_b h5_0.1 h5_1.1 h5_0.2 h5_1.2.1 (by have := h5_1.2.2; omega)); have q2 := h5_1.2; omega) (by have q1 := (tickD_b h5_0.1 h5_1.1 h5_0.2 h5_1.2.1 (by have := h5_1.2.2; omega)); have q2 := h5_1.2; omega)) (by kernel_rfl) ?_
          intro v47 I47 w47 le47 h47 s
          replace hT := Tab.mono le47 hT
          replace hp := BSl.mono le47 hp
          replace hq := BSl.mono le47 hq
          replace h5_2 := TRep.mono le47 h5_2
          replace h5_3 := ERep.mono le47 h5_3
          replace h5_4 := RT.mono le47 h5_4
          replace h5_5 := RE.mono le47 h5_5
          replace h8_0 := ERep.mono le47 h8_0
          replace h11_0 := RT.mono le47 h11_0
          replace h11_1 := RE.mono le47 h11_1
          replace h30_3_0 := VS.mono le47 h30_3_0
          replace h30_7_0 := VS.mono le47 h30_7_0
          replace h30_11_0 := VS.mono le47 h30_11_0
          replace hle32 := leMono le47 hle32
          obtain rfl := h47
          refine ops_rule (C := []) [((φ6 0), .cells #[.bool ib5, .pointer ip5, .int .u64 ((eb5 : Nat) : Int), .pointer ep5] 64), ((φ6 1), .cells #[.pointer (some ⟨ki5, 0, none⟩), .pointer (some ⟨ke5, 0, none⟩)] 67), ((φ9 0), .cells #[.bool ib5, .pointer ip5, .int .u64 ((b8 : Nat) : Int), .pointer p8] 64), ((φ12 0), .cells #[.pointer (some ⟨ki11, 0, none⟩), .pointer (some ⟨ke11, 0, none⟩)] 67)] [] 7 [.o 0, .o 0, .o 2, .o 2] 0 (fun φ48 => [(115, .agg #[.bool ib5, .pointer ip5]), (114, .pointer (some ⟨(φ9 0), 0, none⟩)), (113, .agg #[.bool ib5, .pointer ip5]), (112, .pointer (some ⟨(φ6 0), 0, none⟩)), (111, .bool true), (110, .bool true), (109, .bool true)]) (fun φ48 => [((φ6 0), .cells #[.bool ib5, .pointer ip5, .int .u64 ((eb5 : Nat) : Int), .pointer ep5] 64), ((φ6 1), .cells #[.pointer (some ⟨ki5, 0, none⟩), .pointer (some ⟨ke5, 0, none⟩)] 67), ((φ9 0), .cells #[.bool ib5, .pointer ip5, .int .u64 ((b8 : Nat) : Int), .pointer p8] 64), ((φ12 0), .cells #[.pointer (some ⟨ki11, 0, none⟩), .pointer (some ⟨ke11, 0, none⟩)] 67)]) (fun φ48 => [(φ6 0), (φ6 0), (φ9 0), (φ9 0)]) s trivial (fun φ48 => by kernel_rfl) ?_
          intro φ48 w48 s
          refine call_rule (some 116) s (idsameSelf_c h5_2 h5_2) (by kernel_rfl) ?_
          intro v49 I49 w49 le49 h49 s
          replace hT := Tab.mono le49 hT
          replace hp := BSl.mono le49 hp
          replace hq := BSl.mono le49 hq
          replace h5_2 := TRep.mono le49 h5_2
          replace h5_3 := ERep.mono le49 h5_3
          replace h5_4 := RT.mono le49 h5_4
          replace h5_5 := RE.mono le49 h5_5
          replace h8_0 := ERep.mono le49 h8_0
          replace h11_0 := RT.mono le49 h11_0
          replace h11_1 := RE.mono le49 h11_1
          replace h30_3_0 := VS.mono le49 h30_3_0
          replace h30_7_0 := VS.mono le49 h30_7_0
          replace h30_11_0 := VS.mono le49 h30_11_0
          replace hle32 := leMono le49 hle32
          obtain rfl := h49
          refine ops_rule (C := []) [((φ6 0), .cells #[.bool ib5, .pointer ip5, .int .u64 ((eb5 : Nat) : Int), .pointer ep5] 64), ((φ6 1), .cells #[.pointer (some ⟨ki5, 0, none⟩), .pointer (some ⟨ke5, 0, none⟩)] 67), ((φ9 0), .cells #[.bool ib5, .pointer ip5, .int .u64 ((b8 : Nat) : Int), .pointer p8] 64), ((φ12 0), .cells #[.pointer (some ⟨ki11, 0, none⟩), .pointer (some ⟨ke11, 0, none⟩)] 67)] [] 2 [] 0 (fun φ50 => [(4, .bool true), (117, .bool true)]) (fun φ50 => [((φ6 0), .cells #[.bool ib5, .pointer ip5, .int .u64 ((eb5 : Nat) : Int), .pointer ep5] 64), ((φ6 1), .cells #[.pointer (some ⟨ki5, 0, none⟩), .pointer (some ⟨ke5, 0, none⟩)] 67), ((φ9 0), .cells #[.bool ib5, .pointer ip5, .int .u64 ((b8 : Nat) : Int), .pointer p8] 64), ((φ12 0), .cells #[.pointer (some ⟨ki11, 0, none⟩), .pointer (some ⟨ke11, 0, none⟩)] 67)]) (fun φ50 => []) s trivial (fun φ50 => by kernel_rfl) ?_
          intro φ50 w50 s
          refine ops_done (by kernel_rfl) ?_
          refine wp_ret ?_
          refine ret_rule (C := []) [((φ6 0), .cells #[.bool ib5, .pointer ip5, .int .u64 ((eb5 : Nat) : Int), .pointer ep5] 64), ((φ6 1), .cells #[.pointer (some ⟨ki5, 0, none⟩), .pointer (some ⟨ke5, 0, none⟩)] 67), ((φ9 0), .cells #[.bool ib5, .pointer ip5, .int .u64 ((b8 : Nat) : Int), .pointer p8] 64), ((φ12 0), .cells #[.pointer (some ⟨ki11, 0, none⟩), .pointer (some ⟨ke11, 0, none⟩)] 67)] [] (.bool true) [] [] s trivial (by kernel_rfl) ?_
          exact ⟨_, _, _, rfl, s, rfl⟩

end Go.Proofs.YtgdickihjaomjaaDoor
