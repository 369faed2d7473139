/- StampForks. -/
import Derived.Test.YtgdickihjaomjaaDoorP15
set_option linter.all false
set_option maxRecDepth 100000
namespace Go.Proofs.YtgdickihjaomjaaDoor
open Go.RowKit Go.Sep

theorem forkS_c {I : IM} {i : T} {e : E} {ib : Bool} {ip : Option Addr} {eb : Nat} {ep : Option Addr} (hi : TRep I i ib ip) (he : ERep I e eb ep) (hd : i.depth ≤ 15) : Fun Tryd.prog 57 #[stv ib ip eb ep] I (fun v J => ∃ b1 p1 b2 p2 b3 p3, v = .tuple #[stv b1 p1 b3 p3, stv b2 p2 b3 p3, .int .i64 0] ∧ TRep J (cutT i).1 b1 p1 ∧ TRep J (cutT i).2 b2 p2 ∧ ERep J e b3 p3) := by
  have h := fork_c hi he (by omega)
  rw [split_small hd] at h
  exact h
theorem joinCut_c {I : IM} {i : T} {e : E} {ba bb : Bool} {pa pb : Option Addr} {bc bd : Nat} {pc pd : Option Addr} (hA : TRep I (cutT i).1 ba pa) (hB : TRep I (cutT i).2 bb pb) (hC : ERep I e bc pc) (hD : ERep I e bd pd) (hn : i.nf) (hd : i.depth ≤ 15) (hne : e.nf) (hde : e.depth ≤ 16) (hte : e.top ≤ 1048576) : Fun Tryd.prog 59 #[stv ba pa bc pc, stv bb pb bd pd] I (fun v J => ∃ b1 p1 b2 p2, v = .tuple #[stv b1 p1 b2 p2, .int .i64 0] ∧ TRep J i b1 p1 ∧ ERep J e b2 p2) := by
  have hcd := cut_depth i
  have h := joinS_c hA hB hC hD hde hde hte hte (by omega) (by omega)
  rw [sum_cut hn, joinF_self 64 hne (by omega)] at h
  exact h
theorem joinSelf_c {I : IM} {i : T} {e : E} {ba bb : Bool} {pa pb : Option Addr} {bc bd : Nat} {pc pd : Option Addr} (hA : TRep I i ba pa) (hB : TRep I i bb pb) (hC : ERep I e bc pc) (hD : ERep I e bd pd) (hn : i.nf) (hd : i.depth ≤ 15) (hde : e.depth ≤ 16) (hte : e.top ≤ 1048576) : Fun Tryd.prog 59 #[stv ba pa bc pc, stv bb pb bd pd] I (fun v J => ∃ b1 p1 b2 p2, v = .tuple #[stv b1 p1 b2 p2, .int .i64 ((if kindT i = 0 then 0 else 5 : Nat) : Int)] ∧ TRep J (sumT i i).1 b1 p1) := by
  have h := joinS_c hA hB hC hD hde hde hte hte (by omega) (by omega)
  refine h.mono fun v J _ hv => ?_
  obtain ⟨b1, p1, b2, p2, hv, h1, _⟩ := hv
  refine ⟨b1, p1, b2, p2, ?_, h1⟩
  rw [hv, sum_self hn]
  cases i <;> rfl
theorem ssameSelf_c {I : IM} {i : T} {e : E} {ba bb : Bool} {pa pb : Option Addr} {bc bd : Nat} {pc pd : Option Addr} (hA : TRep I i ba pa) (hB : TRep I i bb pb) (hC : ERep I e bc pc) (hD : ERep I e bd pd) (hde : e.depth ≤ 16) (hte : e.top ≤ 1048576) : Fun Tryd.prog 49 #[stv ba pa bc pc, stv bb pb bd pd] I (fun v J => v = .bool true) := by
  refine (ssame_c hA hB hC hD hde hde hte hte).mono fun v J _ h => ?_
  rw [h, same_self, sameE_self (by omega)]; rfl

set_option maxHeartbeats 4000000 in
theorem stampForks_c {I : IM} (hT : Tab I) {p q : List UInt8} {vp vq : Value} (hp : BSl I p vp) (hq : BSl I q vq) : Fun Tryd.prog 11 #[vp, vq] I (fun v J => v = .bool true) := by
  refine enter_rule 95 [(0, vp), (1, vq)] Tryd.func11 rfl (by kernel_rfl) ?_
  intro w s
  refine wp_seq ?_
  refine region_rule ?_
  refine ops_rule (C := []) [] [] 1 [] 0 (fun φ1 => [(4, .bool false)]) (fun φ1 => []) (fun φ1 => []) s trivial (fun φ1 => by kernel_rfl) ?_
  intro φ1 w1 s
  refine ops_done (by kernel_rfl) ?_
  refine wp_seq ?_
  refine wp_seq ?_
  refine region_rule ?_
  refine call_rule (some 16) s (awakeS_c hT) (by kernel_rfl) ?_
  intro v2 I2 w2 le2 h2 s
  replace hT := Tab.mono le2 hT
  replace hp := BSl.mono le2 hp
  replace hq := BSl.mono le2 hq
  obtain rfl := h2
  refine ops_rule (C := []) [] [] 1 [] 0 (fun φ3 => [(17, .bool false)]) (fun φ3 => []) (fun φ3 => []) s trivial (fun φ3 => by kernel_rfl) ?_
  intro φ3 w3 s
  refine ops_done (by kernel_rfl) ?_
  refine cond_false_rule (b := false) (by kernel_rfl) rfl ?_
  refine wp_skip ?_
  refine wp_seq ?_
  refine region_rule ?_
  refine ops_rule (C := []) [] [] 2 [] 0 (fun φ4 => [(20, vq), (19, vp)]) (fun φ4 => []) (fun φ4 => []) s trivial (fun φ4 => by kernel_rfl) ?_
  intro φ4 w4 s
  refine call_rule (some 21) s (made_c hp hq) (by kernel_rfl) ?_
  intro v5 I5 w5 le5 h5 s
  replace hT := Tab.mono le5 hT
  replace hp := BSl.mono le5 hp
  replace hq := BSl.mono le5 hq
  obtain ⟨ib5, ip5, eb5, ep5, ki5, ke5, i5, e5, rfl, h5_0, h5_1, h5_2, h5_3, h5_4, h5_5⟩ := h5
  refine ops_rule (C := []) [] [] 7 [.o 0, .o 0, .o 0, .o 0, .o 1, .o 1] 2 (fun φ6 => [(6, .pointer (some ⟨(φ6 1), 0, none⟩)), (5, .pointer (some ⟨(φ6 0), 0, none⟩)), (23, .agg #[.pointer (some ⟨ki5, 0, none⟩), .pointer (some ⟨ke5, 0, none⟩)]), (22, .agg #[.bool ib5, .pointer ip5, .int .u64 ((eb5 : Nat) : Int), .pointer ep5]), (18, .tuple #[.agg #[.bool ib5, .pointer ip5, .int .u64 ((eb5 : Nat) : Int), .pointer ep5], .agg #[.pointer (some ⟨ki5, 0, none⟩), .pointer (some ⟨ke5, 0, none⟩)]])]) (fun φ6 => [((φ6 0), .cells #[.bool ib5, .pointer ip5, .int .u64 ((eb5 : Nat) : Int), .pointer ep5] 64), ((φ6 1), .cells #[.pointer (some ⟨ki5, 0, none⟩), .pointer (some ⟨ke5, 0, none⟩)] 67)]) (fun φ6 => [(φ6 0), (φ6 0), (φ6 0), (φ6 0), (φ6 1), (φ6 1)]) s trivial (fun φ6 => by kernel_rfl) ?_
  intro φ6 w6 s
  refine ops_done (by kernel_rfl) ?_
  refine wp_seq ?_
  refine region_rule ?_
  refine ops_rule (C := []) [((φ6 0), .cells #[.bool ib5, .pointer ip5, .int .u64 ((eb5 : Nat) : Int), .pointer ep5] 64), ((φ6 1), .cells #[.pointer (some ⟨ki5, 0, none⟩), .pointer (some ⟨ke5, 0, none⟩)] 67)] [] 1 [.o 0, .o 0, .o 0, .o 0] 0 (fun φ7 => [(25, .agg #[.bool ib5, .pointer ip5, .int .u64 ((eb5 : Nat) : Int), .pointer ep5])]) (fun φ7 => [((φ6 0), .cells #[.bool ib5, .pointer ip5, .int .u64 ((eb5 : Nat) : Int), .pointer ep5] 64), ((φ6 1), .cells #[.pointer (some ⟨ki5, 0, none⟩), .pointer (some ⟨ke5, 0, none⟩)] 67)]) (fun φ7 => [(φ6 0), (φ6 0), (φ6 0), (φ6 0)]) s trivial (fun φ7 => by kernel_rfl) ?_
  intro φ7 w7 s
  refine call_rule (some 26) s (forkS_c h5_2 h5_3 (by have := h5_0.2; omega)) (by kernel_rfl) ?_
  intro v8 I8 w8 le8 h8 s
  replace hT := Tab.mono le8 hT
  replace hp := BSl.mono le8 hp
  replace hq := BSl.mono le8 hq
  replace h5_2 := TRep.mono le8 h5_2
  replace h5_3 := ERep.mono le8 h5_3
  replace h5_4 := RT.mono le8 h5_4
  replace h5_5 := RE.mono le8 h5_5
  obtain ⟨b8, p8, b2_8, p2_8, b3_8, p3_8, rfl, h8_0, h8_1, h8_2⟩ := h8
  refine ops_rule (C := []) [((φ6 0), .cells #[.bool ib5, .pointer ip5, .int .u64 ((eb5 : Nat) : Int), .pointer ep5] 64), ((φ6 1), .cells #[.pointer (some ⟨ki5, 0, none⟩), .pointer (some ⟨ke5, 0, none⟩)] 67)] [] 9 [.o 2, .o 2, .o 2, .o 2, .o 3, .o 3, .o 3, .o 3] 2 (fun φ9 => [(9, .int .i64 0), (8, .pointer (some ⟨(φ9 1), 0, none⟩)), (7, .pointer (some ⟨(φ9 0), 0, none⟩)), (29, .int .i64 0), (28, .agg #[.bool b2_8, .pointer p2_8, .int .u64 ((b3_8 : Nat) : Int), .pointer p3_8]), (27, .agg #[.bool b8, .pointer p8, .int .u64 ((b3_8 : Nat) : Int), .pointer p3_8]), (24, .tuple #[.agg #[.bool b8, .pointer p8, .int .u64 ((b3_8 : Nat) : Int), .pointer p3_8], .agg #[.bool b2_8, .pointer p2_8, .int .u64 ((b3_8 : Nat) : Int), .pointer p3_8], .int .i64 0])]) (fun φ9 => [((φ6 0), .cells #[.bool ib5, .pointer ip5, .int .u64 ((eb5 : Nat) : Int), .pointer ep5] 64), ((φ6 1), .cells #[.pointer (some ⟨ki5, 0, none⟩), .pointer (some ⟨ke5, 0, none⟩)] 67), ((φ9 0), .cells #[.bool b8, .pointer p8, .int .u64 ((b3_8 : Nat) : Int), .pointer p3_8] 64), ((φ9 1), .cells #[.bool b2_8, .pointer p2_8, .int .u64 ((b3_8 : Nat) : Int), .pointer p3_8] 64)]) (fun φ9 => [(φ9 0), (φ9 0), (φ9 0), (φ9 0), (φ9 1), (φ9 1), (φ9 1), (φ9 1)]) s trivial (fun φ9 => by kernel_rfl) ?_
  intro φ9 w9 s
  refine ops_done (by kernel_rfl) ?_
  refine wp_seq ?_
  refine region_rule ?_
  refine ops_rule (C := []) [((φ6 0), .cells #[.bool ib5, .pointer ip5, .int .u64 ((eb5 : Nat) : Int), .pointer ep5] 64), ((φ6 1), .cells #[.pointer (some ⟨ki5, 0, none⟩), .pointer (some ⟨ke5, 0, none⟩)] 67), ((φ9 0), .cells #[.bool b8, .pointer p8, .int .u64 ((b3_8 : Nat) : Int), .pointer p3_8] 64), ((φ9 1), .cells #[.bool b2_8, .pointer p2_8, .int .u64 ((b3_8 : Nat) : Int), .pointer p3_8] 64)] [] 2 [.o 1] 0 (fun φ10 => [(32, .pointer (some ⟨ki5, 0, none⟩)), (31, .pointer (some ⟨(φ6 1), 0, none⟩))]) (fun φ10 => [((φ6 0), .cells #[.bool ib5, .pointer ip5, .int .u64 ((eb5 : Nat) : Int), .pointer ep5] 64), ((φ6 1), .cells #[.pointer (some ⟨ki5, 0, none⟩), .pointer (some ⟨ke5, 0, none⟩)] 67), ((φ9 0), .cells #[.bool b8, .pointer p8, .int .u64 ((b3_8 : Nat) : Int), .pointer p3_8] 64), ((φ9 1), .cells #[.bool b2_8, .pointer p2_8, .int .u64 ((b3_8 : Nat) : Int), .pointer p3_8] 64)]) (fun φ10 => [(φ6 1)]) s trivial (fun φ10 => by kernel_rfl) ?_
  intro φ10 w10 s
  refine call_rule (some 33) s (rsplit_c i5 h5_4) (by kernel_rfl) ?_
  intro v11 I11 w11 le11 h11 s
  replace hT := Tab.mono le11 hT
  replace hp := BSl.mono le11 hp
  replace hq := BSl.mono le11 hq
  replace h5_2 := TRep.mono le11 h5_2
  replace h5_3 := ERep.mono le11 h5_3
  replace h5_4 := RT.mono le11 h5_4
  replace h5_5 := RE.mono le11 h5_5
  replace h8_0 := TRep.mono le11 h8_0
  replace h8_1 := TRep.mono le11 h8_1
  replace h8_2 := ERep.mono le11 h8_2
  obtain ⟨k11, k2_11, rfl, h11_0, h11_1⟩ := h11
  refine ops_rule (C := []) [((φ6 0), .cells #[.bool ib5, .pointer ip5, .int .u64 ((eb5 : Nat) : Int), .pointer ep5] 64), ((φ6 1), .cells #[.pointer (some ⟨ki5, 0, none⟩), .pointer (some ⟨ke5, 0, none⟩)] 67), ((φ9 0), .cells #[.bool b8, .pointer p8, .int .u64 ((b3_8 : Nat) : Int), .pointer p3_8] 64), ((φ9 1), .cells #[.bool b2_8, .pointer p2_8, .int .u64 ((b3_8 : Nat) : Int), .pointer p3_8] 64)] [] 5 [] 0 (fun φ12 => [(11, .pointer (some ⟨k2_11, 0, none⟩)), (10, .pointer (some ⟨k11, 0, none⟩)), (35, .pointer (some ⟨k2_11, 0, none⟩)), (34, .pointer (some ⟨k11, 0, none⟩)), (30, .tuple #[.pointer (some ⟨k11, 0, none⟩), .pointer (some ⟨k2_11, 0, none⟩)])]) (fun φ12 => [((φ6 0), .cells #[.bool ib5, .pointer ip5, .int .u64 ((eb5 : Nat) : Int), .pointer ep5] 64), ((φ6 1), .cells #[.pointer (some ⟨ki5, 0, none⟩), .pointer (some ⟨ke5, 0, none⟩)] 67), ((φ9 0), .cells #[.bool b8, .pointer p8, .int .u64 ((b3_8 : Nat) : Int), .pointer p3_8] 64), ((φ9 1), .cells #[.bool b2_8, .pointer p2_8, .int .u64 ((b3_8 : Nat) : Int), .pointer p3_8] 64)]) (fun φ12 => []) s trivial (fun φ12 => by kernel_rfl) ?_
  intro φ12 w12 s
  refine ops_done (by kernel_rfl) ?_
  refine wp_seq ?_
  refine region_rule ?_
  refine ops_rule (C := []) [((φ6 0), .cells #[.bool ib5, .pointer ip5, .int .u64 ((eb5 : Nat) : Int), .pointer ep5] 64), ((φ6 1), .cells #[.pointer (some ⟨ki5, 0, none⟩), .pointer (some ⟨ke5, 0, none⟩)] 67), ((φ9 0), .cells #[.bool b8, .pointer p8, .int .u64 ((b3_8 : Nat) : Int), .pointer p3_8] 64), ((φ9 1), .cells #[.bool b2_8, .pointer p2_8, .int .u64 ((b3_8 : Nat) : Int), .pointer p3_8] 64)] [] 2 [.o 2, .o 2, .o 2, .o 2, .o 3, .o 3, .o 3, .o 3] 0 (fun φ13 => [(38, .agg #[.bool b2_8, .pointer p2_8, .int .u64 ((b3_8 : Nat) : Int), .pointer p3_8]), (37, .agg #[.bool b8, .pointer p8, .int .u64 ((b3_8 : Nat) : Int), .pointer p3_8])]) (fun φ13 => [((φ6 0), .cells #[.bool ib5, .pointer ip5, .int .u64 ((eb5 : Nat) : Int), .pointer ep5] 64), ((φ6 1), .cells #[.pointer (some ⟨ki5, 0, none⟩), .pointer (some ⟨ke5, 0, none⟩)] 67), ((φ9 0), .cells #[.bool b8, .pointer p8, .int .u64 ((b3_8 : Nat) : Int), .pointer p3_8] 64), ((φ9 1), .cells #[.bool b2_8, .pointer p2_8, .int .u64 ((b3_8 : Nat) : Int), .pointer p3_8] 64)]) (fun φ13 => [(φ9 0), (φ9 0), (φ9 0), (φ9 0), (φ9 1), (φ9 1), (φ9 1), (φ9 1)]) s trivial (fun φ13 => by kernel_rfl) ?_
  intro φ13 w13 s
  refine call_rule (some 39) s (joinCut_c (i := i5) (e := e5) h8_0 h8_1 h8_2 h8_2 h5_0.1 (by have := h5_0.2; omega) h5_1.1 (by have := h5_1.2; omega) (by have := h5_1.2; omega)) (by kernel_rfl) ?_
  intro v14 I14 w14 le14 h14 s
  replace hT := Tab.mono le14 hT
  replace hp := BSl.mono le14 hp
  replace hq := BSl.mono le14 hq
  replace h5_2 := TRep.mono le14 h5_2
  replace h5_3 := ERep.mono le14 h5_3
  replace h5_4 := RT.mono le14 h5_4
  replace h5_5 := RE.mono le14 h5_5
  replace h8_0 := TRep.mono le14 h8_0
  replace h8_1 := TRep.mono le14 h8_1
  replace h8_2 := ERep.mono le14 h8_2
  replace h11_0 := RT.mono le14 h11_0
  replace h11_1 := RT.mono le14 h11_1
  obtain ⟨b14, p14, b2_14, p2_14, rfl, h14_0, h14_1⟩ := h14
  refine ops_rule (C := []) [((φ6 0), .cells #[.bool ib5, .pointer ip5, .int .u64 ((eb5 : Nat) : Int), .pointer ep5] 64), ((φ6 1), .cells #[.pointer (some ⟨ki5, 0, none⟩), .pointer (some ⟨ke5, 0, none⟩)] 67), ((φ9 0), .cells #[.bool b8, .pointer p8, .int .u64 ((b3_8 : Nat) : Int), .pointer p3_8] 64), ((φ9 1), .cells #[.bool b2_8, .pointer p2_8, .int .u64 ((b3_8 : Nat) : Int), .pointer p3_8] 64)] [] 6 [.o 4, .o 4, .o 4, .o 4] 1 (fun φ15 => [(13, .int .i64 0), (12, .pointer (some ⟨(φ15 0), 0, none⟩)), (41, .int .i64 0), (40, .agg #[.bool b14, .pointer p14, .int .u64 ((b2_14 : Nat) : Int), .pointer p2_14]), (36, .tuple #[.agg #[.bool b14, .pointer p14, .int .u64 ((b2_14 : Nat) : Int), .pointer p2_14], .int .i64 0])]) (fun φ15 => [((φ6 0), .cells #[.bool ib5, .pointer ip5, .int .u64 ((eb5 : Nat) : Int), .pointer ep5] 64), ((φ6 1), .cells #[.pointer (some ⟨ki5, 0, none⟩), .pointer (some ⟨ke5, 0, none⟩)] 67), ((φ9 0), .cells #[.bool b8, .pointer p8, .int .u64 ((b3_8 : Nat) : Int), .pointer p3_8] 64), ((φ9 1), .cells #[.bool b2_8, .pointer p2_8, .int .u64 ((b3_8 : Nat) : Int), .pointer p3_8] 64), ((φ15 0), .cells #[.bool b14, .pointer p14, .int .u64 ((b2_14 : Nat) : Int), .pointer p2_14] 64)]) (fun φ15 => [(φ15 0), (φ15 0), (φ15 0), (φ15 0)]) s trivial (fun φ15 => by kernel_rfl) ?_
  intro φ15 w15 s
  refine ops_done (by kernel_rfl) ?_
  refine wp_seq ?_
  refine region_rule ?_
  refine ops_rule (C := []) [((φ6 0), .cells #[.bool ib5, .pointer ip5, .int .u64 ((eb5 : Nat) : Int), .pointer ep5] 64), ((φ6 1), .cells #[.pointer (some ⟨ki5, 0, none⟩), .pointer (some ⟨ke5, 0, none⟩)] 67), ((φ9 0), .cells #[.bool b8, .pointer p8, .int .u64 ((b3_8 : Nat) : Int), .pointer p3_8] 64), ((φ9 1), .cells #[.bool b2_8, .pointer p2_8, .int .u64 ((b3_8 : Nat) : Int), .pointer p3_8] 64), ((φ15 0), .cells #[.bool b14, .pointer p14, .int .u64 ((b2_14 : Nat) : Int), .pointer p2_14] 64)] [] 2 [.o 0, .o 0, .o 0, .o 0, .o 0, .o 0, .o 0, .o 0] 0 (fun φ16 => [(44, .agg #[.bool ib5, .pointer ip5, .int .u64 ((eb5 : Nat) : Int), .pointer ep5]), (43, .agg #[.bool ib5, .pointer ip5, .int .u64 ((eb5 : Nat) : Int), .pointer ep5])]) (fun φ16 => [((φ6 0), .cells #[.bool ib5, .pointer ip5, .int .u64 ((eb5 : Nat) : Int), .pointer ep5] 64), ((φ6 1), .cells #[.pointer (some ⟨ki5, 0, none⟩), .pointer (some ⟨ke5, 0, none⟩)] 67), ((φ9 0), .cells #[.bool b8, .pointer p8, .int .u64 ((b3_8 : Nat) : Int), .pointer p3_8] 64), ((φ9 1), .cells #[.bool b2_8, .pointer p2_8, .int .u64 ((b3_8 : Nat) : Int), .pointer p3_8] 64), ((φ15 0), .cells #[.bool b14, .pointer p14, .int .u64 ((b2_14 : Nat) : Int), .pointer p2_14] 64)]) (fun φ16 => [(φ6 0), (φ6 0), (φ6 0), (φ6 0), (φ6 0), (φ6 0), (φ6 0), (φ6 0)]) s trivial (fun φ16 => by kernel_rfl) ?_
  intro φ16 w16 s
  refine call_rule (some 45) s (joinSelf_c h5_2 h5_2 h5_3 h5_3 h5_0.1 (by have := h5_0.2; omega) (by have := h5_1.2; omega) (by have := h5_1.2; omega)) (by kernel_rfl) ?_
  intro v17 I17 w17 le17 h17 s
  replace hT := Tab.mono le17 hT
  replace hp := BSl.mono le17 hp
  replace hq := BSl.mono le17 hq
  replace h5_2 := TRep.mono le17 h5_2
  replace h5_3 := ERep.mono le17 h5_3
  replace h5_4 := RT.mono le17 h5_4
  replace h5_5 := RE.mono le17 h5_5
  replace h8_0 := TRep.mono le17 h8_0
  replace h8_1 := TRep.mono le17 h8_1
  replace h8_2 := ERep.mono le17 h8_2
  replace h11_0 := RT.mono le17 h11_0
  replace h11_1 := RT.mono le17 h11_1
  replace h14_0 := TRep.mono le17 h14_0
  replace h14_1 := ERep.mono le17 h14_1
  obtain ⟨b17, p17, b2_17, p2_17, rfl, h17_0⟩ := h17
  refine ops_rule (C := []) [((φ6 0), .cells #[.bool ib5, .pointer ip5, .int .u64 ((eb5 : Nat) : Int), .pointer ep5] 64), ((φ6 1), .cells #[.pointer (some ⟨ki5, 0, none⟩), .pointer (some ⟨ke5, 0, none⟩)] 67), ((φ9 0), .cells #[.bool b8, .pointer p8, .int .u64 ((b3_8 : Nat) : Int), .pointer p3_8] 64), ((φ9 1), .cells #[.bool b2_8, .pointer p2_8, .int .u64 ((b3_8 : Nat) : Int), .pointer p3_8] 64), ((φ15 0), .cells #[.bool b14, .pointer p14, .int .u64 ((b2_14 : Nat) : Int), .pointer p2_14] 64)] [] 6 [.o 5, .o 5, .o 5, .o 5] 1 (fun φ18 => [(15, .int .i64 ((if kindT i5 = 0 then 0 else 5 : Nat) : Int)), (14, .pointer (some ⟨(φ18 0), 0, none⟩)), (47, .int .i64 ((if kindT i5 = 0 then 0 else 5 : Nat) : Int)), (46, .agg #[.bool b17, .pointer p17, .int .u64 ((b2_17 : Nat) : Int), .pointer p2_17]), (42, .tuple #[.agg #[.bool b17, .pointer p17, .int .u64 ((b2_17 : Nat) : Int), .pointer p2_17], .int .i64 ((if kindT i5 = 0 then 0 else 5 : Nat) : Int)])]) (fun φ18 => [((φ6 0), .cells #[.bool ib5, .pointer ip5, .int .u64 ((eb5 : Nat) : Int), .pointer ep5] 64), ((φ6 1), .cells #[.pointer (some ⟨ki5, 0, none⟩), .pointer (some ⟨ke5, 0, none⟩)] 67), ((φ9 0), .cells #[.bool b8, .pointer p8, .int .u64 ((b3_8 : Nat) : Int), .pointer p3_8] 64), ((φ9 1), .cells #[.bool b2_8, .pointer p2_8, .int .u64 ((b3_8 : Nat) : Int), .pointer p3_8] 64), ((φ15 0), .cells #[.bool b14, .pointer p14, .int .u64 ((b2_14 : Nat) : Int), .pointer p2_14] 64), ((φ18 0), .cells #[.bool b17, .pointer p17, .int .u64 ((b2_17 : Nat) : Int), .pointer p2_17] 64)]) (fun φ18 => [(φ18 0), (φ18 0), (φ18 0), (φ18 0)]) s trivial (fun φ18 => by kernel_rfl) ?_
  intro φ18 w18 s
  refine ops_done (by kernel_rfl) ?_
  refine wp_seq ?_
  rcases Bool.eq_false_or_eq_true (decide ((if kindT i5 = 0 then 0 else 5) = 5)) with hc20 | hc20
  ·
    rcases Bool.eq_false_or_eq_true (decide ((kindT i5) ≠ 0)) with hc22 | hc22
    ·
      obtain ⟨pl23, pr23, hp23⟩ := RT.peek h5_4
      refine draw_rule (C := [(ki5, .cells #[.int .i64 ((kindT i5 : Nat) : Int), .pointer pl23, .pointer pr23] 84)]) ⟨(fun φ23 xs23 => [.look 0 [] [], .look 0 [] [], .look 0 [] [], .look 0 [.o 2, .o 2, .o 2, .o 2] [(φ9 0), (φ9 0), (φ9 0), (φ9 0)], .look 0 [] [], .look 0 [] [], .look 0 [.o 1] [(φ6 1)], .look 0 [] [], .call 47 #[.agg #[.bool b8, .pointer p8, .int .u64 ((b3_8 : Nat) : Int), .pointer p3_8], .agg #[.pointer (some ⟨k11, 0, none⟩), .pointer (some ⟨ke5, 0, none⟩)]], .look 0 [] [], .look 0 [] [], .look 0 [.o 3, .o 3, .o 3, .o 3] [(φ9 1), (φ9 1), (φ9 1), (φ9 1)], .look 0 [] [], .look 0 [] [], .look 0 [.o 1] [(φ6 1)], .look 0 [] [], .call 47 #[.agg #[.bool b2_8, .pointer p2_8, .int .u64 ((b3_8 : Nat) : Int), .pointer p3_8], .agg #[.pointer (some ⟨k2_11, 0, none⟩), .pointer (some ⟨ke5, 0, none⟩)]], .look 0 [] [], .look 0 [] [], .look 0 [] [], .look 0 [] [], .look 0 [] [], .look 0 [] [], .look 0 [.o 4, .o 4, .o 4, .o 4] [(φ15 0), (φ15 0), (φ15 0), (φ15 0)], .look 0 [.o 0, .o 0, .o 0, .o 0] [(φ6 0), (φ6 0), (φ6 0), (φ6 0)], .call 49 #[.agg #[.bool b14, .pointer p14, .int .u64 ((b2_14 : Nat) : Int), .pointer p2_14], .agg #[.bool ib5, .pointer ip5, .int .u64 ((eb5 : Nat) : Int), .pointer ep5]], .look 0 [] [], .look 0 [] [], .look 0 [] [], .sub 0 [] [] (.bool (((if kindT i5 = 0 then 0 else 5 : Nat) : Int) == ((5 : Nat) : Int))), .look 0 [] [], .look 0 [.o 1] [(φ6 1)], .look 0 [] [], .look 0 [] [], .look 0 [.c 0] [ki5], .sub 0 [] [] (.bool (((kindT i5 : Nat) : Int) != ((0 : Nat) : Int))), .look 0 [] [], .look 0 [] [], .look 0 [] [], .look 0 [.o 0, .o 0, .o 0, .o 0] [(φ6 0), (φ6 0), (φ6 0), (φ6 0)], .call 60 #[.agg #[.bool ib5, .pointer ip5, .int .u64 ((eb5 : Nat) : Int), .pointer ep5]], .call 61 #[], .look 0 [] [], .look 0 [.o 1] [(φ6 1)], .look 0 [] [], .call 47 #[.agg #[.bool false, .pointer none, .int .u64 ((eb5 : Nat) : Int), .pointer ep5], .agg #[.pointer (some ⟨(xs23 41).n 0, 0, none⟩), .pointer (some ⟨ke5, 0, none⟩)]], .look 0 [] [], .look 0 [] []]), (fun φ23 xs23 => [.int .i64 0, .bool true, .bool true, .agg #[.bool b8, .pointer p8, .int .u64 ((b3_8 : Nat) : Int), .pointer p3_8], .pointer (some ⟨k11, 0, none⟩), .pointer (some ⟨(φ6 1), 1, none⟩), .pointer (some ⟨ke5, 0, none⟩), .agg #[.pointer (some ⟨k11, 0, none⟩), .pointer (some ⟨ke5, 0, none⟩)], .bool true, .bool true, .bool true, .agg #[.bool b2_8, .pointer p2_8, .int .u64 ((b3_8 : Nat) : Int), .pointer p3_8], .pointer (some ⟨k2_11, 0, none⟩), .pointer (some ⟨(φ6 1), 1, none⟩), .pointer (some ⟨ke5, 0, none⟩), .agg #[.pointer (some ⟨k2_11, 0, none⟩), .pointer (some ⟨ke5, 0, none⟩)], .bool true, .bool true, .bool true, .int .i64 0, .bool true, .bool true, .bool true, .agg #[.bool b14, .pointer p14, .int .u64 ((b2_14 : Nat) : Int), .pointer p2_14], .agg #[.bool ib5, .pointer ip5, .int .u64 ((eb5 : Nat) : Int), .pointer ep5], .bool true, .bool true, .bool true, .int .i64 ((if kindT i5 = 0 then 0 else 5 : Nat) : Int), .bool true, .pointer (some ⟨(φ6 1), 0, none⟩), .pointer (some ⟨ki5, 0, none⟩), .pointer (some ⟨ki5, 0, none⟩), .pointer (some ⟨ki5, 0, none⟩), .int .i64 ((kindT i5 : Nat) : Int), .bool true, .bool true, .bool true, .bool true, .agg #[.bool ib5, .pointer ip5, .int .u64 ((eb5 : Nat) : Int), .pointer ep5], .agg #[.bool false, .pointer none, .int .u64 ((eb5 : Nat) : Int), .pointer ep5], .pointer (some ⟨(xs23 41).n 0, 0, none⟩), .pointer (some ⟨(φ6 1), 1, none⟩), .pointer (some ⟨ke5, 0, none⟩), .agg #[.pointer (some ⟨(xs23 41).n 0, 0, none⟩), .pointer (some ⟨ke5, 0, none⟩)], .bool true, .bool true, .bool true]), (fun φ23 xs23 => [[((φ6 0), .cells #[.bool ib5, .pointer ip5, .int .u64 ((eb5 : Nat) : Int), .pointer ep5] 64), ((φ6 1), .cells #[.pointer (some ⟨ki5, 0, none⟩), .pointer (some ⟨ke5, 0, none⟩)] 67), ((φ9 0), .cells #[.bool b8, .pointer p8, .int .u64 ((b3_8 : Nat) : Int), .pointer p3_8] 64), ((φ9 1), .cells #[.bool b2_8, .pointer p2_8, .int .u64 ((b3_8 : Nat) : Int), .pointer p3_8] 64), ((φ15 0), .cells #[.bool b14, .pointer p14, .int .u64 ((b2_14 : Nat) : Int), .pointer p2_14] 64), ((φ18 0), .cells #[.bool b17, .pointer p17, .int .u64 ((b2_17 : Nat) : Int), .pointer p2_17] 64)]]), (fun φ23 xs23 => [[default, default, default, default, default, default, default, default, default, default, default, default, default, default, default, default, default, default, default, default, default, default, default, default, default, default, default, default, default, default, default, default, default, default, default, default, default, default, default, default, default, default, default, default, default, default, default, default]]), [], [1, 1, 1, 1, 1, 1, 1, 1, 3, 1, 1, 1, 1, 1, 1, 1, 3, 1, 1, 1, 1, 1, 1, 1, 1, 3, 1, 1, 1, 5, 1, 1, 1, 1, 1, 5, 1, 1, 1, 1, 3, 3, 1, 1, 1, 3, 1, 1]⟩ (fun j => ([MP.any, MP.any, MP.any, MP.any, MP.any, MP.any, MP.any, MP.any, MP.any, MP.any, MP.any, MP.any, MP.any, MP.any, MP.any, MP.any, MP.any, MP.any, MP.any, MP.any, MP.any, MP.any, MP.any, MP.any, MP.any, MP.any, MP.any, MP.any, MP.any, MP.any, MP.any, MP.any, MP.any, MP.any, MP.any, MP.any, MP.any, MP.any, MP.any, MP.any, MP.any, ⟨fun x J => RT J T.zero (x.n 0), fun le h => RT.mono le h⟩, MP.any, MP.any, MP.any, MP.any, MP.any, MP.any] : List MP).getD j MP.any) [8, 16, 25, 40, 41, 45] [29, 35] [] (fun φ23 xs23 => []) (fun φ23 xs23 => [(48, .int .i64 0), (49, .bool true), (50, .bool true), (51, .agg #[.bool b8, .pointer p8, .int .u64 ((b3_8 : Nat) : Int), .pointer p3_8]), (52, .pointer (some ⟨k11, 0, none⟩)), (53, .pointer (some ⟨(φ6 1), 1, none⟩)), (54, .pointer (some ⟨ke5, 0, none⟩)), (55, .agg #[.pointer (some ⟨k11, 0, none⟩), .pointer (some ⟨ke5, 0, none⟩)]), (56, .bool true), (57, .bool true), (58, .bool true), (59, .agg #[.bool b2_8, .pointer p2_8, .int .u64 ((b3_8 : Nat) : Int), .pointer p3_8]), (60, .pointer (some ⟨k2_11, 0, none⟩)), (61, .pointer (some ⟨(φ6 1), 1, none⟩)), (62, .pointer (some ⟨ke5, 0, none⟩)), (63, .agg #[.pointer (some ⟨k2_11, 0, none⟩), .pointer (some ⟨ke5, 0, none⟩)]), (64, .bool true), (65, .bool true), (66, .bool true), (67, .int .i64 0), (68, .bool true), (69, .bool true), (70, .bool true), (71, .agg #[.bool b14, .pointer p14, .int .u64 ((b2_14 : Nat) : Int), .pointer p2_14]), (72, .agg #[.bool ib5, .pointer ip5, .int .u64 ((eb5 : Nat) : Int), .pointer ep5]), (73, .bool true), (74, .bool true), (75, .bool true), (76, .int .i64 ((if kindT i5 = 0 then 0 else 5 : Nat) : Int)), (77, .bool true), (78, .pointer (some ⟨(φ6 1), 0, none⟩)), (79, .pointer (some ⟨ki5, 0, none⟩)), (80, .pointer (some ⟨ki5, 0, none⟩)), (81, .pointer (some ⟨ki5, 0, none⟩)), (82, .int .i64 ((kindT i5 : Nat) : Int)), (83, .bool true), (84, .bool true), (85, .bool true), (86, .bool true), (87, .agg #[.bool ib5, .pointer ip5, .int .u64 ((eb5 : Nat) : Int), .pointer ep5]), (88, .agg #[.bool false, .pointer none, .int .u64 ((eb5 : Nat) : Int), .pointer ep5]), (89, .pointer (some ⟨(xs23 41).n 0, 0, none⟩)), (90, .pointer (some ⟨(φ6 1), 1, none⟩)), (91, .pointer (some ⟨ke5, 0, none⟩)), (92, .agg #[.pointer (some ⟨(xs23 41).n 0, 0, none⟩), .pointer (some ⟨ke5, 0, none⟩)]), (93, .bool true), (94, .bool true), (4, .bool true)]) (fun φ23 xs23 => [((φ6 0), .cells #[.bool ib5, .pointer ip5, .int .u64 ((eb5 : Nat) : Int), .pointer ep5] 64), ((φ6 1), .cells #[.pointer (some ⟨ki5, 0, none⟩), .pointer (some ⟨ke5, 0, none⟩)] 67), ((φ9 0), .cells #[.bool b8, .pointer p8, .int .u64 ((b3_8 : Nat) : Int), .pointer p3_8] 64), ((φ9 1), .cells #[.bool b2_8, .pointer p2_8, .int .u64 ((b3_8 : Nat) : Int), .pointer p3_8] 64), ((φ15 0), .cells #[.bool b14, .pointer p14, .int .u64 ((b2_14 : Nat) : Int), .pointer p2_14] 64), ((φ18 0), .cells #[.bool b17, .pointer p17, .int .u64 ((b2_17 : Nat) : Int), .pointer p2_17] 64)]) s ⟨hp23, trivial⟩ (by kernel_rfl) (by kernel_rfl) (fun _ _ => by kernel_rfl) (fun _ _ => by kernel_rfl) ⟨fun _ _ => by kernel_rfl, fun _ _ => by kernel_rfl, fun _ _ => by kernel_rfl, fun _ _ => by kernel_rfl⟩ (fun _ _ _ => by kernel_rfl) (fun _ _ => by kernel_rfl) (fun _ _ => by kernel_rfl) (fun _ _ => by kernel_rfl) (fun _ _ => by kernel_rfl) (fun _ _ => by kernel_rfl) ⟨kcast (A := ∀ (φ23 : Nat → Nat) (xs23 : Xs), (.bool (((if kindT i5 = 0 then 0 else 5 : Nat) : Int) == ((5 : Nat) : Int)) : Value) = .bool true) (by kernel_rfl) (fun φ23 xs23 => congrArg Value.bool ((nat_eql (a := (if kindT i5 = 0 then 0 else 5)) (b := 5)).trans (hc20))), ⟨kcast (A := ∀ (φ23 : Nat → Nat) (xs23 : Xs), (.bool (((kindT i5 : Nat) : Int) != ((0 : Nat) : Int)) : Value) = .bool true) (by kernel_rfl) (fun φ23 xs23 => congrArg Value.bool ((nat_neq (a := (kindT i5)) (b := 0)).trans (hc22))), trivial⟩⟩ trivial ⟨?c23_8, ?c23_16, ?c23_25, ?c23_40, ?c23_41, ?c23_45, trivial⟩ ?k23
      case c23_8 =>
        refine kcast (A := ∀ (φ23 : Nat → Nat) (xs23 : Xs) (J8_23 : IM), I17.Le J8_23 → Fun Tryd.prog 47 #[.agg #[.bool b8, .pointer p8, .int .u64 ((b3_8 : Nat) : Int), .pointer p3_8], .agg #[.pointer (some ⟨k11, 0, none⟩), .pointer (some ⟨ke5, 0, none⟩)]] J8_23 (fun v J' => ∃ x : UX, v = .bool true ∧ (True))) (by kernel_rfl) ?_
        intro φ23 xs23 J8_23 leJ
        have hT := Tab.mono leJ hT
        have h5_5 := RE.mono leJ h5_5
        have h8_0 := TRep.mono leJ h8_0
        have h8_2 := ERep.mono leJ h8_2
        have h11_0 := RT.mono leJ h11_0
        exact Fun.mono (like_c h8_0 h8_2 hT h11_0 h5_5 (by have q1 := h5_0.2; have q2 := h5_1.2; have q3 := cut_depth i5; first | omega | exact textT_small (by first | omega | exact Nat.zero_le _) | exact textE_small (by omega) (by omega)) (by have q1 := h5_0.2; have q2 := h5_1.2; have q3 := cut_depth i5; first | omega | exact textT_small (by first | omega | exact Nat.zero_le _) | exact textE_small (by omega) (by omega)) (by have q1 := h5_0.2; have q2 := h5_1.2; have q3 := cut_depth i5; first | omega | exact textT_small (by first | omega | exact Nat.zero_le _) | exact textE_small (by omega) (by omega))) (fun v J' _ h => ⟨UX.d, h, trivial⟩)
      case c23_16 =>
        refine kcast (A := ∀ (φ23 : Nat → Nat) (xs23 : Xs) (J16_23 : IM), I17.Le J16_23 → (True) → Fun Tryd.prog 47 #[.agg #[.bool b2_8, .pointer p2_8, .int .u64 ((b3_8 : Nat) : Int), .pointer p3_8], .agg #[.pointer (some ⟨k2_11, 0, none⟩), .pointer (some ⟨ke5, 0, none⟩)]] J16_23 (fun v J' => ∃ x : UX, v = .bool true ∧ (True))) (by kernel_rfl) ?_
        intro φ23 xs23 J16_23 leJ
        rintro _
        have hT := Tab.mono leJ hT
        have h5_5 := RE.mono leJ h5_5
        have h8_1 := TRep.mono leJ h8_1
        have h8_2 := ERep.mono leJ h8_2
        have h11_1 := RT.mono leJ h11_1
        exact Fun.mono (like_c h8_1 h8_2 hT h11_1 h5_5 (by have q1 := h5_0.2; have q2 := h5_1.2; have q3 := cut_depth i5; first | omega | exact textT_small (by first | omega | exact Nat.zero_le _) | exact textE_small (by omega) (by omega)) (by have q1 := h5_0.2; have q2 := h5_1.2; have q3 := cut_depth i5; first | omega | exact textT_small (by first | omega | exact Nat.zero_le _) | exact textE_small (by omega) (by omega)) (by have q1 := h5_0.2; have q2 := h5_1.2; have q3 := cut_depth i5; first | omega | exact textT_small (by first | omega | exact Nat.zero_le _) | exact textE_small (by omega) (by omega))) (fun v J' _ h => ⟨UX.d, h, trivial⟩)
      case c23_25 =>
        refine kcast (A := ∀ (φ23 : Nat → Nat) (xs23 : Xs) (J25_23 : IM), I17.Le J25_23 → (True) → (True) → Fun Tryd.prog 49 #[.agg #[.bool b14, .pointer p14, .int .u64 ((b2_14 : Nat) : Int), .pointer p2_14], .agg #[.bool ib5, .pointer ip5, .int .u64 ((eb5 : Nat) : Int), .pointer ep5]] J25_23 (fun v J' => ∃ x : UX, v = .bool true ∧ (True))) (by kernel_rfl) ?_
        intro φ23 xs23 J25_23 leJ
        rintro _ _
        have h5_2 := TRep.mono leJ h5_2
        have h5_3 := ERep.mono leJ h5_3
        have h14_0 := TRep.mono leJ h14_0
        have h14_1 := ERep.mono leJ h14_1
        exact Fun.mono (ssameSelf_c h14_0 h5_2 h14_1 h5_3 (by have := h5_1.2; omega) (by have := h5_1.2; omega)) (fun v J' _ h => ⟨UX.d, h, trivial⟩)
      case c23_40 =>
        refine kcast (A := ∀ (φ23 : Nat → Nat) (xs23 : Xs) (J40_23 : IM), I17.Le J40_23 → (True) → (True) → (True) → Fun Tryd.prog 60 #[.agg #[.bool ib5, .pointer ip5, .int .u64 ((eb5 : Nat) : Int), .pointer ep5]] J40_23 (fun v J' => ∃ x : UX, v = .agg #[.bool false, .pointer none, .int .u64 ((eb5 : Nat) : Int), .pointer ep5] ∧ (True))) (by kernel_rfl) ?_
        intro φ23 xs23 J40_23 leJ
        rintro _ _ _
        exact Fun.mono (peek_c) (fun v J' _ h => ⟨UX.d, h, trivial⟩)
      case c23_41 =>
        refine kcast (A := ∀ (φ23 : Nat → Nat) (xs23 : Xs) (J41_23 : IM), I17.Le J41_23 → (True) → (True) → (True) → (True) → Fun Tryd.prog 61 #[] J41_23 (fun v J' => ∃ x : UX, v = .pointer (some ⟨x.n 0, 0, none⟩) ∧ (RT J' T.zero (x.n 0)))) (by kernel_rfl) ?_
        intro φ23 xs23 J41_23 leJ
        rintro _ _ _ _
        exact Fun.mono (rzero_c) (fun v J' _ ⟨y0, hv, g0⟩ => ⟨{ UX.d with n := fun j => y0 }, hv, g0⟩)
      case c23_45 =>
        refine kcast (A := ∀ (φ23 : Nat → Nat) (xs23 : Xs) (J45_23 : IM), I17.Le J45_23 → (True) → (True) → (True) → (True) → (RT J45_23 T.zero ((xs23 41).n 0)) → Fun Tryd.prog 47 #[.agg #[.bool false, .pointer none, .int .u64 ((eb5 : Nat) : Int), .pointer ep5], .agg #[.pointer (some ⟨(xs23 41).n 0, 0, none⟩), .pointer (some ⟨ke5, 0, none⟩)]] J45_23 (fun v J' => ∃ x : UX, v = .bool true ∧ (True))) (by kernel_rfl) ?_
        intro φ23 xs23 J45_23 leJ
        rintro _ _ _ _ h23_41_0
        have hT := Tab.mono leJ hT
        have h5_3 := ERep.mono leJ h5_3
        have h5_5 := RE.mono leJ h5_5
        exact Fun.mono (like_c (TRep.z _) h5_3 hT h23_41_0 h5_5 (by have q1 := h5_0.2; have q2 := h5_1.2; have q3 := cut_depth i5; first | omega | exact textT_small (by first | omega | exact Nat.zero_le _) | exact textE_small (by omega) (by omega)) (by have q1 := h5_0.2; have q2 := h5_1.2; have q3 := cut_depth i5; first | omega | exact textT_small (by first | omega | exact Nat.zero_le _) | exact textE_small (by omega) (by omega)) (by have q1 := h5_0.2; have q2 := h5_1.2; have q3 := cut_depth i5; first | omega | exact textT_small (by first | omega | exact Nat.zero_le _) | exact textE_small (by omega) (by omega))) (fun v J' _ h => ⟨UX.d, h, trivial⟩)
      case k23 =>
        rintro φ23 xs23 I23 w23 le23 s _ _ _ _ h23_41_0 _
        replace hT := Tab.mono le23 hT
        replace hp := BSl.mono le23 hp
        replace hq := BSl.mono le23 hq
        replace h5_2 := TRep.mono le23 h5_2
        replace h5_3 := ERep.mono le23 h5_3
        replace h5_4 := RT.mono le23 h5_4
        replace h5_5 := RE.mono le23 h5_5
        replace h8_0 := TRep.mono le23 h8_0
        replace h8_1 := TRep.mono le23 h8_1
        replace h8_2 := ERep.mono le23 h8_2
        replace h11_0 := RT.mono le23 h11_0
        replace h11_1 := RT.mono le23 h11_1
        replace h14_0 := TRep.mono le23 h14_0
        replace h14_1 := ERep.mono le23 h14_1
        replace h17_0 := TRep.mono le23 h17_0
        replace hp23 := le23 _ _ hp23
        refine wp_ret ?_
        refine ret_rule (C := []) [((φ6 0), .cells #[.bool ib5, .pointer ip5, .int .u64 ((eb5 : Nat) : Int), .pointer ep5] 64), ((φ6 1), .cells #[.pointer (some ⟨ki5, 0, none⟩), .pointer (some ⟨ke5, 0, none⟩)] 67), ((φ9 0), .cells #[.bool b8, .pointer p8, .int .u64 ((b3_8 : Nat) : Int), .pointer p3_8] 64), ((φ9 1), .cells #[.bool b2_8, .pointer p2_8, .int .u64 ((b3_8 : Nat) : Int), .pointer p3_8] 64), ((φ15 0), .cells #[.bool b14, .pointer p14, .int .u64 ((b2_14 : Nat) : Int), .pointer p2_14] 64), ((φ18 0), .cells #[.bool b17, .pointer p17, .int .u64 ((b2_17 : Nat) : Int), .pointer p2_17] 64)] [] (.bool true) [] [] s trivial (by kernel_rfl) ?_
        exact ⟨_, _, _, rfl, s, rfl⟩
    ·
      exfalso
      revert hc20 hc22
      by_cases hk : kindT i5 = 0 <;> simp [hk]
  ·
    rcases Bool.eq_false_or_eq_true (decide ((kindT i5) ≠ 0)) with hc26 | hc26
    ·
      exfalso
      revert hc20 hc26
      by_cases hk : kindT i5 = 0 <;> simp [hk]
    ·
      obtain ⟨pl27, pr27, hp27⟩ := RT.peek h5_4
      refine draw_rule (C := [(ki5, .cells #[.int .i64 ((kindT i5 : Nat) : Int), .pointer pl27, .pointer pr27] 84)]) ⟨(fun φ27 xs27 => [.look 0 [] [], .look 0 [] [], .look 0 [] [], .look 0 [.o 2, .o 2, .o 2, .o 2] [(φ9 0), (φ9 0), (φ9 0), (φ9 0)], .look 0 [] [], .look 0 [] [], .look 0 [.o 1] [(φ6 1)], .look 0 [] [], .call 47 #[.agg #[.bool b8, .pointer p8, .int .u64 ((b3_8 : Nat) : Int), .pointer p3_8], .agg #[.pointer (some ⟨k11, 0, none⟩), .pointer (some ⟨ke5, 0, none⟩)]], .look 0 [] [], .look 0 [] [], .look 0 [.o 3, .o 3, .o 3, .o 3] [(φ9 1), (φ9 1), (φ9 1), (φ9 1)], .look 0 [] [], .look 0 [] [], .look 0 [.o 1] [(φ6 1)], .look 0 [] [], .call 47 #[.agg #[.bool b2_8, .pointer p2_8, .int .u64 ((b3_8 : Nat) : Int), .pointer p3_8], .agg #[.pointer (some ⟨k2_11, 0, none⟩), .pointer (some ⟨ke5, 0, none⟩)]], .look 0 [] [], .look 0 [] [], .look 0 [] [], .look 0 [] [], .look 0 [] [], .look 0 [] [], .look 0 [.o 4, .o 4, .o 4, .o 4] [(φ15 0), (φ15 0), (φ15 0), (φ15 0)], .look 0 [.o 0, .o 0, .o 0, .o 0] [(φ6 0), (φ6 0), (φ6 0), (φ6 0)], .call 49 #[.agg #[.bool b14, .pointer p14, .int .u64 ((b2_14 : Nat) : Int), .pointer p2_14], .agg #[.bool ib5, .pointer ip5, .int .u64 ((eb5 : Nat) : Int), .pointer ep5]], .look 0 [] [], .look 0 [] [], .look 0 [] [], .sub 0 [] [] (.bool (((if kindT i5 = 0 then 0 else 5 : Nat) : Int) == ((5 : Nat) : Int))), .look 0 [] [], .look 0 [.o 1] [(φ6 1)], .look 0 [] [], .look 0 [] [], .look 0 [.c 0] [ki5], .sub 0 [] [] (.bool (((kindT i5 : Nat) : Int) != ((0 : Nat) : Int))), .look 0 [] [], .look 0 [] [], .look 0 [] [], .look 0 [.o 0, .o 0, .o 0, .o 0] [(φ6 0), (φ6 0), (φ6 0), (φ6 0)], .call 60 #[.agg #[.bool ib5, .pointer ip5, .int .u64 ((eb5 : Nat) : Int), .pointer ep5]], .call 61 #[], .look 0 [] [], .look 0 [.o 1] [(φ6 1)], .look 0 [] [], .call 47 #[.agg #[.bool false, .pointer none, .int .u64 ((eb5 : Nat) : Int), .pointer ep5], .agg #[.pointer (some ⟨(xs27 41).n 0, 0, none⟩), .pointer (some ⟨ke5, 0, none⟩)]], .look 0 [] [], .look 0 [] []]), (fun φ27 xs27 => [.int .i64 0, .bool true, .bool true, .agg #[.bool b8, .pointer p8, .int .u64 ((b3_8 : Nat) : Int), .pointer p3_8], .pointer (some ⟨k11, 0, none⟩), .pointer (some ⟨(φ6 1), 1, none⟩), .pointer (some ⟨ke5, 0, none⟩), .agg #[.pointer (some ⟨k11, 0, none⟩), .pointer (some ⟨ke5, 0, none⟩)], .bool true, .bool true, .bool true, .agg #[.bool b2_8, .pointer p2_8, .int .u64 ((b3_8 : Nat) : Int), .pointer p3_8], .pointer (some ⟨k2_11, 0, none⟩), .pointer (some ⟨(φ6 1), 1, none⟩), .pointer (some ⟨ke5, 0, none⟩), .agg #[.pointer (some ⟨k2_11, 0, none⟩), .pointer (some ⟨ke5, 0, none⟩)], .bool true, .bool true, .bool true, .int .i64 0, .bool true, .bool true, .bool true, .agg #[.bool b14, .pointer p14, .int .u64 ((b2_14 : Nat) : Int), .pointer p2_14], .agg #[.bool ib5, .pointer ip5, .int .u64 ((eb5 : Nat) : Int), .pointer ep5], .bool true, .bool true, .bool true, .int .i64 ((if kindT i5 = 0 then 0 else 5 : Nat) : Int), .bool false, .pointer (some ⟨(φ6 1), 0, none⟩), .pointer (some ⟨ki5, 0, none⟩), .pointer (some ⟨ki5, 0, none⟩), .pointer (some ⟨ki5, 0, none⟩), .int .i64 ((kindT i5 : Nat) : Int), .bool false, .bool true, .bool true, .bool true, .agg #[.bool ib5, .pointer ip5, .int .u64 ((eb5 : Nat) : Int), .pointer ep5], .agg #[.bool false, .pointer none, .int .u64 ((eb5 : Nat) : Int), .pointer ep5], .pointer (some ⟨(xs27 41).n 0, 0, none⟩), .pointer (some ⟨(φ6 1), 1, none⟩), .pointer (some ⟨ke5, 0, none⟩), .agg #[.pointer (some ⟨(xs27 41).n 0, 0, none⟩), .pointer (some ⟨ke5, 0, none⟩)], .bool true, .bool true, .bool true]), (fun φ27 xs27 => [[((φ6 0), .cells #[.bool ib5, .pointer ip5, .int .u64 ((eb5 : Nat) : Int), .pointer ep5] 64), ((φ6 1), .cells #[.pointer (some ⟨ki5, 0, none⟩), .pointer (some ⟨ke5, 0, none⟩)] 67), ((φ9 0), .cells #[.bool b8, .pointer p8, .int .u64 ((b3_8 : Nat) : Int), .pointer p3_8] 64), ((φ9 1), .cells #[.bool b2_8, .pointer p2_8, .int .u64 ((b3_8 : Nat) : Int), .pointer p3_8] 64), ((φ15 0), .cells #[.bool b14, .pointer p14, .int .u64 ((b2_14 : Nat) : Int), .pointer p2_14] 64), ((φ18 0), .cells #[.bool b17, .pointer p17, .int .u64 ((b2_17 : Nat) : Int), .pointer p2_17] 64)]]), (fun φ27 xs27 => [[default, default, default, default, default, default, default, default, default, default, default, default, default, default, default, default, default, default, default, default, default, default, default, default, default, default, default, default, default, default, default, default, default, default, default, default, default, default, default, default, default, default, default, default, default, default, default, default]]), [], [1, 1, 1, 1, 1, 1, 1, 1, 3, 1, 1, 1, 1, 1, 1, 1, 3, 1, 1, 1, 1, 1, 1, 1, 1, 3, 1, 1, 1, 5, 1, 1, 1, 1, 1, 5, 1, 1, 1, 1, 3, 3, 1, 1, 1, 3, 1, 1]⟩ (fun j => ([MP.any, MP.any, MP.any, MP.any, MP.any, MP.any, MP.any, MP.any, MP.any, MP.any, MP.any, MP.any, MP.any, MP.any, MP.any, MP.any, MP.any, MP.any, MP.any, MP.any, MP.any, MP.any, MP.any, MP.any, MP.any, MP.any, MP.any, MP.any, MP.any, MP.any, MP.any, MP.any, MP.any, MP.any, MP.any, MP.any, MP.any, MP.any, MP.any, MP.any, MP.any, ⟨fun x J => RT J T.zero (x.n 0), fun le h => RT.mono le h⟩, MP.any, MP.any, MP.any, MP.any, MP.any, MP.any] : List MP).getD j MP.any) [8, 16, 25, 40, 41, 45] [29, 35] [] (fun φ27 xs27 => []) (fun φ27 xs27 => [(48, .int .i64 0), (49, .bool true), (50, .bool true), (51, .agg #[.bool b8, .pointer p8, .int .u64 ((b3_8 : Nat) : Int), .pointer p3_8]), (52, .pointer (some ⟨k11, 0, none⟩)), (53, .pointer (some ⟨(φ6 1), 1, none⟩)), (54, .pointer (some ⟨ke5, 0, none⟩)), (55, .agg #[.pointer (some ⟨k11, 0, none⟩), .pointer (some ⟨ke5, 0, none⟩)]), (56, .bool true), (57, .bool true), (58, .bool true), (59, .agg #[.bool b2_8, .pointer p2_8, .int .u64 ((b3_8 : Nat) : Int), .pointer p3_8]), (60, .pointer (some ⟨k2_11, 0, none⟩)), (61, .pointer (some ⟨(φ6 1), 1, none⟩)), (62, .pointer (some ⟨ke5, 0, none⟩)), (63, .agg #[.pointer (some ⟨k2_11, 0, none⟩), .pointer (some ⟨ke5, 0, none⟩)]), (64, .bool true), (65, .bool true), (66, .bool true), (67, .int .i64 0), (68, .bool true), (69, .bool true), (70, .bool true), (71, .agg #[.bool b14, .pointer p14, .int .u64 ((b2_14 : Nat) : Int), .pointer p2_14]), (72, .agg #[.bool ib5, .pointer ip5, .int .u64 ((eb5 : Nat) : Int), .pointer ep5]), (73, .bool true), (74, .bool true), (75, .bool true), (76, .int .i64 ((if kindT i5 = 0 then 0 else 5 : Nat) : Int)), (77, .bool false), (78, .pointer (some ⟨(φ6 1), 0, none⟩)), (79, .pointer (some ⟨ki5, 0, none⟩)), (80, .pointer (some ⟨ki5, 0, none⟩)), (81, .pointer (some ⟨ki5, 0, none⟩)), (82, .int .i64 ((kindT i5 : Nat) : Int)), (83, .bool false), (84, .bool true), (85, .bool true), (86, .bool true), (87, .agg #[.bool ib5, .pointer ip5, .int .u64 ((eb5 : Nat) : Int), .pointer ep5]), (88, .agg #[.bool false, .pointer none, .int .u64 ((eb5 : Nat) : Int), .pointer ep5]), (89, .pointer (some ⟨(xs27 41).n 0, 0, none⟩)), (90, .pointer (some ⟨(φ6 1), 1, none⟩)), (91, .pointer (some ⟨ke5, 0, none⟩)), (92, .agg #[.pointer (some ⟨(xs27 41).n 0, 0, none⟩), .pointer (some ⟨ke5, 0, none⟩)]), (93, .bool true), (94, .bool true), (4, .bool true)]) (fun φ27 xs27 => [((φ6 0), .cells #[.bool ib5, .pointer ip5, .int .u64 ((eb5 : Nat) : Int), .pointer ep5] 64), ((φ6 1), .cells #[.pointer (some ⟨ki5, 0, none⟩), .pointer (some ⟨ke5, 0, none⟩)] 67), ((φ9 0), .cells #[.bool b8, .pointer p8, .int .u64 ((b3_8 : Nat) : Int), .pointer p3_8] 64), ((φ9 1), .cells #[.bool b2_8, .pointer p2_8, .int .u64 ((b3_8 : Nat) : Int), .pointer p3_8] 64), ((φ15 0), .cells #[.bool b14, .pointer p14, .int .u64 ((b2_14 : Nat) : Int), .pointer p2_14] 64), ((φ18 0), .cells #[.bool b17, .pointer p17, .int .u64 ((b2_17 : Nat) : Int), .pointer p2_17] 64)]) s ⟨hp27, trivial⟩ (by kernel_rfl) (by kernel_rfl) (fun _ _ => by kernel_rfl) (fun _ _ => by kernel_rfl) ⟨fun _ _ => by kernel_rfl, fun _ _ => by kernel_rfl, fun _ _ => by kernel_rfl, fun _ _ => by kernel_rfl⟩ (fun _ _ _ => by kernel_rfl) (fun _ _ => by kernel_rfl) (fun _ _ => by kernel_rfl) (fun _ _ => by kernel_rfl) (fun _ _ => by kernel_rfl) (fun _ _ => by kernel_rfl) ⟨kcast (A := ∀ (φ27 : Nat → Nat) (xs27 : Xs), (.bool (((if kindT i5 = 0 then 0 else 5 : Nat) : Int) == ((5 : Nat) : Int)) : Value) = .bool false) (by kernel_rfl) (fun φ27 xs27 => congrArg Value.bool ((nat_eql (a := (if kindT i5 = 0 then 0 else 5)) (b := 5)).trans (hc20))), ⟨kcast (A := ∀ (φ27 : Nat → Nat) (xs27 : Xs), (.bool (((kindT i5 : Nat) : Int) != ((0 : Nat) : Int)) : Value) = .bool false) (by kernel_rfl) (fun φ27 xs27 => congrArg Value.bool ((nat_neq (a := (kindT i5)) (b := 0)).trans (hc26))), trivial⟩⟩ trivial ⟨?c27_8, ?c27_16, ?c27_25, ?c27_40, ?c27_41, ?c27_45, trivial⟩ ?k27
      case c27_8 =>
        refine kcast (A := ∀ (φ27 : Nat → Nat) (xs27 : Xs) (J8_27 : IM), I17.Le J8_27 → Fun Tryd.prog 47 #[.agg #[.bool b8, .pointer p8, .int .u64 ((b3_8 : Nat) : Int), .pointer p3_8], .agg #[.pointer (some ⟨k11, 0, none⟩), .pointer (some ⟨ke5, 0, none⟩)]] J8_27 (fun v J' => ∃ x : UX, v = .bool true ∧ (True))) (by kernel_rfl) ?_
        intro φ27 xs27 J8_27 leJ
        have hT := Tab.mono leJ hT
        have h5_5 := RE.mono leJ h5_5
        have h8_0 := TRep.mono leJ h8_0
        have h8_2 := ERep.mono leJ h8_2
        have h11_0 := RT.mono leJ h11_0
        exact Fun.mono (like_c h8_0 h8_2 hT h11_0 h5_5 (by have q1 := h5_0.2; have q2 := h5_1.2; have q3 := cut_depth i5; first | omega | exact textT_small (by first | omega | exact Nat.zero_le _) | exact textE_small (by omega) (by omega)) (by have q1 := h5_0.2; have q2 := h5_1.2; have q3 := cut_depth i5; first | omega | exact textT_small (by first | omega | exact Nat.zero_le _) | exact textE_small (by omega) (by omega)) (by have q1 := h5_0.2; have q2 := h5_1.2; have q3 := cut_depth i5; first | omega | exact textT_small (by first | omega | exact Nat.zero_le _) | exact textE_small (by omega) (by omega))) (fun v J' _ h => ⟨UX.d, h, trivial⟩)
      case c27_16 =>
        refine kcast (A := ∀ (φ27 : Nat → Nat) (xs27 : Xs) (J16_27 : IM), I17.Le J16_27 → (True) → Fun Tryd.prog 47 #[.agg #[.bool b2_8, .pointer p2_8, .int .u64 ((b3_8 : Nat) : Int), .pointer p3_8], .agg #[.pointer (some ⟨k2_11, 0, none⟩), .pointer (some ⟨ke5, 0, none⟩)]] J16_27 (fun v J' => ∃ x : UX, v = .bool true ∧ (True))) (by kernel_rfl) ?_
        intro φ27 xs27 J16_27 leJ
        rintro _
        have hT := Tab.mono leJ hT
        have h5_5 := RE.mono leJ h5_5
        have h8_1 := TRep.mono leJ h8_1
        have h8_2 := ERep.mono leJ h8_2
        have h11_1 := RT.mono leJ h11_1
        exact Fun.mono (like_c h8_1 h8_2 hT h11_1 h5_5 (by have q1 := h5_0.2; have q2 := h5_1.2; have q3 := cut_depth i5; first | omega | exact textT_small (by first | omega | exact Nat.zero_le _) | exact textE_small (by omega) (by omega)) (by have q1 := h5_0.2; have q2 := h5_1.2; have q3 := cut_depth i5; first | omega | exact textT_small (by first | omega | exact Nat.zero_le _) | exact textE_small (by omega) (by omega)) (by have q1 := h5_0.2; have q2 := h5_1.2; have q3 := cut_depth i5; first | omega | exact textT_small (by first | omega | exact Nat.zero_le _) | exact textE_small (by omega) (by omega))) (fun v J' _ h => ⟨UX.d, h, trivial⟩)
      case c27_25 =>
        refine kcast (A := ∀ (φ27 : Nat → Nat) (xs27 : Xs) (J25_27 : IM), I17.Le J25_27 → (True) → (True) → Fun Tryd.prog 49 #[.agg #[.bool b14, .pointer p14, .int .u64 ((b2_14 : Nat) : Int), .pointer p2_14], .agg #[.bool ib5, .pointer ip5, .int .u64 ((eb5 : Nat) : Int), .pointer ep5]] J25_27 (fun v J' => ∃ x : UX, v = .bool true ∧ (True))) (by kernel_rfl) ?_
        intro φ27 xs27 J25_27 leJ
        rintro _ _
        have h5_2 := TRep.mono leJ h5_2
        have h5_3 := ERep.mono leJ h5_3
        have h14_0 := TRep.mono leJ h14_0
        have h14_1 := ERep.mono leJ h14_1
        exact Fun.mono (ssameSelf_c h14_0 h5_2 h14_1 h5_3 (by have := h5_1.2; omega) (by have := h5_1.2; omega)) (fun v J' _ h => ⟨UX.d, h, trivial⟩)
      case c27_40 =>
        refine kcast (A := ∀ (φ27 : Nat → Nat) (xs27 : Xs) (J40_27 : IM), I17.Le J40_27 → (True) → (True) → (True) → Fun Tryd.prog 60 #[.agg #[.bool ib5, .pointer ip5, .int .u64 ((eb5 : Nat) : Int), .pointer ep5]] J40_27 (fun v J' => ∃ x : UX, v = .agg #[.bool false, .pointer none, .int .u64 ((eb5 : Nat) : Int), .pointer ep5] ∧ (True))) (by kernel_rfl) ?_
        intro φ27 xs27 J40_27 leJ
        rintro _ _ _
        exact Fun.mono (peek_c) (fun v J' _ h => ⟨UX.d, h, trivial⟩)
      case c27_41 =>
        refine kcast (A := ∀ (φ27 : Nat → Nat) (xs27 : Xs) (J41_27 : IM), I17.Le J41_27 → (True) → (True) → (True) → (True) → Fun Tryd.prog 61 #[] J41_27 (fun v J' => ∃ x : UX, v = .pointer (some ⟨x.n 0, 0, none⟩) ∧ (RT J' T.zero (x.n 0)))) (by kernel_rfl) ?_
        intro φ27 xs27 J41_27 leJ
        rintro _ _ _ _
        exact Fun.mono (rzero_c) (fun v J' _ ⟨y0, hv, g0⟩ => ⟨{ UX.d with n := fun j => y0 }, hv, g0⟩)
      case c27_45 =>
        refine kcast (A := ∀ (φ27 : Nat → Nat) (xs27 : Xs) (J45_27 : IM), I17.Le J45_27 → (True) → (True) → (True) → (True) → (RT J45_27 T.zero ((xs27 41).n 0)) → Fun Tryd.prog 47 #[.agg #[.bool false, .pointer none, .int .u64 ((eb5 : Nat) : Int), .pointer ep5], .agg #[.pointer (some ⟨(xs27 41).n 0, 0, none⟩), .pointer (some ⟨ke5, 0, none⟩)]] J45_27 (fun v J' => ∃ x : UX, v = .bool true ∧ (True))) (by kernel_rfl) ?_
        intro φ27 xs27 J45_27 leJ
        rintro _ _ _ _ h27_41_0
        have hT := Tab.mono leJ hT
        have h5_3 := ERep.mono leJ h5_3
        have h5_5 := RE.mono leJ h5_5
        exact Fun.mono (like_c (TRep.z _) h5_3 hT h27_41_0 h5_5 (by have q1 := h5_0.2; have q2 := h5_1.2; have q3 := cut_depth i5; first | omega | exact textT_small (by first | omega | exact Nat.zero_le _) | exact textE_small (by omega) (by omega)) (by have q1 := h5_0.2; have q2 := h5_1.2; have q3 := cut_depth i5; first | omega | exact textT_small (by first | omega | exact Nat.zero_le _) | exact textE_small (by omega) (by omega)) (by have q1 := h5_0.2; have q2 := h5_1.2; have q3 := cut_depth i5; first | omega | exact textT_small (by first | omega | exact Nat.zero_le _) | exact textE_small (by omega) (by omega))) (fun v J' _ h => ⟨UX.d, h, trivial⟩)
      case k27 =>
        rintro φ27 xs27 I27 w27 le27 s _ _ _ _ h27_41_0 _
        replace hT := Tab.mono le27 hT
        replace hp := BSl.mono le27 hp
        replace hq := BSl.mono le27 hq
        replace h5_2 := TRep.mono le27 h5_2
        replace h5_3 := ERep.mono le27 h5_3
        replace h5_4 := RT.mono le27 h5_4
        replace h5_5 := RE.mono le27 h5_5
        replace h8_0 := TRep.mono le27 h8_0
        replace h8_1 := TRep.mono le27 h8_1
        replace h8_2 := ERep.mono le27 h8_2
        replace h11_0 := RT.mono le27 h11_0
        replace h11_1 := RT.mono le27 h11_1
        replace h14_0 := TRep.mono le27 h14_0
        replace h14_1 := ERep.mono le27 h14_1
        replace h17_0 := TRep.mono le27 h17_0
        replace hp27 := le27 _ _ hp27
        refine wp_ret ?_
        refine ret_rule (C := []) [((φ6 0), .cells #[.bool ib5, .pointer ip5, .int .u64 ((eb5 : Nat) : Int), .pointer ep5] 64), ((φ6 1), .cells #[.pointer (some ⟨ki5, 0, none⟩), .pointer (some ⟨ke5, 0, none⟩)] 67), ((φ9 0), .cells #[.bool b8, .pointer p8, .int .u64 ((b3_8 : Nat) : Int), .pointer p3_8] 64), ((φ9 1), .cells #[.bool b2_8, .pointer p2_8, .int .u64 ((b3_8 : Nat) : Int), .pointer p3_8] 64), ((φ15 0), .cells #[.bool b14, .pointer p14, .int .u64 ((b2_14 : Nat) : Int), .pointer p2_14] 64), ((φ18 0), .cells #[.bool b17, .pointer p17, .int .u64 ((b2_17 : Nat) : Int), .pointer p2_17] 64)] [] (.bool true) [] [] s trivial (by kernel_rfl) ?_
        exact ⟨_, _, _, rfl, s, rfl⟩

end Go.Proofs.YtgdickihjaomjaaDoor
