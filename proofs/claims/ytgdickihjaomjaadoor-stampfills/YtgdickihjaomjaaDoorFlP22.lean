/- Rows of heights and places are read; StampFills. -/
import Derived.Test.YtgdickihjaomjaaDoorFlP21
import Derived.Test.YtgdickihjaomjaaDoorFlP14
set_option linter.all false
set_option maxRecDepth 100000
namespace Go.Proofs.YtgdickihjaomjaaDoor
open Go.RowKit Go.Sep

theorem under37 : Tryd.prog.underlying 37 = some (.slice 24) := by kernel_rfl
theorem under76 : Tryd.prog.underlying 76 = some (.slice 4) := by kernel_rfl
theorem size24 (w : World) : (sizeOf 24).run Tryd.prog w = .ok 1 w := by kernel_rfl
theorem size4 (w : World) : (sizeOf 4).run Tryd.prog w = .ok 1 w := by kernel_rfl
theorem addr_add (b k : Nat) : (⟨b, 0, none⟩ : Addr).add k = ⟨b, k, none⟩ := by unfold Addr.add; split <;> simp_all
theorem run_idx37 {w : World} {b n c k : Nat} (h : k < n) : (Instr.indexAt 37 (.slice (some ⟨b, 0, none⟩) n c) (.int .i64 ((k : Nat) : Int))).run Tryd.prog w = .ok (.pointer (some ⟨b, k, none⟩)) w := by
  have h2 : (k : Int) < (n : Int) := by omega
  simp [Instr.indexAt, asIntOf, run_underlying under37, size24, h2, addr_add]
  intro h3; omega
theorem run_idx76 {w : World} {b n c k : Nat} (h : k < n) : (Instr.indexAt 76 (.slice (some ⟨b, 0, none⟩) n c) (.int .i64 ((k : Nat) : Int))).run Tryd.prog w = .ok (.pointer (some ⟨b, k, none⟩)) w := by
  have h2 : (k : Int) < (n : Int) := by omega
  simp [Instr.indexAt, asIntOf, run_underlying under76, size4, h2, addr_add]
  intro h3; omega
theorem vs_cell {J : IM} {w : World} (hS : J.Sub w) {e : TypeId} {xs : List Value} {b k : Nat} {v : Value} (h : VS J e xs b) (hv : xs[k]? = some v) : w.cell? ⟨b, k, none⟩ = some v := by
  obtain ⟨cur, h1, h2⟩ := h
  rw [run_cell (a := ⟨b, k, none⟩) (hS _ _ h1) rfl rfl]
  rw [← h2, List.getElem?_take] at hv
  split at hv
  · simpa using hv
  · cases hv
theorem run_load24 {J : IM} {w : World} (hS : J.Sub w) {e : TypeId} {xs : List Value} {b k : Nat} {v : Value} (h : VS J e xs b) (hv : xs[k]? = some v) : (Instr.loadAt 24 (.pointer (some ⟨b, k, none⟩))).run Tryd.prog w = .ok v w := by
  have e : (Instr.loadAt 24 (.pointer (some ⟨b, k, none⟩))).run Tryd.prog w = (load ⟨b, k, none⟩).run Tryd.prog w := by kernel_rfl
  rw [e]; simp only [load, Sem.run, vs_cell hS h hv]
theorem run_load4 {J : IM} {w : World} (hS : J.Sub w) {e : TypeId} {xs : List Value} {b k : Nat} {v : Value} (h : VS J e xs b) (hv : xs[k]? = some v) : (Instr.loadAt 4 (.pointer (some ⟨b, k, none⟩))).run Tryd.prog w = .ok v w := by
  have e : (Instr.loadAt 4 (.pointer (some ⟨b, k, none⟩))).run Tryd.prog w = (load ⟨b, k, none⟩).run Tryd.prog w := by kernel_rfl
  rw [e]; simp only [load, Sem.run, vs_cell hS h hv]
theorem h7 {e : E} {k : Nat} (h : k < 128) : ((hL 7 e).map cU)[k]? = some (.int .u64 ((hAt 7 e k : Nat) : Int)) := by
  rw [List.getElem?_map, hL_get 7 e k h]; rfl
theorem m7 {t : T} {k : Nat} (h : k < 128) : ((mL 7 t).map Value.bool)[k]? = some (.bool (mAt 7 t k)) := by
  rw [List.getElem?_map, mL_get 7 t k h]; rfl
theorem heights7_c {I : IM} {x : E} {k : Nat} (h : RE I x k) (ht : x.top < 18446744073709551616) : Fun Tryd.prog 22 #[.pointer (some ⟨k, 0, none⟩), .int .i64 7] I (fun v J => ∃ b c, v = .slice (some ⟨b, 0, none⟩) 128 c ∧ VS J 24 ((hL 7 x).map cU) b) :=
  fun_of_row (n := 128) (by decide) (heights_c 7 (by omega) h ht)
theorem has7_c {I : IM} {x : T} {k : Nat} (h : RT I x k) : Fun Tryd.prog 50 #[.pointer (some ⟨k, 0, none⟩), .int .i64 7] I (fun v J => ∃ b c, v = .slice (some ⟨b, 0, none⟩) 128 c ∧ VS J 4 ((mL 7 x).map Value.bool) b) :=
  fun_of_row (n := 128) (by decide) (has_c 7 (by omega) h)

theorem leMono {A I J : IM} (le : I.Le J) (h : A.Le I) : A.Le J := h.trans le

theorem sameFill_c {I : IM} {i : T} {e : E} {b c : Nat} {p q : Option Addr} (h : ERep I (fillE i (fillE i e)) b p) (h2 : ERep I (fillE i e) c q) (he : e.depth ≤ 6) (ht : e.top ≤ 1000000) : Fun Tryd.prog 30 #[evv b p, evv c q] I (fun v J => v = .bool true) := by
  rw [fill_again] at h
  have hb := fill_bounds e i
  refine (same_c (A := fillE i e) (B := fillE i e) h h2 (by omega) (by omega) (by omega) (by omega)).mono fun v J _ hv => ?_
  have := sameE_self (e := fillE i e) (by omega)
  unfold sameE at this
  rw [hv, this]
theorem maxFill_c {I : IM} {i : T} {e : E} {b : Nat} {p : Option Addr} (h : ERep I (fillE i e) b p) (ht : e.top ≤ 1000000) : Fun Tryd.prog 34 #[evv b p] I (fun v J => v = .int .u64 ((e.top : Nat) : Int)) := by
  have hb := fill_bounds e i
  exact (max_c h (by omega)).mono fun v J _ hv => by rw [hv, fill_top]
theorem max9_c {I : IM} {e : E} {b : Nat} {p : Option Addr} (h : ERep I e b p) (ht : e.top ≤ 1000000) : Fun Tryd.prog 34 #[evv b p] I (fun v J => v = .int .u64 ((e.top : Nat) : Int)) :=
  max_c h (by omega)

set_option maxHeartbeats 4000000 in
theorem stampFills_c {I : IM} (hT : Tab I) {p q : List UInt8} {vp vq : Value} (hp : BSl I p vp) (hq : BSl I q vq) : Fun Tryd.prog 14 #[vp, vq] I (fun v J => v = .bool true) := by
  refine enter_rule 107 [(0, vp), (1, vq)] Tryd.func14 rfl (by kernel_rfl) ?_
  intro w s
  refine wp_seq ?_
  refine region_rule ?_
  refine ops_rule (C := []) [] [] 1 [] 0 (fun φ1 => [(4, .bool false)]) (fun φ1 => []) (fun φ1 => []) s trivial (fun φ1 => by kernel_rfl) ?_
  intro φ1 w1 s
  refine ops_done (by kernel_rfl) ?_
  refine wp_seq ?_
  refine wp_seq ?_
  refine region_rule ?_
  refine call_rule (some 14) s (awakeS_c hT) (by kernel_rfl) ?_
  intro v2 I2 w2 le2 h2 s
  replace hT := Tab.mono le2 hT
  replace hp := BSl.mono le2 hp
  replace hq := BSl.mono le2 hq
  obtain rfl := h2
  refine ops_rule (C := []) [] [] 1 [] 0 (fun φ3 => [(15, .bool false)]) (fun φ3 => []) (fun φ3 => []) s trivial (fun φ3 => by kernel_rfl) ?_
  intro φ3 w3 s
  refine ops_done (by kernel_rfl) ?_
  refine cond_false_rule (b := false) (by kernel_rfl) rfl ?_
  refine wp_skip ?_
  refine wp_seq ?_
  refine region_rule ?_
  refine ops_rule (C := []) [] [] 2 [] 0 (fun φ4 => [(18, vq), (17, vp)]) (fun φ4 => []) (fun φ4 => []) s trivial (fun φ4 => by kernel_rfl) ?_
  intro φ4 w4 s
  refine call_rule (some 19) s (made_c hp hq) (by kernel_rfl) ?_
  intro v5 I5 w5 le5 h5 s
  replace hT := Tab.mono le5 hT
  replace hp := BSl.mono le5 hp
  replace hq := BSl.mono le5 hq
  obtain ⟨ib5, ip5, eb5, ep5, ki5, ke5, i5, e5, rfl, h5_0, h5_1, h5_2, h5_3, h5_4, h5_5⟩ := h5
  refine ops_rule (C := []) [] [] 7 [.o 0, .o 0, .o 0, .o 0, .o 1, .o 1] 2 (fun φ6 => [(6, .pointer (some ⟨(φ6 1), 0, none⟩)), (5, .pointer (some ⟨(φ6 0), 0, none⟩)), (21, .agg #[.pointer (some ⟨ki5, 0, none⟩), .pointer (some ⟨ke5, 0, none⟩)]), (20, .agg #[.bool ib5, .pointer ip5, .int .u64 ((eb5 : Nat) : Int), .pointer ep5]), (16, .tuple #[.agg #[.bool ib5, .pointer ip5, .int .u64 ((eb5 : Nat) : Int), .pointer ep5], .agg #[.pointer (some ⟨ki5, 0, none⟩), .pointer (some ⟨ke5, 0, none⟩)]])]) (fun φ6 => [((φ6 0), .cells #[.bool ib5, .pointer ip5, .int .u64 ((eb5 : Nat) : Int), .pointer ep5] 64), ((φ6 1), .cells #[.pointer (some ⟨ki5, 0, none⟩), .pointer (some ⟨ke5, 0, none⟩)] 67)]) (fun φ6 => [(φ6 0), (φ6 0), (φ6 0), (φ6 0), (φ6 1), (φ6 1)]) s trivial (fun φ6 => by kernel_rfl) ?_
  intro φ6 w6 s
  refine ops_done (by kernel_rfl) ?_
  refine wp_seq ?_
  refine region_rule ?_
  refine ops_rule (C := []) [((φ6 0), .cells #[.bool ib5, .pointer ip5, .int .u64 ((eb5 : Nat) : Int), .pointer ep5] 64), ((φ6 1), .cells #[.pointer (some ⟨ki5, 0, none⟩), .pointer (some ⟨ke5, 0, none⟩)] 67)] [] 4 [.o 0, .o 0, .o 0, .o 0] 0 (fun φ7 => [(25, .agg #[.int .u64 ((eb5 : Nat) : Int), .pointer ep5]), (24, .pointer (some ⟨(φ6 0), 2, none⟩)), (23, .agg #[.bool ib5, .pointer ip5]), (22, .pointer (some ⟨(φ6 0), 0, none⟩))]) (fun φ7 => [((φ6 0), .cells #[.bool ib5, .pointer ip5, .int .u64 ((eb5 : Nat) : Int), .pointer ep5] 64), ((φ6 1), .cells #[.pointer (some ⟨ki5, 0, none⟩), .pointer (some ⟨ke5, 0, none⟩)] 67)]) (fun φ7 => [(φ6 0), (φ6 0), (φ6 0), (φ6 0)]) s trivial (fun φ7 => by kernel_rfl) ?_
  intro φ7 w7 s
  refine call_rule (some 26) s (fill_c e5 i5 (by have q0 := h5_1.1; have q1 := h5_0.2; have q2 := h5_1.2; have q3 := fill_bounds e5 i5; first | assumption | omega | exact textT_small (by omega) | exact textE_small (by omega) (by omega)) (by have q0 := h5_1.1; have q1 := h5_0.2; have q2 := h5_1.2; have q3 := fill_bounds e5 i5; first | assumption | omega | exact textT_small (by omega) | exact textE_small (by omega) (by omega)) h5_2 h5_3) (by kernel_rfl) ?_
  intro v8 I8 w8 le8 h8 s
  replace hT := Tab.mono le8 hT
  replace hp := BSl.mono le8 hp
  replace hq := BSl.mono le8 hq
  replace h5_2 := TRep.mono le8 h5_2
  replace h5_3 := ERep.mono le8 h5_3
  replace h5_4 := RT.mono le8 h5_4
  replace h5_5 := RE.mono le8 h5_5
  obtain ⟨b8, p8, rfl, h8_0⟩ := h8
  refine ops_rule (C := []) [((φ6 0), .cells #[.bool ib5, .pointer ip5, .int .u64 ((eb5 : Nat) : Int), .pointer ep5] 64), ((φ6 1), .cells #[.pointer (some ⟨ki5, 0, none⟩), .pointer (some ⟨ke5, 0, none⟩)] 67)] [] 2 [.o 2, .o 2] 1 (fun φ9 => [(7, .pointer (some ⟨(φ9 0), 0, none⟩))]) (fun φ9 => [((φ6 0), .cells #[.bool ib5, .pointer ip5, .int .u64 ((eb5 : Nat) : Int), .pointer ep5] 64), ((φ6 1), .cells #[.pointer (some ⟨ki5, 0, none⟩), .pointer (some ⟨ke5, 0, none⟩)] 67), ((φ9 0), .cells #[.int .u64 ((b8 : Nat) : Int), .pointer p8] 27)]) (fun φ9 => [(φ9 0), (φ9 0)]) s trivial (fun φ9 => by kernel_rfl) ?_
  intro φ9 w9 s
  refine ops_done (by kernel_rfl) ?_
  refine wp_seq ?_
  refine region_rule ?_
  refine ops_rule (C := []) [((φ6 0), .cells #[.bool ib5, .pointer ip5, .int .u64 ((eb5 : Nat) : Int), .pointer ep5] 64), ((φ6 1), .cells #[.pointer (some ⟨ki5, 0, none⟩), .pointer (some ⟨ke5, 0, none⟩)] 67), ((φ9 0), .cells #[.int .u64 ((b8 : Nat) : Int), .pointer p8] 27)] [] 4 [.o 1, .o 1] 0 (fun φ10 => [(30, .pointer (some ⟨ke5, 0, none⟩)), (29, .pointer (some ⟨(φ6 1), 1, none⟩)), (28, .pointer (some ⟨ki5, 0, none⟩)), (27, .pointer (some ⟨(φ6 1), 0, none⟩))]) (fun φ10 => [((φ6 0), .cells #[.bool ib5, .pointer ip5, .int .u64 ((eb5 : Nat) : Int), .pointer ep5] 64), ((φ6 1), .cells #[.pointer (some ⟨ki5, 0, none⟩), .pointer (some ⟨ke5, 0, none⟩)] 67), ((φ9 0), .cells #[.int .u64 ((b8 : Nat) : Int), .pointer p8] 27)]) (fun φ10 => [(φ6 1), (φ6 1)]) s trivial (fun φ10 => by kernel_rfl) ?_
  intro φ10 w10 s
  refine call_rule (some 31) s (rfill_c e5 i5 (by have q0 := h5_1.1; have q1 := h5_0.2; have q2 := h5_1.2; have q3 := fill_bounds e5 i5; first | assumption | omega | exact textT_small (by omega) | exact textE_small (by omega) (by omega)) (by have q0 := h5_1.1; have q1 := h5_0.2; have q2 := h5_1.2; have q3 := fill_bounds e5 i5; first | assumption | omega | exact textT_small (by omega) | exact textE_small (by omega) (by omega)) h5_4 h5_5) (by kernel_rfl) ?_
  intro v11 I11 w11 le11 h11 s
  replace hT := Tab.mono le11 hT
  replace hp := BSl.mono le11 hp
  replace hq := BSl.mono le11 hq
  replace h5_2 := TRep.mono le11 h5_2
  replace h5_3 := ERep.mono le11 h5_3
  replace h5_4 := RT.mono le11 h5_4
  replace h5_5 := RE.mono le11 h5_5
  replace h8_0 := ERep.mono le11 h8_0
  obtain ⟨k11, rfl, h11_0⟩ := h11
  refine ops_rule (C := []) [((φ6 0), .cells #[.bool ib5, .pointer ip5, .int .u64 ((eb5 : Nat) : Int), .pointer ep5] 64), ((φ6 1), .cells #[.pointer (some ⟨ki5, 0, none⟩), .pointer (some ⟨ke5, 0, none⟩)] 67), ((φ9 0), .cells #[.int .u64 ((b8 : Nat) : Int), .pointer p8] 27)] [] 1 [] 0 (fun φ12 => [(8, .pointer (some ⟨k11, 0, none⟩))]) (fun φ12 => [((φ6 0), .cells #[.bool ib5, .pointer ip5, .int .u64 ((eb5 : Nat) : Int), .pointer ep5] 64), ((φ6 1), .cells #[.pointer (some ⟨ki5, 0, none⟩), .pointer (some ⟨ke5, 0, none⟩)] 67), ((φ9 0), .cells #[.int .u64 ((b8 : Nat) : Int), .pointer p8] 27)]) (fun φ12 => []) s trivial (fun φ12 => by kernel_rfl) ?_
  intro φ12 w12 s
  refine ops_done (by kernel_rfl) ?_
  refine wp_seq ?_
  refine region_rule ?_
  refine ops_rule (C := []) [((φ6 0), .cells #[.bool ib5, .pointer ip5, .int .u64 ((eb5 : Nat) : Int), .pointer ep5] 64), ((φ6 1), .cells #[.pointer (some ⟨ki5, 0, none⟩), .pointer (some ⟨ke5, 0, none⟩)] 67), ((φ9 0), .cells #[.int .u64 ((b8 : Nat) : Int), .pointer p8] 27)] [] 1 [] 0 (fun φ13 => [(9, .int .i64 7)]) (fun φ13 => [((φ6 0), .cells #[.bool ib5, .pointer ip5, .int .u64 ((eb5 : Nat) : Int), .pointer ep5] 64), ((φ6 1), .cells #[.pointer (some ⟨ki5, 0, none⟩), .pointer (some ⟨ke5, 0, none⟩)] 67), ((φ9 0), .cells #[.int .u64 ((b8 : Nat) : Int), .pointer p8] 27)]) (fun φ13 => []) s trivial (fun φ13 => by kernel_rfl) ?_
  intro φ13 w13 s
  refine ops_done (by kernel_rfl) ?_
  refine wp_seq ?_
  refine draw_rule (C := []) ⟨(fun φ14 xs14 => [.look 0 [] [], .look 0 [.o 1] [(φ6 1)], .look 0 [] [], .call 22 #[.pointer (some ⟨ke5, 0, none⟩), .int .i64 7], .look 0 [] [], .look 0 [] [], .call 22 #[.pointer (some ⟨k11, 0, none⟩), .int .i64 7], .look 0 [] [], .look 0 [.o 1] [(φ6 1)], .look 0 [] [], .call 50 #[.pointer (some ⟨ki5, 0, none⟩), .int .i64 7], .look 0 [] [], .look 0 [] [], .look 0 [] []]), (fun φ14 xs14 => [.pointer (some ⟨(φ6 1), 1, none⟩), .pointer (some ⟨ke5, 0, none⟩), .int .i64 7, .slice (some ⟨(xs14 3).n 0, 0, none⟩) 128 ((xs14 3).n 1), .pointer (some ⟨k11, 0, none⟩), .int .i64 7, .slice (some ⟨(xs14 6).n 0, 0, none⟩) 128 ((xs14 6).n 1), .pointer (some ⟨(φ6 1), 0, none⟩), .pointer (some ⟨ki5, 0, none⟩), .int .i64 7, .slice (some ⟨(xs14 10).n 0, 0, none⟩) 128 ((xs14 10).n 1), .slice (some ⟨(xs14 3).n 0, 0, none⟩) 128 ((xs14 3).n 1), .slice (some ⟨(xs14 6).n 0, 0, none⟩) 128 ((xs14 6).n 1), .slice (some ⟨(xs14 10).n 0, 0, none⟩) 128 ((xs14 10).n 1)]), (fun φ14 xs14 => [[((φ6 0), .cells #[.bool ib5, .pointer ip5, .int .u64 ((eb5 : Nat) : Int), .pointer ep5] 64), ((φ6 1), .cells #[.pointer (some ⟨ki5, 0, none⟩), .pointer (some ⟨ke5, 0, none⟩)] 67), ((φ9 0), .cells #[.int .u64 ((b8 : Nat) : Int), .pointer p8] 27)]]), (fun φ14 xs14 => [[default, default, default, default, default, default, default, default, default, default, default, default, default, default]]), [], [1, 1, 1, 3, 1, 1, 3, 1, 1, 1, 3, 1, 1, 1]⟩ (fun j => ([MP.any, MP.any, MP.any, ⟨fun x J => VS J 24 ((hL 7 e5).map cU) (x.n 0), fun le h => VS.mono le h⟩, MP.any, MP.any, ⟨fun x J => VS J 24 ((hL 7 (fillE i5 e5)).map cU) (x.n 0), fun le h => VS.mono le h⟩, MP.any, MP.any, MP.any, ⟨fun x J => VS J 4 ((mL 7 i5).map Value.bool) (x.n 0), fun le h => VS.mono le h⟩, MP.any, MP.any, MP.any] : List MP).getD j MP.any) [3, 6, 10] [] [] (fun φ14 xs14 => []) (fun φ14 xs14 => [(32, .pointer (some ⟨(φ6 1), 1, none⟩)), (33, .pointer (some ⟨ke5, 0, none⟩)), (34, .int .i64 7), (35, .slice (some ⟨(xs14 3).n 0, 0, none⟩) 128 ((xs14 3).n 1)), (36, .pointer (some ⟨k11, 0, none⟩)), (37, .int .i64 7), (38, .slice (some ⟨(xs14 6).n 0, 0, none⟩) 128 ((xs14 6).n 1)), (39, .pointer (some ⟨(φ6 1), 0, none⟩)), (40, .pointer (some ⟨ki5, 0, none⟩)), (41, .int .i64 7), (42, .slice (some ⟨(xs14 10).n 0, 0, none⟩) 128 ((xs14 10).n 1)), (10, .slice (some ⟨(xs14 3).n 0, 0, none⟩) 128 ((xs14 3).n 1)), (11, .slice (some ⟨(xs14 6).n 0, 0, none⟩) 128 ((xs14 6).n 1)), (12, .slice (some ⟨(xs14 10).n 0, 0, none⟩) 128 ((xs14 10).n 1))]) (fun φ14 xs14 => [((φ6 0), .cells #[.bool ib5, .pointer ip5, .int .u64 ((eb5 : Nat) : Int), .pointer ep5] 64), ((φ6 1), .cells #[.pointer (some ⟨ki5, 0, none⟩), .pointer (some ⟨ke5, 0, none⟩)] 67), ((φ9 0), .cells #[.int .u64 ((b8 : Nat) : Int), .pointer p8] 27)]) s trivial (by kernel_rfl) (by kernel_rfl) (fun _ _ => by kernel_rfl) (fun _ _ => by kernel_rfl) ⟨fun _ _ => by kernel_rfl, fun _ _ => by kernel_rfl, fun _ _ => by kernel_rfl, fun _ _ => by kernel_rfl⟩ (fun _ _ _ => by kernel_rfl) (fun _ _ => by kernel_rfl) (fun _ _ => by kernel_rfl) (fun _ _ => by kernel_rfl) (fun _ _ => by kernel_rfl) (fun _ _ => by kernel_rfl) trivial trivial ⟨?c14_3, ?c14_6, ?c14_10, trivial⟩ ?k14
  case c14_3 =>
    refine kcast (A := ∀ (φ14 : Nat → Nat) (xs14 : Xs) (J3_14 : IM), I11.Le J3_14 → Fun Tryd.prog 22 #[.pointer (some ⟨ke5, 0, none⟩), .int .i64 7] J3_14 (fun v J' => ∃ x : UX, v = .slice (some ⟨x.n 0, 0, none⟩) 128 (x.n 1) ∧ (VS J' 24 ((hL 7 e5).map cU) (x.n 0)))) (by kernel_rfl) ?_
    intro φ14 xs14 J3_14 leJ
    have h5_5 := RE.mono leJ h5_5
    exact Fun.mono (heights7_c h5_5 (by have q0 := h5_1.1; have q1 := h5_0.2; have q2 := h5_1.2; have q3 := fill_bounds e5 i5; first | assumption | omega | exact textT_small (by omega) | exact textE_small (by omega) (by omega))) (fun v J' _ ⟨y0, y1, hv, g0⟩ => ⟨{ UX.d with n := fun j => cond (Nat.beq j 0) y0 (y1) }, hv, g0⟩)
  case c14_6 =>
    refine kcast (A := ∀ (φ14 : Nat → Nat) (xs14 : Xs) (J6_14 : IM), I11.Le J6_14 → (VS J6_14 24 ((hL 7 e5).map cU) ((xs14 3).n 0)) → Fun Tryd.prog 22 #[.pointer (some ⟨k11, 0, none⟩), .int .i64 7] J6_14 (fun v J' => ∃ x : UX, v = .slice (some ⟨x.n 0, 0, none⟩) 128 (x.n 1) ∧ (VS J' 24 ((hL 7 (fillE i5 e5)).map cU) (x.n 0)))) (by kernel_rfl) ?_
    intro φ14 xs14 J6_14 leJ
    rintro h14_3_0
    have h11_0 := RE.mono leJ h11_0
    exact Fun.mono (heights7_c h11_0 (by have q0 := h5_1.1; have q1 := h5_0.2; have q2 := h5_1.2; have q3 := fill_bounds e5 i5; first | assumption | omega | exact textT_small (by omega) | exact textE_small (by omega) (by omega))) (fun v J' _ ⟨y0, y1, hv, g0⟩ => ⟨{ UX.d with n := fun j => cond (Nat.beq j 0) y0 (y1) }, hv, g0⟩)
  case c14_10 =>
    refine kcast (A := ∀ (φ14 : Nat → Nat) (xs14 : Xs) (J10_14 : IM), I11.Le J10_14 → (VS J10_14 24 ((hL 7 e5).map cU) ((xs14 3).n 0)) → (VS J10_14 24 ((hL 7 (fillE i5 e5)).map cU) ((xs14 6).n 0)) → Fun Tryd.prog 50 #[.pointer (some ⟨ki5, 0, none⟩), .int .i64 7] J10_14 (fun v J' => ∃ x : UX, v = .slice (some ⟨x.n 0, 0, none⟩) 128 (x.n 1) ∧ (VS J' 4 ((mL 7 i5).map Value.bool) (x.n 0)))) (by kernel_rfl) ?_
    intro φ14 xs14 J10_14 leJ
    rintro h14_3_0 h14_6_0
    have h5_4 := RT.mono leJ h5_4
    exact Fun.mono (has7_c h5_4) (fun v J' _ ⟨y0, y1, hv, g0⟩ => ⟨{ UX.d with n := fun j => cond (Nat.beq j 0) y0 (y1) }, hv, g0⟩)
  case k14 =>
    rintro φ14 xs14 I14 w14 le14 s h14_3_0 h14_6_0 h14_10_0
    replace hT := Tab.mono le14 hT
    replace hp := BSl.mono le14 hp
    replace hq := BSl.mono le14 hq
    replace h5_2 := TRep.mono le14 h5_2
    replace h5_3 := ERep.mono le14 h5_3
    replace h5_4 := RT.mono le14 h5_4
    replace h5_5 := RE.mono le14 h5_5
    replace h8_0 := ERep.mono le14 h8_0
    replace h11_0 := RE.mono le14 h11_0
    refine wp_seq ?_
    refine wp_seq ?_
    refine region_rule ?_
    refine ops_rule (C := []) [((φ6 0), .cells #[.bool ib5, .pointer ip5, .int .u64 ((eb5 : Nat) : Int), .pointer ep5] 64), ((φ6 1), .cells #[.pointer (some ⟨ki5, 0, none⟩), .pointer (some ⟨ke5, 0, none⟩)] 67), ((φ9 0), .cells #[.int .u64 ((b8 : Nat) : Int), .pointer p8] 27)] [] 3 [] 0 (fun φ15 => [(45, .int .i64 0), (44, .int .i64 128), (43, .slice (some ⟨(xs14 3).n 0, 0, none⟩) 128 ((xs14 3).n 1))]) (fun φ15 => [((φ6 0), .cells #[.bool ib5, .pointer ip5, .int .u64 ((eb5 : Nat) : Int), .pointer ep5] 64), ((φ6 1), .cells #[.pointer (some ⟨ki5, 0, none⟩), .pointer (some ⟨ke5, 0, none⟩)] 67), ((φ9 0), .cells #[.int .u64 ((b8 : Nat) : Int), .pointer p8] 27)]) (fun φ15 => []) s trivial (fun φ15 => by kernel_rfl) ?_
    intro φ15 w15 s
    refine ops_done (by kernel_rfl) ?_
    refine wp_block ?_
    have hle16 := IM.Le.refl I14
    refine loop_rule (fun (x : Nat) => [(5, .pointer (some ⟨(φ6 0), 0, none⟩)), (6, .pointer (some ⟨(φ6 1), 0, none⟩)), (7, .pointer (some ⟨(φ9 0), 0, none⟩)), (8, .pointer (some ⟨k11, 0, none⟩)), (10, .slice (some ⟨(xs14 3).n 0, 0, none⟩) 128 ((xs14 3).n 1)), (11, .slice (some ⟨(xs14 6).n 0, 0, none⟩) 128 ((xs14 6).n 1)), (12, .slice (some ⟨(xs14 10).n 0, 0, none⟩) 128 ((xs14 10).n 1)), (44, .int .i64 128), (45, .int .i64 ((x : Nat) : Int))]) (fun (_ : Nat) => [((φ6 0), .cells #[.bool ib5, .pointer ip5, .int .u64 ((eb5 : Nat) : Int), .pointer ep5] 64), ((φ6 1), .cells #[.pointer (some ⟨ki5, 0, none⟩), .pointer (some ⟨ke5, 0, none⟩)] 67), ((φ9 0), .cells #[.int .u64 ((b8 : Nat) : Int), .pointer p8] 27)]) (fun m (x : Nat) J => IM.Le I14 J ∧ x + m = 128) 128 0 s (by kernel_rfl) (List.Sublist.cons₂ _ (List.Sublist.cons₂ _ (List.Sublist.cons₂ _ List.Sublist.slnil))) ⟨IM.Le.refl _, rfl⟩ ?_
    rintro m k I17 w17 evj s ⟨le17, hm⟩
    try dsimp only at s hm ⊢
    replace hT := Tab.mono le17 hT
    replace hp := BSl.mono le17 hp
    replace hq := BSl.mono le17 hq
    replace h5_2 := TRep.mono le17 h5_2
    replace h5_3 := ERep.mono le17 h5_3
    replace h5_4 := RT.mono le17 h5_4
    replace h5_5 := RE.mono le17 h5_5
    replace h8_0 := ERep.mono le17 h8_0
    replace h11_0 := RE.mono le17 h11_0
    replace h14_3_0 := VS.mono le17 h14_3_0
    replace h14_6_0 := VS.mono le17 h14_6_0
    replace h14_10_0 := VS.mono le17 h14_10_0
    replace hle16 := leMono le17 hle16
    refine wp_seq ?_
    refine region_rule ?_
    refine ops_rule (C := []) [((φ6 0), .cells #[.bool ib5, .pointer ip5, .int .u64 ((eb5 : Nat) : Int), .pointer ep5] 64), ((φ6 1), .cells #[.pointer (some ⟨ki5, 0, none⟩), .pointer (some ⟨ke5, 0, none⟩)] 67), ((φ9 0), .cells #[.int .u64 ((b8 : Nat) : Int), .pointer p8] 27)] [] 1 [] 0 (fun φ18 => [(46, .bool (decide (((k : Nat) : Int) < ((128 : Nat) : Int))))]) (fun φ18 => [((φ6 0), .cells #[.bool ib5, .pointer ip5, .int .u64 ((eb5 : Nat) : Int), .pointer ep5] 64), ((φ6 1), .cells #[.pointer (some ⟨ki5, 0, none⟩), .pointer (some ⟨ke5, 0, none⟩)] 67), ((φ9 0), .cells #[.int .u64 ((b8 : Nat) : Int), .pointer p8] 27)]) (fun φ18 => []) s trivial (fun φ18 => by kernel_rfl) ?_
    intro φ18 w18 s
    rw [nat_lss (a := k) (b := 128)]
    refine ops_done (by kernel_rfl) ?_
    refine wp_seq ?_
    rcases Bool.eq_false_or_eq_true (decide (k < 128)) with hc19 | hc19
    ·
      rw [hc19]
      refine cond_true_rule (b := true) (by kernel_rfl) rfl ?_
      refine wp_skip ?_
      refine wp_seq ?_
      refine wp_block ?_
      refine wp_seq ?_
      refine region_rule ?_
      refine ops_rule (C := []) [((φ6 0), .cells #[.bool ib5, .pointer ip5, .int .u64 ((eb5 : Nat) : Int), .pointer ep5] 64), ((φ6 1), .cells #[.pointer (some ⟨ki5, 0, none⟩), .pointer (some ⟨ke5, 0, none⟩)] 67), ((φ9 0), .cells #[.int .u64 ((b8 : Nat) : Int), .pointer p8] 27)] [] 2 [] 0 (fun φ20 => [(13, .int .i64 ((k : Nat) : Int)), (47, .int .i64 ((k : Nat) : Int))]) (fun φ20 => [((φ6 0), .cells #[.bool ib5, .pointer ip5, .int .u64 ((eb5 : Nat) : Int), .pointer ep5] 64), ((φ6 1), .cells #[.pointer (some ⟨ki5, 0, none⟩), .pointer (some ⟨ke5, 0, none⟩)] 67), ((φ9 0), .cells #[.int .u64 ((b8 : Nat) : Int), .pointer p8] 27)]) (fun φ20 => []) s trivial (fun φ20 => by kernel_rfl) ?_
      intro φ20 w20 s
      refine ops_done (by kernel_rfl) ?_
      refine wp_seq ?_
      rcases Bool.eq_false_or_eq_true (decide ((hAt 7 (fillE i5 e5) k) < (hAt 7 e5 k))) with hc21 | hc21
      ·
        exact absurd (of_decide_eq_true hc21) (by have := (fill_lift 7 e5 i5 k); omega)
      ·
        rcases Bool.eq_false_or_eq_true (decide (e5.top < (hAt 7 (fillE i5 e5) k))) with hc22 | hc22
        ·
          exact absurd (of_decide_eq_true hc22) (by have := (fill_lift 7 e5 i5 k); omega)
        ·
          rcases Bool.eq_false_or_eq_true (decide ((hAt 7 e5 k) ≠ (hAt 7 (fillE i5 e5) k))) with hc23 | hc23
          ·
            refine draw_rule (C := []) ⟨(fun φ24 xs24 => [.look 0 [] [], .look 0 [] [], .ran (Instr.indexAt 37 (.slice (some ⟨(xs14 6).n 0, 0, none⟩) 128 ((xs14 6).n 1)) (.int .i64 ((k : Nat) : Int))), .ran (Instr.loadAt 24 (.pointer (some ⟨(xs14 6).n 0, k, none⟩))), .look 0 [] [], .look 0 [] [], .ran (Instr.indexAt 37 (.slice (some ⟨(xs14 3).n 0, 0, none⟩) 128 ((xs14 3).n 1)) (.int .i64 ((k : Nat) : Int))), .ran (Instr.loadAt 24 (.pointer (some ⟨(xs14 3).n 0, k, none⟩))), .sub 0 [] [] (.bool (decide (((hAt 7 (fillE i5 e5) k : Nat) : Int) < ((hAt 7 e5 k : Nat) : Int)))), .look 0 [] [], .look 0 [] [], .look 0 [] [], .ran (Instr.indexAt 37 (.slice (some ⟨(xs14 6).n 0, 0, none⟩) 128 ((xs14 6).n 1)) (.int .i64 ((k : Nat) : Int))), .ran (Instr.loadAt 24 (.pointer (some ⟨(xs14 6).n 0, k, none⟩))), .look 0 [] [], .look 0 [.o 1] [(φ6 1)], .call 67 #[.pointer (some ⟨ke5, 0, none⟩)], .sub 0 [] [] (.bool (decide (((hAt 7 (fillE i5 e5) k : Nat) : Int) > ((e5.top : Nat) : Int)))), .look 0 [] [], .look 0 [] [], .look 0 [] [], .look 0 [] [], .ran (Instr.indexAt 37 (.slice (some ⟨(xs14 3).n 0, 0, none⟩) 128 ((xs14 3).n 1)) (.int .i64 ((k : Nat) : Int))), .ran (Instr.loadAt 24 (.pointer (some ⟨(xs14 3).n 0, k, none⟩))), .look 0 [] [], .look 0 [] [], .ran (Instr.indexAt 37 (.slice (some ⟨(xs14 6).n 0, 0, none⟩) 128 ((xs14 6).n 1)) (.int .i64 ((k : Nat) : Int))), .ran (Instr.loadAt 24 (.pointer (some ⟨(xs14 6).n 0, k, none⟩))), .sub 0 [] [] (.bool (((hAt 7 e5 k : Nat) : Int) != ((hAt 7 (fillE i5 e5) k : Nat) : Int))), .look 0 [] [], .look 0 [] [], .look 0 [] [], .ran (Instr.indexAt 76 (.slice (some ⟨(xs14 10).n 0, 0, none⟩) 128 ((xs14 10).n 1)) (.int .i64 ((k : Nat) : Int))), .ran (Instr.loadAt 4 (.pointer (some ⟨(xs14 10).n 0, k, none⟩))), .look 0 [] [], .look 0 [] [], .look 0 [] []]), (fun φ24 xs24 => [.slice (some ⟨(xs14 6).n 0, 0, none⟩) 128 ((xs14 6).n 1), .int .i64 ((k : Nat) : Int), .pointer (some ⟨(xs14 6).n 0, k, none⟩), .int .u64 ((hAt 7 (fillE i5 e5) k : Nat) : Int), .slice (some ⟨(xs14 3).n 0, 0, none⟩) 128 ((xs14 3).n 1), .int .i64 ((k : Nat) : Int), .pointer (some ⟨(xs14 3).n 0, k, none⟩), .int .u64 ((hAt 7 e5 k : Nat) : Int), .bool false, .bool false, .slice (some ⟨(xs14 6).n 0, 0, none⟩) 128 ((xs14 6).n 1), .int .i64 ((k : Nat) : Int), .pointer (some ⟨(xs14 6).n 0, k, none⟩), .int .u64 ((hAt 7 (fillE i5 e5) k : Nat) : Int), .pointer (some ⟨(φ6 1), 1, none⟩), .pointer (some ⟨ke5, 0, none⟩), .int .u64 ((e5.top : Nat) : Int), .bool false, .bool false, .bool false, .slice (some ⟨(xs14 3).n 0, 0, none⟩) 128 ((xs14 3).n 1), .int .i64 ((k : Nat) : Int), .pointer (some ⟨(xs14 3).n 0, k, none⟩), .int .u64 ((hAt 7 e5 k : Nat) : Int), .slice (some ⟨(xs14 6).n 0, 0, none⟩) 128 ((xs14 6).n 1), .int .i64 ((k : Nat) : Int), .pointer (some ⟨(xs14 6).n 0, k, none⟩), .int .u64 ((hAt 7 (fillE i5 e5) k : Nat) : Int), .bool true, .bool true, .slice (some ⟨(xs14 10).n 0, 0, none⟩) 128 ((xs14 10).n 1), .int .i64 ((k : Nat) : Int), .pointer (some ⟨(xs14 10).n 0, k, none⟩), .bool (mAt 7 i5 k), .bool (!(mAt 7 i5 k)), .bool (!(mAt 7 i5 k)), .bool (!(mAt 7 i5 k))]), (fun φ24 xs24 => [[((φ6 0), .cells #[.bool ib5, .pointer ip5, .int .u64 ((eb5 : Nat) : Int), .pointer ep5] 64), ((φ6 1), .cells #[.pointer (some ⟨ki5, 0, none⟩), .pointer (some ⟨ke5, 0, none⟩)] 67), ((φ9 0), .cells #[.int .u64 ((b8 : Nat) : Int), .pointer p8] 27)]]), (fun φ24 xs24 => [[default, default, default, default, default, default, default, default, default, default, default, default, default, default, default, default, default, default, default, default, default, default, default, default, default, default, default, default, default, default, default, default, default, default, default, default, default]]), [], [1, 1, 6, 6, 1, 1, 6, 6, 5, 1, 1, 1, 6, 6, 1, 1, 3, 5, 1, 1, 1, 1, 6, 6, 1, 1, 6, 6, 5, 1, 1, 1, 6, 6, 1, 1, 1]⟩ (fun j => ([MP.any, MP.any, MP.any, MP.any, MP.any, MP.any, MP.any, MP.any, MP.any, MP.any, MP.any, MP.any, MP.any, MP.any, MP.any, MP.any, MP.any, MP.any, MP.any, MP.any, MP.any, MP.any, MP.any, MP.any, MP.any, MP.any, MP.any, MP.any, MP.any, MP.any, MP.any, MP.any, MP.any, MP.any, MP.any, MP.any, MP.any] : List MP).getD j MP.any) [16] [8, 17, 28] [2, 3, 6, 7, 12, 13, 22, 23, 26, 27, 32, 33] (fun φ24 xs24 => []) (fun φ24 xs24 => [(48, .slice (some ⟨(xs14 6).n 0, 0, none⟩) 128 ((xs14 6).n 1)), (49, .int .i64 ((k : Nat) : Int)), (50, .pointer (some ⟨(xs14 6).n 0, k, none⟩)), (51, .int .u64 ((hAt 7 (fillE i5 e5) k : Nat) : Int)), (52, .slice (some ⟨(xs14 3).n 0, 0, none⟩) 128 ((xs14 3).n 1)), (53, .int .i64 ((k : Nat) : Int)), (54, .pointer (some ⟨(xs14 3).n 0, k, none⟩)), (55, .int .u64 ((hAt 7 e5 k : Nat) : Int)), (56, .bool false), (57, .bool false), (58, .slice (some ⟨(xs14 6).n 0, 0, none⟩) 128 ((xs14 6).n 1)), (59, .int .i64 ((k : Nat) : Int)), (60, .pointer (some ⟨(xs14 6).n 0, k, none⟩)), (61, .int .u64 ((hAt 7 (fillE i5 e5) k : Nat) : Int)), (62, .pointer (some ⟨(φ6 1), 1, none⟩)), (63, .pointer (some ⟨ke5, 0, none⟩)), (64, .int .u64 ((e5.top : Nat) : Int)), (65, .bool false), (66, .bool false), (67, .bool false), (68, .slice (some ⟨(xs14 3).n 0, 0, none⟩) 128 ((xs14 3).n 1)), (69, .int .i64 ((k : Nat) : Int)), (70, .pointer (some ⟨(xs14 3).n 0, k, none⟩)), (71, .int .u64 ((hAt 7 e5 k : Nat) : Int)), (72, .slice (some ⟨(xs14 6).n 0, 0, none⟩) 128 ((xs14 6).n 1)), (73, .int .i64 ((k : Nat) : Int)), (74, .pointer (some ⟨(xs14 6).n 0, k, none⟩)), (75, .int .u64 ((hAt 7 (fillE i5 e5) k : Nat) : Int)), (76, .bool true), (77, .bool true), (78, .slice (some ⟨(xs14 10).n 0, 0, none⟩) 128 ((xs14 10).n 1)), (79, .int .i64 ((k : Nat) : Int)), (80, .pointer (some ⟨(xs14 10).n 0, k, none⟩)), (81, .bool (mAt 7 i5 k)), (82, .bool (!(mAt 7 i5 k))), (83, .bool (!(mAt 7 i5 k))), (84, .bool (!(mAt 7 i5 k)))]) (fun φ24 xs24 => [((φ6 0), .cells #[.bool ib5, .pointer ip5, .int .u64 ((eb5 : Nat) : Int), .pointer ep5] 64), ((φ6 1), .cells #[.pointer (some ⟨ki5, 0, none⟩), .pointer (some ⟨ke5, 0, none⟩)] 67), ((φ9 0), .cells #[.int .u64 ((b8 : Nat) : Int), .pointer p8] 27)]) s trivial (by kernel_rfl) (by kernel_rfl) (fun _ _ => by kernel_rfl) (fun _ _ => by kernel_rfl) ⟨fun _ _ => by kernel_rfl, fun _ _ => by kernel_rfl, fun _ _ => by kernel_rfl, fun _ _ => by kernel_rfl⟩ (fun _ _ _ => by kernel_rfl) (fun _ _ => by kernel_rfl) (fun _ _ => by kernel_rfl) (fun _ _ => by kernel_rfl) (fun _ _ => by kernel_rfl) (fun _ _ => by kernel_rfl) ⟨kcast (A := ∀ (φ24 : Nat → Nat) (xs24 : Xs), (.bool (decide (((hAt 7 (fillE i5 e5) k : Nat) : Int) < ((hAt 7 e5 k : Nat) : Int))) : Value) = .bool false) (by kernel_rfl) (fun φ24 xs24 => congrArg Value.bool ((nat_lss (a := (hAt 7 (fillE i5 e5) k)) (b := (hAt 7 e5 k))).trans (hc21))), ⟨kcast (A := ∀ (φ24 : Nat → Nat) (xs24 : Xs), (.bool (decide (((hAt 7 (fillE i5 e5) k : Nat) : Int) > ((e5.top : Nat) : Int))) : Value) = .bool false) (by kernel_rfl) (fun φ24 xs24 => congrArg Value.bool ((nat_gtr (a := (hAt 7 (fillE i5 e5) k)) (b := e5.top)).trans (hc22))), ⟨kcast (A := ∀ (φ24 : Nat → Nat) (xs24 : Xs), (.bool (((hAt 7 e5 k : Nat) : Int) != ((hAt 7 (fillE i5 e5) k : Nat) : Int)) : Value) = .bool true) (by kernel_rfl) (fun φ24 xs24 => congrArg Value.bool ((nat_neq (a := (hAt 7 e5 k)) (b := (hAt 7 (fillE i5 e5) k))).trans (hc23))), trivial⟩⟩⟩ ⟨kcast (A := ∀ (φ24 : Nat → Nat) (xs24 : Xs) (J : IM) (w : World), I17.Le J → J.Sub w → ((Instr.indexAt 37 (.slice (some ⟨(xs14 6).n 0, 0, none⟩) 128 ((xs14 6).n 1)) (.int .i64 ((k : Nat) : Int))) : Sem Value).run Tryd.prog w = .ok (.pointer (some ⟨(xs14 6).n 0, k, none⟩)) w) (by kernel_rfl) (fun φ24 xs24 J w hJ hS => run_idx37 (of_decide_eq_true hc19)), ⟨kcast (A := ∀ (φ24 : Nat → Nat) (xs24 : Xs) (J : IM) (w : World), I17.Le J → J.Sub w → ((Instr.loadAt 24 (.pointer (some ⟨(xs14 6).n 0, k, none⟩))) : Sem Value).run Tryd.prog w = .ok (.int .u64 ((hAt 7 (fillE i5 e5) k : Nat) : Int)) w) (by kernel_rfl) (fun φ24 xs24 J w hJ hS => run_load24 hS (VS.mono hJ h14_6_0) (h7 (of_decide_eq_true hc19))), ⟨kcast (A := ∀ (φ24 : Nat → Nat) (xs24 : Xs) (J : IM) (w : World), I17.Le J → J.Sub w → ((Instr.indexAt 37 (.slice (some ⟨(xs14 3).n 0, 0, none⟩) 128 ((xs14 3).n 1)) (.int .i64 ((k : Nat) : Int))) : Sem Value).run Tryd.prog w = .ok (.pointer (some ⟨(xs14 3).n 0, k, none⟩)) w) (by kernel_rfl) (fun φ24 xs24 J w hJ hS => run_idx37 (of_decide_eq_true hc19)), ⟨kcast (A := ∀ (φ24 : Nat → Nat) (xs24 : Xs) (J : IM) (w : World), I17.Le J → J.Sub w → ((Instr.loadAt 24 (.pointer (some ⟨(xs14 3).n 0, k, none⟩))) : Sem Value).run Tryd.prog w = .ok (.int .u64 ((hAt 7 e5 k : Nat) : Int)) w) (by kernel_rfl) (fun φ24 xs24 J w hJ hS => run_load24 hS (VS.mono hJ h14_3_0) (h7 (of_decide_eq_true hc19))), ⟨kcast (A := ∀ (φ24 : Nat → Nat) (xs24 : Xs) (J : IM) (w : World), I17.Le J → J.Sub w → ((Instr.indexAt 37 (.slice (some ⟨(xs14 6).n 0, 0, none⟩) 128 ((xs14 6).n 1)) (.int .i64 ((k : Nat) : Int))) : Sem Value).run Tryd.prog w = .ok (.pointer (some ⟨(xs14 6).n 0, k, none⟩)) w) (by kernel_rfl) (fun φ24 xs24 J w hJ hS => run_idx37 (of_decide_eq_true hc19)), ⟨kcast (A := ∀ (φ24 : Nat → Nat) (xs24 : Xs) (J : IM) (w : World), I17.Le J → J.Sub w → ((Instr.loadAt 24 (.pointer (some ⟨(xs14 6).n 0, k, none⟩))) : Sem Value).run Tryd.prog w = .ok (.int .u64 ((hAt 7 (fillE i5 e5) k : Nat) : Int)) w) (by kernel_rfl) (fun φ24 xs24 J w hJ hS => run_load24 hS (VS.mono hJ h14_6_0) (h7 (of_decide_eq_true hc19))), ⟨kcast (A := ∀ (φ24 : Nat → Nat) (xs24 : Xs) (J : IM) (w : World), I17.Le J → J.Sub w → ((Instr.indexAt 37 (.slice (some ⟨(xs14 3).n 0, 0, none⟩) 128 ((xs14 3).n 1)) (.int .i64 ((k : Nat) : Int))) : Sem Value).run Tryd.prog w = .ok (.pointer (some ⟨(xs14 3).n 0, k, none⟩)) w) (by kernel_rfl) (fun φ24 xs24 J w hJ hS => run_idx37 (of_decide_eq_true hc19)), ⟨kcast (A := ∀ (φ24 : Nat → Nat) (xs24 : Xs) (J : IM) (w : World), I17.Le J → J.Sub w → ((Instr.loadAt 24 (.pointer (some ⟨(xs14 3).n 0, k, none⟩))) : Sem Value).run Tryd.prog w = .ok (.int .u64 ((hAt 7 e5 k : Nat) : Int)) w) (by kernel_rfl) (fun φ24 xs24 J w hJ hS => run_load24 hS (VS.mono hJ h14_3_0) (h7 (of_decide_eq_true hc19))), ⟨kcast (A := ∀ (φ24 : Nat → Nat) (xs24 : Xs) (J : IM) (w : World), I17.Le J → J.Sub w → ((Instr.indexAt 37 (.slice (some ⟨(xs14 6).n 0, 0, none⟩) 128 ((xs14 6).n 1)) (.int .i64 ((k : Nat) : Int))) : Sem Value).run Tryd.prog w = .ok (.pointer (some ⟨(xs14 6).n 0, k, none⟩)) w) (by kernel_rfl) (fun φ24 xs24 J w hJ hS => run_idx37 (of_decide_eq_true hc19)), ⟨kcast (A := ∀ (φ24 : Nat → Nat) (xs24 : Xs) (J : IM) (w : World), I17.Le J → J.Sub w → ((Instr.loadAt 24 (.pointer (some ⟨(xs14 6).n 0, k, none⟩))) : Sem Value).run Tryd.prog w = .ok (.int .u64 ((hAt 7 (fillE i5 e5) k : Nat) : Int)) w) (by kernel_rfl) (fun φ24 xs24 J w hJ hS => run_load24 hS (VS.mono hJ h14_6_0) (h7 (of_decide_eq_true hc19))), ⟨kcast (A := ∀ (φ24 : Nat → Nat) (xs24 : Xs) (J : IM) (w : World), I17.Le J → J.Sub w → ((Instr.indexAt 76 (.slice (some ⟨(xs14 10).n 0, 0, none⟩) 128 ((xs14 10).n 1)) (.int .i64 ((k : Nat) : Int))) : Sem Value).run Tryd.prog w = .ok (.pointer (some ⟨(xs14 10).n 0, k, none⟩)) w) (by kernel_rfl) (fun φ24 xs24 J w hJ hS => run_idx76 (of_decide_eq_true hc19)), ⟨kcast (A := ∀ (φ24 : Nat → Nat) (xs24 : Xs) (J : IM) (w : World), I17.Le J → J.Sub w → ((Instr.loadAt 4 (.pointer (some ⟨(xs14 10).n 0, k, none⟩))) : Sem Value).run Tryd.prog w = .ok (.bool (mAt 7 i5 k)) w) (by kernel_rfl) (fun φ24 xs24 J w hJ hS => run_load4 hS (VS.mono hJ h14_10_0) (m7 (of_decide_eq_true hc19))), trivial⟩⟩⟩⟩⟩⟩⟩⟩⟩⟩⟩⟩ ⟨?c24_16, trivial⟩ ?k24
            case c24_16 =>
              refine kcast (A := ∀ (φ24 : Nat → Nat) (xs24 : Xs) (J16_24 : IM), I17.Le J16_24 → Fun Tryd.prog 67 #[.pointer (some ⟨ke5, 0, none⟩)] J16_24 (fun v J' => ∃ x : UX, v = .int .u64 ((e5.top : Nat) : Int) ∧ (True))) (by kernel_rfl) ?_
              intro φ24 xs24 J16_24 leJ
              have h5_5 := RE.mono leJ h5_5
              exact Fun.mono (rmax_c e5 h5_5 (by have q0 := h5_1.1; have q1 := h5_0.2; have q2 := h5_1.2; have q3 := fill_bounds e5 i5; first | assumption | omega | exact textT_small (by omega) | exact textE_small (by omega) (by omega))) (fun v J' _ h => ⟨UX.d, h, trivial⟩)
            case k24 =>
              rintro φ24 xs24 I24 w24 le24 s _
              replace hT := Tab.mono le24 hT
              replace hp := BSl.mono le24 hp
              replace hq := BSl.mono le24 hq
              replace h5_2 := TRep.mono le24 h5_2
              replace h5_3 := ERep.mono le24 h5_3
              replace h5_4 := RT.mono le24 h5_4
              replace h5_5 := RE.mono le24 h5_5
              replace h8_0 := ERep.mono le24 h8_0
              replace h11_0 := RE.mono le24 h11_0
              replace h14_3_0 := VS.mono le24 h14_3_0
              replace h14_6_0 := VS.mono le24 h14_6_0
              replace h14_10_0 := VS.mono le24 h14_10_0
              replace hle16 := leMono le24 hle16
              rcases Bool.eq_false_or_eq_true (mAt 7 i5 k) with hc25 | hc25
              ·
                rw [hc25]
                refine cond_false_rule (b := false) (by kernel_rfl) rfl ?_
                refine wp_skip ?_
                refine region_rule ?_
                refine ops_rule (C := []) [((φ6 0), .cells #[.bool ib5, .pointer ip5, .int .u64 ((eb5 : Nat) : Int), .pointer ep5] 64), ((φ6 1), .cells #[.pointer (some ⟨ki5, 0, none⟩), .pointer (some ⟨ke5, 0, none⟩)] 67), ((φ9 0), .cells #[.int .u64 ((b8 : Nat) : Int), .pointer p8] 27)] [] 2 [] 0 (fun φ26 => [(45, .int .i64 (IntKind.wrap .i64 (((k : Nat) : Int) + ((1 : Nat) : Int)))), (85, .int .i64 (IntKind.wrap .i64 (((k : Nat) : Int) + ((1 : Nat) : Int))))]) (fun φ26 => [((φ6 0), .cells #[.bool ib5, .pointer ip5, .int .u64 ((eb5 : Nat) : Int), .pointer ep5] 64), ((φ6 1), .cells #[.pointer (some ⟨ki5, 0, none⟩), .pointer (some ⟨ke5, 0, none⟩)] 67), ((φ9 0), .cells #[.int .u64 ((b8 : Nat) : Int), .pointer p8] 27)]) (fun φ26 => []) s trivial (fun φ26 => by kernel_rfl) ?_
                intro φ26 w26 s
                rw [nat_addI (a := k) (b := 1) (by omega)]
                refine ops_done (by kernel_rfl) ?_
                have hk9 := (of_decide_eq_true hc19)
                exact ⟨⟨m - 1, k + 1, _, _, _, by omega, rfl, s, (List.Sublist.cons₂ _ (List.Sublist.cons₂ _ (List.Sublist.cons₂ _ List.Sublist.slnil))), by kernel_rfl, hle16, by omega⟩⟩
              ·
                exact absurd ((fill_lift 7 e5 i5 k).2.2 (of_decide_eq_true hc23)) (by rw [hc25]; simp)
          ·
            refine draw_rule (C := []) ⟨(fun φ27 xs27 => [.look 0 [] [], .look 0 [] [], .ran (Instr.indexAt 37 (.slice (some ⟨(xs14 6).n 0, 0, none⟩) 128 ((xs14 6).n 1)) (.int .i64 ((k : Nat) : Int))), .ran (Instr.loadAt 24 (.pointer (some ⟨(xs14 6).n 0, k, none⟩))), .look 0 [] [], .look 0 [] [], .ran (Instr.indexAt 37 (.slice (some ⟨(xs14 3).n 0, 0, none⟩) 128 ((xs14 3).n 1)) (.int .i64 ((k : Nat) : Int))), .ran (Instr.loadAt 24 (.pointer (some ⟨(xs14 3).n 0, k, none⟩))), .sub 0 [] [] (.bool (decide (((hAt 7 (fillE i5 e5) k : Nat) : Int) < ((hAt 7 e5 k : Nat) : Int)))), .look 0 [] [], .look 0 [] [], .look 0 [] [], .ran (Instr.indexAt 37 (.slice (some ⟨(xs14 6).n 0, 0, none⟩) 128 ((xs14 6).n 1)) (.int .i64 ((k : Nat) : Int))), .ran (Instr.loadAt 24 (.pointer (some ⟨(xs14 6).n 0, k, none⟩))), .look 0 [] [], .look 0 [.o 1] [(φ6 1)], .call 67 #[.pointer (some ⟨ke5, 0, none⟩)], .sub 0 [] [] (.bool (decide (((hAt 7 (fillE i5 e5) k : Nat) : Int) > ((e5.top : Nat) : Int)))), .look 0 [] [], .look 0 [] [], .look 0 [] [], .look 0 [] [], .ran (Instr.indexAt 37 (.slice (some ⟨(xs14 3).n 0, 0, none⟩) 128 ((xs14 3).n 1)) (.int .i64 ((k : Nat) : Int))), .ran (Instr.loadAt 24 (.pointer (some ⟨(xs14 3).n 0, k, none⟩))), .look 0 [] [], .look 0 [] [], .ran (Instr.indexAt 37 (.slice (some ⟨(xs14 6).n 0, 0, none⟩) 128 ((xs14 6).n 1)) (.int .i64 ((k : Nat) : Int))), .ran (Instr.loadAt 24 (.pointer (some ⟨(xs14 6).n 0, k, none⟩))), .sub 0 [] [] (.bool (((hAt 7 e5 k : Nat) : Int) != ((hAt 7 (fillE i5 e5) k : Nat) : Int))), .look 0 [] [], .skip, .skip, .skip, .skip, .skip, .look 0 [] [], .look 0 [] []]), (fun φ27 xs27 => [.slice (some ⟨(xs14 6).n 0, 0, none⟩) 128 ((xs14 6).n 1), .int .i64 ((k : Nat) : Int), .pointer (some ⟨(xs14 6).n 0, k, none⟩), .int .u64 ((hAt 7 (fillE i5 e5) k : Nat) : Int), .slice (some ⟨(xs14 3).n 0, 0, none⟩) 128 ((xs14 3).n 1), .int .i64 ((k : Nat) : Int), .pointer (some ⟨(xs14 3).n 0, k, none⟩), .int .u64 ((hAt 7 e5 k : Nat) : Int), .bool false, .bool false, .slice (some ⟨(xs14 6).n 0, 0, none⟩) 128 ((xs14 6).n 1), .int .i64 ((k : Nat) : Int), .pointer (some ⟨(xs14 6).n 0, k, none⟩), .int .u64 ((hAt 7 (fillE i5 e5) k : Nat) : Int), .pointer (some ⟨(φ6 1), 1, none⟩), .pointer (some ⟨ke5, 0, none⟩), .int .u64 ((e5.top : Nat) : Int), .bool false, .bool false, .bool false, .slice (some ⟨(xs14 3).n 0, 0, none⟩) 128 ((xs14 3).n 1), .int .i64 ((k : Nat) : Int), .pointer (some ⟨(xs14 3).n 0, k, none⟩), .int .u64 ((hAt 7 e5 k : Nat) : Int), .slice (some ⟨(xs14 6).n 0, 0, none⟩) 128 ((xs14 6).n 1), .int .i64 ((k : Nat) : Int), .pointer (some ⟨(xs14 6).n 0, k, none⟩), .int .u64 ((hAt 7 (fillE i5 e5) k : Nat) : Int), .bool false, .bool false, undef, undef, undef, undef, undef, .bool false, .bool false]), (fun φ27 xs27 => [[((φ6 0), .cells #[.bool ib5, .pointer ip5, .int .u64 ((eb5 : Nat) : Int), .pointer ep5] 64), ((φ6 1), .cells #[.pointer (some ⟨ki5, 0, none⟩), .pointer (some ⟨ke5, 0, none⟩)] 67), ((φ9 0), .cells #[.int .u64 ((b8 : Nat) : Int), .pointer p8] 27)]]), (fun φ27 xs27 => [[default, default, default, default, default, default, default, default, default, default, default, default, default, default, default, default, default, default, default, default, default, default, default, default, default, default, default, default, default, default, default, default, default, default, default, default, default]]), [], [1, 1, 6, 6, 1, 1, 6, 6, 5, 1, 1, 1, 6, 6, 1, 1, 3, 5, 1, 1, 1, 1, 6, 6, 1, 1, 6, 6, 5, 1, 0, 0, 0, 0, 0, 1, 1]⟩ (fun j => ([MP.any, MP.any, MP.any, MP.any, MP.any, MP.any, MP.any, MP.any, MP.any, MP.any, MP.any, MP.any, MP.any, MP.any, MP.any, MP.any, MP.any, MP.any, MP.any, MP.any, MP.any, MP.any, MP.any, MP.any, MP.any, MP.any, MP.any, MP.any, MP.any, MP.any, MP.any, MP.any, MP.any, MP.any, MP.any, MP.any, MP.any] : List MP).getD j MP.any) [16] [8, 17, 28] [2, 3, 6, 7, 12, 13, 22, 23, 26, 27] (fun φ27 xs27 => []) (fun φ27 xs27 => [(48, .slice (some ⟨(xs14 6).n 0, 0, none⟩) 128 ((xs14 6).n 1)), (49, .int .i64 ((k : Nat) : Int)), (50, .pointer (some ⟨(xs14 6).n 0, k, none⟩)), (51, .int .u64 ((hAt 7 (fillE i5 e5) k : Nat) : Int)), (52, .slice (some ⟨(xs14 3).n 0, 0, none⟩) 128 ((xs14 3).n 1)), (53, .int .i64 ((k : Nat) : Int)), (54, .pointer (some ⟨(xs14 3).n 0, k, none⟩)), (55, .int .u64 ((hAt 7 e5 k : Nat) : Int)), (56, .bool false), (57, .bool false), (58, .slice (some ⟨(xs14 6).n 0, 0, none⟩) 128 ((xs14 6).n 1)), (59, .int .i64 ((k : Nat) : Int)), (60, .pointer (some ⟨(xs14 6).n 0, k, none⟩)), (61, .int .u64 ((hAt 7 (fillE i5 e5) k : Nat) : Int)), (62, .pointer (some ⟨(φ6 1), 1, none⟩)), (63, .pointer (some ⟨ke5, 0, none⟩)), (64, .int .u64 ((e5.top : Nat) : Int)), (65, .bool false), (66, .bool false), (67, .bool false), (68, .slice (some ⟨(xs14 3).n 0, 0, none⟩) 128 ((xs14 3).n 1)), (69, .int .i64 ((k : Nat) : Int)), (70, .pointer (some ⟨(xs14 3).n 0, k, none⟩)), (71, .int .u64 ((hAt 7 e5 k : Nat) : Int)), (72, .slice (some ⟨(xs14 6).n 0, 0, none⟩) 128 ((xs14 6).n 1)), (73, .int .i64 ((k : Nat) : Int)), (74, .pointer (some ⟨(xs14 6).n 0, k, none⟩)), (75, .int .u64 ((hAt 7 (fillE i5 e5) k : Nat) : Int)), (76, .bool false), (77, .bool false), (78, undef), (79, undef), (80, undef), (81, undef), (82, undef), (83, .bool false), (84, .bool false)]) (fun φ27 xs27 => [((φ6 0), .cells #[.bool ib5, .pointer ip5, .int .u64 ((eb5 : Nat) : Int), .pointer ep5] 64), ((φ6 1), .cells #[.pointer (some ⟨ki5, 0, none⟩), .pointer (some ⟨ke5, 0, none⟩)] 67), ((φ9 0), .cells #[.int .u64 ((b8 : Nat) : Int), .pointer p8] 27)]) s trivial (by kernel_rfl) (by kernel_rfl) (fun _ _ => by kernel_rfl) (fun _ _ => by kernel_rfl) ⟨fun _ _ => by kernel_rfl, fun _ _ => by kernel_rfl, fun _ _ => by kernel_rfl, fun _ _ => by kernel_rfl⟩ (fun _ _ _ => by kernel_rfl) (fun _ _ => by kernel_rfl) (fun _ _ => by kernel_rfl) (fun _ _ => by kernel_rfl) (fun _ _ => by kernel_rfl) (fun _ _ => by kernel_rfl) ⟨kcast (A := ∀ (φ27 : Nat → Nat) (xs27 : Xs), (.bool (decide (((hAt 7 (fillE i5 e5) k : Nat) : Int) < ((hAt 7 e5 k : Nat) : Int))) : Value) = .bool false) (by kernel_rfl) (fun φ27 xs27 => congrArg Value.bool ((nat_lss (a := (hAt 7 (fillE i5 e5) k)) (b := (hAt 7 e5 k))).trans (hc21))), ⟨kcast (A := ∀ (φ27 : Nat → Nat) (xs27 : Xs), (.bool (decide (((hAt 7 (fillE i5 e5) k : Nat) : Int) > ((e5.top : Nat) : Int))) : Value) = .bool false) (by kernel_rfl) (fun φ27 xs27 => congrArg Value.bool ((nat_gtr (a := (hAt 7 (fillE i5 e5) k)) (b := e5.top)).trans (hc22))), ⟨kcast (A := ∀ (φ27 : Nat → Nat) (xs27 : Xs), (.bool (((hAt 7 e5 k : Nat) : Int) != ((hAt 7 (fillE i5 e5) k : Nat) : Int)) : Value) = .bool false) (by kernel_rfl) (fun φ27 xs27 => congrArg Value.bool ((nat_neq (a := (hAt 7 e5 k)) (b := (hAt 7 (fillE i5 e5) k))).trans (hc23))), trivial⟩⟩⟩ ⟨kcast (A := ∀ (φ27 : Nat → Nat) (xs27 : Xs) (J : IM) (w : World), I17.Le J → J.Sub w → ((Instr.indexAt 37 (.slice (some ⟨(xs14 6).n 0, 0, none⟩) 128 ((xs14 6).n 1)) (.int .i64 ((k : Nat) : Int))) : Sem Value).run Tryd.prog w = .ok (.pointer (some ⟨(xs14 6).n 0, k, none⟩)) w) (by kernel_rfl) (fun φ27 xs27 J w hJ hS => run_idx37 (of_decide_eq_true hc19)), ⟨kcast (A := ∀ (φ27 : Nat → Nat) (xs27 : Xs) (J : IM) (w : World), I17.Le J → J.Sub w → ((Instr.loadAt 24 (.pointer (some ⟨(xs14 6).n 0, k, none⟩))) : Sem Value).run Tryd.prog w = .ok (.int .u64 ((hAt 7 (fillE i5 e5) k : Nat) : Int)) w) (by kernel_rfl) (fun φ27 xs27 J w hJ hS => run_load24 hS (VS.mono hJ h14_6_0) (h7 (of_decide_eq_true hc19))), ⟨kcast (A := ∀ (φ27 : Nat → Nat) (xs27 : Xs) (J : IM) (w : World), I17.Le J → J.Sub w → ((Instr.indexAt 37 (.slice (some ⟨(xs14 3).n 0, 0, none⟩) 128 ((xs14 3).n 1)) (.int .i64 ((k : Nat) : Int))) : Sem Value).run Tryd.prog w = .ok (.pointer (some ⟨(xs14 3).n 0, k, none⟩)) w) (by kernel_rfl) (fun φ27 xs27 J w hJ hS => run_idx37 (of_decide_eq_true hc19)), ⟨kcast (A := ∀ (φ27 : Nat → Nat) (xs27 : Xs) (J : IM) (w : World), I17.Le J → J.Sub w → ((Instr.loadAt 24 (.pointer (some ⟨(xs14 3).n 0, k, none⟩))) : Sem Value).run Tryd.prog w = .ok (.int .u64 ((hAt 7 e5 k : Nat) : Int)) w) (by kernel_rfl) (fun φ27 xs27 J w hJ hS => run_load24 hS (VS.mono hJ h14_3_0) (h7 (of_decide_eq_true hc19))), ⟨kcast (A := ∀ (φ27 : Nat → Nat) (xs27 : Xs) (J : IM) (w : World), I17.Le J → J.Sub w → ((Instr.indexAt 37 (.slice (some ⟨(xs14 6).n 0, 0, none⟩) 128 ((xs14 6).n 1)) (.int .i64 ((k : Nat) : Int))) : Sem Value).run Tryd.prog w = .ok (.pointer (some ⟨(xs14 6).n 0, k, none⟩)) w) (by kernel_rfl) (fun φ27 xs27 J w hJ hS => run_idx37 (of_decide_eq_true hc19)), ⟨kcast (A := ∀ (φ27 : Nat → Nat) (xs27 : Xs) (J : IM) (w : World), I17.Le J → J.Sub w → ((Instr.loadAt 24 (.pointer (some ⟨(xs14 6).n 0, k, none⟩))) : Sem Value).run Tryd.prog w = .ok (.int .u64 ((hAt 7 (fillE i5 e5) k : Nat) : Int)) w) (by kernel_rfl) (fun φ27 xs27 J w hJ hS => run_load24 hS (VS.mono hJ h14_6_0) (h7 (of_decide_eq_true hc19))), ⟨kcast (A := ∀ (φ27 : Nat → Nat) (xs27 : Xs) (J : IM) (w : World), I17.Le J → J.Sub w → ((Instr.indexAt 37 (.slice (some ⟨(xs14 3).n 0, 0, none⟩) 128 ((xs14 3).n 1)) (.int .i64 ((k : Nat) : Int))) : Sem Value).run Tryd.prog w = .ok (.pointer (some ⟨(xs14 3).n 0, k, none⟩)) w) (by kernel_rfl) (fun φ27 xs27 J w hJ hS => run_idx37 (of_decide_eq_true hc19)), ⟨kcast (A := ∀ (φ27 : Nat → Nat) (xs27 : Xs) (J : IM) (w : World), I17.Le J → J.Sub w → ((Instr.loadAt 24 (.pointer (some ⟨(xs14 3).n 0, k, none⟩))) : Sem Value).run Tryd.prog w = .ok (.int .u64 ((hAt 7 e5 k : Nat) : Int)) w) (by kernel_rfl) (fun φ27 xs27 J w hJ hS => run_load24 hS (VS.mono hJ h14_3_0) (h7 (of_decide_eq_true hc19))), ⟨kcast (A := ∀ (φ27 : Nat → Nat) (xs27 : Xs) (J : IM) (w : World), I17.Le J → J.Sub w → ((Instr.indexAt 37 (.slice (some ⟨(xs14 6).n 0, 0, none⟩) 128 ((xs14 6).n 1)) (.int .i64 ((k : Nat) : Int))) : Sem Value).run Tryd.prog w = .ok (.pointer (some ⟨(xs14 6).n 0, k, none⟩)) w) (by kernel_rfl) (fun φ27 xs27 J w hJ hS => run_idx37 (of_decide_eq_true hc19)), ⟨kcast (A := ∀ (φ27 : Nat → Nat) (xs27 : Xs) (J : IM) (w : World), I17.Le J → J.Sub w → ((Instr.loadAt 24 (.pointer (some ⟨(xs14 6).n 0, k, none⟩))) : Sem Value).run Tryd.prog w = .ok (.int .u64 ((hAt 7 (fillE i5 e5) k : Nat) : Int)) w) (by kernel_rfl) (fun φ27 xs27 J w hJ hS => run_load24 hS (VS.mono hJ h14_6_0) (h7 (of_decide_eq_true hc19))), trivial⟩⟩⟩⟩⟩⟩⟩⟩⟩⟩ ⟨?c27_16, trivial⟩ ?k27
            case c27_16 =>
              refine kcast (A := ∀ (φ27 : Nat → Nat) (xs27 : Xs) (J16_27 : IM), I17.Le J16_27 → Fun Tryd.prog 67 #[.pointer (some ⟨ke5, 0, none⟩)] J16_27 (fun v J' => ∃ x : UX, v = .int .u64 ((e5.top : Nat) : Int) ∧ (True))) (by kernel_rfl) ?_
              intro φ27 xs27 J16_27 leJ
              have h5_5 := RE.mono leJ h5_5
              exact Fun.mono (rmax_c e5 h5_5 (by have q0 := h5_1.1; have q1 := h5_0.2; have q2 := h5_1.2; have q3 := fill_bounds e5 i5; first | assumption | omega | exact textT_small (by omega) | exact textE_small (by omega) (by omega))) (fun v J' _ h => ⟨UX.d, h, trivial⟩)
            case k27 =>
              rintro φ27 xs27 I27 w27 le27 s _
              replace hT := Tab.mono le27 hT
              replace hp := BSl.mono le27 hp
              replace hq := BSl.mono le27 hq
              replace h5_2 := TRep.mono le27 h5_2
              replace h5_3 := ERep.mono le27 h5_3
              replace h5_4 := RT.mono le27 h5_4
              replace h5_5 := RE.mono le27 h5_5
              replace h8_0 := ERep.mono le27 h8_0
              replace h11_0 := RE.mono le27 h11_0
              replace h14_3_0 := VS.mono le27 h14_3_0
              replace h14_6_0 := VS.mono le27 h14_6_0
              replace h14_10_0 := VS.mono le27 h14_10_0
              replace hle16 := leMono le27 hle16
              refine cond_false_rule (b := false) (by kernel_rfl) rfl ?_
              refine wp_skip ?_
              refine region_rule ?_
              refine ops_rule (C := []) [((φ6 0), .cells #[.bool ib5, .pointer ip5, .int .u64 ((eb5 : Nat) : Int), .pointer ep5] 64), ((φ6 1), .cells #[.pointer (some ⟨ki5, 0, none⟩), .pointer (some ⟨ke5, 0, none⟩)] 67), ((φ9 0), .cells #[.int .u64 ((b8 : Nat) : Int), .pointer p8] 27)] [] 2 [] 0 (fun φ28 => [(45, .int .i64 (IntKind.wrap .i64 (((k : Nat) : Int) + ((1 : Nat) : Int)))), (85, .int .i64 (IntKind.wrap .i64 (((k : Nat) : Int) + ((1 : Nat) : Int))))]) (fun φ28 => [((φ6 0), .cells #[.bool ib5, .pointer ip5, .int .u64 ((eb5 : Nat) : Int), .pointer ep5] 64), ((φ6 1), .cells #[.pointer (some ⟨ki5, 0, none⟩), .pointer (some ⟨ke5, 0, none⟩)] 67), ((φ9 0), .cells #[.int .u64 ((b8 : Nat) : Int), .pointer p8] 27)]) (fun φ28 => []) s trivial (fun φ28 => by kernel_rfl) ?_
              intro φ28 w28 s
              rw [nat_addI (a := k) (b := 1) (by omega)]
              refine ops_done (by kernel_rfl) ?_
              have hk9 := (of_decide_eq_true hc19)
              exact ⟨⟨m - 1, k + 1, _, _, _, by omega, rfl, s, (List.Sublist.cons₂ _ (List.Sublist.cons₂ _ (List.Sublist.cons₂ _ List.Sublist.slnil))), by kernel_rfl, hle16, by omega⟩⟩
    ·
      rw [hc19]
      refine cond_false_rule (b := false) (by kernel_rfl) rfl ?_
      refine wp_exit ?_
      refine wp_seq ?_
      refine draw_rule (C := []) ⟨(fun φ29 xs29 => [.look 0 [.o 2, .o 2] [(φ9 0), (φ9 0)], .call 25 #[.agg #[.int .u64 ((b8 : Nat) : Int), .pointer p8]], .look 0 [] [], .call 24 #[.pointer (some ⟨k11, 0, none⟩)], .sub 0 [] [] (.bool ((⟨(textE (fillE i5 e5)).toArray⟩ : ByteArray).toList == (⟨(textE (fillE i5 e5)).toArray⟩ : ByteArray).toList)), .look 0 [] [], .look 0 [] [], .look 0 [.o 0, .o 0] [(φ6 0), (φ6 0)], .look 0 [.o 2, .o 2] [(φ9 0), (φ9 0)], .call 53 #[.agg #[.bool ib5, .pointer ip5], .agg #[.int .u64 ((b8 : Nat) : Int), .pointer p8]], .look 0 [.o 2, .o 2] [(φ9 0), (φ9 0)], .call 30 #[.agg #[.int .u64 (((xs29 9).n 0 : Nat) : Int), .pointer ((xs29 9).p 0)], .agg #[.int .u64 ((b8 : Nat) : Int), .pointer p8]], .look 0 [] [], .look 0 [] [], .look 0 [.o 2, .o 2] [(φ9 0), (φ9 0)], .call 34 #[.agg #[.int .u64 ((b8 : Nat) : Int), .pointer p8]], .look 0 [] [], .look 0 [.o 0, .o 0] [(φ6 0), (φ6 0)], .call 34 #[.agg #[.int .u64 ((eb5 : Nat) : Int), .pointer ep5]], .sub 0 [] [] (.bool (((e5.top : Nat) : Int) == ((e5.top : Nat) : Int))), .look 0 [] [], .look 0 [] []]), (fun φ29 xs29 => [.agg #[.int .u64 ((b8 : Nat) : Int), .pointer p8], .string ⟨(textE (fillE i5 e5)).toArray⟩, .pointer (some ⟨k11, 0, none⟩), .string ⟨(textE (fillE i5 e5)).toArray⟩, .bool true, .bool true, .pointer (some ⟨(φ6 0), 0, none⟩), .agg #[.bool ib5, .pointer ip5], .agg #[.int .u64 ((b8 : Nat) : Int), .pointer p8], .agg #[.int .u64 (((xs29 9).n 0 : Nat) : Int), .pointer ((xs29 9).p 0)], .agg #[.int .u64 ((b8 : Nat) : Int), .pointer p8], .bool true, .bool true, .bool true, .agg #[.int .u64 ((b8 : Nat) : Int), .pointer p8], .int .u64 ((e5.top : Nat) : Int), .pointer (some ⟨(φ6 0), 2, none⟩), .agg #[.int .u64 ((eb5 : Nat) : Int), .pointer ep5], .int .u64 ((e5.top : Nat) : Int), .bool (decide (e5.top = e5.top)), .bool (decide (e5.top = e5.top)), .bool (decide (e5.top = e5.top))]), (fun φ29 xs29 => [[((φ6 0), .cells #[.bool ib5, .pointer ip5, .int .u64 ((eb5 : Nat) : Int), .pointer ep5] 64), ((φ6 1), .cells #[.pointer (some ⟨ki5, 0, none⟩), .pointer (some ⟨ke5, 0, none⟩)] 67), ((φ9 0), .cells #[.int .u64 ((b8 : Nat) : Int), .pointer p8] 27)]]), (fun φ29 xs29 => [[default, default, default, default, default, default, default, default, default, default, default, default, default, default, default, default, default, default, default, default, default, default]]), [], [1, 3, 1, 3, 5, 1, 1, 1, 1, 3, 1, 3, 1, 1, 1, 3, 1, 1, 3, 5, 1, 1]⟩ (fun j => ([MP.any, MP.any, MP.any, MP.any, MP.any, MP.any, MP.any, MP.any, MP.any, ⟨fun x J => ERep J (fillE i5 (fillE i5 e5)) (x.n 0) (x.p 0), fun le h => ERep.mono le h⟩, MP.any, MP.any, MP.any, MP.any, MP.any, MP.any, MP.any, MP.any, MP.any, MP.any, MP.any, MP.any] : List MP).getD j MP.any) [1, 3, 9, 11, 15, 18] [4, 19] [] (fun φ29 xs29 => []) (fun φ29 xs29 => [(86, .agg #[.int .u64 ((b8 : Nat) : Int), .pointer p8]), (87, .string ⟨(textE (fillE i5 e5)).toArray⟩), (88, .pointer (some ⟨k11, 0, none⟩)), (89, .string ⟨(textE (fillE i5 e5)).toArray⟩), (90, .bool true), (91, .bool true), (92, .pointer (some ⟨(φ6 0), 0, none⟩)), (93, .agg #[.bool ib5, .pointer ip5]), (94, .agg #[.int .u64 ((b8 : Nat) : Int), .pointer p8]), (95, .agg #[.int .u64 (((xs29 9).n 0 : Nat) : Int), .pointer ((xs29 9).p 0)]), (96, .agg #[.int .u64 ((b8 : Nat) : Int), .pointer p8]), (97, .bool true), (98, .bool true), (99, .bool true), (100, .agg #[.int .u64 ((b8 : Nat) : Int), .pointer p8]), (101, .int .u64 ((e5.top : Nat) : Int)), (102, .pointer (some ⟨(φ6 0), 2, none⟩)), (103, .agg #[.int .u64 ((eb5 : Nat) : Int), .pointer ep5]), (104, .int .u64 ((e5.top : Nat) : Int)), (105, .bool (decide (e5.top = e5.top))), (106, .bool (decide (e5.top = e5.top))), (4, .bool (decide (e5.top = e5.top)))]) (fun φ29 xs29 => [((φ6 0), .cells #[.bool ib5, .pointer ip5, .int .u64 ((eb5 : Nat) : Int), .pointer ep5] 64), ((φ6 1), .cells #[.pointer (some ⟨ki5, 0, none⟩), .pointer (some ⟨ke5, 0, none⟩)] 67), ((φ9 0), .cells #[.int .u64 ((b8 : Nat) : Int), .pointer p8] 27)]) s trivial (by kernel_rfl) (by kernel_rfl) (fun _ _ => by kernel_rfl) (fun _ _ => by kernel_rfl) ⟨fun _ _ => by kernel_rfl, fun _ _ => by kernel_rfl, fun _ _ => by kernel_rfl, fun _ _ => by kernel_rfl⟩ (fun _ _ _ => by kernel_rfl) (fun _ _ => by kernel_rfl) (fun _ _ => by kernel_rfl) (fun _ _ => by kernel_rfl) (fun _ _ => by kernel_rfl) (fun _ _ => by kernel_rfl) ⟨kcast (A := ∀ (φ29 : Nat → Nat) (xs29 : Xs), (.bool ((⟨(textE (fillE i5 e5)).toArray⟩ : ByteArray).toList == (⟨(textE (fillE i5 e5)).toArray⟩ : ByteArray).toList) : Value) = .bool true) (by kernel_rfl) (fun φ29 xs29 => congrArg Value.bool ((beq_self_eq_true _))), ⟨kcast (A := ∀ (φ29 : Nat → Nat) (xs29 : Xs), (.bool (((e5.top : Nat) : Int) == ((e5.top : Nat) : Int)) : Value) = .bool (decide (e5.top = e5.top))) (by kernel_rfl) (fun φ29 xs29 => congrArg Value.bool ((nat_eql (a := e5.top) (b := e5.top)))), trivial⟩⟩ trivial ⟨?c29_1, ?c29_3, ?c29_9, ?c29_11, ?c29_15, ?c29_18, trivial⟩ ?k29
      case c29_1 =>
        refine kcast (A := ∀ (φ29 : Nat → Nat) (xs29 : Xs) (J1_29 : IM), I17.Le J1_29 → Fun Tryd.prog 25 #[.agg #[.int .u64 ((b8 : Nat) : Int), .pointer p8]] J1_29 (fun v J' => ∃ x : UX, v = .string ⟨(textE (fillE i5 e5)).toArray⟩ ∧ (True))) (by kernel_rfl) ?_
        intro φ29 xs29 J1_29 leJ
        have hT := Tab.mono leJ hT
        have h8_0 := ERep.mono leJ h8_0
        exact Fun.mono (text_c hT h8_0 (by have q0 := h5_1.1; have q1 := h5_0.2; have q2 := h5_1.2; have q3 := fill_bounds e5 i5; first | assumption | omega | exact textT_small (by omega) | exact textE_small (by omega) (by omega)) (by have q0 := h5_1.1; have q1 := h5_0.2; have q2 := h5_1.2; have q3 := fill_bounds e5 i5; first | assumption | omega | exact textT_small (by omega) | exact textE_small (by omega) (by omega))) (fun v J' _ h => ⟨UX.d, h, trivial⟩)
      case c29_3 =>
        refine kcast (A := ∀ (φ29 : Nat → Nat) (xs29 : Xs) (J3_29 : IM), I17.Le J3_29 → (True) → Fun Tryd.prog 24 #[.pointer (some ⟨k11, 0, none⟩)] J3_29 (fun v J' => ∃ x : UX, v = .string ⟨(textE (fillE i5 e5)).toArray⟩ ∧ (True))) (by kernel_rfl) ?_
        intro φ29 xs29 J3_29 leJ
        rintro _
        have h11_0 := RE.mono leJ h11_0
        exact Fun.mono (etext_c (fillE i5 e5) h11_0 (by have q0 := h5_1.1; have q1 := h5_0.2; have q2 := h5_1.2; have q3 := fill_bounds e5 i5; first | assumption | omega | exact textT_small (by omega) | exact textE_small (by omega) (by omega)) (by have q0 := h5_1.1; have q1 := h5_0.2; have q2 := h5_1.2; have q3 := fill_bounds e5 i5; first | assumption | omega | exact textT_small (by omega) | exact textE_small (by omega) (by omega))) (fun v J' _ h => ⟨UX.d, h, trivial⟩)
      case c29_9 =>
        refine kcast (A := ∀ (φ29 : Nat → Nat) (xs29 : Xs) (J9_29 : IM), I17.Le J9_29 → (True) → (True) → Fun Tryd.prog 53 #[.agg #[.bool ib5, .pointer ip5], .agg #[.int .u64 ((b8 : Nat) : Int), .pointer p8]] J9_29 (fun v J' => ∃ x : UX, v = .agg #[.int .u64 ((x.n 0 : Nat) : Int), .pointer (x.p 0)] ∧ (ERep J' (fillE i5 (fillE i5 e5)) (x.n 0) (x.p 0)))) (by kernel_rfl) ?_
        intro φ29 xs29 J9_29 leJ
        rintro _ _
        have h5_2 := TRep.mono leJ h5_2
        have h8_0 := ERep.mono leJ h8_0
        exact Fun.mono (fill_c (fillE i5 e5) i5 (by have q0 := h5_1.1; have q1 := h5_0.2; have q2 := h5_1.2; have q3 := fill_bounds e5 i5; first | assumption | omega | exact textT_small (by omega) | exact textE_small (by omega) (by omega)) (by have q0 := h5_1.1; have q1 := h5_0.2; have q2 := h5_1.2; have q3 := fill_bounds e5 i5; first | assumption | omega | exact textT_small (by omega) | exact textE_small (by omega) (by omega)) h5_2 h8_0) (fun v J' _ ⟨y0, y1, hv, g0⟩ => ⟨{ UX.d with n := fun j => y0, p := fun j => y1 }, hv, g0⟩)
      case c29_11 =>
        refine kcast (A := ∀ (φ29 : Nat → Nat) (xs29 : Xs) (J11_29 : IM), I17.Le J11_29 → (True) → (True) → (ERep J11_29 (fillE i5 (fillE i5 e5)) ((xs29 9).n 0) ((xs29 9).p 0)) → Fun Tryd.prog 30 #[.agg #[.int .u64 (((xs29 9).n 0 : Nat) : Int), .pointer ((xs29 9).p 0)], .agg #[.int .u64 ((b8 : Nat) : Int), .pointer p8]] J11_29 (fun v J' => ∃ x : UX, v = .bool true ∧ (True))) (by kernel_rfl) ?_
        intro φ29 xs29 J11_29 leJ
        rintro _ _ h29_9_0
        have h8_0 := ERep.mono leJ h8_0
        exact Fun.mono (sameFill_c h29_9_0 h8_0 h5_1.2.1 (by have := h5_1.2.2; omega)) (fun v J' _ h => ⟨UX.d, h, trivial⟩)
      case c29_15 =>
        refine kcast (A := ∀ (φ29 : Nat → Nat) (xs29 : Xs) (J15_29 : IM), I17.Le J15_29 → (True) → (True) → (ERep J15_29 (fillE i5 (fillE i5 e5)) ((xs29 9).n 0) ((xs29 9).p 0)) → (True) → Fun Tryd.prog 34 #[.agg #[.int .u64 ((b8 : Nat) : Int), .pointer p8]] J15_29 (fun v J' => ∃ x : UX, v = .int .u64 ((e5.top : Nat) : Int) ∧ (True))) (by kernel_rfl) ?_
        intro φ29 xs29 J15_29 leJ
        rintro _ _ h29_9_0 _
        have h8_0 := ERep.mono leJ h8_0
        exact Fun.mono (maxFill_c h8_0 (by have := h5_1.2.2; omega)) (fun v J' _ h => ⟨UX.d, h, trivial⟩)
      case c29_18 =>
        refine kcast (A := ∀ (φ29 : Nat → Nat) (xs29 : Xs) (J18_29 : IM), I17.Le J18_29 → (True) → (True) → (ERep J18_29 (fillE i5 (fillE i5 e5)) ((xs29 9).n 0) ((xs29 9).p 0)) → (True) → (True) → Fun Tryd.prog 34 #[.agg #[.int .u64 ((eb5 : Nat) : Int), .pointer ep5]] J18_29 (fun v J' => ∃ x : UX, v = .int .u64 ((e5.top : Nat) : Int) ∧ (True))) (by kernel_rfl) ?_
        intro φ29 xs29 J18_29 leJ
        rintro _ _ h29_9_0 _ _
        have h5_3 := ERep.mono leJ h5_3
        exact Fun.mono (max9_c h5_3 (by have := h5_1.2.2; omega)) (fun v J' _ h => ⟨UX.d, h, trivial⟩)
      case k29 =>
        rintro φ29 xs29 I29 w29 le29 s _ _ h29_9_0 _ _ _
        replace hT := Tab.mono le29 hT
        replace hp := BSl.mono le29 hp
        replace hq := BSl.mono le29 hq
        replace h5_2 := TRep.mono le29 h5_2
        replace h5_3 := ERep.mono le29 h5_3
        replace h5_4 := RT.mono le29 h5_4
        replace h5_5 := RE.mono le29 h5_5
        replace h8_0 := ERep.mono le29 h8_0
        replace h11_0 := RE.mono le29 h11_0
        replace h14_3_0 := VS.mono le29 h14_3_0
        replace h14_6_0 := VS.mono le29 h14_6_0
        replace h14_10_0 := VS.mono le29 h14_10_0
        replace hle16 := leMono le29 hle16
        refine wp_ret ?_
        refine ret_rule (C := []) [((φ6 0), .cells #[.bool ib5, .pointer ip5, .int .u64 ((eb5 : Nat) : Int), .pointer ep5] 64), ((φ6 1), .cells #[.pointer (some ⟨ki5, 0, none⟩), .pointer (some ⟨ke5, 0, none⟩)] 67), ((φ9 0), .cells #[.int .u64 ((b8 : Nat) : Int), .pointer p8] 27)] [] (.bool (decide (e5.top = e5.top))) [] [] s trivial (by kernel_rfl) ?_
        exact ⟨_, _, _, rfl, s, (congrArg Value.bool (decide_eq_true rfl))⟩

end Go.Proofs.YtgdickihjaomjaaDoor
