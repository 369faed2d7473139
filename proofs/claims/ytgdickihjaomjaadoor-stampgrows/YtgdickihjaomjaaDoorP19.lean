/- StampGrows. -/
import Derived.Test.YtgdickihjaomjaaDoorP18
set_option linter.all false
set_option maxRecDepth 100000
namespace Go.Proofs.YtgdickihjaomjaaDoor
open Go.RowKit Go.Sep

theorem rgrow_c : ∀ (n : Nat) {I : IM} {i : T} {e : E} {ki ke : Nat}, n ≤ 1000 → i.live → kindT i ≠ 0 → i.depth + e.depth < n → e.nf → e.top + 1 < 18446744073709551616 → RT I i ki → RE I e ke → Fun Tryd.prog 56 #[.pointer (some ⟨ki, 0, none⟩), .pointer (some ⟨ke, 0, none⟩)] I (fun v J => ∃ k, v = .tuple #[.pointer (some ⟨k, 0, none⟩), .int .i64 (((growD n i e).2 : Nat) : Int)] ∧ RE J (growD n i e).1 k)
  | 0, _, _, _, _, _, _, _, _, h, _, _, _, _ => by omega
  | n + 1, I, i, e, _, _, hn, hl, hz, h, hnf, ht, hi, he => by
    have hz' := kind_nz hz
    have hh := T.live_half hl
    have hn2 := E.half_nf hnf
    have hle := E.half_le e
    refine rgrow_step hi he hnf ht (by omega) (fun k q => ?_) (fun ha nz {J} {k1 k2} a b => ?_) (fun ha nz {J} {k1 k2} a b => ?_)
    · have := T.live_or hl hz'
      rw [kind_zero'.2 k, kind_zero'.2 q] at this
      simp at this
    · have ha' : (i.isOne && e.isLeaf) = false := by
        cases h1 : i.isOne
        · rfl
        · cases h2 : e.isLeaf
          · rfl
          · exact absurd ⟨kind_one.1 h1, h2⟩ ha
      exact rgrow_c n (by omega) hh.1 nz (go_on hz' ha' h).1 hn2.1 (by omega) a b
    · have ha' : (i.isOne && e.isLeaf) = false := by
        cases h1 : i.isOne
        · rfl
        · cases h2 : e.isLeaf
          · rfl
          · exact absurd ⟨kind_one.1 h1, h2⟩ ha
      exact rgrow_c n (by omega) hh.2 nz (go_on hz' ha' h).2 hn2.2 (by omega) a b
theorem textG_c {I : IM} {i : T} {e : E} {b : Nat} {p : Option Addr} (hT : Tab I) (h : ERep I (growR i e).1 b p) (hl : i.nf) (hz : ¬ kindT i = 0) (hi : i.depth ≤ 6) (he : e.depth ≤ 6) (ht : e.top ≤ 1000000) : Fun Tryd.prog 25 #[evv b p] I (fun v J => v = .string ⟨(textE (growD 40 i e).1).toArray⟩) := by
  have h1 := growD_small hl hz hi he ht
  have h2 := growD_top 40 i e
  rw [growR_eq hl hz hi he ht] at h
  exact text_c hT h (by omega) (textE_small (by omega) (by omega))
theorem sameG_c {I : IM} {i : T} {e : E} {b c : Nat} {p q : Option Addr} (h : ERep I (growR i e).1 b p) (h2 : ERep I e c q) (hz : kindT i = 0) (he : e.depth ≤ 6) (ht : e.top ≤ 1000000) : Fun Tryd.prog 30 #[evv b p, evv c q] I (fun v J => v = .bool true) := by
  rw [growR_zero e hz] at h
  refine (same_c (A := e) (B := e) h h2 (by omega) (by omega) (by omega) (by omega)).mono fun v J _ hv => ?_
  have := sameE_self (e := e) (by omega)
  unfold sameE at this
  rw [hv, this]

set_option maxHeartbeats 4000000 in
theorem stampGrows_c {I : IM} (hT : Tab I) {p q : List UInt8} {vp vq : Value} (hp : BSl I p vp) (hq : BSl I q vq) : Fun Tryd.prog 10 #[vp, vq] I (fun v J => v = .bool true) := by
  refine enter_rule 82 [(0, vp), (1, vq)] Tryd.func10 rfl (by kernel_rfl) ?_
  intro w s
  refine wp_seq ?_
  refine region_rule ?_
  refine ops_rule (C := []) [] [] 1 [] 0 (fun φ1 => [(4, .bool false)]) (fun φ1 => []) (fun φ1 => []) s trivial (fun φ1 => by kernel_rfl) ?_
  intro φ1 w1 s
  refine ops_done (by kernel_rfl) ?_
  refine wp_seq ?_
  refine wp_seq ?_
  refine region_rule ?_
  refine call_rule (some 12) s (awakeS_c hT) (by kernel_rfl) ?_
  intro v2 I2 w2 le2 h2 s
  replace hT := Tab.mono le2 hT
  replace hp := BSl.mono le2 hp
  replace hq := BSl.mono le2 hq
  obtain rfl := h2
  refine ops_rule (C := []) [] [] 1 [] 0 (fun φ3 => [(13, .bool false)]) (fun φ3 => []) (fun φ3 => []) s trivial (fun φ3 => by kernel_rfl) ?_
  intro φ3 w3 s
  refine ops_done (by kernel_rfl) ?_
  refine cond_false_rule (b := false) (by kernel_rfl) rfl ?_
  refine wp_skip ?_
  refine wp_seq ?_
  refine region_rule ?_
  refine ops_rule (C := []) [] [] 2 [] 0 (fun φ4 => [(16, vq), (15, vp)]) (fun φ4 => []) (fun φ4 => []) s trivial (fun φ4 => by kernel_rfl) ?_
  intro φ4 w4 s
  refine call_rule (some 17) s (made_c hp hq) (by kernel_rfl) ?_
  intro v5 I5 w5 le5 h5 s
  replace hT := Tab.mono le5 hT
  replace hp := BSl.mono le5 hp
  replace hq := BSl.mono le5 hq
  obtain ⟨ib5, ip5, eb5, ep5, ki5, ke5, i5, e5, rfl, h5_0, h5_1, h5_2, h5_3, h5_4, h5_5⟩ := h5
  refine ops_rule (C := []) [] [] 7 [.o 0, .o 0, .o 0, .o 0, .o 1, .o 1] 2 (fun φ6 => [(6, .pointer (some ⟨(φ6 1), 0, none⟩)), (5, .pointer (some ⟨(φ6 0), 0, none⟩)), (19, .agg #[.pointer (some ⟨ki5, 0, none⟩), .pointer (some ⟨ke5, 0, none⟩)]), (18, .agg #[.bool ib5, .pointer ip5, .int .u64 ((eb5 : Nat) : Int), .pointer ep5]), (14, .tuple #[.agg #[.bool ib5, .pointer ip5, .int .u64 ((eb5 : Nat) : Int), .pointer ep5], .agg #[.pointer (some ⟨ki5, 0, none⟩), .pointer (some ⟨ke5, 0, none⟩)]])]) (fun φ6 => [((φ6 0), .cells #[.bool ib5, .pointer ip5, .int .u64 ((eb5 : Nat) : Int), .pointer ep5] 64), ((φ6 1), .cells #[.pointer (some ⟨ki5, 0, none⟩), .pointer (some ⟨ke5, 0, none⟩)] 67)]) (fun φ6 => [(φ6 0), (φ6 0), (φ6 0), (φ6 0), (φ6 1), (φ6 1)]) s trivial (fun φ6 => by kernel_rfl) ?_
  intro φ6 w6 s
  refine ops_done (by kernel_rfl) ?_
  refine wp_seq ?_
  refine wp_seq ?_
  refine draw_rule (C := []) ⟨(fun φ7 xs7 => [.look 0 [] [], .look 0 [.o 0, .o 0] [(φ6 0), (φ6 0)], .look 0 [] [], .look 0 [.o 0, .o 0] [(φ6 0), (φ6 0)], .call 53 #[.agg #[.bool ib5, .pointer ip5], .agg #[.int .u64 ((eb5 : Nat) : Int), .pointer ep5]], .call 25 #[.agg #[.int .u64 (((xs7 4).n 0 : Nat) : Int), .pointer ((xs7 4).p 0)]], .look 0 [] [], .look 0 [.o 1] [(φ6 1)], .look 0 [] [], .look 0 [.o 1] [(φ6 1)], .call 54 #[.pointer (some ⟨ki5, 0, none⟩), .pointer (some ⟨ke5, 0, none⟩)], .call 24 #[.pointer (some ⟨(xs7 10).n 0, 0, none⟩)], .sub 0 [] [] (.bool (!((⟨(textE (fillE i5 e5)).toArray⟩ : ByteArray).toList == (⟨(textE (fillE i5 e5)).toArray⟩ : ByteArray).toList)))]), (fun φ7 xs7 => [.pointer (some ⟨(φ6 0), 0, none⟩), .agg #[.bool ib5, .pointer ip5], .pointer (some ⟨(φ6 0), 2, none⟩), .agg #[.int .u64 ((eb5 : Nat) : Int), .pointer ep5], .agg #[.int .u64 (((xs7 4).n 0 : Nat) : Int), .pointer ((xs7 4).p 0)], .string ⟨(textE (fillE i5 e5)).toArray⟩, .pointer (some ⟨(φ6 1), 0, none⟩), .pointer (some ⟨ki5, 0, none⟩), .pointer (some ⟨(φ6 1), 1, none⟩), .pointer (some ⟨ke5, 0, none⟩), .pointer (some ⟨(xs7 10).n 0, 0, none⟩), .string ⟨(textE (fillE i5 e5)).toArray⟩, .bool false]), (fun φ7 xs7 => [[((φ6 0), .cells #[.bool ib5, .pointer ip5, .int .u64 ((eb5 : Nat) : Int), .pointer ep5] 64), ((φ6 1), .cells #[.pointer (some ⟨ki5, 0, none⟩), .pointer (some ⟨ke5, 0, none⟩)] 67)]]), (fun φ7 xs7 => [[default, default, default, default, default, default, default, default, default, default, default, default, default]]), [], [1, 1, 1, 1, 3, 3, 1, 1, 1, 1, 3, 3, 5]⟩ (fun j => ([MP.any, MP.any, MP.any, MP.any, ⟨fun x J => ERep J (fillE i5 e5) (x.n 0) (x.p 0), fun le h => ERep.mono le h⟩, MP.any, MP.any, MP.any, MP.any, MP.any, ⟨fun x J => RE J (fillE i5 e5) (x.n 0), fun le h => RE.mono le h⟩, MP.any, MP.any] : List MP).getD j MP.any) [4, 5, 10, 11] [12] [] (fun φ7 xs7 => []) (fun φ7 xs7 => [(20, .pointer (some ⟨(φ6 0), 0, none⟩)), (21, .agg #[.bool ib5, .pointer ip5]), (22, .pointer (some ⟨(φ6 0), 2, none⟩)), (23, .agg #[.int .u64 ((eb5 : Nat) : Int), .pointer ep5]), (24, .agg #[.int .u64 (((xs7 4).n 0 : Nat) : Int), .pointer ((xs7 4).p 0)]), (25, .string ⟨(textE (fillE i5 e5)).toArray⟩), (26, .pointer (some ⟨(φ6 1), 0, none⟩)), (27, .pointer (some ⟨ki5, 0, none⟩)), (28, .pointer (some ⟨(φ6 1), 1, none⟩)), (29, .pointer (some ⟨ke5, 0, none⟩)), (30, .pointer (some ⟨(xs7 10).n 0, 0, none⟩)), (31, .string ⟨(textE (fillE i5 e5)).toArray⟩), (32, .bool false)]) (fun φ7 xs7 => [((φ6 0), .cells #[.bool ib5, .pointer ip5, .int .u64 ((eb5 : Nat) : Int), .pointer ep5] 64), ((φ6 1), .cells #[.pointer (some ⟨ki5, 0, none⟩), .pointer (some ⟨ke5, 0, none⟩)] 67)]) s trivial (by kernel_rfl) (by kernel_rfl) (fun _ _ => by kernel_rfl) (fun _ _ => by kernel_rfl) ⟨fun _ _ => by kernel_rfl, fun _ _ => by kernel_rfl, fun _ _ => by kernel_rfl, fun _ _ => by kernel_rfl⟩ (fun _ _ _ => by kernel_rfl) (fun _ _ => by kernel_rfl) (fun _ _ => by kernel_rfl) (fun _ _ => by kernel_rfl) (fun _ _ => by kernel_rfl) (fun _ _ => by kernel_rfl) ⟨kcast (A := ∀ (φ7 : Nat → Nat) (xs7 : Xs), (.bool (!((⟨(textE (fillE i5 e5)).toArray⟩ : ByteArray).toList == (⟨(textE (fillE i5 e5)).toArray⟩ : ByteArray).toList)) : Value) = .bool false) (by kernel_rfl) (fun φ7 xs7 => congrArg Value.bool ((congrArg not (beq_self_eq_true _)))), trivial⟩ trivial ⟨?c7_4, ?c7_5, ?c7_10, ?c7_11, trivial⟩ ?k7
  case c7_4 =>
    refine kcast (A := ∀ (φ7 : Nat → Nat) (xs7 : Xs) (J4_7 : IM), I5.Le J4_7 → Fun Tryd.prog 53 #[.agg #[.bool ib5, .pointer ip5], .agg #[.int .u64 ((eb5 : Nat) : Int), .pointer ep5]] J4_7 (fun v J' => ∃ x : UX, v = .agg #[.int .u64 ((x.n 0 : Nat) : Int), .pointer (x.p 0)] ∧ (ERep J' (fillE i5 e5) (x.n 0) (x.p 0)))) (by kernel_rfl) ?_
    intro φ7 xs7 J4_7 leJ
    have h5_2 := TRep.mono leJ h5_2
    have h5_3 := ERep.mono leJ h5_3
    exact Fun.mono (fill_c e5 i5 (by have q0 := h5_1.1; have q1 := h5_0.2; have q2 := h5_1.2; have q3 := fill_bounds e5 i5; first | assumption | omega | exact textT_small (by omega) | exact textE_small (by omega) (by omega)) (by have q0 := h5_1.1; have q1 := h5_0.2; have q2 := h5_1.2; have q3 := fill_bounds e5 i5; first | assumption | omega | exact textT_small (by omega) | exact textE_small (by omega) (by omega)) h5_2 h5_3) (fun v J' _ ⟨y0, y1, hv, g0⟩ => ⟨{ UX.d with n := fun j => y0, p := fun j => y1 }, hv, g0⟩)
  case c7_5 =>
    refine kcast (A := ∀ (φ7 : Nat → Nat) (xs7 : Xs) (J5_7 : IM), I5.Le J5_7 → (ERep J5_7 (fillE i5 e5) ((xs7 4).n 0) ((xs7 4).p 0)) → Fun Tryd.prog 25 #[.agg #[.int .u64 (((xs7 4).n 0 : Nat) : Int), .pointer ((xs7 4).p 0)]] J5_7 (fun v J' => ∃ x : UX, v = .string ⟨(textE (fillE i5 e5)).toArray⟩ ∧ (True))) (by kernel_rfl) ?_
    intro φ7 xs7 J5_7 leJ
    rintro h7_4_0
    have hT := Tab.mono leJ hT
    exact Fun.mono (text_c hT h7_4_0 (by have q0 := h5_1.1; have q1 := h5_0.2; have q2 := h5_1.2; have q3 := fill_bounds e5 i5; first | assumption | omega | exact textT_small (by omega) | exact textE_small (by omega) (by omega)) (by have q0 := h5_1.1; have q1 := h5_0.2; have q2 := h5_1.2; have q3 := fill_bounds e5 i5; first | assumption | omega | exact textT_small (by omega) | exact textE_small (by omega) (by omega))) (fun v J' _ h => ⟨UX.d, h, trivial⟩)
  case c7_10 =>
    refine kcast (A := ∀ (φ7 : Nat → Nat) (xs7 : Xs) (J10_7 : IM), I5.Le J10_7 → (ERep J10_7 (fillE i5 e5) ((xs7 4).n 0) ((xs7 4).p 0)) → (True) → Fun Tryd.prog 54 #[.pointer (some ⟨ki5, 0, none⟩), .pointer (some ⟨ke5, 0, none⟩)] J10_7 (fun v J' => ∃ x : UX, v = .pointer (some ⟨x.n 0, 0, none⟩) ∧ (RE J' (fillE i5 e5) (x.n 0)))) (by kernel_rfl) ?_
    intro φ7 xs7 J10_7 leJ
    rintro h7_4_0 _
    have h5_4 := RT.mono leJ h5_4
    have h5_5 := RE.mono leJ h5_5
    exact Fun.mono (rfill_c e5 i5 (by have q0 := h5_1.1; have q1 := h5_0.2; have q2 := h5_1.2; have q3 := fill_bounds e5 i5; first | assumption | omega | exact textT_small (by omega) | exact textE_small (by omega) (by omega)) (by have q0 := h5_1.1; have q1 := h5_0.2; have q2 := h5_1.2; have q3 := fill_bounds e5 i5; first | assumption | omega | exact textT_small (by omega) | exact textE_small (by omega) (by omega)) h5_4 h5_5) (fun v J' _ ⟨y0, hv, g0⟩ => ⟨{ UX.d with n := fun j => y0 }, hv, g0⟩)
  case c7_11 =>
    refine kcast (A := ∀ (φ7 : Nat → Nat) (xs7 : Xs) (J11_7 : IM), I5.Le J11_7 → (ERep J11_7 (fillE i5 e5) ((xs7 4).n 0) ((xs7 4).p 0)) → (True) → (RE J11_7 (fillE i5 e5) ((xs7 10).n 0)) → Fun Tryd.prog 24 #[.pointer (some ⟨(xs7 10).n 0, 0, none⟩)] J11_7 (fun v J' => ∃ x : UX, v = .string ⟨(textE (fillE i5 e5)).toArray⟩ ∧ (True))) (by kernel_rfl) ?_
    intro φ7 xs7 J11_7 leJ
    rintro h7_4_0 _ h7_10_0
    exact Fun.mono (etext_c (fillE i5 e5) h7_10_0 (by have q0 := h5_1.1; have q1 := h5_0.2; have q2 := h5_1.2; have q3 := fill_bounds e5 i5; first | assumption | omega | exact textT_small (by omega) | exact textE_small (by omega) (by omega)) (by have q0 := h5_1.1; have q1 := h5_0.2; have q2 := h5_1.2; have q3 := fill_bounds e5 i5; first | assumption | omega | exact textT_small (by omega) | exact textE_small (by omega) (by omega))) (fun v J' _ h => ⟨UX.d, h, trivial⟩)
  case k7 =>
    rintro φ7 xs7 I7 w7 le7 s h7_4_0 _ h7_10_0 _
    replace hT := Tab.mono le7 hT
    replace hp := BSl.mono le7 hp
    replace hq := BSl.mono le7 hq
    replace h5_2 := TRep.mono le7 h5_2
    replace h5_3 := ERep.mono le7 h5_3
    replace h5_4 := RT.mono le7 h5_4
    replace h5_5 := RE.mono le7 h5_5
    refine cond_false_rule (b := false) (by kernel_rfl) rfl ?_
    refine wp_skip ?_
    refine wp_seq ?_
    refine region_rule ?_
    refine ops_rule (C := []) [((φ6 0), .cells #[.bool ib5, .pointer ip5, .int .u64 ((eb5 : Nat) : Int), .pointer ep5] 64), ((φ6 1), .cells #[.pointer (some ⟨ki5, 0, none⟩), .pointer (some ⟨ke5, 0, none⟩)] 67)] [] 4 [.o 0, .o 0, .o 0, .o 0] 0 (fun φ8 => [(37, .agg #[.int .u64 ((eb5 : Nat) : Int), .pointer ep5]), (36, .pointer (some ⟨(φ6 0), 2, none⟩)), (35, .agg #[.bool ib5, .pointer ip5]), (34, .pointer (some ⟨(φ6 0), 0, none⟩))]) (fun φ8 => [((φ6 0), .cells #[.bool ib5, .pointer ip5, .int .u64 ((eb5 : Nat) : Int), .pointer ep5] 64), ((φ6 1), .cells #[.pointer (some ⟨ki5, 0, none⟩), .pointer (some ⟨ke5, 0, none⟩)] 67)]) (fun φ8 => [(φ6 0), (φ6 0), (φ6 0), (φ6 0)]) s trivial (fun φ8 => by kernel_rfl) ?_
    intro φ8 w8 s
    refine call_rule (some 38) s (growR_c h5_2 h5_3 (T.nf_live h5_0.1) (by have q0 := h5_1.1; have q1 := h5_0.2; have q2 := h5_1.2; have q3 := fill_bounds e5 i5; first | assumption | omega | exact textT_small (by omega) | exact textE_small (by omega) (by omega)) (by have q0 := h5_1.1; have q1 := h5_0.2; have q2 := h5_1.2; have q3 := fill_bounds e5 i5; first | assumption | omega | exact textT_small (by omega) | exact textE_small (by omega) (by omega)) (by have q0 := h5_1.1; have q1 := h5_0.2; have q2 := h5_1.2; have q3 := fill_bounds e5 i5; first | assumption | omega | exact textT_small (by omega) | exact textE_small (by omega) (by omega))) (by kernel_rfl) ?_
    intro v9 I9 w9 le9 h9 s
    replace hT := Tab.mono le9 hT
    replace hp := BSl.mono le9 hp
    replace hq := BSl.mono le9 hq
    replace h5_2 := TRep.mono le9 h5_2
    replace h5_3 := ERep.mono le9 h5_3
    replace h5_4 := RT.mono le9 h5_4
    replace h5_5 := RE.mono le9 h5_5
    replace h7_4_0 := ERep.mono le9 h7_4_0
    replace h7_10_0 := RE.mono le9 h7_10_0
    obtain ⟨b9, p9, rfl, h9_0⟩ := h9
    refine ops_rule (C := []) [((φ6 0), .cells #[.bool ib5, .pointer ip5, .int .u64 ((eb5 : Nat) : Int), .pointer ep5] 64), ((φ6 1), .cells #[.pointer (some ⟨ki5, 0, none⟩), .pointer (some ⟨ke5, 0, none⟩)] 67)] [] 8 [.o 2, .o 2] 1 (fun φ10 => [(9, .int .i64 (((growR i5 e5).2.2 : Nat) : Int)), (8, .int .i64 (((growR i5 e5).2.1 : Nat) : Int)), (7, .pointer (some ⟨(φ10 0), 0, none⟩)), (41, .int .i64 (((growR i5 e5).2.2 : Nat) : Int)), (40, .int .i64 (((growR i5 e5).2.1 : Nat) : Int)), (39, .agg #[.int .u64 ((b9 : Nat) : Int), .pointer p9]), (33, .tuple #[.agg #[.int .u64 ((b9 : Nat) : Int), .pointer p9], .int .i64 (((growR i5 e5).2.1 : Nat) : Int), .int .i64 (((growR i5 e5).2.2 : Nat) : Int)])]) (fun φ10 => [((φ6 0), .cells #[.bool ib5, .pointer ip5, .int .u64 ((eb5 : Nat) : Int), .pointer ep5] 64), ((φ6 1), .cells #[.pointer (some ⟨ki5, 0, none⟩), .pointer (some ⟨ke5, 0, none⟩)] 67), ((φ10 0), .cells #[.int .u64 ((b9 : Nat) : Int), .pointer p9] 27)]) (fun φ10 => [(φ10 0), (φ10 0)]) s trivial (fun φ10 => by kernel_rfl) ?_
    intro φ10 w10 s
    refine ops_done (by kernel_rfl) ?_
    refine wp_seq ?_
    refine wp_seq ?_
    refine region_rule ?_
    obtain ⟨pl11, pr11, hp11⟩ := RT.peek h5_4
    refine ops_rule (C := [(ki5, .cells #[.int .i64 ((kindT i5 : Nat) : Int), .pointer pl11, .pointer pr11] 84)]) [((φ6 0), .cells #[.bool ib5, .pointer ip5, .int .u64 ((eb5 : Nat) : Int), .pointer ep5] 64), ((φ6 1), .cells #[.pointer (some ⟨ki5, 0, none⟩), .pointer (some ⟨ke5, 0, none⟩)] 67), ((φ10 0), .cells #[.int .u64 ((b9 : Nat) : Int), .pointer p9] 27)] [] 6 [.o 1, .c 0] 0 (fun φ11 => [(47, .bool (((kindT i5 : Nat) : Int) == ((0 : Nat) : Int))), (46, .int .i64 ((kindT i5 : Nat) : Int)), (45, .pointer (some ⟨ki5, 0, none⟩)), (44, .pointer (some ⟨ki5, 0, none⟩)), (43, .pointer (some ⟨ki5, 0, none⟩)), (42, .pointer (some ⟨(φ6 1), 0, none⟩))]) (fun φ11 => [((φ6 0), .cells #[.bool ib5, .pointer ip5, .int .u64 ((eb5 : Nat) : Int), .pointer ep5] 64), ((φ6 1), .cells #[.pointer (some ⟨ki5, 0, none⟩), .pointer (some ⟨ke5, 0, none⟩)] 67), ((φ10 0), .cells #[.int .u64 ((b9 : Nat) : Int), .pointer p9] 27)]) (fun φ11 => [(φ6 1), ki5]) s ⟨hp11, trivial⟩ (fun φ11 => by kernel_rfl) ?_
    intro φ11 w11 s
    rw [nat_eql (a := (kindT i5)) (b := 0)]
    refine ops_done (by kernel_rfl) ?_
    rcases Bool.eq_false_or_eq_true (decide ((kindT i5) = 0)) with hc13 | hc13
    ·
      rw [hc13]
      refine cond_true_rule (b := true) (by kernel_rfl) rfl ?_
      refine wp_seq ?_
      refine region_rule ?_
      refine ops_rule (C := []) [((φ6 0), .cells #[.bool ib5, .pointer ip5, .int .u64 ((eb5 : Nat) : Int), .pointer ep5] 64), ((φ6 1), .cells #[.pointer (some ⟨ki5, 0, none⟩), .pointer (some ⟨ke5, 0, none⟩)] 67), ((φ10 0), .cells #[.int .u64 ((b9 : Nat) : Int), .pointer p9] 27)] [] 3 [] 0 (fun φ14 => [(50, .bool ((((growR i5 e5).2.2 : Nat) : Int) == ((2 : Nat) : Int))), (49, .bool ((((growR i5 e5).2.2 : Nat) : Int) == ((2 : Nat) : Int))), (48, .int .i64 (((growR i5 e5).2.2 : Nat) : Int))]) (fun φ14 => [((φ6 0), .cells #[.bool ib5, .pointer ip5, .int .u64 ((eb5 : Nat) : Int), .pointer ep5] 64), ((φ6 1), .cells #[.pointer (some ⟨ki5, 0, none⟩), .pointer (some ⟨ke5, 0, none⟩)] 67), ((φ10 0), .cells #[.int .u64 ((b9 : Nat) : Int), .pointer p9] 27)]) (fun φ14 => []) s trivial (fun φ14 => by kernel_rfl) ?_
      intro φ14 w14 s
      rw [nat_eql (a := ((growR i5 e5).2.2)) (b := 2)]
      rcases Bool.eq_false_or_eq_true (decide (((growR i5 e5).2.2) = 2)) with hc15 | hc15
      ·
        rw [hc15]
        refine ops_rule (C := []) [((φ6 0), .cells #[.bool ib5, .pointer ip5, .int .u64 ((eb5 : Nat) : Int), .pointer ep5] 64), ((φ6 1), .cells #[.pointer (some ⟨ki5, 0, none⟩), .pointer (some ⟨ke5, 0, none⟩)] 67), ((φ10 0), .cells #[.int .u64 ((b9 : Nat) : Int), .pointer p9] 27)] [] 4 [] 0 (fun φ16 => [(54, .bool ((((growR i5 e5).2.1 : Nat) : Int) == ((0 : Nat) : Int))), (53, .bool ((((growR i5 e5).2.1 : Nat) : Int) == ((0 : Nat) : Int))), (52, .bool ((((growR i5 e5).2.1 : Nat) : Int) == ((0 : Nat) : Int))), (51, .int .i64 (((growR i5 e5).2.1 : Nat) : Int))]) (fun φ16 => [((φ6 0), .cells #[.bool ib5, .pointer ip5, .int .u64 ((eb5 : Nat) : Int), .pointer ep5] 64), ((φ6 1), .cells #[.pointer (some ⟨ki5, 0, none⟩), .pointer (some ⟨ke5, 0, none⟩)] 67), ((φ10 0), .cells #[.int .u64 ((b9 : Nat) : Int), .pointer p9] 27)]) (fun φ16 => []) s trivial (fun φ16 => by kernel_rfl) ?_
        intro φ16 w16 s
        rw [nat_eql (a := ((growR i5 e5).2.1)) (b := 0)]
        rcases Bool.eq_false_or_eq_true (decide (((growR i5 e5).2.1) = 0)) with hc17 | hc17
        ·
          rw [hc17]
          refine ops_rule (C := []) [((φ6 0), .cells #[.bool ib5, .pointer ip5, .int .u64 ((eb5 : Nat) : Int), .pointer ep5] 64), ((φ6 1), .cells #[.pointer (some ⟨ki5, 0, none⟩), .pointer (some ⟨ke5, 0, none⟩)] 67), ((φ10 0), .cells #[.int .u64 ((b9 : Nat) : Int), .pointer p9] 27)] [] 3 [.o 2, .o 2, .o 0, .o 0] 0 (fun φ18 => [(57, .agg #[.int .u64 ((eb5 : Nat) : Int), .pointer ep5]), (56, .pointer (some ⟨(φ6 0), 2, none⟩)), (55, .agg #[.int .u64 ((b9 : Nat) : Int), .pointer p9])]) (fun φ18 => [((φ6 0), .cells #[.bool ib5, .pointer ip5, .int .u64 ((eb5 : Nat) : Int), .pointer ep5] 64), ((φ6 1), .cells #[.pointer (some ⟨ki5, 0, none⟩), .pointer (some ⟨ke5, 0, none⟩)] 67), ((φ10 0), .cells #[.int .u64 ((b9 : Nat) : Int), .pointer p9] 27)]) (fun φ18 => [(φ10 0), (φ10 0), (φ6 0), (φ6 0)]) s trivial (fun φ18 => by kernel_rfl) ?_
          intro φ18 w18 s
          refine call_rule (some 58) s (sameG_c h9_0 h5_3 (of_decide_eq_true hc13) h5_1.2.1 (by have := h5_1.2.2; omega)) (by kernel_rfl) ?_
          intro v19 I19 w19 le19 h19 s
          replace hT := Tab.mono le19 hT
          replace hp := BSl.mono le19 hp
          replace hq := BSl.mono le19 hq
          replace h5_2 := TRep.mono le19 h5_2
          replace h5_3 := ERep.mono le19 h5_3
          replace h5_4 := RT.mono le19 h5_4
          replace h5_5 := RE.mono le19 h5_5
          replace h7_4_0 := ERep.mono le19 h7_4_0
          replace h7_10_0 := RE.mono le19 h7_10_0
          replace h9_0 := ERep.mono le19 h9_0
          replace hp11 := le19 _ _ hp11
          obtain rfl := h19
          refine ops_rule (C := []) [((φ6 0), .cells #[.bool ib5, .pointer ip5, .int .u64 ((eb5 : Nat) : Int), .pointer ep5] 64), ((φ6 1), .cells #[.pointer (some ⟨ki5, 0, none⟩), .pointer (some ⟨ke5, 0, none⟩)] 67), ((φ10 0), .cells #[.int .u64 ((b9 : Nat) : Int), .pointer p9] 27)] [] 2 [] 0 (fun φ20 => [(4, .bool true), (59, .bool true)]) (fun φ20 => [((φ6 0), .cells #[.bool ib5, .pointer ip5, .int .u64 ((eb5 : Nat) : Int), .pointer ep5] 64), ((φ6 1), .cells #[.pointer (some ⟨ki5, 0, none⟩), .pointer (some ⟨ke5, 0, none⟩)] 67), ((φ10 0), .cells #[.int .u64 ((b9 : Nat) : Int), .pointer p9] 27)]) (fun φ20 => []) s trivial (fun φ20 => by kernel_rfl) ?_
          intro φ20 w20 s
          refine ops_done (by kernel_rfl) ?_
          refine wp_ret ?_
          refine ret_rule (C := []) [((φ6 0), .cells #[.bool ib5, .pointer ip5, .int .u64 ((eb5 : Nat) : Int), .pointer ep5] 64), ((φ6 1), .cells #[.pointer (some ⟨ki5, 0, none⟩), .pointer (some ⟨ke5, 0, none⟩)] 67), ((φ10 0), .cells #[.int .u64 ((b9 : Nat) : Int), .pointer p9] 27)] [] (.bool true) [] [] s trivial (by kernel_rfl) ?_
          exact ⟨_, _, _, rfl, s, rfl⟩
        ·
          exact absurd (show _ = _ by rw [growR_zero e5 (of_decide_eq_true hc13)]) (of_decide_eq_false hc17)
      ·
        exact absurd (show _ = _ by rw [growR_zero e5 (of_decide_eq_true hc13)]) (of_decide_eq_false hc15)
    ·
      rw [hc13]
      refine cond_false_rule (b := false) (by kernel_rfl) rfl ?_
      refine wp_skip ?_
      refine wp_seq ?_
      refine region_rule ?_
      refine ops_rule (C := []) [((φ6 0), .cells #[.bool ib5, .pointer ip5, .int .u64 ((eb5 : Nat) : Int), .pointer ep5] 64), ((φ6 1), .cells #[.pointer (some ⟨ki5, 0, none⟩), .pointer (some ⟨ke5, 0, none⟩)] 67), ((φ10 0), .cells #[.int .u64 ((b9 : Nat) : Int), .pointer p9] 27)] [] 4 [.o 1, .o 1] 0 (fun φ21 => [(64, .pointer (some ⟨ke5, 0, none⟩)), (63, .pointer (some ⟨(φ6 1), 1, none⟩)), (62, .pointer (some ⟨ki5, 0, none⟩)), (61, .pointer (some ⟨(φ6 1), 0, none⟩))]) (fun φ21 => [((φ6 0), .cells #[.bool ib5, .pointer ip5, .int .u64 ((eb5 : Nat) : Int), .pointer ep5] 64), ((φ6 1), .cells #[.pointer (some ⟨ki5, 0, none⟩), .pointer (some ⟨ke5, 0, none⟩)] 67), ((φ10 0), .cells #[.int .u64 ((b9 : Nat) : Int), .pointer p9] 27)]) (fun φ21 => [(φ6 1), (φ6 1)]) s trivial (fun φ21 => by kernel_rfl) ?_
      intro φ21 w21 s
      refine call_rule (some 65) s (rgrow_c 40 (by omega) (T.nf_live h5_0.1) (of_decide_eq_false hc13) (by have q1 := h5_0.2; have q2 := h5_1.2; omega) h5_1.1 (by have q1 := h5_0.2; have q2 := h5_1.2; omega) h5_4 h5_5) (by kernel_rfl) ?_
      intro v22 I22 w22 le22 h22 s
      replace hT := Tab.mono le22 hT
      replace hp := BSl.mono le22 hp
      replace hq := BSl.mono le22 hq
      replace h5_2 := TRep.mono le22 h5_2
      replace h5_3 := ERep.mono le22 h5_3
      replace h5_4 := RT.mono le22 h5_4
      replace h5_5 := RE.mono le22 h5_5
      replace h7_4_0 := ERep.mono le22 h7_4_0
      replace h7_10_0 := RE.mono le22 h7_10_0
      replace h9_0 := ERep.mono le22 h9_0
      replace hp11 := le22 _ _ hp11
      obtain ⟨k22, rfl, h22_0⟩ := h22
      refine ops_rule (C := []) [((φ6 0), .cells #[.bool ib5, .pointer ip5, .int .u64 ((eb5 : Nat) : Int), .pointer ep5] 64), ((φ6 1), .cells #[.pointer (some ⟨ki5, 0, none⟩), .pointer (some ⟨ke5, 0, none⟩)] 67), ((φ10 0), .cells #[.int .u64 ((b9 : Nat) : Int), .pointer p9] 27)] [] 5 [] 0 (fun φ23 => [(11, .int .i64 (((growD 40 i5 e5).2 : Nat) : Int)), (10, .pointer (some ⟨k22, 0, none⟩)), (67, .int .i64 (((growD 40 i5 e5).2 : Nat) : Int)), (66, .pointer (some ⟨k22, 0, none⟩)), (60, .tuple #[.pointer (some ⟨k22, 0, none⟩), .int .i64 (((growD 40 i5 e5).2 : Nat) : Int)])]) (fun φ23 => [((φ6 0), .cells #[.bool ib5, .pointer ip5, .int .u64 ((eb5 : Nat) : Int), .pointer ep5] 64), ((φ6 1), .cells #[.pointer (some ⟨ki5, 0, none⟩), .pointer (some ⟨ke5, 0, none⟩)] 67), ((φ10 0), .cells #[.int .u64 ((b9 : Nat) : Int), .pointer p9] 27)]) (fun φ23 => []) s trivial (fun φ23 => by kernel_rfl) ?_
      intro φ23 w23 s
      refine ops_done (by kernel_rfl) ?_
      refine wp_seq ?_
      refine region_rule ?_
      refine ops_rule (C := []) [((φ6 0), .cells #[.bool ib5, .pointer ip5, .int .u64 ((eb5 : Nat) : Int), .pointer ep5] 64), ((φ6 1), .cells #[.pointer (some ⟨ki5, 0, none⟩), .pointer (some ⟨ke5, 0, none⟩)] 67), ((φ10 0), .cells #[.int .u64 ((b9 : Nat) : Int), .pointer p9] 27)] [] 3 [] 0 (fun φ24 => [(70, .bool ((((growR i5 e5).2.2 : Nat) : Int) == ((0 : Nat) : Int))), (69, .bool ((((growR i5 e5).2.2 : Nat) : Int) == ((0 : Nat) : Int))), (68, .int .i64 (((growR i5 e5).2.2 : Nat) : Int))]) (fun φ24 => [((φ6 0), .cells #[.bool ib5, .pointer ip5, .int .u64 ((eb5 : Nat) : Int), .pointer ep5] 64), ((φ6 1), .cells #[.pointer (some ⟨ki5, 0, none⟩), .pointer (some ⟨ke5, 0, none⟩)] 67), ((φ10 0), .cells #[.int .u64 ((b9 : Nat) : Int), .pointer p9] 27)]) (fun φ24 => []) s trivial (fun φ24 => by kernel_rfl) ?_
      intro φ24 w24 s
      rw [nat_eql (a := ((growR i5 e5).2.2)) (b := 0)]
      rcases Bool.eq_false_or_eq_true (decide (((growR i5 e5).2.2) = 0)) with hc25 | hc25
      ·
        rw [hc25]
        refine ops_rule (C := []) [((φ6 0), .cells #[.bool ib5, .pointer ip5, .int .u64 ((eb5 : Nat) : Int), .pointer ep5] 64), ((φ6 1), .cells #[.pointer (some ⟨ki5, 0, none⟩), .pointer (some ⟨ke5, 0, none⟩)] 67), ((φ10 0), .cells #[.int .u64 ((b9 : Nat) : Int), .pointer p9] 27)] [] 1 [.o 2, .o 2] 0 (fun φ26 => [(71, .agg #[.int .u64 ((b9 : Nat) : Int), .pointer p9])]) (fun φ26 => [((φ6 0), .cells #[.bool ib5, .pointer ip5, .int .u64 ((eb5 : Nat) : Int), .pointer ep5] 64), ((φ6 1), .cells #[.pointer (some ⟨ki5, 0, none⟩), .pointer (some ⟨ke5, 0, none⟩)] 67), ((φ10 0), .cells #[.int .u64 ((b9 : Nat) : Int), .pointer p9] 27)]) (fun φ26 => [(φ10 0), (φ10 0)]) s trivial (fun φ26 => by kernel_rfl) ?_
        intro φ26 w26 s
        refine call_rule (some 72) s (textG_c hT h9_0 h5_0.1 (of_decide_eq_false hc13) h5_0.2 h5_1.2.1 (by have := h5_1.2.2; omega)) (by kernel_rfl) ?_
        intro v27 I27 w27 le27 h27 s
        replace hT := Tab.mono le27 hT
        replace hp := BSl.mono le27 hp
        replace hq := BSl.mono le27 hq
        replace h5_2 := TRep.mono le27 h5_2
        replace h5_3 := ERep.mono le27 h5_3
        replace h5_4 := RT.mono le27 h5_4
        replace h5_5 := RE.mono le27 h5_5
        replace h7_4_0 := ERep.mono le27 h7_4_0
        replace h7_10_0 := RE.mono le27 h7_10_0
        replace h9_0 := ERep.mono le27 h9_0
        replace h22_0 := RE.mono le27 h22_0
        replace hp11 := le27 _ _ hp11
        obtain rfl := h27
        refine ops_rule (C := []) [((φ6 0), .cells #[.bool ib5, .pointer ip5, .int .u64 ((eb5 : Nat) : Int), .pointer ep5] 64), ((φ6 1), .cells #[.pointer (some ⟨ki5, 0, none⟩), .pointer (some ⟨ke5, 0, none⟩)] 67), ((φ10 0), .cells #[.int .u64 ((b9 : Nat) : Int), .pointer p9] 27)] [] 1 [] 0 (fun φ28 => [(73, .pointer (some ⟨k22, 0, none⟩))]) (fun φ28 => [((φ6 0), .cells #[.bool ib5, .pointer ip5, .int .u64 ((eb5 : Nat) : Int), .pointer ep5] 64), ((φ6 1), .cells #[.pointer (some ⟨ki5, 0, none⟩), .pointer (some ⟨ke5, 0, none⟩)] 67), ((φ10 0), .cells #[.int .u64 ((b9 : Nat) : Int), .pointer p9] 27)]) (fun φ28 => []) s trivial (fun φ28 => by kernel_rfl) ?_
        intro φ28 w28 s
        refine call_rule (some 74) s (etext_c (growD 40 i5 e5).1 h22_0 (by have q1 := growD_small h5_0.1 (of_decide_eq_false hc13) h5_0.2 h5_1.2.1 (by have := h5_1.2.2; omega); have q2 := growD_top 40 i5 e5; have q3 := h5_1.2; first | omega | exact textE_small (by omega) (by omega)) (by have q1 := growD_small h5_0.1 (of_decide_eq_false hc13) h5_0.2 h5_1.2.1 (by have := h5_1.2.2; omega); have q2 := growD_top 40 i5 e5; have q3 := h5_1.2; first | omega | exact textE_small (by omega) (by omega))) (by kernel_rfl) ?_
        intro v29 I29 w29 le29 h29 s
        replace hT := Tab.mono le29 hT
        replace hp := BSl.mono le29 hp
        replace hq := BSl.mono le29 hq
        replace h5_2 := TRep.mono le29 h5_2
        replace h5_3 := ERep.mono le29 h5_3
        replace h5_4 := RT.mono le29 h5_4
        replace h5_5 := RE.mono le29 h5_5
        replace h7_4_0 := ERep.mono le29 h7_4_0
        replace h7_10_0 := RE.mono le29 h7_10_0
        replace h9_0 := ERep.mono le29 h9_0
        replace h22_0 := RE.mono le29 h22_0
        replace hp11 := le29 _ _ hp11
        obtain rfl := h29
        refine ops_rule (C := []) [((φ6 0), .cells #[.bool ib5, .pointer ip5, .int .u64 ((eb5 : Nat) : Int), .pointer ep5] 64), ((φ6 1), .cells #[.pointer (some ⟨ki5, 0, none⟩), .pointer (some ⟨ke5, 0, none⟩)] 67), ((φ10 0), .cells #[.int .u64 ((b9 : Nat) : Int), .pointer p9] 27)] [] 3 [] 0 (fun φ30 => [(77, .bool ((⟨(textE (growD 40 i5 e5).1).toArray⟩ : ByteArray).toList == (⟨(textE (growD 40 i5 e5).1).toArray⟩ : ByteArray).toList)), (76, .bool ((⟨(textE (growD 40 i5 e5).1).toArray⟩ : ByteArray).toList == (⟨(textE (growD 40 i5 e5).1).toArray⟩ : ByteArray).toList)), (75, .bool ((⟨(textE (growD 40 i5 e5).1).toArray⟩ : ByteArray).toList == (⟨(textE (growD 40 i5 e5).1).toArray⟩ : ByteArray).toList))]) (fun φ30 => [((φ6 0), .cells #[.bool ib5, .pointer ip5, .int .u64 ((eb5 : Nat) : Int), .pointer ep5] 64), ((φ6 1), .cells #[.pointer (some ⟨ki5, 0, none⟩), .pointer (some ⟨ke5, 0, none⟩)] 67), ((φ10 0), .cells #[.int .u64 ((b9 : Nat) : Int), .pointer p9] 27)]) (fun φ30 => []) s trivial (fun φ30 => by kernel_rfl) ?_
        intro φ30 w30 s
        rw [beq_self_eq_true _]
        rcases Bool.eq_false_or_eq_true (true) with hc31 | hc31
        ·
          refine ops_rule (C := []) [((φ6 0), .cells #[.bool ib5, .pointer ip5, .int .u64 ((eb5 : Nat) : Int), .pointer ep5] 64), ((φ6 1), .cells #[.pointer (some ⟨ki5, 0, none⟩), .pointer (some ⟨ke5, 0, none⟩)] 67), ((φ10 0), .cells #[.int .u64 ((b9 : Nat) : Int), .pointer p9] 27)] [] 5 [] 0 (fun φ32 => [(4, .bool ((((growR i5 e5).2.1 : Nat) : Int) == (((growD 40 i5 e5).2 : Nat) : Int))), (81, .bool ((((growR i5 e5).2.1 : Nat) : Int) == (((growD 40 i5 e5).2 : Nat) : Int))), (80, .bool ((((growR i5 e5).2.1 : Nat) : Int) == (((growD 40 i5 e5).2 : Nat) : Int))), (79, .int .i64 (((growD 40 i5 e5).2 : Nat) : Int)), (78, .int .i64 (((growR i5 e5).2.1 : Nat) : Int))]) (fun φ32 => [((φ6 0), .cells #[.bool ib5, .pointer ip5, .int .u64 ((eb5 : Nat) : Int), .pointer ep5] 64), ((φ6 1), .cells #[.pointer (some ⟨ki5, 0, none⟩), .pointer (some ⟨ke5, 0, none⟩)] 67), ((φ10 0), .cells #[.int .u64 ((b9 : Nat) : Int), .pointer p9] 27)]) (fun φ32 => []) s trivial (fun φ32 => by kernel_rfl) ?_
          intro φ32 w32 s
          rw [nat_eql (a := ((growR i5 e5).2.1)) (b := ((growD 40 i5 e5).2))]
          refine ops_done (by kernel_rfl) ?_
          refine wp_ret ?_
          refine ret_rule (C := []) [((φ6 0), .cells #[.bool ib5, .pointer ip5, .int .u64 ((eb5 : Nat) : Int), .pointer ep5] 64), ((φ6 1), .cells #[.pointer (some ⟨ki5, 0, none⟩), .pointer (some ⟨ke5, 0, none⟩)] 67), ((φ10 0), .cells #[.int .u64 ((b9 : Nat) : Int), .pointer p9] 27)] [] (.bool (decide (((growR i5 e5).2.1) = ((growD 40 i5 e5).2)))) [] [] s trivial (by kernel_rfl) ?_
          exact ⟨_, _, _, rfl, s, (congrArg Value.bool (decide_eq_true (show _ = _ by rw [growR_eq h5_0.1 (of_decide_eq_false hc13) h5_0.2 h5_1.2.1 (by have := h5_1.2.2; omega)])))⟩
        ·
          refine ops_rule (C := []) [((φ6 0), .cells #[.bool ib5, .pointer ip5, .int .u64 ((eb5 : Nat) : Int), .pointer ep5] 64), ((φ6 1), .cells #[.pointer (some ⟨ki5, 0, none⟩), .pointer (some ⟨ke5, 0, none⟩)] 67), ((φ10 0), .cells #[.int .u64 ((b9 : Nat) : Int), .pointer p9] 27)] [] 5 [] 0 (fun φ33 => [(4, .bool ((((growR i5 e5).2.1 : Nat) : Int) == (((growD 40 i5 e5).2 : Nat) : Int))), (81, .bool ((((growR i5 e5).2.1 : Nat) : Int) == (((growD 40 i5 e5).2 : Nat) : Int))), (80, .bool ((((growR i5 e5).2.1 : Nat) : Int) == (((growD 40 i5 e5).2 : Nat) : Int))), (79, .int .i64 (((growD 40 i5 e5).2 : Nat) : Int)), (78, .int .i64 (((growR i5 e5).2.1 : Nat) : Int))]) (fun φ33 => [((φ6 0), .cells #[.bool ib5, .pointer ip5, .int .u64 ((eb5 : Nat) : Int), .pointer ep5] 64), ((φ6 1), .cells #[.pointer (some ⟨ki5, 0, none⟩), .pointer (some ⟨ke5, 0, none⟩)] 67), ((φ10 0), .cells #[.int .u64 ((b9 : Nat) : Int), .pointer p9] 27)]) (fun φ33 => []) s trivial (fun φ33 => by kernel_rfl) ?_
          intro φ33 w33 s
          rw [nat_eql (a := ((growR i5 e5).2.1)) (b := ((growD 40 i5 e5).2))]
          refine ops_done (by kernel_rfl) ?_
          refine wp_ret ?_
          refine ret_rule (C := []) [((φ6 0), .cells #[.bool ib5, .pointer ip5, .int .u64 ((eb5 : Nat) : Int), .pointer ep5] 64), ((φ6 1), .cells #[.pointer (some ⟨ki5, 0, none⟩), .pointer (some ⟨ke5, 0, none⟩)] 67), ((φ10 0), .cells #[.int .u64 ((b9 : Nat) : Int), .pointer p9] 27)] [] (.bool (decide (((growR i5 e5).2.1) = ((growD 40 i5 e5).2)))) [] [] s trivial (by kernel_rfl) ?_
          exact ⟨_, _, _, rfl, s, (congrArg Value.bool (decide_eq_true (show _ = _ by rw [growR_eq h5_0.1 (of_decide_eq_false hc13) h5_0.2 h5_1.2.1 (by have := h5_1.2.2; omega)])))⟩
      ·
        exact absurd (show _ = _ by rw [growR_eq h5_0.1 (of_decide_eq_false hc13) h5_0.2 h5_1.2.1 (by have := h5_1.2.2; omega)]) (of_decide_eq_false hc25)

end Go.Proofs.YtgdickihjaomjaaDoor
