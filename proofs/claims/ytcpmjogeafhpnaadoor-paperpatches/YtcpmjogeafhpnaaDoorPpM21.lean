/- The document writes a card. -/
import Derived.Test.YtcpmjogeafhpnaaDoorPpM20
import Derived.Test.YtcpmjogeafhpnaaDoorPpS14
import Derived.Test.YtcpmjogeafhpnaaDoorPpS17
import Derived.Test.YtcpmjogeafhpnaaDoorPpS16
import Derived.Test.YtcpmjogeafhpnaaDoorPpM17
import Derived.Test.YtcpmjogeafhpnaaDoorPpM19
set_option linter.all false
set_option maxRecDepth 100000
namespace Go.Proofs.YtcpmjogeafhpnaaDoor
open Go.RowKit Go.Sep
attribute [local irreducible] Go.wpList Go.Code.wp

theorem refnumX_c {I : IM} {n : Nat} (hn : n < 18446744073709551616) : Fun Tryd.prog 86 #[.int .u64 ((n : Nat) : Int)] I (fun v J => bsR (encF 9 n) v J) := fun_of_rowB (refnum6_r hn)
theorem reftextX_c {I : IM} {ss : List UInt8} (hss : ss.length ≤ 1000) : Fun Tryd.prog 112 #[.string ⟨ss.toArray⟩] I (fun v J => bsR (encF 9 ss.length ++ ss) v J) := fun_of_rowB (reftext_r hss)
theorem card_nextX {L : List Fe} {i : Nat} (h : i < L.length) : encF 9 L.length ++ (L.take i).flatMap encFe ++ [UInt8.ofNat (L.getD i Fe.z).k.toNat] ++ (encF 9 (L.getD i Fe.z).a.length ++ (L.getD i Fe.z).a) ++ (encF 9 (L.getD i Fe.z).v.length ++ (L.getD i Fe.z).v) = encF 9 L.length ++ (L.take (i + 1)).flatMap encFe := by
  have := put_next (l := []) h
  simpa only [List.nil_append] using this
theorem px_zero {I : IM} {L : List Fe} {a : Option Addr} {c n : Nat} (h : BSl I (encF 9 L.length) (.slice a n c)) : BSl I (encF 9 L.length ++ (L.take 0).flatMap encFe) (.slice a n c) := by
  rw [List.take_zero, List.flatMap_nil, List.append_nil]; exact h
theorem card_endX {L : List Fe} {i : Nat} (h : i = L.length) : encF 9 L.length ++ (L.take i).flatMap encFe = encL L := by
  rw [h, List.take_length, encL]

theorem bsl_oneX {I : IM} {k n : Nat} (h : I k = some (.cells #[.int .u8 ((n : Nat) : Int)] 5)) (hn : n < 256) : BSl I [UInt8.ofNat n] (.slice (some ⟨k, 0, none⟩) 1 1) := by
  refine ⟨some ⟨k, 0, none⟩, 1, rfl, Nat.le_refl _, fun j x hj => ?_⟩
  match j with
  | 0 =>
    simp only [List.getElem?_cons_zero, Option.some.injEq] at hj; subst hj
    refine ⟨k, 0, _, 5, (0, 0), rfl, h, ?_⟩
    rw [UInt8.toNat_ofNat', Nat.mod_eq_of_lt hn]; rfl
  | j + 1 => simp at hj

set_option maxHeartbeats 4000000 in
theorem join4_r {I : IM} {g : Nat} {l1 : List UInt8} {a1 : Option Addr} {n1 c1 : Nat} {l2 : List UInt8} {a2 : Option Addr} {n2 c2 : Nat} {l3 : List UInt8} {a3 : Option Addr} {n3 c3 : Nat} {l4 : List UInt8} {a4 : Option Addr} {n4 c4 : Nat} (hg : I g = some (.cells #[.slice a1 n1 c1, .slice a2 n2 c2, .slice a3 n3 c3, .slice a4 n4 c4] 61)) (hl1 : BSl I l1 (.slice a1 n1 c1)) (hl2 : BSl I l2 (.slice a2 n2 c2)) (hl3 : BSl I l3 (.slice a3 n3 c3)) (hl4 : BSl I l4 (.slice a4 n4 c4)) (hn1 : l1.length ≤ 1000000000) (hn2 : l2.length ≤ 1000000000) (hn3 : l3.length ≤ 1000000000) (hn4 : l4.length ≤ 1000000000) : FunM Tryd.prog 84 #[.slice (some ⟨g, 0, none⟩) 4 4] I [] (fun v J F => RowH 5 1 v (l1 ++ l2 ++ l3 ++ l4).length ((l1 ++ l2 ++ l3 ++ l4).map bV) F) := by
  obtain ⟨rfl, -⟩ := hl1.cap
  obtain ⟨rfl, -⟩ := hl2.cap
  obtain ⟨rfl, -⟩ := hl3.cap
  obtain ⟨rfl, -⟩ := hl4.cap
  refine enterM_rule 17 [(0, .slice (some ⟨g, 0, none⟩) 4 4)] Tryd.func84 rfl (by kernel_rfl) ?_
  intro w s
  refine wp_seq ?_
  refine region_rule ?_
  refine ops_rule (C := []) [] [] 1 [] 0 (fun φ1 => [(2, .slice none 0 0)]) (fun φ1 => []) (fun φ1 => []) s trivial (fun φ1 => by kernel_rfl) ?_
  intro φ1 w1 s
  refine ops_done (by kernel_rfl) ?_
  refine wp_seq ?_
  refine region_rule ?_
  refine ops_rule (C := []) [] [] 1 [] 0 (fun φ2 => [(3, .slice none 0 0)]) (fun φ2 => []) (fun φ2 => []) s trivial (fun φ2 => by kernel_rfl) ?_
  intro φ2 w2 s
  refine ops_done (by kernel_rfl) ?_
  refine wp_seq ?_
  refine wp_seq ?_
  refine region_rule ?_
  refine ops_rule (C := []) [] [] 3 [] 0 (fun φ3 => [(8, .int .i64 0), (7, .int .i64 4), (6, .slice (some ⟨g, 0, none⟩) 4 4)]) (fun φ3 => []) (fun φ3 => []) s trivial (fun φ3 => by kernel_rfl) ?_
  intro φ3 w3 s
  refine ops_done (by kernel_rfl) ?_
  refine wp_block ?_
  refine Go.wp_loop_rounds 5 ?_
  refine rounds_step (n := 4) ?_
  refine wp_seq ?_
  refine region_rule ?_
  refine ops_rule (C := []) [] [] 1 [] 0 (fun φ4 => [(9, .bool true)]) (fun φ4 => []) (fun φ4 => []) s trivial (fun φ4 => by kernel_rfl) ?_
  intro φ4 w4 s
  refine ops_done (by kernel_rfl) ?_
  refine wp_seq ?_
  refine cond_true_rule (b := true) (by kernel_rfl) rfl ?_
  refine wp_skip ?_
  refine wp_seq ?_
  refine wp_block ?_
  refine wp_seq ?_
  refine region_rule ?_
  refine ops_rule (C := [(g, .cells #[.slice a1 l1.length c1, .slice a2 l2.length c2, .slice a3 l3.length c3, .slice a4 l4.length c4] 61)]) [] [] 3 [.c 0] 0 (fun φ5 => [(5, .slice a1 l1.length c1), (11, .slice a1 l1.length c1), (10, .pointer (some ⟨g, 0, none⟩))]) (fun φ5 => []) (fun φ5 => [g]) s ⟨hg, trivial⟩ (fun φ5 => by kernel_rfl) ?_
  intro φ5 w5 s
  refine ops_done (by kernel_rfl) ?_
  refine region_rule ?_
  refine ops_rule (C := []) [] [] 2 [] 0 (fun φ6 => [(13, .slice a1 l1.length c1), (12, .slice none 0 0)]) (fun φ6 => []) (fun φ6 => []) s trivial (fun φ6 => by kernel_rfl) ?_
  intro φ6 w6 s
  refine append_rule (H := []) (F := []) 61 61 5 Tryd.t5 (.int .u8 0) 1 1 (some 14) s Tryd.underlying61 (by kernel_rfl) (by kernel_rfl) (by kernel_rfl) (by kernel_rfl) (by kernel_rfl) (by decide) row_nilB (src_bsl s.sub hl1) (by   (try simp only [maxLen, List.length_append, List.length_cons, List.length_nil, List.length_take, List.length_drop]); omega) (by   (try simp only [maxLen, List.length_append, List.length_cons, List.length_nil, List.length_take, List.length_drop]); omega) (by kernel_rfl) ?_
  intro v7 w7 F7 s h7
  replace h7 : RowH 5 1 v7 ((l1).length) ((l1).map bV) F7 := row_app (x := []) (y := l1) h7
  refine ops_rule (C := []) [] F7 1 [] 0 (fun φ8 => [(3, v7)]) (fun φ8 => []) (fun φ8 => []) s trivial (fun φ8 => by kernel_rfl) ?_
  intro φ8 w8 s
  refine ops_done (by kernel_rfl) ?_
  refine region_rule ?_
  refine ops_rule (C := []) [] F7 2 [] 0 (fun φ9 => [(8, .int .i64 1), (15, .int .i64 1)]) (fun φ9 => []) (fun φ9 => []) s trivial (fun φ9 => by kernel_rfl) ?_
  intro φ9 w9 s
  refine ops_done (by kernel_rfl) ?_
  refine rounds_step (n := 3) ?_
  refine wp_seq ?_
  refine region_rule ?_
  refine ops_rule (C := []) [] F7 1 [] 0 (fun φ10 => [(9, .bool true)]) (fun φ10 => []) (fun φ10 => []) s trivial (fun φ10 => by kernel_rfl) ?_
  intro φ10 w10 s
  refine ops_done (by kernel_rfl) ?_
  refine wp_seq ?_
  refine cond_true_rule (b := true) (by kernel_rfl) rfl ?_
  refine wp_skip ?_
  refine wp_seq ?_
  refine wp_block ?_
  refine wp_seq ?_
  refine region_rule ?_
  refine ops_rule (C := [(g, .cells #[.slice a1 l1.length c1, .slice a2 l2.length c2, .slice a3 l3.length c3, .slice a4 l4.length c4] 61)]) [] F7 3 [.c 0] 0 (fun φ11 => [(5, .slice a2 l2.length c2), (11, .slice a2 l2.length c2), (10, .pointer (some ⟨g, 1, none⟩))]) (fun φ11 => []) (fun φ11 => [g]) s ⟨hg, trivial⟩ (fun φ11 => by kernel_rfl) ?_
  intro φ11 w11 s
  refine ops_done (by kernel_rfl) ?_
  refine region_rule ?_
  refine ops_rule (C := []) [] F7 2 [] 0 (fun φ12 => [(13, .slice a2 l2.length c2), (12, v7)]) (fun φ12 => []) (fun φ12 => []) s trivial (fun φ12 => by kernel_rfl) ?_
  intro φ12 w12 s
  refine append_rule (H := []) (F := F7) 61 61 5 Tryd.t5 (.int .u8 0) 1 1 (some 14) s Tryd.underlying61 (by kernel_rfl) (by kernel_rfl) (by kernel_rfl) (by kernel_rfl) (by kernel_rfl) (by decide) h7 (src_bsl s.sub hl2) (by   (try simp only [maxLen, List.length_append, List.length_cons, List.length_nil, List.length_take, List.length_drop]); omega) (by   (try simp only [maxLen, List.length_append, List.length_cons, List.length_nil, List.length_take, List.length_drop]); omega) (by kernel_rfl) ?_
  intro v13 w13 F13 s h13
  replace h13 : RowH 5 1 v13 ((l1 ++ l2).length) ((l1 ++ l2).map bV) F13 := row_app (x := l1) (y := l2) h13
  refine ops_rule (C := []) [] F13 1 [] 0 (fun φ14 => [(3, v13)]) (fun φ14 => []) (fun φ14 => []) s trivial (fun φ14 => by kernel_rfl) ?_
  intro φ14 w14 s
  refine ops_done (by kernel_rfl) ?_
  refine region_rule ?_
  refine ops_rule (C := []) [] F13 2 [] 0 (fun φ15 => [(8, .int .i64 2), (15, .int .i64 2)]) (fun φ15 => []) (fun φ15 => []) s trivial (fun φ15 => by kernel_rfl) ?_
  intro φ15 w15 s
  refine ops_done (by kernel_rfl) ?_
  refine rounds_step (n := 2) ?_
  refine wp_seq ?_
  refine region_rule ?_
  refine ops_rule (C := []) [] F13 1 [] 0 (fun φ16 => [(9, .bool true)]) (fun φ16 => []) (fun φ16 => []) s trivial (fun φ16 => by kernel_rfl) ?_
  intro φ16 w16 s
  refine ops_done (by kernel_rfl) ?_
  refine wp_seq ?_
  refine cond_true_rule (b := true) (by kernel_rfl) rfl ?_
  refine wp_skip ?_
  refine wp_seq ?_
  refine wp_block ?_
  refine wp_seq ?_
  refine region_rule ?_
  refine ops_rule (C := [(g, .cells #[.slice a1 l1.length c1, .slice a2 l2.length c2, .slice a3 l3.length c3, .slice a4 l4.length c4] 61)]) [] F13 3 [.c 0] 0 (fun φ17 => [(5, .slice a3 l3.length c3), (11, .slice a3 l3.length c3), (10, .pointer (some ⟨g, 2, none⟩))]) (fun φ17 => []) (fun φ17 => [g]) s ⟨hg, trivial⟩ (fun φ17 => by kernel_rfl) ?_
  intro φ17 w17 s
  refine ops_done (by kernel_rfl) ?_
  refine region_rule ?_
  refine ops_rule (C := []) [] F13 2 [] 0 (fun φ18 => [(13, .slice a3 l3.length c3), (12, v13)]) (fun φ18 => []) (fun φ18 => []) s trivial (fun φ18 => by kernel_rfl) ?_
  intro φ18 w18 s
  refine append_rule (H := []) (F := F13) 61 61 5 Tryd.t5 (.int .u8 0) 1 1 (some 14) s Tryd.underlying61 (by kernel_rfl) (by kernel_rfl) (by kernel_rfl) (by kernel_rfl) (by kernel_rfl) (by decide) h13 (src_bsl s.sub hl3) (by   (try simp only [maxLen, List.length_append, List.length_cons, List.length_nil, List.length_take, List.length_drop]); omega) (by   (try simp only [maxLen, List.length_append, List.length_cons, List.length_nil, List.length_take, List.length_drop]); omega) (by kernel_rfl) ?_
  intro v19 w19 F19 s h19
  replace h19 : RowH 5 1 v19 ((l1 ++ l2 ++ l3).length) ((l1 ++ l2 ++ l3).map bV) F19 := row_app (x := (l1 ++ l2)) (y := l3) h19
  refine ops_rule (C := []) [] F19 1 [] 0 (fun φ20 => [(3, v19)]) (fun φ20 => []) (fun φ20 => []) s trivial (fun φ20 => by kernel_rfl) ?_
  intro φ20 w20 s
  refine ops_done (by kernel_rfl) ?_
  refine region_rule ?_
  refine ops_rule (C := []) [] F19 2 [] 0 (fun φ21 => [(8, .int .i64 3), (15, .int .i64 3)]) (fun φ21 => []) (fun φ21 => []) s trivial (fun φ21 => by kernel_rfl) ?_
  intro φ21 w21 s
  refine ops_done (by kernel_rfl) ?_
  refine rounds_step (n := 1) ?_
  refine wp_seq ?_
  refine region_rule ?_
  refine ops_rule (C := []) [] F19 1 [] 0 (fun φ22 => [(9, .bool true)]) (fun φ22 => []) (fun φ22 => []) s trivial (fun φ22 => by kernel_rfl) ?_
  intro φ22 w22 s
  refine ops_done (by kernel_rfl) ?_
  refine wp_seq ?_
  refine cond_true_rule (b := true) (by kernel_rfl) rfl ?_
  refine wp_skip ?_
  refine wp_seq ?_
  refine wp_block ?_
  refine wp_seq ?_
  refine region_rule ?_
  refine ops_rule (C := [(g, .cells #[.slice a1 l1.length c1, .slice a2 l2.length c2, .slice a3 l3.length c3, .slice a4 l4.length c4] 61)]) [] F19 3 [.c 0] 0 (fun φ23 => [(5, .slice a4 l4.length c4), (11, .slice a4 l4.length c4), (10, .pointer (some ⟨g, 3, none⟩))]) (fun φ23 => []) (fun φ23 => [g]) s ⟨hg, trivial⟩ (fun φ23 => by kernel_rfl) ?_
  intro φ23 w23 s
  refine ops_done (by kernel_rfl) ?_
  refine region_rule ?_
  refine ops_rule (C := []) [] F19 2 [] 0 (fun φ24 => [(13, .slice a4 l4.length c4), (12, v19)]) (fun φ24 => []) (fun φ24 => []) s trivial (fun φ24 => by kernel_rfl) ?_
  intro φ24 w24 s
  refine append_rule (H := []) (F := F19) 61 61 5 Tryd.t5 (.int .u8 0) 1 1 (some 14) s Tryd.underlying61 (by kernel_rfl) (by kernel_rfl) (by kernel_rfl) (by kernel_rfl) (by kernel_rfl) (by decide) h19 (src_bsl s.sub hl4) (by   (try simp only [maxLen, List.length_append, List.length_cons, List.length_nil, List.length_take, List.length_drop]); omega) (by   (try simp only [maxLen, List.length_append, List.length_cons, List.length_nil, List.length_take, List.length_drop]); omega) (by kernel_rfl) ?_
  intro v25 w25 F25 s h25
  replace h25 : RowH 5 1 v25 ((l1 ++ l2 ++ l3 ++ l4).length) ((l1 ++ l2 ++ l3 ++ l4).map bV) F25 := row_app (x := (l1 ++ l2 ++ l3)) (y := l4) h25
  refine ops_rule (C := []) [] F25 1 [] 0 (fun φ26 => [(3, v25)]) (fun φ26 => []) (fun φ26 => []) s trivial (fun φ26 => by kernel_rfl) ?_
  intro φ26 w26 s
  refine ops_done (by kernel_rfl) ?_
  refine region_rule ?_
  refine ops_rule (C := []) [] F25 2 [] 0 (fun φ27 => [(8, .int .i64 4), (15, .int .i64 4)]) (fun φ27 => []) (fun φ27 => []) s trivial (fun φ27 => by kernel_rfl) ?_
  intro φ27 w27 s
  refine ops_done (by kernel_rfl) ?_
  refine rounds_step (n := 0) ?_
  refine wp_seq ?_
  refine region_rule ?_
  refine ops_rule (C := []) [] F25 1 [] 0 (fun φ28 => [(9, .bool false)]) (fun φ28 => []) (fun φ28 => []) s trivial (fun φ28 => by kernel_rfl) ?_
  intro φ28 w28 s
  refine ops_done (by kernel_rfl) ?_
  refine wp_seq ?_
  refine cond_false_rule (b := false) (by kernel_rfl) rfl ?_
  refine wp_exit ?_
  refine wp_seq ?_
  refine region_rule ?_
  refine ops_rule (C := []) [] F25 2 [] 0 (fun φ29 => [(2, v25), (16, v25)]) (fun φ29 => []) (fun φ29 => []) s trivial (fun φ29 => by kernel_rfl) ?_
  intro φ29 w29 s
  refine ops_done (by kernel_rfl) ?_
  refine wp_ret ?_
  refine ret_rule (C := []) [] F25 (v25) [] [] s trivial (by kernel_rfl) ?_
  replace s := s.drop (List.sublist_append_right [] F25)
  exact ⟨_, _, _, rfl, s, h25⟩

theorem join4_c {I : IM} {g : Nat} {l1 : List UInt8} {a1 : Option Addr} {n1 c1 : Nat} {l2 : List UInt8} {a2 : Option Addr} {n2 c2 : Nat} {l3 : List UInt8} {a3 : Option Addr} {n3 c3 : Nat} {l4 : List UInt8} {a4 : Option Addr} {n4 c4 : Nat} (hg : I g = some (.cells #[.slice a1 n1 c1, .slice a2 n2 c2, .slice a3 n3 c3, .slice a4 n4 c4] 61)) (hl1 : BSl I l1 (.slice a1 n1 c1)) (hl2 : BSl I l2 (.slice a2 n2 c2)) (hl3 : BSl I l3 (.slice a3 n3 c3)) (hl4 : BSl I l4 (.slice a4 n4 c4)) (hn1 : l1.length ≤ 1000000000) (hn2 : l2.length ≤ 1000000000) (hn3 : l3.length ≤ 1000000000) (hn4 : l4.length ≤ 1000000000) : Fun Tryd.prog 84 #[.slice (some ⟨g, 0, none⟩) 4 4] I (fun v J => bsR (l1 ++ l2 ++ l3 ++ l4) v J) := fun_of_rowB (join4_r hg hl1 hl2 hl3 hl4 hn1 hn2 hn3 hn4)

set_option maxHeartbeats 4000000 in
theorem refCard_c {I : IM} {L : List Fe} {a0 : Option Addr} {c0 : Nat} (h0 : FSl I L (.slice a0 L.length c0)) (hl : L.length ≤ 255) (hok : okL L) : Fun Tryd.prog 85 #[.slice a0 L.length c0] I (fun v J => ∃ a c, v = .slice a (encL L).length c ∧ BSl J (encL L) (.slice a (encL L).length c)) := by
  refine enter_rule 31 [(0, .slice a0 L.length c0)] Tryd.func85 rfl (by kernel_rfl) ?_
  intro w s
  refine wp_seq ?_
  refine region_rule ?_
  refine ops_rule (C := []) [] [] 1 [] 0 (fun φ1 => [(2, .slice none 0 0)]) (fun φ1 => []) (fun φ1 => []) s trivial (fun φ1 => by kernel_rfl) ?_
  intro φ1 w1 s
  refine ops_done (by kernel_rfl) ?_
  refine wp_seq ?_
  refine region_rule ?_
  refine ops_rule (C := []) [] [] 3 [] 0 (fun φ2 => [(8, .int .u64 (IntKind.wrap .u64 ((L.length : Nat) : Int))), (7, .int .i64 ((L.length : Nat) : Int)), (6, .slice a0 L.length c0)]) (fun φ2 => []) (fun φ2 => []) s trivial (fun φ2 => by kernel_rfl) ?_
  intro φ2 w2 s
  rw [nat_wrapU (a := L.length) (by   (try simp only [List.length_drop, List.length_take, List.length_append, List.length_cons, List.length_nil]); omega)]
  refine call_rule (some 9) s (refnumX_c (n := L.length) (by omega)) (by kernel_rfl) ?_
  intro v3 I3 w3 le3 h3 s
  replace h0 := FSl.mono le3 h0
  obtain ⟨a3, c3, rfl, h3_0⟩ := h3
  refine ops_rule (C := []) [] [] 1 [] 0 (fun φ4 => [(3, .slice a3 (List.length (encF 9 L.length)) c3)]) (fun φ4 => []) (fun φ4 => []) s trivial (fun φ4 => by kernel_rfl) ?_
  intro φ4 w4 s
  refine ops_done (by kernel_rfl) ?_
  refine wp_seq ?_
  refine wp_seq ?_
  refine region_rule ?_
  refine ops_rule (C := []) [] [] 3 [] 0 (fun φ5 => [(12, .int .i64 0), (11, .int .i64 ((L.length : Nat) : Int)), (10, .slice a0 L.length c0)]) (fun φ5 => []) (fun φ5 => []) s trivial (fun φ5 => by kernel_rfl) ?_
  intro φ5 w5 s
  refine ops_done (by kernel_rfl) ?_
  refine wp_block ?_
  have hle6 := IM.Le.refl I3
  refine loop_rule (fun (x : Nat × Option Addr × Nat × Nat) => [(0, .slice a0 L.length c0), (2, .slice none 0 0), (10, .slice a0 L.length c0), (11, .int .i64 ((L.length : Nat) : Int)), (12, .int .i64 ((x.1 : Nat) : Int)), (3, .slice x.2.1 x.2.2.2 x.2.2.1)]) (fun (x : Nat × Option Addr × Nat × Nat) => []) (fun m (x : Nat × Option Addr × Nat × Nat) J => IM.Le I3 J ∧ x.1 + m = L.length ∧ BSl J (encF 9 L.length ++ (L.take x.1).flatMap encFe) (.slice x.2.1 x.2.2.2 x.2.2.1)) (L.length) (0, a3, c3, (List.length (encF 9 L.length))) s (by kernel_rfl) List.Sublist.slnil ⟨IM.Le.refl _, Nat.zero_add _, (px_zero h3_0)⟩ ?_
  rintro m7 ⟨i7, a7, c7, q7⟩ I7 w7 ev7 s ⟨le7, hi7_0, hi7_1⟩
  try dsimp only at s hi7_0 hi7_1 ⊢
  replace h0 := FSl.mono le7 h0
  replace h3_0 := BSl.mono le7 h3_0
  replace hle6 := leMono le7 hle6
  obtain ⟨rfl, -⟩ := (hi7_1).cap
  have hs9 := encs_len hok i7 (by have := hi7_0; omega)
  have hn9 := (encF_len 9 L.length).2
  have ha9 := (encF_len 9 (L.getD i7 Fe.z).a.length).2
  have hv9 := (encF_len 9 (L.getD i7 Fe.z).v.length).2
  have hx9 : i7 < L.length → okFe (L.getD i7 Fe.z) := hok i7
  refine wp_seq ?_
  refine region_rule ?_
  refine ops_rule (C := []) [] [] 1 [] 0 (fun φ8 => [(13, .bool (decide (((i7 : Nat) : Int) < ((L.length : Nat) : Int))))]) (fun φ8 => []) (fun φ8 => []) s trivial (fun φ8 => by kernel_rfl) ?_
  intro φ8 w8 s
  rw [nat_lss (a := i7) (b := L.length)]
  refine ops_done (by kernel_rfl) ?_
  refine wp_seq ?_
  rcases Bool.eq_false_or_eq_true (decide (i7 < L.length)) with hc9 | hc9
  ·
    rw [hc9]
    refine cond_true_rule (b := true) (by kernel_rfl) rfl ?_
    refine wp_skip ?_
    refine wp_seq ?_
    refine wp_block ?_
    refine wp_seq ?_
    refine region_rule ?_
    refine sem_rule (Instr.indexAt 30 (.slice a0 L.length c0) (.int .i64 ((i7 : Nat) : Int))) (some 14) (.pointer (pAt a0 (i7 * 3))) (by kernel_rfl) (fsl_idx30 h0 (by have e8 := hi7_0; have hq0 := of_decide_eq_true hc9; omega)) ?_
    refine sem_rule (Instr.loadAt 42 (.pointer (pAt a0 (i7 * 3)))) (some 15) (.agg #[.int .i64 ((List.getD L i7 Fe.z).k), .string ⟨((List.getD L i7 Fe.z).a).toArray⟩, .string ⟨((List.getD L i7 Fe.z).v).toArray⟩]) (by kernel_rfl) (fsl_ld42 s.sub h0 (by have e8 := hi7_0; have hq0 := of_decide_eq_true hc9; omega)) ?_
    refine ops_rule (C := []) [] [] 2 [.o 0, .o 0, .o 0] 1 (fun φ10 => [(5, .pointer (some ⟨(φ10 0), 0, none⟩))]) (fun φ10 => [((φ10 0), .cells #[.int .i64 ((List.getD L i7 Fe.z).k), .string ⟨((List.getD L i7 Fe.z).a).toArray⟩, .string ⟨((List.getD L i7 Fe.z).v).toArray⟩] 42)]) (fun φ10 => [(φ10 0), (φ10 0), (φ10 0)]) s trivial (fun φ10 => by kernel_rfl) ?_
    intro φ10 w10 s
    refine ops_done (by kernel_rfl) ?_
    obtain ⟨I11, le11, hk11, s⟩ := s.freezeAt 0 (φ10 0) (.cells #[.int .i64 ((List.getD L i7 Fe.z).k), .string ⟨((List.getD L i7 Fe.z).a).toArray⟩, .string ⟨((List.getD L i7 Fe.z).v).toArray⟩] 42) [] (by kernel_rfl) (by kernel_rfl)
    replace h0 := FSl.mono le11 h0
    replace h3_0 := BSl.mono le11 h3_0
    replace hle6 := leMono le11 hle6
    replace hi7_1 := BSl.mono le11 hi7_1
    have hH12 := IM.Le.refl I11
    refine held_begin (n := 14) (SubS I11) (by kernel_rfl) (by kernel_rfl) ?_
    replace s := St.drew s
    refine held_take (fuel := 13) [] [] 0 (.slice a7 (List.length (encF 9 L.length ++ (L.take i7).flatMap encFe)) c7) (some 16) [] (I := I11) trivial (by kernel_rfl) (by kernel_rfl) (by kernel_rfl) (by kernel_rfl) (by kernel_rfl) (fun _ d' _ _ _ h => by cases d' <;> exact h) (by kernel_rfl) (by kernel_rfl) s.sub ?_
    refine held_take (fuel := 12) [] [] 1 (.pointer (some ⟨(φ10 0), 0, none⟩)) (some 17) [] (I := I11) trivial (by kernel_rfl) (by kernel_rfl) (by kernel_rfl) (by kernel_rfl) (by kernel_rfl) (fun _ d' _ _ _ h => by cases d' <;> exact h) (by kernel_rfl) (by kernel_rfl) s.sub ?_
    refine held_take (fuel := 11) [((φ10 0), .cells #[.int .i64 ((List.getD L i7 Fe.z).k), .string ⟨((List.getD L i7 Fe.z).a).toArray⟩, .string ⟨((List.getD L i7 Fe.z).v).toArray⟩] 42)] [.c 0] 2 (.int .i64 ((List.getD L i7 Fe.z).k)) (some 18) [(φ10 0)] (I := I11) ⟨hk11, trivial⟩ (by kernel_rfl) (by kernel_rfl) (by kernel_rfl) (by kernel_rfl) (by kernel_rfl) (fun _ d' _ _ _ h => by cases d' <;> exact h) (by kernel_rfl) (by kernel_rfl) s.sub ?_
    refine held_take (fuel := 10) [] [] 5 (.pointer (some ⟨(φ10 0), 1, none⟩)) (some 21) [] (I := I11) trivial (by kernel_rfl) (by kernel_rfl) (by kernel_rfl) (by kernel_rfl) (by kernel_rfl) (fun _ d' _ _ _ h => by cases d' <;> exact h) (by kernel_rfl) (by kernel_rfl) s.sub ?_
    refine held_take (fuel := 9) [((φ10 0), .cells #[.int .i64 ((List.getD L i7 Fe.z).k), .string ⟨((List.getD L i7 Fe.z).a).toArray⟩, .string ⟨((List.getD L i7 Fe.z).v).toArray⟩] 42)] [.c 0] 6 (.string ⟨((List.getD L i7 Fe.z).a).toArray⟩) (some 22) [(φ10 0)] (I := I11) ⟨hk11, trivial⟩ (by kernel_rfl) (by kernel_rfl) (by kernel_rfl) (by kernel_rfl) (by kernel_rfl) (fun _ d' _ _ _ h => by cases d' <;> exact h) (by kernel_rfl) (by kernel_rfl) s.sub ?_
    refine held_take (fuel := 8) [] [] 8 (.pointer (some ⟨(φ10 0), 2, none⟩)) (some 24) [] (I := I11) trivial (by kernel_rfl) (by kernel_rfl) (by kernel_rfl) (by kernel_rfl) (by kernel_rfl) (fun _ d' _ _ _ h => by cases d' <;> exact h) (by kernel_rfl) (by kernel_rfl) s.sub ?_
    refine held_take (fuel := 7) [((φ10 0), .cells #[.int .i64 ((List.getD L i7 Fe.z).k), .string ⟨((List.getD L i7 Fe.z).a).toArray⟩, .string ⟨((List.getD L i7 Fe.z).v).toArray⟩] 42)] [.c 0] 9 (.string ⟨((List.getD L i7 Fe.z).v).toArray⟩) (some 25) [(φ10 0)] (I := I11) ⟨hk11, trivial⟩ (by kernel_rfl) (by kernel_rfl) (by kernel_rfl) (by kernel_rfl) (by kernel_rfl) (fun _ d' _ _ _ h => by cases d' <;> exact h) (by kernel_rfl) (by kernel_rfl) s.sub ?_
    refine held_ran (fuel := 6) (convert 3 5 (.int .i64 ((List.getD L i7 Fe.z).k))) 3 (.int .u8 ((((List.getD L i7 Fe.z).k).toNat : Nat) : Int)) (some 19) (I := I11) (by kernel_rfl) (by kernel_rfl) (by kernel_rfl) (by kernel_rfl) (by kernel_rfl) (fun _ d' _ _ _ h => by cases d' <;> exact h) (by kernel_rfl) (by kernel_rfl) (fun w' => run_conv35 (hok i7 (by have hq0 := of_decide_eq_true hc9; omega)).1 (hok i7 (by have hq0 := of_decide_eq_true hc9; omega)).2.1) s.sub ?_
    refine held_two (fuel := 5) 4 7 (by kernel_rfl) (by kernel_rfl) (by kernel_rfl) ?_ ?_
    ·
      refine ops_rule (C := []) [] [] 1 [] 1 (fun φ13 => [(20, .slice (some ⟨(φ13 0), 0, none⟩) 1 1)]) (fun φ13 => [((φ13 0), .cells #[.int .u8 ((((List.getD L i7 Fe.z).k).toNat : Nat) : Int)] 5)]) (fun φ13 => []) s trivial (fun φ13 => by kernel_rfl) ?_
      intro φ13 w13 s
      refine ops_done (by kernel_rfl) ?_
      refine held_next s hH12 ?_
      refine held_one (fuel := 4) 7 (by kernel_rfl) (by kernel_rfl) ?_
      refine call_rule (some 23) s (reftextX_c (ss := (List.getD L i7 Fe.z).a) (by have hq0 := of_decide_eq_true hc9; have h9 := hok i7 (by omega); obtain ⟨-, -, h3, h4⟩ := h9; omega)) (by kernel_rfl) ?_
      intro v14 I14 w14 le14 h14 s
      replace h0 := FSl.mono le14 h0
      replace h3_0 := BSl.mono le14 h3_0
      replace hle6 := leMono le14 hle6
      replace hi7_1 := BSl.mono le14 hi7_1
      replace hH12 := leMono le14 hH12
      replace hk11 := le14 _ _ hk11
      obtain ⟨a14, c14, rfl, h14_0⟩ := h14
      refine ops_done (by kernel_rfl) ?_
      refine held_next s hH12 ?_
      refine held_one (fuel := 3) 10 (by kernel_rfl) (by kernel_rfl) ?_
      refine call_rule (some 26) s (reftextX_c (ss := (List.getD L i7 Fe.z).v) (by have hq0 := of_decide_eq_true hc9; have h9 := hok i7 (by omega); obtain ⟨-, -, h3, h4⟩ := h9; omega)) (by kernel_rfl) ?_
      intro v15 I15 w15 le15 h15 s
      replace h0 := FSl.mono le15 h0
      replace h3_0 := BSl.mono le15 h3_0
      replace hle6 := leMono le15 hle6
      replace hi7_1 := BSl.mono le15 hi7_1
      replace hH12 := leMono le15 hH12
      replace h14_0 := BSl.mono le15 h14_0
      replace hk11 := le15 _ _ hk11
      obtain ⟨a15, c15, rfl, h15_0⟩ := h15
      refine ops_done (by kernel_rfl) ?_
      refine held_next s hH12 ?_
      refine held_one (fuel := 2) 11 (by kernel_rfl) (by kernel_rfl) ?_
      refine ops_rule (C := []) [((φ13 0), .cells #[.int .u8 ((((List.getD L i7 Fe.z).k).toNat : Nat) : Int)] 5)] [] 1 [] 1 (fun φ16 => [(27, .slice (some ⟨(φ16 0), 0, none⟩) 4 4)]) (fun φ16 => [((φ13 0), .cells #[.int .u8 ((((List.getD L i7 Fe.z).k).toNat : Nat) : Int)] 5), ((φ16 0), .cells #[.slice a7 (List.length (encF 9 L.length ++ (L.take i7).flatMap encFe)) c7, .slice (some ⟨(φ13 0), 0, none⟩) 1 1, .slice a14 (List.length (encF 9 (List.length ((List.getD L i7 Fe.z).a)) ++ (List.getD L i7 Fe.z).a)) c14, .slice a15 (List.length (encF 9 (List.length ((List.getD L i7 Fe.z).v)) ++ (List.getD L i7 Fe.z).v)) c15] 61)]) (fun φ16 => []) s trivial (fun φ16 => by kernel_rfl) ?_
      intro φ16 w16 s
      refine ops_done (by kernel_rfl) ?_
      refine held_next s hH12 ?_
      refine held_one (fuel := 1) 12 (by kernel_rfl) (by kernel_rfl) ?_
      obtain ⟨I17, le17, hk17, s⟩ := s.freezeAt 1 (φ16 0) (.cells #[.slice a7 (List.length (encF 9 L.length ++ (L.take i7).flatMap encFe)) c7, .slice (some ⟨(φ13 0), 0, none⟩) 1 1, .slice a14 (List.length (encF 9 (List.length ((List.getD L i7 Fe.z).a)) ++ (List.getD L i7 Fe.z).a)) c14, .slice a15 (List.length (encF 9 (List.length ((List.getD L i7 Fe.z).v)) ++ (List.getD L i7 Fe.z).v)) c15] 61) [((φ13 0), .cells #[.int .u8 ((((List.getD L i7 Fe.z).k).toNat : Nat) : Int)] 5)] (by kernel_rfl) (by kernel_rfl)
      replace h0 := FSl.mono le17 h0
      replace h3_0 := BSl.mono le17 h3_0
      replace hle6 := leMono le17 hle6
      replace hi7_1 := BSl.mono le17 hi7_1
      replace hH12 := leMono le17 hH12
      replace h14_0 := BSl.mono le17 h14_0
      replace h15_0 := BSl.mono le17 h15_0
      replace hk11 := le17 _ _ hk11
      obtain ⟨I18, le18, hk18, s⟩ := s.freezeAt 0 (φ13 0) (.cells #[.int .u8 ((((List.getD L i7 Fe.z).k).toNat : Nat) : Int)] 5) [] (by kernel_rfl) (by kernel_rfl)
      replace h0 := FSl.mono le18 h0
      replace h3_0 := BSl.mono le18 h3_0
      replace hle6 := leMono le18 hle6
      replace hi7_1 := BSl.mono le18 hi7_1
      replace hH12 := leMono le18 hH12
      replace h14_0 := BSl.mono le18 h14_0
      replace h15_0 := BSl.mono le18 h15_0
      replace hk11 := le18 _ _ hk11
      replace hk17 := le18 _ _ hk17
      refine call_rule (some 28) s (join4_c hk17 hi7_1 (bsl_oneX hk18 (by have hq0 := of_decide_eq_true hc9; have h9 := hx9 (by omega); obtain ⟨h1, h2, h3, h4⟩ := h9; omega)) h14_0 h15_0 (by have hq0 := of_decide_eq_true hc9; have h9 := hx9 (by omega); obtain ⟨h1, h2, h3, h4⟩ := h9; (try simp only [List.length_append, List.length_cons, List.length_nil] at *); omega) (by have hq0 := of_decide_eq_true hc9; have h9 := hx9 (by omega); obtain ⟨h1, h2, h3, h4⟩ := h9; (try simp only [List.length_append, List.length_cons, List.length_nil] at *); omega) (by have hq0 := of_decide_eq_true hc9; have h9 := hx9 (by omega); obtain ⟨h1, h2, h3, h4⟩ := h9; (try simp only [List.length_append, List.length_cons, List.length_nil] at *); omega) (by have hq0 := of_decide_eq_true hc9; have h9 := hx9 (by omega); obtain ⟨h1, h2, h3, h4⟩ := h9; (try simp only [List.length_append, List.length_cons, List.length_nil] at *); omega)) (by kernel_rfl) ?_
      intro v19 I19 w19 le19 h19 s
      replace h0 := FSl.mono le19 h0
      replace h3_0 := BSl.mono le19 h3_0
      replace hle6 := leMono le19 hle6
      replace hi7_1 := BSl.mono le19 hi7_1
      replace hH12 := leMono le19 hH12
      replace h14_0 := BSl.mono le19 h14_0
      replace h15_0 := BSl.mono le19 h15_0
      replace hk11 := le19 _ _ hk11
      replace hk17 := le19 _ _ hk17
      replace hk18 := le19 _ _ hk18
      obtain ⟨a19, c19, rfl, h19_0⟩ := h19
      refine ops_done (by kernel_rfl) ?_
      refine held_next s hH12 ?_
      refine held_take (fuel := 0) [] [] 13 (.slice a19 (List.length ((encF 9 L.length ++ (L.take i7).flatMap encFe) ++ ([UInt8.ofNat (((List.getD L i7 Fe.z).k).toNat)] : List UInt8) ++ (encF 9 (List.length ((List.getD L i7 Fe.z).a)) ++ (List.getD L i7 Fe.z).a) ++ (encF 9 (List.length ((List.getD L i7 Fe.z).v)) ++ (List.getD L i7 Fe.z).v))) c19) (some 3) [] (I := I11) trivial (by kernel_rfl) (by kernel_rfl) (by kernel_rfl) (by kernel_rfl) (by kernel_rfl) (fun _ d' _ _ _ h => by cases d' <;> exact h) (by kernel_rfl) (by kernel_rfl) (fun k o hk => s.sub k o (hH12 k o hk)) ?_
      refine Go.wpAnyH_done (by kernel_rfl) ?_ _
      refine region_rule ?_
      refine ops_rule (C := []) [] [] 2 [] 0 (fun φ20 => [(12, .int .i64 (IntKind.wrap .i64 (((i7 : Nat) : Int) + ((1 : Nat) : Int)))), (29, .int .i64 (IntKind.wrap .i64 (((i7 : Nat) : Int) + ((1 : Nat) : Int))))]) (fun φ20 => []) (fun φ20 => []) s trivial (fun φ20 => by kernel_rfl) ?_
      intro φ20 w20 s
      rw [nat_addI (a := i7) (b := 1) (by have e8 := hi7_0; have hq0 := of_decide_eq_true hc9; omega)]
      refine ops_done (by kernel_rfl) ?_
      have hz21 := bsl_eq h19_0 (card_nextX (by have hq0 := of_decide_eq_true hc9; have := hi7_0; omega))
      exact ⟨⟨m7 - 1, (i7 + 1, a19, c19, (List.length ((encF 9 L.length ++ (L.take i7).flatMap encFe) ++ ([UInt8.ofNat (((List.getD L i7 Fe.z).k).toNat)] : List UInt8) ++ (encF 9 (List.length ((List.getD L i7 Fe.z).a)) ++ (List.getD L i7 Fe.z).a) ++ (encF 9 (List.length ((List.getD L i7 Fe.z).v)) ++ (List.getD L i7 Fe.z).v)))), _, _, _, by have hq0 := of_decide_eq_true hc9; have := hi7_0; omega, rfl, s, List.Sublist.slnil, by kernel_rfl, hle6, by have hq0 := of_decide_eq_true hc9; have := hi7_0; show i7 + 1 + (m7 - 1) = L.length; omega, hz21⟩⟩
    ·
      refine call_rule (some 23) s (reftextX_c (ss := (List.getD L i7 Fe.z).a) (by have hq0 := of_decide_eq_true hc9; have h9 := hok i7 (by omega); obtain ⟨-, -, h3, h4⟩ := h9; omega)) (by kernel_rfl) ?_
      intro v22 I22 w22 le22 h22 s
      replace h0 := FSl.mono le22 h0
      replace h3_0 := BSl.mono le22 h3_0
      replace hle6 := leMono le22 hle6
      replace hi7_1 := BSl.mono le22 hi7_1
      replace hH12 := leMono le22 hH12
      replace hk11 := le22 _ _ hk11
      obtain ⟨a22, c22, rfl, h22_0⟩ := h22
      refine ops_done (by kernel_rfl) ?_
      refine held_next s hH12 ?_
      refine held_two (fuel := 4) 4 10 (by kernel_rfl) (by kernel_rfl) (by kernel_rfl) ?_ ?_
      ·
        refine ops_rule (C := []) [] [] 1 [] 1 (fun φ23 => [(20, .slice (some ⟨(φ23 0), 0, none⟩) 1 1)]) (fun φ23 => [((φ23 0), .cells #[.int .u8 ((((List.getD L i7 Fe.z).k).toNat : Nat) : Int)] 5)]) (fun φ23 => []) s trivial (fun φ23 => by kernel_rfl) ?_
        intro φ23 w23 s
        refine ops_done (by kernel_rfl) ?_
        refine held_next s hH12 ?_
        refine held_one (fuel := 3) 10 (by kernel_rfl) (by kernel_rfl) ?_
        refine call_rule (some 26) s (reftextX_c (ss := (List.getD L i7 Fe.z).v) (by have hq0 := of_decide_eq_true hc9; have h9 := hok i7 (by omega); obtain ⟨-, -, h3, h4⟩ := h9; omega)) (by kernel_rfl) ?_
        intro v24 I24 w24 le24 h24 s
        replace h0 := FSl.mono le24 h0
        replace h3_0 := BSl.mono le24 h3_0
        replace hle6 := leMono le24 hle6
        replace hi7_1 := BSl.mono le24 hi7_1
        replace hH12 := leMono le24 hH12
        replace h22_0 := BSl.mono le24 h22_0
        replace hk11 := le24 _ _ hk11
        obtain ⟨a24, c24, rfl, h24_0⟩ := h24
        refine ops_done (by kernel_rfl) ?_
        refine held_next s hH12 ?_
        refine held_one (fuel := 2) 11 (by kernel_rfl) (by kernel_rfl) ?_
        refine ops_rule (C := []) [((φ23 0), .cells #[.int .u8 ((((List.getD L i7 Fe.z).k).toNat : Nat) : Int)] 5)] [] 1 [] 1 (fun φ25 => [(27, .slice (some ⟨(φ25 0), 0, none⟩) 4 4)]) (fun φ25 => [((φ23 0), .cells #[.int .u8 ((((List.getD L i7 Fe.z).k).toNat : Nat) : Int)] 5), ((φ25 0), .cells #[.slice a7 (List.length (encF 9 L.length ++ (L.take i7).flatMap encFe)) c7, .slice (some ⟨(φ23 0), 0, none⟩) 1 1, .slice a22 (List.length (encF 9 (List.length ((List.getD L i7 Fe.z).a)) ++ (List.getD L i7 Fe.z).a)) c22, .slice a24 (List.length (encF 9 (List.length ((List.getD L i7 Fe.z).v)) ++ (List.getD L i7 Fe.z).v)) c24] 61)]) (fun φ25 => []) s trivial (fun φ25 => by kernel_rfl) ?_
        intro φ25 w25 s
        refine ops_done (by kernel_rfl) ?_
        refine held_next s hH12 ?_
        refine held_one (fuel := 1) 12 (by kernel_rfl) (by kernel_rfl) ?_
        obtain ⟨I26, le26, hk26, s⟩ := s.freezeAt 1 (φ25 0) (.cells #[.slice a7 (List.length (encF 9 L.length ++ (L.take i7).flatMap encFe)) c7, .slice (some ⟨(φ23 0), 0, none⟩) 1 1, .slice a22 (List.length (encF 9 (List.length ((List.getD L i7 Fe.z).a)) ++ (List.getD L i7 Fe.z).a)) c22, .slice a24 (List.length (encF 9 (List.length ((List.getD L i7 Fe.z).v)) ++ (List.getD L i7 Fe.z).v)) c24] 61) [((φ23 0), .cells #[.int .u8 ((((List.getD L i7 Fe.z).k).toNat : Nat) : Int)] 5)] (by kernel_rfl) (by kernel_rfl)
        replace h0 := FSl.mono le26 h0
        replace h3_0 := BSl.mono le26 h3_0
        replace hle6 := leMono le26 hle6
        replace hi7_1 := BSl.mono le26 hi7_1
        replace hH12 := leMono le26 hH12
        replace h22_0 := BSl.mono le26 h22_0
        replace h24_0 := BSl.mono le26 h24_0
        replace hk11 := le26 _ _ hk11
        obtain ⟨I27, le27, hk27, s⟩ := s.freezeAt 0 (φ23 0) (.cells #[.int .u8 ((((List.getD L i7 Fe.z).k).toNat : Nat) : Int)] 5) [] (by kernel_rfl) (by kernel_rfl)
        replace h0 := FSl.mono le27 h0
        replace h3_0 := BSl.mono le27 h3_0
        replace hle6 := leMono le27 hle6
        replace hi7_1 := BSl.mono le27 hi7_1
        replace hH12 := leMono le27 hH12
        replace h22_0 := BSl.mono le27 h22_0
        replace h24_0 := BSl.mono le27 h24_0
        replace hk11 := le27 _ _ hk11
        replace hk26 := le27 _ _ hk26
        refine call_rule (some 28) s (join4_c hk26 hi7_1 (bsl_oneX hk27 (by have hq0 := of_decide_eq_true hc9; have h9 := hx9 (by omega); obtain ⟨h1, h2, h3, h4⟩ := h9; omega)) h22_0 h24_0 (by have hq0 := of_decide_eq_true hc9; have h9 := hx9 (by omega); obtain ⟨h1, h2, h3, h4⟩ := h9; (try simp only [List.length_append, List.length_cons, List.length_nil] at *); omega) (by have hq0 := of_decide_eq_true hc9; have h9 := hx9 (by omega); obtain ⟨h1, h2, h3, h4⟩ := h9; (try simp only [List.length_append, List.length_cons, List.length_nil] at *); omega) (by have hq0 := of_decide_eq_true hc9; have h9 := hx9 (by omega); obtain ⟨h1, h2, h3, h4⟩ := h9; (try simp only [List.length_append, List.length_cons, List.length_nil] at *); omega) (by have hq0 := of_decide_eq_true hc9; have h9 := hx9 (by omega); obtain ⟨h1, h2, h3, h4⟩ := h9; (try simp only [List.length_append, List.length_cons, List.length_nil] at *); omega)) (by kernel_rfl) ?_
        intro v28 I28 w28 le28 h28 s
        replace h0 := FSl.mono le28 h0
        replace h3_0 := BSl.mono le28 h3_0
        replace hle6 := leMono le28 hle6
        replace hi7_1 := BSl.mono le28 hi7_1
        replace hH12 := leMono le28 hH12
        replace h22_0 := BSl.mono le28 h22_0
        replace h24_0 := BSl.mono le28 h24_0
        replace hk11 := le28 _ _ hk11
        replace hk26 := le28 _ _ hk26
        replace hk27 := le28 _ _ hk27
        obtain ⟨a28, c28, rfl, h28_0⟩ := h28
        refine ops_done (by kernel_rfl) ?_
        refine held_next s hH12 ?_
        refine held_take (fuel := 0) [] [] 13 (.slice a28 (List.length ((encF 9 L.length ++ (L.take i7).flatMap encFe) ++ ([UInt8.ofNat (((List.getD L i7 Fe.z).k).toNat)] : List UInt8) ++ (encF 9 (List.length ((List.getD L i7 Fe.z).a)) ++ (List.getD L i7 Fe.z).a) ++ (encF 9 (List.length ((List.getD L i7 Fe.z).v)) ++ (List.getD L i7 Fe.z).v))) c28) (some 3) [] (I := I11) trivial (by kernel_rfl) (by kernel_rfl) (by kernel_rfl) (by kernel_rfl) (by kernel_rfl) (fun _ d' _ _ _ h => by cases d' <;> exact h) (by kernel_rfl) (by kernel_rfl) (fun k o hk => s.sub k o (hH12 k o hk)) ?_
        refine Go.wpAnyH_done (by kernel_rfl) ?_ _
        refine region_rule ?_
        refine ops_rule (C := []) [] [] 2 [] 0 (fun φ29 => [(12, .int .i64 (IntKind.wrap .i64 (((i7 : Nat) : Int) + ((1 : Nat) : Int)))), (29, .int .i64 (IntKind.wrap .i64 (((i7 : Nat) : Int) + ((1 : Nat) : Int))))]) (fun φ29 => []) (fun φ29 => []) s trivial (fun φ29 => by kernel_rfl) ?_
        intro φ29 w29 s
        rw [nat_addI (a := i7) (b := 1) (by have e8 := hi7_0; have hq0 := of_decide_eq_true hc9; omega)]
        refine ops_done (by kernel_rfl) ?_
        have hz30 := bsl_eq h28_0 (card_nextX (by have hq0 := of_decide_eq_true hc9; have := hi7_0; omega))
        exact ⟨⟨m7 - 1, (i7 + 1, a28, c28, (List.length ((encF 9 L.length ++ (L.take i7).flatMap encFe) ++ ([UInt8.ofNat (((List.getD L i7 Fe.z).k).toNat)] : List UInt8) ++ (encF 9 (List.length ((List.getD L i7 Fe.z).a)) ++ (List.getD L i7 Fe.z).a) ++ (encF 9 (List.length ((List.getD L i7 Fe.z).v)) ++ (List.getD L i7 Fe.z).v)))), _, _, _, by have hq0 := of_decide_eq_true hc9; have := hi7_0; omega, rfl, s, List.Sublist.slnil, by kernel_rfl, hle6, by have hq0 := of_decide_eq_true hc9; have := hi7_0; show i7 + 1 + (m7 - 1) = L.length; omega, hz30⟩⟩
      ·
        refine call_rule (some 26) s (reftextX_c (ss := (List.getD L i7 Fe.z).v) (by have hq0 := of_decide_eq_true hc9; have h9 := hok i7 (by omega); obtain ⟨-, -, h3, h4⟩ := h9; omega)) (by kernel_rfl) ?_
        intro v31 I31 w31 le31 h31 s
        replace h0 := FSl.mono le31 h0
        replace h3_0 := BSl.mono le31 h3_0
        replace hle6 := leMono le31 hle6
        replace hi7_1 := BSl.mono le31 hi7_1
        replace hH12 := leMono le31 hH12
        replace h22_0 := BSl.mono le31 h22_0
        replace hk11 := le31 _ _ hk11
        obtain ⟨a31, c31, rfl, h31_0⟩ := h31
        refine ops_done (by kernel_rfl) ?_
        refine held_next s hH12 ?_
        refine held_one (fuel := 3) 4 (by kernel_rfl) (by kernel_rfl) ?_
        refine ops_rule (C := []) [] [] 1 [] 1 (fun φ32 => [(20, .slice (some ⟨(φ32 0), 0, none⟩) 1 1)]) (fun φ32 => [((φ32 0), .cells #[.int .u8 ((((List.getD L i7 Fe.z).k).toNat : Nat) : Int)] 5)]) (fun φ32 => []) s trivial (fun φ32 => by kernel_rfl) ?_
        intro φ32 w32 s
        refine ops_done (by kernel_rfl) ?_
        refine held_next s hH12 ?_
        refine held_one (fuel := 2) 11 (by kernel_rfl) (by kernel_rfl) ?_
        refine ops_rule (C := []) [((φ32 0), .cells #[.int .u8 ((((List.getD L i7 Fe.z).k).toNat : Nat) : Int)] 5)] [] 1 [] 1 (fun φ33 => [(27, .slice (some ⟨(φ33 0), 0, none⟩) 4 4)]) (fun φ33 => [((φ32 0), .cells #[.int .u8 ((((List.getD L i7 Fe.z).k).toNat : Nat) : Int)] 5), ((φ33 0), .cells #[.slice a7 (List.length (encF 9 L.length ++ (L.take i7).flatMap encFe)) c7, .slice (some ⟨(φ32 0), 0, none⟩) 1 1, .slice a22 (List.length (encF 9 (List.length ((List.getD L i7 Fe.z).a)) ++ (List.getD L i7 Fe.z).a)) c22, .slice a31 (List.length (encF 9 (List.length ((List.getD L i7 Fe.z).v)) ++ (List.getD L i7 Fe.z).v)) c31] 61)]) (fun φ33 => []) s trivial (fun φ33 => by kernel_rfl) ?_
        intro φ33 w33 s
        refine ops_done (by kernel_rfl) ?_
        refine held_next s hH12 ?_
        refine held_one (fuel := 1) 12 (by kernel_rfl) (by kernel_rfl) ?_
        obtain ⟨I34, le34, hk34, s⟩ := s.freezeAt 1 (φ33 0) (.cells #[.slice a7 (List.length (encF 9 L.length ++ (L.take i7).flatMap encFe)) c7, .slice (some ⟨(φ32 0), 0, none⟩) 1 1, .slice a22 (List.length (encF 9 (List.length ((List.getD L i7 Fe.z).a)) ++ (List.getD L i7 Fe.z).a)) c22, .slice a31 (List.length (encF 9 (List.length ((List.getD L i7 Fe.z).v)) ++ (List.getD L i7 Fe.z).v)) c31] 61) [((φ32 0), .cells #[.int .u8 ((((List.getD L i7 Fe.z).k).toNat : Nat) : Int)] 5)] (by kernel_rfl) (by kernel_rfl)
        replace h0 := FSl.mono le34 h0
        replace h3_0 := BSl.mono le34 h3_0
        replace hle6 := leMono le34 hle6
        replace hi7_1 := BSl.mono le34 hi7_1
        replace hH12 := leMono le34 hH12
        replace h22_0 := BSl.mono le34 h22_0
        replace h31_0 := BSl.mono le34 h31_0
        replace hk11 := le34 _ _ hk11
        obtain ⟨I35, le35, hk35, s⟩ := s.freezeAt 0 (φ32 0) (.cells #[.int .u8 ((((List.getD L i7 Fe.z).k).toNat : Nat) : Int)] 5) [] (by kernel_rfl) (by kernel_rfl)
        replace h0 := FSl.mono le35 h0
        replace h3_0 := BSl.mono le35 h3_0
        replace hle6 := leMono le35 hle6
        replace hi7_1 := BSl.mono le35 hi7_1
        replace hH12 := leMono le35 hH12
        replace h22_0 := BSl.mono le35 h22_0
        replace h31_0 := BSl.mono le35 h31_0
        replace hk11 := le35 _ _ hk11
        replace hk34 := le35 _ _ hk34
        refine call_rule (some 28) s (join4_c hk34 hi7_1 (bsl_oneX hk35 (by have hq0 := of_decide_eq_true hc9; have h9 := hx9 (by omega); obtain ⟨h1, h2, h3, h4⟩ := h9; omega)) h22_0 h31_0 (by have hq0 := of_decide_eq_true hc9; have h9 := hx9 (by omega); obtain ⟨h1, h2, h3, h4⟩ := h9; (try simp only [List.length_append, List.length_cons, List.length_nil] at *); omega) (by have hq0 := of_decide_eq_true hc9; have h9 := hx9 (by omega); obtain ⟨h1, h2, h3, h4⟩ := h9; (try simp only [List.length_append, List.length_cons, List.length_nil] at *); omega) (by have hq0 := of_decide_eq_true hc9; have h9 := hx9 (by omega); obtain ⟨h1, h2, h3, h4⟩ := h9; (try simp only [List.length_append, List.length_cons, List.length_nil] at *); omega) (by have hq0 := of_decide_eq_true hc9; have h9 := hx9 (by omega); obtain ⟨h1, h2, h3, h4⟩ := h9; (try simp only [List.length_append, List.length_cons, List.length_nil] at *); omega)) (by kernel_rfl) ?_
        intro v36 I36 w36 le36 h36 s
        replace h0 := FSl.mono le36 h0
        replace h3_0 := BSl.mono le36 h3_0
        replace hle6 := leMono le36 hle6
        replace hi7_1 := BSl.mono le36 hi7_1
        replace hH12 := leMono le36 hH12
        replace h22_0 := BSl.mono le36 h22_0
        replace h31_0 := BSl.mono le36 h31_0
        replace hk11 := le36 _ _ hk11
        replace hk34 := le36 _ _ hk34
        replace hk35 := le36 _ _ hk35
        obtain ⟨a36, c36, rfl, h36_0⟩ := h36
        refine ops_done (by kernel_rfl) ?_
        refine held_next s hH12 ?_
        refine held_take (fuel := 0) [] [] 13 (.slice a36 (List.length ((encF 9 L.length ++ (L.take i7).flatMap encFe) ++ ([UInt8.ofNat (((List.getD L i7 Fe.z).k).toNat)] : List UInt8) ++ (encF 9 (List.length ((List.getD L i7 Fe.z).a)) ++ (List.getD L i7 Fe.z).a) ++ (encF 9 (List.length ((List.getD L i7 Fe.z).v)) ++ (List.getD L i7 Fe.z).v))) c36) (some 3) [] (I := I11) trivial (by kernel_rfl) (by kernel_rfl) (by kernel_rfl) (by kernel_rfl) (by kernel_rfl) (fun _ d' _ _ _ h => by cases d' <;> exact h) (by kernel_rfl) (by kernel_rfl) (fun k o hk => s.sub k o (hH12 k o hk)) ?_
        refine Go.wpAnyH_done (by kernel_rfl) ?_ _
        refine region_rule ?_
        refine ops_rule (C := []) [] [] 2 [] 0 (fun φ37 => [(12, .int .i64 (IntKind.wrap .i64 (((i7 : Nat) : Int) + ((1 : Nat) : Int)))), (29, .int .i64 (IntKind.wrap .i64 (((i7 : Nat) : Int) + ((1 : Nat) : Int))))]) (fun φ37 => []) (fun φ37 => []) s trivial (fun φ37 => by kernel_rfl) ?_
        intro φ37 w37 s
        rw [nat_addI (a := i7) (b := 1) (by have e8 := hi7_0; have hq0 := of_decide_eq_true hc9; omega)]
        refine ops_done (by kernel_rfl) ?_
        have hz38 := bsl_eq h36_0 (card_nextX (by have hq0 := of_decide_eq_true hc9; have := hi7_0; omega))
        exact ⟨⟨m7 - 1, (i7 + 1, a36, c36, (List.length ((encF 9 L.length ++ (L.take i7).flatMap encFe) ++ ([UInt8.ofNat (((List.getD L i7 Fe.z).k).toNat)] : List UInt8) ++ (encF 9 (List.length ((List.getD L i7 Fe.z).a)) ++ (List.getD L i7 Fe.z).a) ++ (encF 9 (List.length ((List.getD L i7 Fe.z).v)) ++ (List.getD L i7 Fe.z).v)))), _, _, _, by have hq0 := of_decide_eq_true hc9; have := hi7_0; omega, rfl, s, List.Sublist.slnil, by kernel_rfl, hle6, by have hq0 := of_decide_eq_true hc9; have := hi7_0; show i7 + 1 + (m7 - 1) = L.length; omega, hz38⟩⟩
  ·
    rw [hc9]
    refine cond_false_rule (b := false) (by kernel_rfl) rfl ?_
    refine wp_exit ?_
    refine wp_seq ?_
    refine region_rule ?_
    refine ops_rule (C := []) [] [] 2 [] 0 (fun φ39 => [(2, .slice a7 (List.length (encF 9 L.length ++ (L.take i7).flatMap encFe)) c7), (30, .slice a7 (List.length (encF 9 L.length ++ (L.take i7).flatMap encFe)) c7)]) (fun φ39 => []) (fun φ39 => []) s trivial (fun φ39 => by kernel_rfl) ?_
    intro φ39 w39 s
    refine ops_done (by kernel_rfl) ?_
    refine wp_ret ?_
    refine ret_rule (C := []) [] [] (.slice a7 (List.length (encF 9 L.length ++ (L.take i7).flatMap encFe)) c7) [] [] s trivial (by kernel_rfl) ?_
    have ei40 : i7 = L.length := by have hq0 := of_decide_eq_false hc9; have := hi7_0; omega
    have hz40 := hi7_1
    rw [card_endX ei40] at hz40
    rw [card_endX ei40]
    exact ⟨_, _, _, rfl, s, ⟨_, _, rfl, hz40⟩⟩

end Go.Proofs.YtcpmjogeafhpnaaDoor
/- Fields put in their order, each once: where one stands, what comes of it. -/
set_option linter.all false
set_option maxRecDepth 100000
namespace Go.Proofs.YtcpmjogeafhpnaaDoor
open Go.RowKit Go.Sep
theorem fe_ext {x y : Fe} (h1 : x.k = y.k) (h2 : x.a = y.a) (h3 : x.v = y.v) : x = y := by cases x; cases y; simp_all
instance decFe : DecidableEq Fe := fun x y => if h : x.k = y.k ∧ x.a = y.a ∧ x.v = y.v then isTrue (fe_ext h.1 h.2.1 h.2.2) else isFalse (fun e => h (by subst e; exact ⟨rfl, rfl, rfl⟩))
end Go.Proofs.YtcpmjogeafhpnaaDoor
/- A field is put in: the document. -/
set_option linter.all false
set_option maxRecDepth 100000
namespace Go.Proofs.YtcpmjogeafhpnaaDoor
open Go.RowKit Go.Sep
attribute [local irreducible] Go.wpList Go.Code.wp

theorem row_eq39 {v : Value} {L M : List Fe} {F : List OB} (e : L = M) (h : RowH 39 3 v L.length (fcs L) F) : RowH 39 3 v M.length (fcs M) F := e ▸ h
end Go.Proofs.YtcpmjogeafhpnaaDoor
/- Any fields are a card: the document; a few of them. -/
set_option linter.all false
set_option maxRecDepth 100000
namespace Go.Proofs.YtcpmjogeafhpnaaDoor
open Go.RowKit Go.Sep
attribute [local irreducible] Go.wpList Go.Code.wp

def cutFe (x : Fe) : Fe := ⟨x.k, x.a.take 60, x.v.take 60⟩
/-- not too many, none too long -/
def fewF (L : List Fe) : List Fe := (L.take 14).map cutFe
theorem take_min60 {l : List UInt8} : l.take (min l.length 60) = l.take 60 := by
  by_cases h : l.length ≤ 60
  · rw [Nat.min_eq_left h, List.take_of_length_le (Nat.le_refl _), List.take_of_length_le h]
  · rw [Nat.min_eq_right (by omega)]
theorem few_next {L : List Fe} {i : Nat} (hi : i < L.length) (h : i < 14) : fewF (L.take i) ++ [(⟨(List.getD L i Fe.z).k, ((List.getD L i Fe.z).a).take (min ((List.getD L i Fe.z).a).length 60), ((List.getD L i Fe.z).v).take (min ((List.getD L i Fe.z).v).length 60)⟩ : Fe)] = fewF (L.take (i + 1)) := by
  unfold fewF
  have e1 : min 14 i = i := by omega
  have e2 : min 14 (i + 1) = i + 1 := by omega
  rw [List.take_take, List.take_take, e1, e2, fe_take hi, List.map_append, take_min60, take_min60]; rfl
theorem few_past {L : List Fe} {i : Nat} (hi : i < L.length) (h : ¬ i < 14) : fewF (L.take i) = fewF (L.take (i + 1)) := by
  unfold fewF
  have e1 : min 14 i = 14 := by omega
  have e2 : min 14 (i + 1) = 14 := by omega
  rw [List.take_take, List.take_take, e1, e2]
theorem few_len {L : List Fe} : (fewF L).length ≤ 14 := by unfold fewF; rw [List.length_map, List.length_take]; omega
theorem few_short {L : List Fe} : ∀ x ∈ fewF L, x.a.length ≤ 60 ∧ x.v.length ≤ 60 := fun x hx => by
  obtain ⟨y, _, rfl⟩ := List.mem_map.1 hx
  refine ⟨?_, ?_⟩ <;> (show (List.take 60 _).length ≤ 60; rw [List.length_take]; omega)
set_option maxHeartbeats 4000000 in
theorem fewP_c {I : IM} {L : List Fe} {a0 : Option Addr} {c0 : Nat} (h0 : FSl I L (.slice a0 L.length c0)) (hl : L.length ≤ 9223372036854775807) : Fun Tryd.prog 43 #[.slice a0 L.length c0] I (fun v J => ∃ a c, v = .slice a (fewF L).length c ∧ FSl J (fewF L) (.slice a (fewF L).length c)) := by
  refine enter_rule 37 [(0, .slice a0 L.length c0)] Tryd.func43 rfl (by kernel_rfl) ?_
  intro w s
  refine wp_seq ?_
  refine region_rule ?_
  refine ops_rule (C := []) [] [] 1 [] 0 (fun φ1 => [(2, .slice none 0 0)]) (fun φ1 => []) (fun φ1 => []) s trivial (fun φ1 => by kernel_rfl) ?_
  intro φ1 w1 s
  refine ops_done (by kernel_rfl) ?_
  refine wp_seq ?_
  refine region_rule ?_
  refine ops_rule (C := []) [] [] 1 [] 0 (fun φ2 => [(3, .slice none 0 0)]) (fun φ2 => []) (fun φ2 => []) s trivial (fun φ2 => by kernel_rfl) ?_
  intro φ2 w2 s
  refine ops_done (by kernel_rfl) ?_
  refine wp_seq ?_
  refine wp_seq ?_
  refine region_rule ?_
  refine ops_rule (C := []) [] [] 3 [] 0 (fun φ3 => [(8, .int .i64 0), (7, .int .i64 ((L.length : Nat) : Int)), (6, .slice a0 L.length c0)]) (fun φ3 => []) (fun φ3 => []) s trivial (fun φ3 => by kernel_rfl) ?_
  intro φ3 w3 s
  refine ops_done (by kernel_rfl) ?_
  refine wp_block ?_
  have hle4 := IM.Le.refl I
  refine loop_rule (fun (x : Nat × Value × List OB) => [(0, .slice a0 L.length c0), (2, .slice none 0 0), (6, .slice a0 L.length c0), (7, .int .i64 ((L.length : Nat) : Int)), (8, .int .i64 ((x.1 : Nat) : Int)), (3, x.2.1)]) (fun (x : Nat × Value × List OB) => [] ++ x.2.2) (fun m (x : Nat × Value × List OB) J => IM.Le I J ∧ x.1 + m = L.length ∧ RowH 39 3 x.2.1 (List.length (fewF (L.take x.1))) (fcs (fewF (L.take x.1))) x.2.2) (L.length) (0, (.slice none 0 0), []) s (by kernel_rfl) (List.Sublist.refl _) ⟨IM.Le.refl _, Nat.zero_add _, (RowH.nil 39 3)⟩ ?_
  rintro m5 ⟨i5, v5, F5⟩ I5 w5 ev5 s ⟨le5, hi5_0, hi5_1⟩
  try dsimp only at s hi5_0 hi5_1 ⊢
  replace h0 := FSl.mono le5 h0
  replace hle4 := leMono le5 hle4
  refine wp_seq ?_
  refine region_rule ?_
  refine ops_rule (C := []) [] F5 1 [] 0 (fun φ6 => [(9, .bool (decide (((i5 : Nat) : Int) < ((L.length : Nat) : Int))))]) (fun φ6 => []) (fun φ6 => []) s trivial (fun φ6 => by kernel_rfl) ?_
  intro φ6 w6 s
  rw [nat_lss (a := i5) (b := L.length)]
  refine ops_done (by kernel_rfl) ?_
  refine wp_seq ?_
  rcases Bool.eq_false_or_eq_true (decide (i5 < L.length)) with hc7 | hc7
  ·
    rw [hc7]
    refine cond_true_rule (b := true) (by kernel_rfl) rfl ?_
    refine wp_skip ?_
    refine wp_seq ?_
    refine wp_block ?_
    refine wp_seq ?_
    refine region_rule ?_
    refine ops_rule (C := []) [] F5 1 [] 0 (fun φ8 => [(10, .int .i64 ((i5 : Nat) : Int))]) (fun φ8 => []) (fun φ8 => []) s trivial (fun φ8 => by kernel_rfl) ?_
    intro φ8 w8 s
    refine sem_rule (Instr.indexAt 22 (.slice a0 L.length c0) (.int .i64 ((i5 : Nat) : Int))) (some 11) (.pointer (pAt a0 (i5 * 3))) (by kernel_rfl) (fsl_idx22 h0 (by have e8 := hi5_0; have hq0 := of_decide_eq_true hc7; omega)) ?_
    refine sem_rule (Instr.loadAt 39 (.pointer (pAt a0 (i5 * 3)))) (some 12) (.agg #[.int .i64 ((List.getD L i5 Fe.z).k), .string ⟨((List.getD L i5 Fe.z).a).toArray⟩, .string ⟨((List.getD L i5 Fe.z).v).toArray⟩]) (by kernel_rfl) (fsl_ld39 s.sub h0 (by have e8 := hi5_0; have hq0 := of_decide_eq_true hc7; omega)) ?_
    refine ops_rule (C := []) [] F5 3 [.o 0, .o 0, .o 0] 1 (fun φ9 => [(4, .int .i64 ((i5 : Nat) : Int)), (5, .pointer (some ⟨(φ9 0), 0, none⟩))]) (fun φ9 => [((φ9 0), .cells #[.int .i64 ((List.getD L i5 Fe.z).k), .string ⟨((List.getD L i5 Fe.z).a).toArray⟩, .string ⟨((List.getD L i5 Fe.z).v).toArray⟩] 39)]) (fun φ9 => [(φ9 0), (φ9 0), (φ9 0)]) s trivial (fun φ9 => by kernel_rfl) ?_
    intro φ9 w9 s
    refine ops_done (by kernel_rfl) ?_
    refine wp_seq ?_
    refine region_rule ?_
    refine ops_rule (C := []) [((φ9 0), .cells #[.int .i64 ((List.getD L i5 Fe.z).k), .string ⟨((List.getD L i5 Fe.z).a).toArray⟩, .string ⟨((List.getD L i5 Fe.z).v).toArray⟩] 39)] F5 2 [] 0 (fun φ10 => [(14, .bool (decide (((i5 : Nat) : Int) < ((14 : Nat) : Int)))), (13, .int .i64 ((i5 : Nat) : Int))]) (fun φ10 => [((φ9 0), .cells #[.int .i64 ((List.getD L i5 Fe.z).k), .string ⟨((List.getD L i5 Fe.z).a).toArray⟩, .string ⟨((List.getD L i5 Fe.z).v).toArray⟩] 39)]) (fun φ10 => []) s trivial (fun φ10 => by kernel_rfl) ?_
    intro φ10 w10 s
    rw [nat_lss (a := i5) (b := 14)]
    refine ops_done (by kernel_rfl) ?_
    rcases Bool.eq_false_or_eq_true (decide (i5 < 14)) with hc11 | hc11
    ·
      rw [hc11]
      refine cond_true_rule (b := true) (by kernel_rfl) rfl ?_
      refine wp_seq ?_
      refine drawK_rule (C := []) ⟨(fun φ12 xs12 => [.look 0 [] [], .look 0 [.o 0] [(φ9 0)], .look 0 [] [], .look 0 [.o 0] [(φ9 0)], .look 0 [] [], .sub 0 [] [] (.int .i64 (if ((60 : Nat) : Int) < ((((List.getD L i5 Fe.z).a).length : Nat) : Int) then ((60 : Nat) : Int) else ((((List.getD L i5 Fe.z).a).length : Nat) : Int))), .ran (Instr.sliceAt 9 (.string ⟨((List.getD L i5 Fe.z).a).toArray⟩) none (some (.int .i64 ((min (((List.getD L i5 Fe.z).a).length) 60 : Nat) : Int))) none), .look 0 [] [], .look 0 [.o 0] [(φ9 0)], .look 0 [] [], .look 0 [.o 0] [(φ9 0)], .look 0 [] [], .sub 0 [] [] (.int .i64 (if ((60 : Nat) : Int) < ((((List.getD L i5 Fe.z).v).length : Nat) : Int) then ((60 : Nat) : Int) else ((((List.getD L i5 Fe.z).v).length : Nat) : Int))), .ran (Instr.sliceAt 9 (.string ⟨((List.getD L i5 Fe.z).v).toArray⟩) none (some (.int .i64 ((min (((List.getD L i5 Fe.z).v).length) 60 : Nat) : Int))) none), .look 0 [] [], .store 0 [.o 0] [(φ9 0)], .look 1 [] [], .store 1 [.o 0] [(φ9 0)]]), (fun φ12 xs12 => [.pointer (some ⟨(φ9 0), 1, none⟩), .string ⟨((List.getD L i5 Fe.z).a).toArray⟩, .pointer (some ⟨(φ9 0), 1, none⟩), .string ⟨((List.getD L i5 Fe.z).a).toArray⟩, .int .i64 ((((List.getD L i5 Fe.z).a).length : Nat) : Int), .int .i64 ((min (((List.getD L i5 Fe.z).a).length) 60 : Nat) : Int), .string ⟨((((List.getD L i5 Fe.z).a).take (min (((List.getD L i5 Fe.z).a).length) 60))).toArray⟩, .pointer (some ⟨(φ9 0), 2, none⟩), .string ⟨((List.getD L i5 Fe.z).v).toArray⟩, .pointer (some ⟨(φ9 0), 2, none⟩), .string ⟨((List.getD L i5 Fe.z).v).toArray⟩, .int .i64 ((((List.getD L i5 Fe.z).v).length : Nat) : Int), .int .i64 ((min (((List.getD L i5 Fe.z).v).length) 60 : Nat) : Int), .string ⟨((((List.getD L i5 Fe.z).v).take (min (((List.getD L i5 Fe.z).v).length) 60))).toArray⟩, .pointer (some ⟨(φ9 0), 1, none⟩), undef, .pointer (some ⟨(φ9 0), 2, none⟩), undef]), (fun φ12 xs12 => [[((φ9 0), .cells #[.int .i64 ((List.getD L i5 Fe.z).k), .string ⟨((List.getD L i5 Fe.z).a).toArray⟩, .string ⟨((List.getD L i5 Fe.z).v).toArray⟩] 39)], [((φ9 0), .cells #[.int .i64 ((List.getD L i5 Fe.z).k), .string ⟨((((List.getD L i5 Fe.z).a).take (min (((List.getD L i5 Fe.z).a).length) 60))).toArray⟩, .string ⟨((List.getD L i5 Fe.z).v).toArray⟩] 39)], [((φ9 0), .cells #[.int .i64 ((List.getD L i5 Fe.z).k), .string ⟨((((List.getD L i5 Fe.z).a).take (min (((List.getD L i5 Fe.z).a).length) 60))).toArray⟩, .string ⟨((((List.getD L i5 Fe.z).v).take (min (((List.getD L i5 Fe.z).v).length) 60))).toArray⟩] 39)]]), (fun φ12 xs12 => [[default, default, default, default, default, default, default, default, default, default, default, default, default, default, default, default, default, default], [default, default, default, default, default, default, default, default, default, default, default, default, default, default, default, default, default, default], [default, default, default, default, default, default, default, default, default, default, default, default, default, default, default, default, default, default]]), [15, 17], [1, 1, 1, 1, 1, 5, 6, 1, 1, 1, 1, 1, 5, 6, 1, 4, 1, 4]⟩ (fun j => ([MP.any, MP.any, MP.any, MP.any, MP.any, MP.any, MP.any, MP.any, MP.any, MP.any, MP.any, MP.any, MP.any, MP.any, MP.any, MP.any, MP.any, MP.any] : List MP).getD j MP.any) F5 [] [5, 12] [6, 13] (fun φ12 xs12 => [[none, none, none, none, none, none, none, none, none, none, none, none, none, none, none, none, none, none], [none, none, none, none, none, none, none, none, none, none, none, none, none, none, none, none, none, none]]) (fun φ12 xs12 => [(15, .pointer (some ⟨(φ9 0), 1, none⟩)), (16, .string ⟨((List.getD L i5 Fe.z).a).toArray⟩), (17, .pointer (some ⟨(φ9 0), 1, none⟩)), (18, .string ⟨((List.getD L i5 Fe.z).a).toArray⟩), (19, .int .i64 ((((List.getD L i5 Fe.z).a).length : Nat) : Int)), (20, .int .i64 ((min (((List.getD L i5 Fe.z).a).length) 60 : Nat) : Int)), (21, .string ⟨((((List.getD L i5 Fe.z).a).take (min (((List.getD L i5 Fe.z).a).length) 60))).toArray⟩), (22, .pointer (some ⟨(φ9 0), 2, none⟩)), (23, .string ⟨((List.getD L i5 Fe.z).v).toArray⟩), (24, .pointer (some ⟨(φ9 0), 2, none⟩)), (25, .string ⟨((List.getD L i5 Fe.z).v).toArray⟩), (26, .int .i64 ((((List.getD L i5 Fe.z).v).length : Nat) : Int)), (27, .int .i64 ((min (((List.getD L i5 Fe.z).v).length) 60 : Nat) : Int)), (28, .string ⟨((((List.getD L i5 Fe.z).v).take (min (((List.getD L i5 Fe.z).v).length) 60))).toArray⟩), (29, .pointer (some ⟨(φ9 0), 1, none⟩)), (30, .pointer (some ⟨(φ9 0), 2, none⟩))]) (fun φ12 xs12 => [((φ9 0), .cells #[.int .i64 ((List.getD L i5 Fe.z).k), .string ⟨((((List.getD L i5 Fe.z).a).take (min (((List.getD L i5 Fe.z).a).length) 60))).toArray⟩, .string ⟨((((List.getD L i5 Fe.z).v).take (min (((List.getD L i5 Fe.z).v).length) 60))).toArray⟩] 39)]) s trivial (by kernel_rfl) (by kernel_rfl) (fun _ _ => by kernel_rfl) (fun _ _ => by kernel_rfl) ⟨fun _ _ => by kernel_rfl, fun _ _ => by kernel_rfl, fun _ _ => by kernel_rfl, fun _ _ => by kernel_rfl⟩ (fun _ _ _ => by kernel_rfl) (fun _ _ => by kernel_rfl) (fun _ _ => by kernel_rfl) (fun _ _ => by kernel_rfl) (fun _ _ => by kernel_rfl) (fun _ _ => by kernel_rfl) ⟨kcast (A := ∀ (φ12 : Nat → Nat) (xs12 : Xs), (.int .i64 (if ((60 : Nat) : Int) < ((((List.getD L i5 Fe.z).a).length : Nat) : Int) then ((60 : Nat) : Int) else ((((List.getD L i5 Fe.z).a).length : Nat) : Int)) : Value) = .int .i64 ((min (((List.getD L i5 Fe.z).a).length) 60 : Nat) : Int)) (by kernel_rfl) (fun φ12 xs12 => congrArg (Value.int .i64) ((nat_min (a := (((List.getD L i5 Fe.z).a).length)) (b := 60)))), ⟨kcast (A := ∀ (φ12 : Nat → Nat) (xs12 : Xs), (.int .i64 (if ((60 : Nat) : Int) < ((((List.getD L i5 Fe.z).v).length : Nat) : Int) then ((60 : Nat) : Int) else ((((List.getD L i5 Fe.z).v).length : Nat) : Int)) : Value) = .int .i64 ((min (((List.getD L i5 Fe.z).v).length) 60 : Nat) : Int)) (by kernel_rfl) (fun φ12 xs12 => congrArg (Value.int .i64) ((nat_min (a := (((List.getD L i5 Fe.z).v).length)) (b := 60)))), trivial⟩⟩ ⟨kcast (A := ∀ (φ12 : Nat → Nat) (xs12 : Xs) (J : IM) (w : World), I5.Le J → J.Sub w → ((Instr.sliceAt 9 (.string ⟨((List.getD L i5 Fe.z).a).toArray⟩) none (some (.int .i64 ((min (((List.getD L i5 Fe.z).a).length) 60 : Nat) : Int))) none) : Sem Value).run Tryd.prog w = .ok (.string ⟨((((List.getD L i5 Fe.z).a).take (min (((List.getD L i5 Fe.z).a).length) 60))).toArray⟩) w) (by kernel_rfl) (fun φ12 xs12 J w hJ hS => Tx.run_takeS (s := (List.getD L i5 Fe.z).a) (hi := min (((List.getD L i5 Fe.z).a).length) 60) (by omega)), ⟨kcast (A := ∀ (φ12 : Nat → Nat) (xs12 : Xs) (J : IM) (w : World), I5.Le J → J.Sub w → ((Instr.sliceAt 9 (.string ⟨((List.getD L i5 Fe.z).v).toArray⟩) none (some (.int .i64 ((min (((List.getD L i5 Fe.z).v).length) 60 : Nat) : Int))) none) : Sem Value).run Tryd.prog w = .ok (.string ⟨((((List.getD L i5 Fe.z).v).take (min (((List.getD L i5 Fe.z).v).length) 60))).toArray⟩) w) (by kernel_rfl) (fun φ12 xs12 J w hJ hS => Tx.run_takeS (s := (List.getD L i5 Fe.z).v) (hi := min (((List.getD L i5 Fe.z).v).length) 60) (by omega)), trivial⟩⟩ (by kernel_rfl) trivial ?k12
      case k12 =>
        rintro φ12 xs12 I12 w12 le12 s 
        replace h0 := FSl.mono le12 h0
        replace hle4 := leMono le12 hle4
        refine region_rule ?_
        refine ops_rule (C := []) [((φ9 0), .cells #[.int .i64 ((List.getD L i5 Fe.z).k), .string ⟨((((List.getD L i5 Fe.z).a).take (min (((List.getD L i5 Fe.z).a).length) 60))).toArray⟩, .string ⟨((((List.getD L i5 Fe.z).v).take (min (((List.getD L i5 Fe.z).v).length) 60))).toArray⟩] 39)] F5 3 [.o 0, .o 0, .o 0] 1 (fun φ13 => [(33, .slice (some ⟨(φ13 0), 0, none⟩) 1 1), (32, .agg #[.int .i64 ((List.getD L i5 Fe.z).k), .string ⟨((((List.getD L i5 Fe.z).a).take (min (((List.getD L i5 Fe.z).a).length) 60))).toArray⟩, .string ⟨((((List.getD L i5 Fe.z).v).take (min (((List.getD L i5 Fe.z).v).length) 60))).toArray⟩]), (31, v5)]) (fun φ13 => [((φ9 0), .cells #[.int .i64 ((List.getD L i5 Fe.z).k), .string ⟨((((List.getD L i5 Fe.z).a).take (min (((List.getD L i5 Fe.z).a).length) 60))).toArray⟩, .string ⟨((((List.getD L i5 Fe.z).v).take (min (((List.getD L i5 Fe.z).v).length) 60))).toArray⟩] 39), ((φ13 0), .cells #[.int .i64 ((List.getD L i5 Fe.z).k), .string ⟨((((List.getD L i5 Fe.z).a).take (min (((List.getD L i5 Fe.z).a).length) 60))).toArray⟩, .string ⟨((((List.getD L i5 Fe.z).v).take (min (((List.getD L i5 Fe.z).v).length) 60))).toArray⟩] 39)]) (fun φ13 => [(φ9 0), (φ9 0), (φ9 0)]) s trivial (fun φ13 => by kernel_rfl) ?_
        intro φ13 w13 s
        have hb14 : (List.length (fewF (L.take i5))) ≤ 100000 := (Nat.le_trans few_len (by decide))
        refine append_rule (H := [((φ9 0), .cells #[.int .i64 ((List.getD L i5 Fe.z).k), .string ⟨((((List.getD L i5 Fe.z).a).take (min (((List.getD L i5 Fe.z).a).length) 60))).toArray⟩, .string ⟨((((List.getD L i5 Fe.z).v).take (min (((List.getD L i5 Fe.z).v).length) 60))).toArray⟩] 39), ((φ13 0), .cells #[.int .i64 ((List.getD L i5 Fe.z).k), .string ⟨((((List.getD L i5 Fe.z).a).take (min (((List.getD L i5 Fe.z).a).length) 60))).toArray⟩, .string ⟨((((List.getD L i5 Fe.z).v).take (min (((List.getD L i5 Fe.z).v).length) 60))).toArray⟩] 39)]) (F := F5) 22 22 39 Tryd.t39 (.agg #[.int .i64 0, .string ⟨#[]⟩, .string ⟨#[]⟩]) 3 40 (some 34) s Tryd.underlying22 (by kernel_rfl) (by kernel_rfl) (by kernel_rfl) (by kernel_rfl) (by kernel_rfl) (by decide) hi5_1 (src_own s 1 (φ13 0) #[.int .i64 ((List.getD L i5 Fe.z).k), .string ⟨((((List.getD L i5 Fe.z).a).take (min (((List.getD L i5 Fe.z).a).length) 60))).toArray⟩, .string ⟨((((List.getD L i5 Fe.z).v).take (min (((List.getD L i5 Fe.z).v).length) 60))).toArray⟩] 39 22 39 1 1 3 [.int .i64 ((List.getD L i5 Fe.z).k), .string ⟨((((List.getD L i5 Fe.z).a).take (min (((List.getD L i5 Fe.z).a).length) 60))).toArray⟩, .string ⟨((((List.getD L i5 Fe.z).v).take (min (((List.getD L i5 Fe.z).v).length) 60))).toArray⟩] (by kernel_rfl) Tryd.underlying22 (by kernel_rfl) (by kernel_rfl) (by kernel_rfl)) (by simp only [maxLen]; omega) (by omega) (by kernel_rfl) ?_
        intro v14 w14 F14 s h14
        replace h14 : RowH 39 3 v14 (List.length ((fewF (L.take i5)) ++ [(⟨(List.getD L i5 Fe.z).k, (((List.getD L i5 Fe.z).a).take (min (((List.getD L i5 Fe.z).a).length) 60)), (((List.getD L i5 Fe.z).v).take (min (((List.getD L i5 Fe.z).v).length) 60))⟩ : Fe)])) (fcs ((fewF (L.take i5)) ++ [(⟨(List.getD L i5 Fe.z).k, (((List.getD L i5 Fe.z).a).take (min (((List.getD L i5 Fe.z).a).length) 60)), (((List.getD L i5 Fe.z).v).take (min (((List.getD L i5 Fe.z).v).length) 60))⟩ : Fe)])) F14 := row39_snoc (Fs := (fewF (L.take i5))) (x := (⟨(List.getD L i5 Fe.z).k, (((List.getD L i5 Fe.z).a).take (min (((List.getD L i5 Fe.z).a).length) 60)), (((List.getD L i5 Fe.z).v).take (min (((List.getD L i5 Fe.z).v).length) 60))⟩ : Fe)) h14 rfl
        refine ops_rule (C := []) [((φ9 0), .cells #[.int .i64 ((List.getD L i5 Fe.z).k), .string ⟨((((List.getD L i5 Fe.z).a).take (min (((List.getD L i5 Fe.z).a).length) 60))).toArray⟩, .string ⟨((((List.getD L i5 Fe.z).v).take (min (((List.getD L i5 Fe.z).v).length) 60))).toArray⟩] 39), ((φ13 0), .cells #[.int .i64 ((List.getD L i5 Fe.z).k), .string ⟨((((List.getD L i5 Fe.z).a).take (min (((List.getD L i5 Fe.z).a).length) 60))).toArray⟩, .string ⟨((((List.getD L i5 Fe.z).v).take (min (((List.getD L i5 Fe.z).v).length) 60))).toArray⟩] 39)] F14 1 [] 0 (fun φ15 => [(3, v14)]) (fun φ15 => [((φ9 0), .cells #[.int .i64 ((List.getD L i5 Fe.z).k), .string ⟨((((List.getD L i5 Fe.z).a).take (min (((List.getD L i5 Fe.z).a).length) 60))).toArray⟩, .string ⟨((((List.getD L i5 Fe.z).v).take (min (((List.getD L i5 Fe.z).v).length) 60))).toArray⟩] 39), ((φ13 0), .cells #[.int .i64 ((List.getD L i5 Fe.z).k), .string ⟨((((List.getD L i5 Fe.z).a).take (min (((List.getD L i5 Fe.z).a).length) 60))).toArray⟩, .string ⟨((((List.getD L i5 Fe.z).v).take (min (((List.getD L i5 Fe.z).v).length) 60))).toArray⟩] 39)]) (fun φ15 => []) s trivial (fun φ15 => by kernel_rfl) ?_
        intro φ15 w15 s
        refine ops_done (by kernel_rfl) ?_
        refine region_rule ?_
        refine ops_rule (C := []) [((φ9 0), .cells #[.int .i64 ((List.getD L i5 Fe.z).k), .string ⟨((((List.getD L i5 Fe.z).a).take (min (((List.getD L i5 Fe.z).a).length) 60))).toArray⟩, .string ⟨((((List.getD L i5 Fe.z).v).take (min (((List.getD L i5 Fe.z).v).length) 60))).toArray⟩] 39), ((φ13 0), .cells #[.int .i64 ((List.getD L i5 Fe.z).k), .string ⟨((((List.getD L i5 Fe.z).a).take (min (((List.getD L i5 Fe.z).a).length) 60))).toArray⟩, .string ⟨((((List.getD L i5 Fe.z).v).take (min (((List.getD L i5 Fe.z).v).length) 60))).toArray⟩] 39)] F14 2 [] 0 (fun φ16 => [(8, .int .i64 (IntKind.wrap .i64 (((i5 : Nat) : Int) + ((1 : Nat) : Int)))), (35, .int .i64 (IntKind.wrap .i64 (((i5 : Nat) : Int) + ((1 : Nat) : Int))))]) (fun φ16 => [((φ9 0), .cells #[.int .i64 ((List.getD L i5 Fe.z).k), .string ⟨((((List.getD L i5 Fe.z).a).take (min (((List.getD L i5 Fe.z).a).length) 60))).toArray⟩, .string ⟨((((List.getD L i5 Fe.z).v).take (min (((List.getD L i5 Fe.z).v).length) 60))).toArray⟩] 39), ((φ13 0), .cells #[.int .i64 ((List.getD L i5 Fe.z).k), .string ⟨((((List.getD L i5 Fe.z).a).take (min (((List.getD L i5 Fe.z).a).length) 60))).toArray⟩, .string ⟨((((List.getD L i5 Fe.z).v).take (min (((List.getD L i5 Fe.z).v).length) 60))).toArray⟩] 39)]) (fun φ16 => []) s trivial (fun φ16 => by kernel_rfl) ?_
        intro φ16 w16 s
        rw [nat_addI (a := i5) (b := 1) (by have e8 := hi5_0; have hq0 := of_decide_eq_true hc7; have hq1 := of_decide_eq_true hc11; omega)]
        refine ops_done (by kernel_rfl) ?_
        exact ⟨⟨m5 - 1, (i5 + 1, v14, F14), _, _, _, by have hq0 := of_decide_eq_true hc7; have hq1 := of_decide_eq_true hc11; have := hi5_0; omega, rfl, s, (List.Sublist.append (List.Sublist.cons _ (List.Sublist.cons _ List.Sublist.slnil)) (List.Sublist.refl _)), by kernel_rfl, hle4, by have hq0 := of_decide_eq_true hc7; have hq1 := of_decide_eq_true hc11; have := hi5_0; show i5 + 1 + (m5 - 1) = L.length; omega, (row_eq39 (few_next (by have hq0 := of_decide_eq_true hc7; have hq1 := of_decide_eq_true hc11; have := hi5_0; omega) (of_decide_eq_true hc11)) h14)⟩⟩
    ·
      rw [hc11]
      refine cond_false_rule (b := false) (by kernel_rfl) rfl ?_
      refine wp_skip ?_
      refine region_rule ?_
      refine ops_rule (C := []) [((φ9 0), .cells #[.int .i64 ((List.getD L i5 Fe.z).k), .string ⟨((List.getD L i5 Fe.z).a).toArray⟩, .string ⟨((List.getD L i5 Fe.z).v).toArray⟩] 39)] F5 2 [] 0 (fun φ17 => [(8, .int .i64 (IntKind.wrap .i64 (((i5 : Nat) : Int) + ((1 : Nat) : Int)))), (35, .int .i64 (IntKind.wrap .i64 (((i5 : Nat) : Int) + ((1 : Nat) : Int))))]) (fun φ17 => [((φ9 0), .cells #[.int .i64 ((List.getD L i5 Fe.z).k), .string ⟨((List.getD L i5 Fe.z).a).toArray⟩, .string ⟨((List.getD L i5 Fe.z).v).toArray⟩] 39)]) (fun φ17 => []) s trivial (fun φ17 => by kernel_rfl) ?_
      intro φ17 w17 s
      rw [nat_addI (a := i5) (b := 1) (by have e8 := hi5_0; have hq0 := of_decide_eq_true hc7; have hq1 := of_decide_eq_false hc11; omega)]
      refine ops_done (by kernel_rfl) ?_
      exact ⟨⟨m5 - 1, (i5 + 1, v5, F5), _, _, _, by have hq0 := of_decide_eq_true hc7; have hq1 := of_decide_eq_false hc11; have := hi5_0; omega, rfl, s, (List.Sublist.append (List.Sublist.cons _ List.Sublist.slnil) (List.Sublist.refl _)), by kernel_rfl, hle4, by have hq0 := of_decide_eq_true hc7; have hq1 := of_decide_eq_false hc11; have := hi5_0; show i5 + 1 + (m5 - 1) = L.length; omega, (row_eq39 (few_past (by have hq0 := of_decide_eq_true hc7; have hq1 := of_decide_eq_false hc11; have := hi5_0; omega) (of_decide_eq_false hc11)) hi5_1)⟩⟩
  ·
    rw [hc7]
    refine cond_false_rule (b := false) (by kernel_rfl) rfl ?_
    refine wp_exit ?_
    refine wp_seq ?_
    have hr18 := row_eq39 (by have ei : i5 = L.length := (by have hq0 := of_decide_eq_false hc7; have := hi5_0; omega); rw [ei, List.take_length]) hi5_1
    obtain ⟨J18, le18, hk18, s⟩ := freeze_row39 (H := []) (F := F5) s hr18
    obtain ⟨a18, c18, hv18, -, hk18⟩ := hk18.open
    subst hv18
    replace h0 := FSl.mono le18 h0
    replace hle4 := leMono le18 hle4
    refine region_rule ?_
    refine ops_rule (C := []) [] [] 2 [] 0 (fun φ19 => [(2, .slice a18 (List.length (fewF L)) c18), (36, .slice a18 (List.length (fewF L)) c18)]) (fun φ19 => []) (fun φ19 => []) s trivial (fun φ19 => by kernel_rfl) ?_
    intro φ19 w19 s
    refine ops_done (by kernel_rfl) ?_
    refine wp_ret ?_
    refine ret_rule (C := []) [] [] (.slice a18 (List.length (fewF L)) c18) [] [] s trivial (by kernel_rfl) ?_
    exact ⟨_, _, _, rfl, s, ⟨_, _, rfl, hk18⟩⟩

end Go.Proofs.YtcpmjogeafhpnaaDoor
/- What is made of a few; fields compared, found. -/
set_option linter.all false
set_option maxRecDepth 100000
namespace Go.Proofs.YtcpmjogeafhpnaaDoor
open Go.RowKit Go.Sep
attribute [local irreducible] Go.wpList Go.Code.wp

theorem getD_mem {L : List Fe} {i : Nat} (hi : i < L.length) : L.getD i Fe.z ∈ L := by simp [hi]

theorem row_val {v : Value} {n : Nat} {xs : List Value} {F : List OB} {e sz : Nat} (h : RowH e sz v n xs F) : ∃ a c, v = .slice a n c := by
  rcases h.2 with ⟨h1, h2, _⟩ | ⟨g, cap, cur, h1, _⟩
  · exact ⟨none, 0, by rw [h1, h2]⟩
  · exact ⟨_, _, h1⟩
end Go.Proofs.YtcpmjogeafhpnaaDoor
/- Fields left out; of a kind. -/
set_option linter.all false
set_option maxRecDepth 100000
namespace Go.Proofs.YtcpmjogeafhpnaaDoor
open Go.RowKit Go.Sep
attribute [local irreducible] Go.wpList Go.Code.wp

def icI (K : List Int) : List Value := K.map fun x => .int .i64 x
/-- v is a slice of these ints, never written -/
def ISl (I : IM) (K : List Int) (v : Value) : Prop := ∃ a cap, v = .slice a K.length cap ∧ K.length ≤ cap ∧ ∀ (j : Nat) (x : Int), K[j]? = some x → ∃ (b o : Nat) (cs : Array Value) (T : TypeId) (fr : Nat × Nat), a = some ⟨b, o, none⟩ ∧ I b = some (.cells cs T fr) ∧ cs[o + j]? = some (.int .i64 x)
theorem ISl.mono {I J : IM} (le : I.Le J) {L : List Int} {v : Value} (h : ISl I L v) : ISl J L v := by
  obtain ⟨a, cap, hv, hc, hr⟩ := h
  refine ⟨a, cap, hv, hc, fun j x hj => ?_⟩
  obtain ⟨b, o, cs, T, fr, h1, h2, h3⟩ := hr j x hj
  exact ⟨b, o, cs, T, fr, h1, le _ _ h2, h3⟩
theorem ISl.open {I : IM} {L : List Int} {v : Value} (h : ISl I L v) : ∃ a c, v = .slice a L.length c ∧ L.length ≤ c ∧ ISl I L (.slice a L.length c) := by
  obtain ⟨a, c, rfl, hc, hr⟩ := h
  exact ⟨a, c, rfl, hc, a, c, rfl, hc, hr⟩
theorem isl_nil (I : IM) : ISl I [] (.slice none 0 0) := ⟨none, 0, rfl, Nat.le_refl _, fun j x h => by simp at h⟩
theorem ISl.cap {I : IM} {L : List Int} {a : Option Addr} {n c : Nat} (h : ISl I L (.slice a n c)) : n = L.length ∧ L.length ≤ c := by
  obtain ⟨a', c', hv, hc, _⟩ := h
  cases hv; exact ⟨rfl, hc⟩
theorem i_getD {L : List Int} {i : Nat} (h : i < L.length) : L[i]? = some (L.getD i 0) := by simp [h]
theorem isl_idx {I : IM} {w : World} {L : List Int} {a : Option Addr} {n c i : Nat} (h : ISl I L (.slice a n c)) (hi : i < L.length) :
    (Instr.indexAt 52 (.slice a n c) (.int .i64 ((i : Nat) : Int))).run Tryd.prog w = .ok (.pointer (pAt a i)) w := by
  obtain ⟨a', c', hv, hc, hr⟩ := h
  cases hv
  obtain ⟨b, o, cs, T, fr, rfl, h2, h3⟩ := hr i _ (i_getD hi)
  have h2 : (i : Int) < (L.length : Int) := by omega
  simp [Instr.indexAt, asIntOf, run_underlying under52s, size3s, h2, pAt]
  intro h3; omega
theorem isl_ld {I : IM} {w : World} (hS : I.Sub w) {L : List Int} {a : Option Addr} {n c i : Nat} (h : ISl I L (.slice a n c)) (hi : i < L.length) :
    (Instr.loadAt 3 (.pointer (pAt a i))).run Tryd.prog w = .ok (.int .i64 (L.getD i 0)) w := by
  obtain ⟨a', c', hv, hc, hr⟩ := h
  cases hv
  obtain ⟨b, o, cs, T, fr, rfl, h2, h3⟩ := hr i _ (i_getD hi)
  rw [show pAt (some ⟨b, o, none⟩) i = some ⟨b, o + i, none⟩ from congrArg some (addr_addO b o i)]
  have c1 := run_cell (a := ⟨b, o + i, none⟩) (hS _ _ h2) rfl rfl
  rw [h3] at c1
  have e : (Instr.loadAt 3 (.pointer (some ⟨b, o + i, none⟩))).run Tryd.prog w = (load ⟨b, o + i, none⟩).run Tryd.prog w := by kernel_rfl
  rw [e]; simp only [load, Sem.run, c1]
theorem freeze_row3I {w0 : World} {I0 : IM} {m : List Nat} {I : IM} {w : World} {H F : List OB} {L : List Int} {v : Value} {n : Nat} (s : St w0 I0 m I w (H ++ F)) (h : RowH 3 1 v n (icI L) F) :
    ∃ I', I.Le I' ∧ ISl I' L v ∧ St w0 I0 m I' w H := by
  have hl : L.length = n := by have := h.1; simpa [icI] using this
  rcases h.2 with ⟨rfl, rfl, rfl⟩ | ⟨g, cap, cur, rfl, rfl, hnc, hcm, hcs, ht⟩
  · have : L = [] := List.eq_nil_of_length_eq_zero hl
    subst this
    exact ⟨I, IM.Le.refl I, isl_nil I, by simpa using s⟩
  · have s2 := (s.perm (H' := (g, .cells cur 3) :: H) (by exact List.perm_append_comm))
    refine ⟨_, IM.le_add (s2.free (g, .cells cur 3) (by simp)) _, ?_, s2.freeze⟩
    refine ⟨some ⟨g, 0, none⟩, cap, congrArg (fun q => Value.slice (some ⟨g, 0, none⟩) q cap) hl.symm, by omega, fun j x hj => ⟨g, 0, cur, 3, (0, 0), rfl, IM.add_self _ _ _, ?_⟩⟩
    have hx : (icI L)[j]? = some (.int .i64 x) := by rw [icI, List.getElem?_map, hj]; rfl
    rw [← ht, List.getElem?_take] at hx
    rw [Nat.zero_add]
    split at hx
    · simpa using hx
    · cases hx

end Go.Proofs.YtcpmjogeafhpnaaDoor
/- A card is patched: the document. -/
set_option linter.all false
set_option maxRecDepth 100000
namespace Go.Proofs.YtcpmjogeafhpnaaDoor
open Go.RowKit Go.Sep
attribute [local irreducible] Go.wpList Go.Code.wp

theorem eq52_true {w : World} {n c : Nat} : (binOp .eql 52 (.slice none n c) (.slice none 0 0)).run Tryd.prog w = .ok (.bool true) w := by kernel_rfl
theorem eq52_false {w : World} {b : Addr} {n c : Nat} : (binOp .eql 52 (.slice (some b) n c) (.slice none 0 0)).run Tryd.prog w = .ok (.bool false) w := by kernel_rfl
theorem isl_none {I : IM} {L : List Int} {n c : Nat} (h : ISl I L (.slice none n c)) : L = [] := by
  obtain ⟨a', c', hv, hc, hr⟩ := h
  cases hv
  cases L with
  | nil => rfl
  | cons x L => obtain ⟨b, o, cs, T, fr, q, _⟩ := hr 0 x rfl; cases q
theorem src_isl {I : IM} {w : World} (hs : I.Sub w) {L : List Int} {a : Option Addr} {n c : Nat} (h : ISl I L (.slice a n c)) : Src Tryd.prog 1 52 (.slice a n c) L.length (icI L) w := by
  obtain ⟨a', c', hv, hc, hr⟩ := h
  cases hv
  have one : ∀ u ∈ icI L, u.oneCell' = true := fun u hu => by
    obtain ⟨x, _, hx⟩ := List.mem_map.1 hu
    subst hx; rfl
  have hlen : (icI L).length = L.length * 1 := by unfold icI; rw [List.length_map, Nat.mul_one]
  cases a with
  | none =>
    cases L with
    | nil => exact Src.ofNil w under52s c
    | cons x L => obtain ⟨b, o, cs, T, fr, q, _⟩ := hr 0 x rfl; cases q
  | some x =>
    obtain ⟨b, o, sp⟩ := x
    cases hL : L with
    | nil => subst hL; exact Src.ofSlice w under52s _ 0 c [] rfl (fun j u hu => by simp at hu) (fun u hu => by simp at hu)
    | cons y L' =>
      obtain ⟨b', o', cs', T', fr', q, _⟩ := hr 0 y (by rw [hL]; rfl)
      cases q
      rw [← hL]
      refine Src.ofSlice w under52s ⟨b, o, none⟩ _ c (icI L) hlen (fun j u hu => ?_) one
      unfold icI at hu
      rw [List.getElem?_map] at hu
      cases hj : L[j]? with
      | none => rw [hj] at hu; cases hu
      | some x =>
        rw [hj] at hu
        simp only [Option.map_some, Option.some.injEq] at hu
        subst hu
        obtain ⟨b2, o2, cs2, T2, fr2, e1, e2, e3⟩ := hr j x hj
        cases e1
        rw [addr_addO, run_cell (a := ⟨b, o + j, none⟩) (hs _ _ e2) rfl rfl]
        exact e3
theorem row_newI (b : Nat) : RowH 3 1 (.slice (some ⟨b, 0, none⟩) 0 0) 0 [] [(b, .cells #[] 3)] := ⟨rfl, .inr ⟨b, 0, #[], rfl, rfl, Nat.le_refl _, by decide, rfl, rfl⟩⟩
theorem row_allI {v : Value} {L : List Int} {F : List OB} (h : RowH 3 1 v (0 + L.length) ([] ++ icI L) F) : RowH 3 1 v L.length (icI L) F := by
  rw [Nat.zero_add] at h; exact h
theorem isl_take {I : IM} {L : List Int} {a : Option Addr} {n c m : Nat} (h : ISl I L (.slice a n c)) : ISl I (L.take m) (.slice a (L.take m).length c) := by
  obtain ⟨a', c', hv, hc, hr⟩ := h
  cases hv
  refine ⟨a, c, rfl, by rw [List.length_take]; omega, fun j x hj => ?_⟩
  rw [List.getElem?_take] at hj
  split at hj
  · exact hr j x hj
  · cases hj
theorem run_to52 {w : World} {L : List Int} {I : IM} {a : Option Addr} {n c m hi : Nat} (h : ISl I L (.slice a n c)) (hh : hi = min n m) : (Instr.sliceAt 52 (.slice a n c) none (some (.int .i64 ((hi : Nat) : Int))) none).run Tryd.prog w = .ok (.slice a (L.take m).length c) w := by
  obtain ⟨h1, h2⟩ := h.cap
  have e : (L.take m).length = hi := by rw [List.length_take, hh, h1]; omega
  have hle : hi ≤ c := by omega
  have hb : (Instr.sliceBound (.int .i64 ((hi : Nat) : Int)) c .sliceAcap).run Tryd.prog w = .ok hi w := run_bound hle
  rw [e]
  cases a <;> simp [Instr.sliceAt, Instr.slice, run_underlying under52s, Instr.sliceBounds, hb, size3s, run_bound hle, add_zero_addr]
set_option maxHeartbeats 1000000 in
theorem cloneIS_c {I : IM} {K : List Int} {x0 : Addr} {c0 : Nat} (h0 : ISl I K (.slice (some x0) K.length c0)) (hl : K.length ≤ 255) : Fun Tryd.prog 29 #[.slice (some x0) K.length c0] I (fun v J => ∃ a c, v = .slice a K.length c ∧ ISl J K (.slice a K.length c)) := by
  refine enter_rule 8 [(0, .slice (some x0) K.length c0)] Tryd.func29 rfl (by kernel_rfl) ?_
  intro w s
  refine wp_seq ?_
  refine region_rule ?_
  refine ops_rule (C := []) [] [] 1 [] 0 (fun φ1 => [(2, .slice none 0 0)]) (fun φ1 => []) (fun φ1 => []) s trivial (fun φ1 => by kernel_rfl) ?_
  intro φ1 w1 s
  refine ops_done (by kernel_rfl) ?_
  refine wp_seq ?_
  refine wp_seq ?_
  refine region_rule ?_
  refine ops_rule (C := []) [] [] 1 [] 0 (fun φ2 => [(3, .slice (some x0) K.length c0)]) (fun φ2 => []) (fun φ2 => []) s trivial (fun φ2 => by kernel_rfl) ?_
  intro φ2 w2 s
  refine sem_rule (binOp .eql 52 (.slice (some x0) K.length c0) (.slice none 0 0)) (some 4) (.bool false) (by kernel_rfl) (eq52_false) ?_
  refine ops_done (by kernel_rfl) ?_
  refine cond_false_rule (b := false) (by kernel_rfl) rfl ?_
  refine wp_skip ?_
  refine wp_seq ?_
  refine region_rule ?_
  refine ops_rule (C := []) [] [] 2 [] 1 (fun φ3 => [(6, .slice (some x0) K.length c0), (5, .slice (some ⟨(φ3 0), 0, none⟩) 0 0)]) (fun φ3 => [((φ3 0), .cells #[] 3)]) (fun φ3 => []) s trivial (fun φ3 => by kernel_rfl) ?_
  intro φ3 w3 s
  refine append_rule (H := []) (F := [((φ3 0), .cells #[] 3)]) 52 52 3 Tryd.t3 (.int .i64 0) 1 8 (some 7) s Tryd.underlying52 (by kernel_rfl) (by kernel_rfl) (by kernel_rfl) (by kernel_rfl) (by kernel_rfl) (by decide) (row_newI (φ3 0)) (src_isl s.sub h0) (by simp only [maxLen]; omega) (by omega) (by kernel_rfl) ?_
  intro v4 w4 F4 s h4
  obtain ⟨J4, le4, hk4, s⟩ := freeze_row3I (H := []) (F := F4) s (row_allI h4)
  obtain ⟨a4, c4, hv4, -, hk4⟩ := hk4.open
  subst hv4
  replace h0 := ISl.mono le4 h0
  refine ops_rule (C := []) [] [] 1 [] 0 (fun φ5 => [(2, .slice a4 (List.length K) c4)]) (fun φ5 => []) (fun φ5 => []) s trivial (fun φ5 => by kernel_rfl) ?_
  intro φ5 w5 s
  refine ops_done (by kernel_rfl) ?_
  refine wp_ret ?_
  refine ret_rule (C := []) [] [] (.slice a4 (List.length K) c4) [] [] s trivial (by kernel_rfl) ?_
  exact ⟨_, _, _, rfl, s, ⟨_, _, rfl, hk4⟩⟩

set_option maxHeartbeats 1000000 in
theorem cloneIN_c {I : IM} {K : List Int} {c0 : Nat} (h0 : ISl I K (.slice none K.length c0)) (hl : K.length ≤ 255) : Fun Tryd.prog 29 #[.slice none K.length c0] I (fun v J => ∃ a c, v = .slice a K.length c ∧ ISl J K (.slice a K.length c)) := by
  refine enter_rule 8 [(0, .slice none K.length c0)] Tryd.func29 rfl (by kernel_rfl) ?_
  intro w s
  refine wp_seq ?_
  refine region_rule ?_
  refine ops_rule (C := []) [] [] 1 [] 0 (fun φ1 => [(2, .slice none 0 0)]) (fun φ1 => []) (fun φ1 => []) s trivial (fun φ1 => by kernel_rfl) ?_
  intro φ1 w1 s
  refine ops_done (by kernel_rfl) ?_
  refine wp_seq ?_
  refine wp_seq ?_
  refine region_rule ?_
  refine ops_rule (C := []) [] [] 1 [] 0 (fun φ2 => [(3, .slice none K.length c0)]) (fun φ2 => []) (fun φ2 => []) s trivial (fun φ2 => by kernel_rfl) ?_
  intro φ2 w2 s
  refine sem_rule (binOp .eql 52 (.slice none K.length c0) (.slice none 0 0)) (some 4) (.bool true) (by kernel_rfl) (eq52_true) ?_
  refine ops_done (by kernel_rfl) ?_
  refine cond_true_rule (b := true) (by kernel_rfl) rfl ?_
  refine wp_seq ?_
  refine region_rule ?_
  refine ops_rule (C := []) [] [] 1 [] 0 (fun φ3 => [(2, .slice none 0 0)]) (fun φ3 => []) (fun φ3 => []) s trivial (fun φ3 => by kernel_rfl) ?_
  intro φ3 w3 s
  refine ops_done (by kernel_rfl) ?_
  refine wp_ret ?_
  refine ret_rule (C := []) [] [] (.slice none 0 0) [] [] s trivial (by kernel_rfl) ?_
  exact ⟨_, _, _, rfl, s, (by have e : K = [] := isl_none h0; subst e; exact ⟨_, _, rfl, isl_nil _⟩)⟩

theorem cloneI_c {I : IM} {K : List Int} {a0 : Option Addr} {c0 : Nat} (h0 : ISl I K (.slice a0 K.length c0)) (hl : K.length ≤ 255) : Fun Tryd.prog 29 #[.slice a0 K.length c0] I (fun v J => ∃ a c, v = .slice a K.length c ∧ ISl J K (.slice a K.length c)) := by
  cases a0 with
  | none => exact cloneIN_c h0 hl
  | some x => exact cloneIS_c h0 hl

end Go.Proofs.YtcpmjogeafhpnaaDoor
/- Fields are in one order. -/
set_option linter.all false
set_option maxRecDepth 100000
namespace Go.Proofs.YtcpmjogeafhpnaaDoor
open Go.RowKit Go.Sep
attribute [local irreducible] Go.wpList Go.Code.wp

theorem fcs_set : ∀ (L : List Fe) (i : Nat) (y : Fe), i < L.length → fcs (L.set i y) = (fcs L).take (i * 3) ++ fc y ++ (fcs L).drop ((i + 1) * 3)
  | [], _, _, h => by simp at h
  | x :: L, 0, y, _ => by
    show fc y ++ fcs L = (fc x ++ fcs L).take (0 * 3) ++ fc y ++ (fc x ++ fcs L).drop ((0 + 1) * 3)
    rw [Nat.zero_mul, List.take_zero, List.nil_append]; rfl
  | x :: L, i + 1, y, h => by
    have ih := fcs_set L i y (by simpa using h)
    show fc x ++ fcs (L.set i y) = (fc x ++ fcs L).take ((i + 1) * 3) ++ fc y ++ (fc x ++ fcs L).drop ((i + 1 + 1) * 3)
    rw [ih, List.take_append, List.take_of_length_le (l := fc x) (by show 3 ≤ _; omega), List.drop_append, List.drop_of_length_le (l := fc x) (by show 3 ≤ _; omega), List.nil_append]
    rw [show (i + 1) * 3 - (fc x).length = i * 3 by show (i + 1) * 3 - 3 = _; omega, show (i + 1 + 1) * 3 - (fc x).length = (i + 1) * 3 by show (i + 1 + 1) * 3 - 3 = _; omega]
    simp only [List.append_assoc]
theorem row_idx39 {w : World} {g n cap i : Nat} (h : i < n) : (Instr.indexAt 22 (.slice (some ⟨g, 0, none⟩) n cap) (.int .i64 ((i : Nat) : Int))).run Tryd.prog w = .ok (.pointer (some ⟨g, i * 3, none⟩)) w := by
  have h2 : (i : Int) < (n : Int) := by omega
  simp [Instr.indexAt, asIntOf, run_underlying under22s, size39s, h2, addr_addO]
  intro h3; omega
theorem run_remI {w : World} {t : TypeId} {a b : Nat} (hb : 0 < b) : (binOp .rem t (.int .i64 ((a : Nat) : Int)) (.int .i64 ((b : Nat) : Int))).run Tryd.prog w = .ok (.int .i64 ((a % b : Nat) : Int)) w := by
  have : ¬ ((b : Int) = 0) := by omega
  simp [binOp, Op.intDiv, this, nat_rem]
  intro h; omega
end Go.Proofs.YtcpmjogeafhpnaaDoor
/- A patch that is not written: its error. -/
set_option linter.all false
set_option maxRecDepth 100000
namespace Go.Proofs.YtcpmjogeafhpnaaDoor
open Go.RowKit Go.Sep
attribute [local irreducible] Go.wpList Go.Code.wp

/-- a text that is too long, a kind that no byte tells -/
def lgB (x : Fe) : Bool := decide (255 < x.a.length) || decide (255 < x.v.length)
def skB (x : Fe) : Bool := decide (x.k < 0) || decide (255 < x.k)
def siB (k : Int) : Bool := decide (k < 0) || decide (255 < k)
theorem any_noF {p : Fe → Bool} {L : List Fe} (h : ∀ j, j < L.length → p (L.getD j Fe.z) = false) : (0 : Int) ≤ -1 ↔ L.any p = true := by
  refine ⟨fun q => by omega, fun q => ?_⟩
  obtain ⟨x, hx, hp⟩ := List.any_eq_true.1 q
  obtain ⟨i, hi, he⟩ := List.getElem_of_mem hx
  have := h i hi
  rw [show L.getD i Fe.z = x by simp [hi, he], hp] at this; cases this
theorem any_yesF {p : Fe → Bool} {L : List Fe} {i : Nat} (hi : i < L.length) (h : p (L.getD i Fe.z) = true) : (0 : Int) ≤ ((i : Nat) : Int) ↔ L.any p = true :=
  ⟨fun _ => List.any_eq_true.2 ⟨_, getD_mem hi, h⟩, fun _ => by omega⟩
theorem any_nextF {p : Fe → Bool} {L : List Fe} {i : Nat} (h : ∀ j, j < i → p (L.getD j Fe.z) = false) (hi : p (L.getD i Fe.z) = false) : ∀ j, j < i + 1 → p (L.getD j Fe.z) = false := fun j hj => by
  by_cases e : j = i
  · subst e; exact hi
  · exact h j (by omega)
theorem any_noI {p : Int → Bool} {L : List Int} (h : ∀ j, j < L.length → p (L.getD j 0) = false) : (0 : Int) ≤ -1 ↔ L.any p = true := by
  refine ⟨fun q => by omega, fun q => ?_⟩
  obtain ⟨x, hx, hp⟩ := List.any_eq_true.1 q
  obtain ⟨i, hi, he⟩ := List.getElem_of_mem hx
  have := h i hi
  rw [show L.getD i 0 = x by simp [hi, he], hp] at this; cases this
theorem any_yesI {p : Int → Bool} {L : List Int} {i : Nat} (hi : i < L.length) (h : p (L.getD i 0) = true) : (0 : Int) ≤ ((i : Nat) : Int) ↔ L.any p = true :=
  ⟨fun _ => List.any_eq_true.2 ⟨L.getD i 0, by simp [hi], h⟩, fun _ => by omega⟩
theorem any_nextI {p : Int → Bool} {L : List Int} {i : Nat} (h : ∀ j, j < i → p (L.getD j 0) = false) (hi : p (L.getD i 0) = false) : ∀ j, j < i + 1 → p (L.getD j 0) = false := fun j hj => by
  by_cases e : j = i
  · subst e; exact hi
  · exact h j (by omega)
theorem any_dec {z : Int} {b : Bool} (h : 0 ≤ z ↔ b = true) : decide (0 ≤ z) = b := by
  cases b
  · exact decide_eq_false fun q => by cases h.1 q
  · exact decide_eq_true (h.2 rfl)
/-- the error of a patch that is written -/
def ptE (A D : List Fe) (K : List Int) : Nat := if (A.any lgB || D.any lgB) = true then 9 else if (A.any skB || D.any skB || K.any siB) = true then 1 else 0

set_option maxHeartbeats 400000 in
theorem longG_c {I : IM} {z : Int} {A B : List UInt8} : Fun Tryd.prog 108 #[.agg #[.int .i64 z, .string ⟨A.toArray⟩, .string ⟨B.toArray⟩]] I (fun v J => v = .bool (lgB ⟨z, A, B⟩)) := by
  refine enter_rule 13 [(0, .agg #[.int .i64 z, .string ⟨(A).toArray⟩, .string ⟨(B).toArray⟩])] Tryd.func108 rfl (by kernel_rfl) ?_
  intro w s
  refine wp_seq ?_
  refine region_rule ?_
  refine ops_rule (C := []) [] [] 2 [] 1 (fun φ1 => [(2, .bool false), (1, .pointer (some ⟨(φ1 0), 0, none⟩))]) (fun φ1 => [((φ1 0), .cells #[.int .i64 z, .string ⟨(A).toArray⟩, .string ⟨(B).toArray⟩] 39)]) (fun φ1 => []) s trivial (fun φ1 => by kernel_rfl) ?_
  intro φ1 w1 s
  refine ops_done (by kernel_rfl) ?_
  refine wp_seq ?_
  refine region_rule ?_
  refine ops_rule (C := []) [((φ1 0), .cells #[.int .i64 z, .string ⟨(A).toArray⟩, .string ⟨(B).toArray⟩] 39)] [] 5 [.o 0] 0 (fun φ2 => [(7, .bool (decide (((A.length : Nat) : Int) > ((255 : Nat) : Int)))), (6, .bool (decide (((A.length : Nat) : Int) > ((255 : Nat) : Int)))), (5, .int .i64 ((A.length : Nat) : Int)), (4, .string ⟨(A).toArray⟩), (3, .pointer (some ⟨(φ1 0), 1, none⟩))]) (fun φ2 => [((φ1 0), .cells #[.int .i64 z, .string ⟨(A).toArray⟩, .string ⟨(B).toArray⟩] 39)]) (fun φ2 => [(φ1 0)]) s trivial (fun φ2 => by kernel_rfl) ?_
  intro φ2 w2 s
  rw [nat_gtr (a := A.length) (b := 255)]
  rcases Bool.eq_false_or_eq_true (decide (255 < A.length)) with hc3 | hc3
  ·
    rw [hc3]
    refine ops_rule (C := []) [((φ1 0), .cells #[.int .i64 z, .string ⟨(A).toArray⟩, .string ⟨(B).toArray⟩] 39)] [] 6 [] 0 (fun φ4 => [(2, .bool true), (12, .bool true), (11, undef), (10, undef), (9, undef), (8, undef)]) (fun φ4 => [((φ1 0), .cells #[.int .i64 z, .string ⟨(A).toArray⟩, .string ⟨(B).toArray⟩] 39)]) (fun φ4 => []) s trivial (fun φ4 => by kernel_rfl) ?_
    intro φ4 w4 s
    refine ops_done (by kernel_rfl) ?_
    refine wp_ret ?_
    refine ret_rule (C := []) [((φ1 0), .cells #[.int .i64 z, .string ⟨(A).toArray⟩, .string ⟨(B).toArray⟩] 39)] [] (.bool true) [] [] s trivial (by kernel_rfl) ?_
    exact ⟨_, _, _, rfl, s, (congrArg Value.bool (by have hq0 := of_decide_eq_true hc3; unfold lgB; symm; simp; omega))⟩
  ·
    rw [hc3]
    refine ops_rule (C := []) [((φ1 0), .cells #[.int .i64 z, .string ⟨(A).toArray⟩, .string ⟨(B).toArray⟩] 39)] [] 6 [.o 0] 0 (fun φ5 => [(2, .bool (decide (((B.length : Nat) : Int) > ((255 : Nat) : Int)))), (12, .bool (decide (((B.length : Nat) : Int) > ((255 : Nat) : Int)))), (11, .bool (decide (((B.length : Nat) : Int) > ((255 : Nat) : Int)))), (10, .int .i64 ((B.length : Nat) : Int)), (9, .string ⟨(B).toArray⟩), (8, .pointer (some ⟨(φ1 0), 2, none⟩))]) (fun φ5 => [((φ1 0), .cells #[.int .i64 z, .string ⟨(A).toArray⟩, .string ⟨(B).toArray⟩] 39)]) (fun φ5 => [(φ1 0)]) s trivial (fun φ5 => by kernel_rfl) ?_
    intro φ5 w5 s
    rw [nat_gtr (a := B.length) (b := 255)]
    refine ops_done (by kernel_rfl) ?_
    refine wp_ret ?_
    refine ret_rule (C := []) [((φ1 0), .cells #[.int .i64 z, .string ⟨(A).toArray⟩, .string ⟨(B).toArray⟩] 39)] [] (.bool (decide (255 < B.length))) [] [] s trivial (by kernel_rfl) ?_
    exact ⟨_, _, _, rfl, s, (congrArg Value.bool (by have hq0 := of_decide_eq_false hc3; unfold lgB; symm; simp; omega))⟩

set_option maxHeartbeats 400000 in
theorem strangeG_c {I : IM} {z : Int} : Fun Tryd.prog 81 #[.int .i64 z] I (fun v J => v = .bool (siB z)) := by
  refine enter_rule 9 [(0, .int .i64 z)] Tryd.func81 rfl (by kernel_rfl) ?_
  intro w s
  refine wp_seq ?_
  refine region_rule ?_
  refine ops_rule (C := []) [] [] 1 [] 0 (fun φ1 => [(2, .bool false)]) (fun φ1 => []) (fun φ1 => []) s trivial (fun φ1 => by kernel_rfl) ?_
  intro φ1 w1 s
  refine ops_done (by kernel_rfl) ?_
  refine wp_seq ?_
  refine region_rule ?_
  refine ops_rule (C := []) [] [] 3 [] 0 (fun φ2 => [(5, .bool (decide (z < ((0 : Nat) : Int)))), (4, .bool (decide (z < ((0 : Nat) : Int)))), (3, .int .i64 z)]) (fun φ2 => []) (fun φ2 => []) s trivial (fun φ2 => by kernel_rfl) ?_
  intro φ2 w2 s
  rcases Bool.eq_false_or_eq_true (decide (z < ((0 : Nat) : Int))) with hc3 | hc3
  ·
    rw [hc3]
    refine ops_rule (C := []) [] [] 4 [] 0 (fun φ4 => [(2, .bool true), (8, .bool true), (7, undef), (6, undef)]) (fun φ4 => []) (fun φ4 => []) s trivial (fun φ4 => by kernel_rfl) ?_
    intro φ4 w4 s
    refine ops_done (by kernel_rfl) ?_
    refine wp_ret ?_
    refine ret_rule (C := []) [] [] (.bool true) [] [] s trivial (by kernel_rfl) ?_
    exact ⟨_, _, _, rfl, s, (congrArg Value.bool (by have hq0 := of_decide_eq_true hc3; unfold siB; symm; simp; omega))⟩
  ·
    rw [hc3]
    refine ops_rule (C := []) [] [] 4 [] 0 (fun φ5 => [(2, .bool (decide (z > ((255 : Nat) : Int)))), (8, .bool (decide (z > ((255 : Nat) : Int)))), (7, .bool (decide (z > ((255 : Nat) : Int)))), (6, .int .i64 z)]) (fun φ5 => []) (fun φ5 => []) s trivial (fun φ5 => by kernel_rfl) ?_
    intro φ5 w5 s
    refine ops_done (by kernel_rfl) ?_
    refine wp_ret ?_
    refine ret_rule (C := []) [] [] (.bool (decide (z > ((255 : Nat) : Int)))) [] [] s trivial (by kernel_rfl) ?_
    exact ⟨_, _, _, rfl, s, (congrArg Value.bool (by have hq0 := of_decide_eq_false hc3; unfold siB; symm; simp; omega))⟩

set_option maxHeartbeats 400000 in
theorem strangeKG_c {I : IM} {z : Int} {A B : List UInt8} : Fun Tryd.prog 79 #[.agg #[.int .i64 z, .string ⟨A.toArray⟩, .string ⟨B.toArray⟩]] I (fun v J => v = .bool (skB ⟨z, A, B⟩)) := by
  refine enter_rule 6 [(0, .agg #[.int .i64 z, .string ⟨(A).toArray⟩, .string ⟨(B).toArray⟩])] Tryd.func79 rfl (by kernel_rfl) ?_
  intro w s
  refine wp_seq ?_
  refine region_rule ?_
  refine ops_rule (C := []) [] [] 2 [] 1 (fun φ1 => [(2, .bool false), (1, .pointer (some ⟨(φ1 0), 0, none⟩))]) (fun φ1 => [((φ1 0), .cells #[.int .i64 z, .string ⟨(A).toArray⟩, .string ⟨(B).toArray⟩] 39)]) (fun φ1 => []) s trivial (fun φ1 => by kernel_rfl) ?_
  intro φ1 w1 s
  refine ops_done (by kernel_rfl) ?_
  refine wp_seq ?_
  refine region_rule ?_
  refine ops_rule (C := []) [((φ1 0), .cells #[.int .i64 z, .string ⟨(A).toArray⟩, .string ⟨(B).toArray⟩] 39)] [] 2 [.o 0] 0 (fun φ2 => [(4, .int .i64 z), (3, .pointer (some ⟨(φ1 0), 0, none⟩))]) (fun φ2 => [((φ1 0), .cells #[.int .i64 z, .string ⟨(A).toArray⟩, .string ⟨(B).toArray⟩] 39)]) (fun φ2 => [(φ1 0)]) s trivial (fun φ2 => by kernel_rfl) ?_
  intro φ2 w2 s
  refine call_rule (some 5) s (strangeG_c (z := z)) (by kernel_rfl) ?_
  intro v3 I3 w3 le3 h3 s
  obtain rfl := h3
  refine ops_rule (C := []) [((φ1 0), .cells #[.int .i64 z, .string ⟨(A).toArray⟩, .string ⟨(B).toArray⟩] 39)] [] 1 [] 0 (fun φ4 => [(2, .bool (siB z))]) (fun φ4 => [((φ1 0), .cells #[.int .i64 z, .string ⟨(A).toArray⟩, .string ⟨(B).toArray⟩] 39)]) (fun φ4 => []) s trivial (fun φ4 => by kernel_rfl) ?_
  intro φ4 w4 s
  refine ops_done (by kernel_rfl) ?_
  refine wp_ret ?_
  refine ret_rule (C := []) [((φ1 0), .cells #[.int .i64 z, .string ⟨(A).toArray⟩, .string ⟨(B).toArray⟩] 39)] [] (.bool (siB z)) [] [] s trivial (by kernel_rfl) ?_
  exact ⟨_, _, _, rfl, s, rfl⟩

set_option maxHeartbeats 2000000 in
theorem indexG108_c {I : IM} {L : List Fe} {a0 : Option Addr} {c0 : Nat} (h0 : FSl I L (.slice a0 L.length c0)) (hl : L.length ≤ 1000) : Fun Tryd.prog 109 #[.slice a0 L.length c0, .func (.func 108) #[] #[]] I (fun v J => ∃ z : Int, v = .int .i64 z ∧ (0 ≤ z ↔ L.any lgB = true)) := by
  refine enter_rule 19 [(0, .slice a0 L.length c0), (1, .func (.func 108) #[] #[])] Tryd.func109 rfl (by kernel_rfl) ?_
  intro w s
  refine wp_seq ?_
  refine region_rule ?_
  refine ops_rule (C := []) [] [] 1 [] 0 (fun φ1 => [(4, .int .i64 0)]) (fun φ1 => []) (fun φ1 => []) s trivial (fun φ1 => by kernel_rfl) ?_
  intro φ1 w1 s
  refine ops_done (by kernel_rfl) ?_
  refine wp_seq ?_
  refine wp_seq ?_
  refine region_rule ?_
  refine ops_rule (C := []) [] [] 3 [] 0 (fun φ2 => [(8, .int .i64 0), (7, .int .i64 ((L.length : Nat) : Int)), (6, .slice a0 L.length c0)]) (fun φ2 => []) (fun φ2 => []) s trivial (fun φ2 => by kernel_rfl) ?_
  intro φ2 w2 s
  refine ops_done (by kernel_rfl) ?_
  refine wp_block ?_
  have hle3 := IM.Le.refl I
  refine loop_rule (fun (x : Nat) => [(0, .slice a0 L.length c0), (1, .func (.func 108) #[] #[]), (4, .int .i64 0), (6, .slice a0 L.length c0), (7, .int .i64 ((L.length : Nat) : Int)), (8, .int .i64 ((x : Nat) : Int))]) (fun (x : Nat) => []) (fun m (x : Nat) J => IM.Le I J ∧ x + m = L.length ∧ (∀ j, j < x → lgB (L.getD j Fe.z) = false)) (L.length) 0 s (by kernel_rfl) List.Sublist.slnil ⟨IM.Le.refl _, Nat.zero_add _, fun j h => by omega⟩ ?_
  rintro m4 i4 I4 w4 ev4 s ⟨le4, hi4_0, hi4_1⟩
  try dsimp only at s hi4_0 hi4_1 ⊢
  replace h0 := FSl.mono le4 h0
  replace hle3 := leMono le4 hle3
  refine wp_seq ?_
  refine region_rule ?_
  refine ops_rule (C := []) [] [] 1 [] 0 (fun φ5 => [(9, .bool (decide (((i4 : Nat) : Int) < ((L.length : Nat) : Int))))]) (fun φ5 => []) (fun φ5 => []) s trivial (fun φ5 => by kernel_rfl) ?_
  intro φ5 w5 s
  rw [nat_lss (a := i4) (b := L.length)]
  refine ops_done (by kernel_rfl) ?_
  refine wp_seq ?_
  rcases Bool.eq_false_or_eq_true (decide (i4 < L.length)) with hc6 | hc6
  ·
    rw [hc6]
    refine cond_true_rule (b := true) (by kernel_rfl) rfl ?_
    refine wp_skip ?_
    refine wp_seq ?_
    refine wp_block ?_
    refine wp_seq ?_
    refine region_rule ?_
    refine ops_rule (C := []) [] [] 2 [] 0 (fun φ7 => [(5, .int .i64 ((i4 : Nat) : Int)), (10, .int .i64 ((i4 : Nat) : Int))]) (fun φ7 => []) (fun φ7 => []) s trivial (fun φ7 => by kernel_rfl) ?_
    intro φ7 w7 s
    refine ops_done (by kernel_rfl) ?_
    refine wp_seq ?_
    refine region_rule ?_
    refine ops_rule (C := []) [] [] 3 [] 0 (fun φ8 => [(13, .int .i64 ((i4 : Nat) : Int)), (12, .slice a0 L.length c0), (11, .func (.func 108) #[] #[])]) (fun φ8 => []) (fun φ8 => []) s trivial (fun φ8 => by kernel_rfl) ?_
    intro φ8 w8 s
    refine sem_rule (Instr.indexAt 22 (.slice a0 L.length c0) (.int .i64 ((i4 : Nat) : Int))) (some 14) (.pointer (pAt a0 (i4 * 3))) (by kernel_rfl) (fsl_idx22 h0 (by have e8 := hi4_0; have hq0 := of_decide_eq_true hc6; omega)) ?_
    refine sem_rule (Instr.loadAt 39 (.pointer (pAt a0 (i4 * 3)))) (some 15) (.agg #[.int .i64 ((List.getD L i4 Fe.z).k), .string ⟨((List.getD L i4 Fe.z).a).toArray⟩, .string ⟨((List.getD L i4 Fe.z).v).toArray⟩]) (by kernel_rfl) (fsl_ld39 s.sub h0 (by have e8 := hi4_0; have hq0 := of_decide_eq_true hc6; omega)) ?_
    refine call_rule (some 16) s (longG_c (z := (List.getD L i4 Fe.z).k) (A := (List.getD L i4 Fe.z).a) (B := (List.getD L i4 Fe.z).v)) (by kernel_rfl) ?_
    intro v9 I9 w9 le9 h9 s
    replace h0 := FSl.mono le9 h0
    replace hle3 := leMono le9 hle3
    obtain rfl := h9
    refine ops_done (by kernel_rfl) ?_
    rcases Bool.eq_false_or_eq_true (lgB (List.getD L i4 Fe.z)) with hc10 | hc10
    ·
      rw [hc10]
      refine cond_true_rule (b := true) (by kernel_rfl) rfl ?_
      refine wp_seq ?_
      refine region_rule ?_
      refine ops_rule (C := []) [] [] 2 [] 0 (fun φ11 => [(4, .int .i64 ((i4 : Nat) : Int)), (17, .int .i64 ((i4 : Nat) : Int))]) (fun φ11 => []) (fun φ11 => []) s trivial (fun φ11 => by kernel_rfl) ?_
      intro φ11 w11 s
      refine ops_done (by kernel_rfl) ?_
      refine wp_ret ?_
      refine ret_rule (C := []) [] [] (.int .i64 ((i4 : Nat) : Int)) [] [] s trivial (by kernel_rfl) ?_
      exact ⟨_, _, _, rfl, s, ⟨_, rfl, any_yesF (by have hq0 := of_decide_eq_true hc6; have := hi4_0; omega) hc10⟩⟩
    ·
      rw [hc10]
      refine cond_false_rule (b := false) (by kernel_rfl) rfl ?_
      refine wp_skip ?_
      refine region_rule ?_
      refine ops_rule (C := []) [] [] 2 [] 0 (fun φ12 => [(8, .int .i64 (IntKind.wrap .i64 (((i4 : Nat) : Int) + ((1 : Nat) : Int)))), (18, .int .i64 (IntKind.wrap .i64 (((i4 : Nat) : Int) + ((1 : Nat) : Int))))]) (fun φ12 => []) (fun φ12 => []) s trivial (fun φ12 => by kernel_rfl) ?_
      intro φ12 w12 s
      rw [nat_addI (a := i4) (b := 1) (by have e8 := hi4_0; have hq0 := of_decide_eq_true hc6; omega)]
      refine ops_done (by kernel_rfl) ?_
      exact ⟨⟨m4 - 1, i4 + 1, _, _, _, by have hq0 := of_decide_eq_true hc6; have := hi4_0; omega, rfl, s, List.Sublist.slnil, by kernel_rfl, hle3, by have hq0 := of_decide_eq_true hc6; have := hi4_0; show i4 + 1 + (m4 - 1) = L.length; omega, (any_nextF hi4_1 hc10)⟩⟩
  ·
    rw [hc6]
    refine cond_false_rule (b := false) (by kernel_rfl) rfl ?_
    refine wp_exit ?_
    refine wp_seq ?_
    refine region_rule ?_
    refine ops_rule (C := []) [] [] 1 [] 0 (fun φ13 => [(4, .int .i64 (-1))]) (fun φ13 => []) (fun φ13 => []) s trivial (fun φ13 => by kernel_rfl) ?_
    intro φ13 w13 s
    refine ops_done (by kernel_rfl) ?_
    refine wp_ret ?_
    refine ret_rule (C := []) [] [] (.int .i64 (-1)) [] [] s trivial (by kernel_rfl) ?_
    exact ⟨_, _, _, rfl, s, ⟨_, rfl, any_noF (by have ei : i4 = L.length := (by have hq0 := of_decide_eq_false hc6; have := hi4_0; omega); have h9 := hi4_1; rw [ei] at h9; exact h9)⟩⟩

set_option maxHeartbeats 2000000 in
theorem indexG79_c {I : IM} {L : List Fe} {a0 : Option Addr} {c0 : Nat} (h0 : FSl I L (.slice a0 L.length c0)) (hl : L.length ≤ 1000) : Fun Tryd.prog 109 #[.slice a0 L.length c0, .func (.func 79) #[] #[]] I (fun v J => ∃ z : Int, v = .int .i64 z ∧ (0 ≤ z ↔ L.any skB = true)) := by
  refine enter_rule 19 [(0, .slice a0 L.length c0), (1, .func (.func 79) #[] #[])] Tryd.func109 rfl (by kernel_rfl) ?_
  intro w s
  refine wp_seq ?_
  refine region_rule ?_
  refine ops_rule (C := []) [] [] 1 [] 0 (fun φ1 => [(4, .int .i64 0)]) (fun φ1 => []) (fun φ1 => []) s trivial (fun φ1 => by kernel_rfl) ?_
  intro φ1 w1 s
  refine ops_done (by kernel_rfl) ?_
  refine wp_seq ?_
  refine wp_seq ?_
  refine region_rule ?_
  refine ops_rule (C := []) [] [] 3 [] 0 (fun φ2 => [(8, .int .i64 0), (7, .int .i64 ((L.length : Nat) : Int)), (6, .slice a0 L.length c0)]) (fun φ2 => []) (fun φ2 => []) s trivial (fun φ2 => by kernel_rfl) ?_
  intro φ2 w2 s
  refine ops_done (by kernel_rfl) ?_
  refine wp_block ?_
  have hle3 := IM.Le.refl I
  refine loop_rule (fun (x : Nat) => [(0, .slice a0 L.length c0), (1, .func (.func 79) #[] #[]), (4, .int .i64 0), (6, .slice a0 L.length c0), (7, .int .i64 ((L.length : Nat) : Int)), (8, .int .i64 ((x : Nat) : Int))]) (fun (x : Nat) => []) (fun m (x : Nat) J => IM.Le I J ∧ x + m = L.length ∧ (∀ j, j < x → skB (L.getD j Fe.z) = false)) (L.length) 0 s (by kernel_rfl) List.Sublist.slnil ⟨IM.Le.refl _, Nat.zero_add _, fun j h => by omega⟩ ?_
  rintro m4 i4 I4 w4 ev4 s ⟨le4, hi4_0, hi4_1⟩
  try dsimp only at s hi4_0 hi4_1 ⊢
  replace h0 := FSl.mono le4 h0
  replace hle3 := leMono le4 hle3
  refine wp_seq ?_
  refine region_rule ?_
  refine ops_rule (C := []) [] [] 1 [] 0 (fun φ5 => [(9, .bool (decide (((i4 : Nat) : Int) < ((L.length : Nat) : Int))))]) (fun φ5 => []) (fun φ5 => []) s trivial (fun φ5 => by kernel_rfl) ?_
  intro φ5 w5 s
  rw [nat_lss (a := i4) (b := L.length)]
  refine ops_done (by kernel_rfl) ?_
  refine wp_seq ?_
  rcases Bool.eq_false_or_eq_true (decide (i4 < L.length)) with hc6 | hc6
  ·
    rw [hc6]
    refine cond_true_rule (b := true) (by kernel_rfl) rfl ?_
    refine wp_skip ?_
    refine wp_seq ?_
    refine wp_block ?_
    refine wp_seq ?_
    refine region_rule ?_
    refine ops_rule (C := []) [] [] 2 [] 0 (fun φ7 => [(5, .int .i64 ((i4 : Nat) : Int)), (10, .int .i64 ((i4 : Nat) : Int))]) (fun φ7 => []) (fun φ7 => []) s trivial (fun φ7 => by kernel_rfl) ?_
    intro φ7 w7 s
    refine ops_done (by kernel_rfl) ?_
    refine wp_seq ?_
    refine region_rule ?_
    refine ops_rule (C := []) [] [] 3 [] 0 (fun φ8 => [(13, .int .i64 ((i4 : Nat) : Int)), (12, .slice a0 L.length c0), (11, .func (.func 79) #[] #[])]) (fun φ8 => []) (fun φ8 => []) s trivial (fun φ8 => by kernel_rfl) ?_
    intro φ8 w8 s
    refine sem_rule (Instr.indexAt 22 (.slice a0 L.length c0) (.int .i64 ((i4 : Nat) : Int))) (some 14) (.pointer (pAt a0 (i4 * 3))) (by kernel_rfl) (fsl_idx22 h0 (by have e8 := hi4_0; have hq0 := of_decide_eq_true hc6; omega)) ?_
    refine sem_rule (Instr.loadAt 39 (.pointer (pAt a0 (i4 * 3)))) (some 15) (.agg #[.int .i64 ((List.getD L i4 Fe.z).k), .string ⟨((List.getD L i4 Fe.z).a).toArray⟩, .string ⟨((List.getD L i4 Fe.z).v).toArray⟩]) (by kernel_rfl) (fsl_ld39 s.sub h0 (by have e8 := hi4_0; have hq0 := of_decide_eq_true hc6; omega)) ?_
    refine call_rule (some 16) s (strangeKG_c (z := (List.getD L i4 Fe.z).k) (A := (List.getD L i4 Fe.z).a) (B := (List.getD L i4 Fe.z).v)) (by kernel_rfl) ?_
    intro v9 I9 w9 le9 h9 s
    replace h0 := FSl.mono le9 h0
    replace hle3 := leMono le9 hle3
    obtain rfl := h9
    refine ops_done (by kernel_rfl) ?_
    rcases Bool.eq_false_or_eq_true (skB (List.getD L i4 Fe.z)) with hc10 | hc10
    ·
      rw [hc10]
      refine cond_true_rule (b := true) (by kernel_rfl) rfl ?_
      refine wp_seq ?_
      refine region_rule ?_
      refine ops_rule (C := []) [] [] 2 [] 0 (fun φ11 => [(4, .int .i64 ((i4 : Nat) : Int)), (17, .int .i64 ((i4 : Nat) : Int))]) (fun φ11 => []) (fun φ11 => []) s trivial (fun φ11 => by kernel_rfl) ?_
      intro φ11 w11 s
      refine ops_done (by kernel_rfl) ?_
      refine wp_ret ?_
      refine ret_rule (C := []) [] [] (.int .i64 ((i4 : Nat) : Int)) [] [] s trivial (by kernel_rfl) ?_
      exact ⟨_, _, _, rfl, s, ⟨_, rfl, any_yesF (by have hq0 := of_decide_eq_true hc6; have := hi4_0; omega) hc10⟩⟩
    ·
      rw [hc10]
      refine cond_false_rule (b := false) (by kernel_rfl) rfl ?_
      refine wp_skip ?_
      refine region_rule ?_
      refine ops_rule (C := []) [] [] 2 [] 0 (fun φ12 => [(8, .int .i64 (IntKind.wrap .i64 (((i4 : Nat) : Int) + ((1 : Nat) : Int)))), (18, .int .i64 (IntKind.wrap .i64 (((i4 : Nat) : Int) + ((1 : Nat) : Int))))]) (fun φ12 => []) (fun φ12 => []) s trivial (fun φ12 => by kernel_rfl) ?_
      intro φ12 w12 s
      rw [nat_addI (a := i4) (b := 1) (by have e8 := hi4_0; have hq0 := of_decide_eq_true hc6; omega)]
      refine ops_done (by kernel_rfl) ?_
      exact ⟨⟨m4 - 1, i4 + 1, _, _, _, by have hq0 := of_decide_eq_true hc6; have := hi4_0; omega, rfl, s, List.Sublist.slnil, by kernel_rfl, hle3, by have hq0 := of_decide_eq_true hc6; have := hi4_0; show i4 + 1 + (m4 - 1) = L.length; omega, (any_nextF hi4_1 hc10)⟩⟩
  ·
    rw [hc6]
    refine cond_false_rule (b := false) (by kernel_rfl) rfl ?_
    refine wp_exit ?_
    refine wp_seq ?_
    refine region_rule ?_
    refine ops_rule (C := []) [] [] 1 [] 0 (fun φ13 => [(4, .int .i64 (-1))]) (fun φ13 => []) (fun φ13 => []) s trivial (fun φ13 => by kernel_rfl) ?_
    intro φ13 w13 s
    refine ops_done (by kernel_rfl) ?_
    refine wp_ret ?_
    refine ret_rule (C := []) [] [] (.int .i64 (-1)) [] [] s trivial (by kernel_rfl) ?_
    exact ⟨_, _, _, rfl, s, ⟨_, rfl, any_noF (by have ei : i4 = L.length := (by have hq0 := of_decide_eq_false hc6; have := hi4_0; omega); have h9 := hi4_1; rw [ei] at h9; exact h9)⟩⟩

set_option maxHeartbeats 1000000 in
theorem containsG108_c {I : IM} {L : List Fe} {a0 : Option Addr} {c0 : Nat} (h0 : FSl I L (.slice a0 L.length c0)) (hl : L.length ≤ 1000) : Fun Tryd.prog 78 #[.slice a0 L.length c0, .func (.func 108) #[] #[]] I (fun v J => v = .bool (L.any lgB)) := by
  refine enter_rule 9 [(0, .slice a0 L.length c0), (1, .func (.func 108) #[] #[])] Tryd.func78 rfl (by kernel_rfl) ?_
  intro w s
  refine wp_seq ?_
  refine region_rule ?_
  refine ops_rule (C := []) [] [] 1 [] 0 (fun φ1 => [(4, .bool false)]) (fun φ1 => []) (fun φ1 => []) s trivial (fun φ1 => by kernel_rfl) ?_
  intro φ1 w1 s
  refine ops_done (by kernel_rfl) ?_
  refine wp_seq ?_
  refine region_rule ?_
  refine ops_rule (C := []) [] [] 2 [] 0 (fun φ2 => [(6, .func (.func 108) #[] #[]), (5, .slice a0 L.length c0)]) (fun φ2 => []) (fun φ2 => []) s trivial (fun φ2 => by kernel_rfl) ?_
  intro φ2 w2 s
  refine call_rule (some 7) s (indexG108_c h0 hl) (by kernel_rfl) ?_
  intro v3 I3 w3 le3 h3 s
  replace h0 := FSl.mono le3 h0
  obtain ⟨z3, rfl, h3_0⟩ := h3
  refine ops_rule (C := []) [] [] 2 [] 0 (fun φ4 => [(4, .bool (decide (z3 ≥ ((0 : Nat) : Int)))), (8, .bool (decide (z3 ≥ ((0 : Nat) : Int))))]) (fun φ4 => []) (fun φ4 => []) s trivial (fun φ4 => by kernel_rfl) ?_
  intro φ4 w4 s
  refine ops_done (by kernel_rfl) ?_
  refine wp_ret ?_
  refine ret_rule (C := []) [] [] (.bool (decide (z3 ≥ ((0 : Nat) : Int)))) [] [] s trivial (by kernel_rfl) ?_
  exact ⟨_, _, _, rfl, s, (congrArg Value.bool (any_dec h3_0))⟩

set_option maxHeartbeats 1000000 in
theorem containsG79_c {I : IM} {L : List Fe} {a0 : Option Addr} {c0 : Nat} (h0 : FSl I L (.slice a0 L.length c0)) (hl : L.length ≤ 1000) : Fun Tryd.prog 78 #[.slice a0 L.length c0, .func (.func 79) #[] #[]] I (fun v J => v = .bool (L.any skB)) := by
  refine enter_rule 9 [(0, .slice a0 L.length c0), (1, .func (.func 79) #[] #[])] Tryd.func78 rfl (by kernel_rfl) ?_
  intro w s
  refine wp_seq ?_
  refine region_rule ?_
  refine ops_rule (C := []) [] [] 1 [] 0 (fun φ1 => [(4, .bool false)]) (fun φ1 => []) (fun φ1 => []) s trivial (fun φ1 => by kernel_rfl) ?_
  intro φ1 w1 s
  refine ops_done (by kernel_rfl) ?_
  refine wp_seq ?_
  refine region_rule ?_
  refine ops_rule (C := []) [] [] 2 [] 0 (fun φ2 => [(6, .func (.func 79) #[] #[]), (5, .slice a0 L.length c0)]) (fun φ2 => []) (fun φ2 => []) s trivial (fun φ2 => by kernel_rfl) ?_
  intro φ2 w2 s
  refine call_rule (some 7) s (indexG79_c h0 hl) (by kernel_rfl) ?_
  intro v3 I3 w3 le3 h3 s
  replace h0 := FSl.mono le3 h0
  obtain ⟨z3, rfl, h3_0⟩ := h3
  refine ops_rule (C := []) [] [] 2 [] 0 (fun φ4 => [(4, .bool (decide (z3 ≥ ((0 : Nat) : Int)))), (8, .bool (decide (z3 ≥ ((0 : Nat) : Int))))]) (fun φ4 => []) (fun φ4 => []) s trivial (fun φ4 => by kernel_rfl) ?_
  intro φ4 w4 s
  refine ops_done (by kernel_rfl) ?_
  refine wp_ret ?_
  refine ret_rule (C := []) [] [] (.bool (decide (z3 ≥ ((0 : Nat) : Int)))) [] [] s trivial (by kernel_rfl) ?_
  exact ⟨_, _, _, rfl, s, (congrArg Value.bool (any_dec h3_0))⟩

set_option maxHeartbeats 2000000 in
theorem indexG81_c {I : IM} {L : List Int} {a0 : Option Addr} {c0 : Nat} (h0 : ISl I L (.slice a0 L.length c0)) (hl : L.length ≤ 1000) : Fun Tryd.prog 110 #[.slice a0 L.length c0, .func (.func 81) #[] #[]] I (fun v J => ∃ z : Int, v = .int .i64 z ∧ (0 ≤ z ↔ L.any siB = true)) := by
  refine enter_rule 19 [(0, .slice a0 L.length c0), (1, .func (.func 81) #[] #[])] Tryd.func110 rfl (by kernel_rfl) ?_
  intro w s
  refine wp_seq ?_
  refine region_rule ?_
  refine ops_rule (C := []) [] [] 1 [] 0 (fun φ1 => [(4, .int .i64 0)]) (fun φ1 => []) (fun φ1 => []) s trivial (fun φ1 => by kernel_rfl) ?_
  intro φ1 w1 s
  refine ops_done (by kernel_rfl) ?_
  refine wp_seq ?_
  refine wp_seq ?_
  refine region_rule ?_
  refine ops_rule (C := []) [] [] 3 [] 0 (fun φ2 => [(8, .int .i64 0), (7, .int .i64 ((L.length : Nat) : Int)), (6, .slice a0 L.length c0)]) (fun φ2 => []) (fun φ2 => []) s trivial (fun φ2 => by kernel_rfl) ?_
  intro φ2 w2 s
  refine ops_done (by kernel_rfl) ?_
  refine wp_block ?_
  have hle3 := IM.Le.refl I
  refine loop_rule (fun (x : Nat) => [(0, .slice a0 L.length c0), (1, .func (.func 81) #[] #[]), (4, .int .i64 0), (6, .slice a0 L.length c0), (7, .int .i64 ((L.length : Nat) : Int)), (8, .int .i64 ((x : Nat) : Int))]) (fun (x : Nat) => []) (fun m (x : Nat) J => IM.Le I J ∧ x + m = L.length ∧ (∀ j, j < x → siB (L.getD j 0) = false)) (L.length) 0 s (by kernel_rfl) List.Sublist.slnil ⟨IM.Le.refl _, Nat.zero_add _, fun j h => by omega⟩ ?_
  rintro m4 i4 I4 w4 ev4 s ⟨le4, hi4_0, hi4_1⟩
  try dsimp only at s hi4_0 hi4_1 ⊢
  replace h0 := ISl.mono le4 h0
  replace hle3 := leMono le4 hle3
  refine wp_seq ?_
  refine region_rule ?_
  refine ops_rule (C := []) [] [] 1 [] 0 (fun φ5 => [(9, .bool (decide (((i4 : Nat) : Int) < ((L.length : Nat) : Int))))]) (fun φ5 => []) (fun φ5 => []) s trivial (fun φ5 => by kernel_rfl) ?_
  intro φ5 w5 s
  rw [nat_lss (a := i4) (b := L.length)]
  refine ops_done (by kernel_rfl) ?_
  refine wp_seq ?_
  rcases Bool.eq_false_or_eq_true (decide (i4 < L.length)) with hc6 | hc6
  ·
    rw [hc6]
    refine cond_true_rule (b := true) (by kernel_rfl) rfl ?_
    refine wp_skip ?_
    refine wp_seq ?_
    refine wp_block ?_
    refine wp_seq ?_
    refine region_rule ?_
    refine ops_rule (C := []) [] [] 2 [] 0 (fun φ7 => [(5, .int .i64 ((i4 : Nat) : Int)), (10, .int .i64 ((i4 : Nat) : Int))]) (fun φ7 => []) (fun φ7 => []) s trivial (fun φ7 => by kernel_rfl) ?_
    intro φ7 w7 s
    refine ops_done (by kernel_rfl) ?_
    refine wp_seq ?_
    refine region_rule ?_
    refine ops_rule (C := []) [] [] 3 [] 0 (fun φ8 => [(13, .int .i64 ((i4 : Nat) : Int)), (12, .slice a0 L.length c0), (11, .func (.func 81) #[] #[])]) (fun φ8 => []) (fun φ8 => []) s trivial (fun φ8 => by kernel_rfl) ?_
    intro φ8 w8 s
    refine sem_rule (Instr.indexAt 52 (.slice a0 L.length c0) (.int .i64 ((i4 : Nat) : Int))) (some 14) (.pointer (pAt a0 i4)) (by kernel_rfl) (isl_idx h0 (by have e8 := hi4_0; have hq0 := of_decide_eq_true hc6; omega)) ?_
    refine sem_rule (Instr.loadAt 3 (.pointer (pAt a0 i4))) (some 15) (.int .i64 (List.getD L i4 0)) (by kernel_rfl) (isl_ld s.sub h0 (by have e8 := hi4_0; have hq0 := of_decide_eq_true hc6; omega)) ?_
    refine call_rule (some 16) s (strangeG_c (z := (List.getD L i4 0))) (by kernel_rfl) ?_
    intro v9 I9 w9 le9 h9 s
    replace h0 := ISl.mono le9 h0
    replace hle3 := leMono le9 hle3
    obtain rfl := h9
    refine ops_done (by kernel_rfl) ?_
    rcases Bool.eq_false_or_eq_true (siB (List.getD L i4 0)) with hc10 | hc10
    ·
      rw [hc10]
      refine cond_true_rule (b := true) (by kernel_rfl) rfl ?_
      refine wp_seq ?_
      refine region_rule ?_
      refine ops_rule (C := []) [] [] 2 [] 0 (fun φ11 => [(4, .int .i64 ((i4 : Nat) : Int)), (17, .int .i64 ((i4 : Nat) : Int))]) (fun φ11 => []) (fun φ11 => []) s trivial (fun φ11 => by kernel_rfl) ?_
      intro φ11 w11 s
      refine ops_done (by kernel_rfl) ?_
      refine wp_ret ?_
      refine ret_rule (C := []) [] [] (.int .i64 ((i4 : Nat) : Int)) [] [] s trivial (by kernel_rfl) ?_
      exact ⟨_, _, _, rfl, s, ⟨_, rfl, any_yesI (by have hq0 := of_decide_eq_true hc6; have := hi4_0; omega) hc10⟩⟩
    ·
      rw [hc10]
      refine cond_false_rule (b := false) (by kernel_rfl) rfl ?_
      refine wp_skip ?_
      refine region_rule ?_
      refine ops_rule (C := []) [] [] 2 [] 0 (fun φ12 => [(8, .int .i64 (IntKind.wrap .i64 (((i4 : Nat) : Int) + ((1 : Nat) : Int)))), (18, .int .i64 (IntKind.wrap .i64 (((i4 : Nat) : Int) + ((1 : Nat) : Int))))]) (fun φ12 => []) (fun φ12 => []) s trivial (fun φ12 => by kernel_rfl) ?_
      intro φ12 w12 s
      rw [nat_addI (a := i4) (b := 1) (by have e8 := hi4_0; have hq0 := of_decide_eq_true hc6; omega)]
      refine ops_done (by kernel_rfl) ?_
      exact ⟨⟨m4 - 1, i4 + 1, _, _, _, by have hq0 := of_decide_eq_true hc6; have := hi4_0; omega, rfl, s, List.Sublist.slnil, by kernel_rfl, hle3, by have hq0 := of_decide_eq_true hc6; have := hi4_0; show i4 + 1 + (m4 - 1) = L.length; omega, (any_nextI hi4_1 hc10)⟩⟩
  ·
    rw [hc6]
    refine cond_false_rule (b := false) (by kernel_rfl) rfl ?_
    refine wp_exit ?_
    refine wp_seq ?_
    refine region_rule ?_
    refine ops_rule (C := []) [] [] 1 [] 0 (fun φ13 => [(4, .int .i64 (-1))]) (fun φ13 => []) (fun φ13 => []) s trivial (fun φ13 => by kernel_rfl) ?_
    intro φ13 w13 s
    refine ops_done (by kernel_rfl) ?_
    refine wp_ret ?_
    refine ret_rule (C := []) [] [] (.int .i64 (-1)) [] [] s trivial (by kernel_rfl) ?_
    exact ⟨_, _, _, rfl, s, ⟨_, rfl, any_noI (by have ei : i4 = L.length := (by have hq0 := of_decide_eq_false hc6; have := hi4_0; omega); have h9 := hi4_1; rw [ei] at h9; exact h9)⟩⟩

set_option maxHeartbeats 1000000 in
theorem containsG81_c {I : IM} {L : List Int} {a0 : Option Addr} {c0 : Nat} (h0 : ISl I L (.slice a0 L.length c0)) (hl : L.length ≤ 1000) : Fun Tryd.prog 80 #[.slice a0 L.length c0, .func (.func 81) #[] #[]] I (fun v J => v = .bool (L.any siB)) := by
  refine enter_rule 9 [(0, .slice a0 L.length c0), (1, .func (.func 81) #[] #[])] Tryd.func80 rfl (by kernel_rfl) ?_
  intro w s
  refine wp_seq ?_
  refine region_rule ?_
  refine ops_rule (C := []) [] [] 1 [] 0 (fun φ1 => [(4, .bool false)]) (fun φ1 => []) (fun φ1 => []) s trivial (fun φ1 => by kernel_rfl) ?_
  intro φ1 w1 s
  refine ops_done (by kernel_rfl) ?_
  refine wp_seq ?_
  refine region_rule ?_
  refine ops_rule (C := []) [] [] 2 [] 0 (fun φ2 => [(6, .func (.func 81) #[] #[]), (5, .slice a0 L.length c0)]) (fun φ2 => []) (fun φ2 => []) s trivial (fun φ2 => by kernel_rfl) ?_
  intro φ2 w2 s
  refine call_rule (some 7) s (indexG81_c h0 hl) (by kernel_rfl) ?_
  intro v3 I3 w3 le3 h3 s
  replace h0 := ISl.mono le3 h0
  obtain ⟨z3, rfl, h3_0⟩ := h3
  refine ops_rule (C := []) [] [] 2 [] 0 (fun φ4 => [(4, .bool (decide (z3 ≥ ((0 : Nat) : Int)))), (8, .bool (decide (z3 ≥ ((0 : Nat) : Int))))]) (fun φ4 => []) (fun φ4 => []) s trivial (fun φ4 => by kernel_rfl) ?_
  intro φ4 w4 s
  refine ops_done (by kernel_rfl) ?_
  refine wp_ret ?_
  refine ret_rule (C := []) [] [] (.bool (decide (z3 ≥ ((0 : Nat) : Int)))) [] [] s trivial (by kernel_rfl) ?_
  exact ⟨_, _, _, rfl, s, (congrArg Value.bool (any_dec h3_0))⟩

set_option maxHeartbeats 1000000 in
theorem tooLongG_c {I : IM} {L : List Fe} {a0 : Option Addr} {c0 : Nat} (h0 : FSl I L (.slice a0 L.length c0)) (hl : L.length ≤ 255) : Fun Tryd.prog 77 #[.slice a0 L.length c0] I (fun v J => v = .bool (L.any lgB)) := by
  refine enter_rule 10 [(0, .slice a0 L.length c0)] Tryd.func77 rfl (by kernel_rfl) ?_
  intro w s
  refine wp_seq ?_
  refine region_rule ?_
  refine ops_rule (C := []) [] [] 1 [] 0 (fun φ1 => [(2, .bool false)]) (fun φ1 => []) (fun φ1 => []) s trivial (fun φ1 => by kernel_rfl) ?_
  intro φ1 w1 s
  refine ops_done (by kernel_rfl) ?_
  refine wp_seq ?_
  refine region_rule ?_
  refine ops_rule (C := []) [] [] 4 [] 0 (fun φ2 => [(6, .bool (decide (((L.length : Nat) : Int) > ((255 : Nat) : Int)))), (5, .bool (decide (((L.length : Nat) : Int) > ((255 : Nat) : Int)))), (4, .int .i64 ((L.length : Nat) : Int)), (3, .slice a0 L.length c0)]) (fun φ2 => []) (fun φ2 => []) s trivial (fun φ2 => by kernel_rfl) ?_
  intro φ2 w2 s
  rw [nat_gtr (a := L.length) (b := 255)]
  rcases Bool.eq_false_or_eq_true (decide (255 < L.length)) with hc3 | hc3
  ·
    exact absurd (of_decide_eq_true hc3) (by omega)
  ·
    rw [hc3]
    refine ops_rule (C := []) [] [] 1 [] 0 (fun φ4 => [(7, .slice a0 L.length c0)]) (fun φ4 => []) (fun φ4 => []) s trivial (fun φ4 => by kernel_rfl) ?_
    intro φ4 w4 s
    refine call_rule (some 8) s (containsG108_c h0 (by omega)) (by kernel_rfl) ?_
    intro v5 I5 w5 le5 h5 s
    replace h0 := FSl.mono le5 h0
    obtain rfl := h5
    refine ops_rule (C := []) [] [] 2 [] 0 (fun φ6 => [(2, .bool (L.any lgB)), (9, .bool (L.any lgB))]) (fun φ6 => []) (fun φ6 => []) s trivial (fun φ6 => by kernel_rfl) ?_
    intro φ6 w6 s
    refine ops_done (by kernel_rfl) ?_
    refine wp_ret ?_
    refine ret_rule (C := []) [] [] (.bool (L.any lgB)) [] [] s trivial (by kernel_rfl) ?_
    exact ⟨_, _, _, rfl, s, rfl⟩

set_option maxHeartbeats 2000000 in
theorem patchE_c {I : IM} {A D : List Fe} {K : List Int} {a1 a2 a3 : Option Addr} {c1 c2 c3 : Nat} (hA : FSl I A (.slice a1 A.length c1)) (hD : FSl I D (.slice a2 D.length c2)) (hK : ISl I K (.slice a3 K.length c3)) (hlA : A.length ≤ 255) (hlD : D.length ≤ 255) (hlK : K.length ≤ 255) (he : ptE A D K ≠ 0) : Fun Tryd.prog 44 #[.agg #[.slice a1 A.length c1, .slice a2 D.length c2, .slice a3 K.length c3]] I (fun v J => v = .tuple #[.slice none 0 0, .int .i64 ((ptE A D K : Nat) : Int)]) := by
  refine enter_rule 61 [(0, .agg #[.slice a1 A.length c1, .slice a2 D.length c2, .slice a3 K.length c3])] Tryd.func44 rfl (by kernel_rfl) ?_
  intro w s
  refine wp_seq ?_
  refine region_rule ?_
  refine ops_rule (C := []) [] [] 3 [] 1 (fun φ1 => [(3, .int .i64 0), (2, .slice none 0 0), (1, .pointer (some ⟨(φ1 0), 0, none⟩))]) (fun φ1 => [((φ1 0), .cells #[.slice a1 A.length c1, .slice a2 D.length c2, .slice a3 K.length c3] 56)]) (fun φ1 => []) s trivial (fun φ1 => by kernel_rfl) ?_
  intro φ1 w1 s
  refine ops_done (by kernel_rfl) ?_
  refine wp_seq ?_
  refine wp_seq ?_
  refine region_rule ?_
  refine ops_rule (C := []) [((φ1 0), .cells #[.slice a1 A.length c1, .slice a2 D.length c2, .slice a3 K.length c3] 56)] [] 5 [.o 0] 0 (fun φ2 => [(11, .bool (decide (((K.length : Nat) : Int) > ((255 : Nat) : Int)))), (10, .bool (decide (((K.length : Nat) : Int) > ((255 : Nat) : Int)))), (9, .int .i64 ((K.length : Nat) : Int)), (8, .slice a3 K.length c3), (7, .pointer (some ⟨(φ1 0), 2, none⟩))]) (fun φ2 => [((φ1 0), .cells #[.slice a1 A.length c1, .slice a2 D.length c2, .slice a3 K.length c3] 56)]) (fun φ2 => [(φ1 0)]) s trivial (fun φ2 => by kernel_rfl) ?_
  intro φ2 w2 s
  rw [nat_gtr (a := K.length) (b := 255)]
  rcases Bool.eq_false_or_eq_true (decide (255 < K.length)) with hc3 | hc3
  ·
    exact absurd (of_decide_eq_true hc3) (by omega)
  ·
    rw [hc3]
    refine ops_rule (C := []) [((φ1 0), .cells #[.slice a1 A.length c1, .slice a2 D.length c2, .slice a3 K.length c3] 56)] [] 2 [.o 0] 0 (fun φ4 => [(13, .slice a1 A.length c1), (12, .pointer (some ⟨(φ1 0), 0, none⟩))]) (fun φ4 => [((φ1 0), .cells #[.slice a1 A.length c1, .slice a2 D.length c2, .slice a3 K.length c3] 56)]) (fun φ4 => [(φ1 0)]) s trivial (fun φ4 => by kernel_rfl) ?_
    intro φ4 w4 s
    refine call_rule (some 14) s (tooLongG_c hA hlA) (by kernel_rfl) ?_
    intro v5 I5 w5 le5 h5 s
    replace hA := FSl.mono le5 hA
    replace hD := FSl.mono le5 hD
    replace hK := ISl.mono le5 hK
    obtain rfl := h5
    refine ops_rule (C := []) [((φ1 0), .cells #[.slice a1 A.length c1, .slice a2 D.length c2, .slice a3 K.length c3] 56)] [] 2 [] 0 (fun φ6 => [(16, .bool (A.any lgB)), (15, .bool (A.any lgB))]) (fun φ6 => [((φ1 0), .cells #[.slice a1 A.length c1, .slice a2 D.length c2, .slice a3 K.length c3] 56)]) (fun φ6 => []) s trivial (fun φ6 => by kernel_rfl) ?_
    intro φ6 w6 s
    rcases Bool.eq_false_or_eq_true (A.any lgB) with hc7 | hc7
    ·
      rw [hc7]
      refine ops_rule (C := []) [((φ1 0), .cells #[.slice a1 A.length c1, .slice a2 D.length c2, .slice a3 K.length c3] 56)] [] 4 [] 0 (fun φ8 => [(20, .bool true), (19, undef), (18, undef), (17, undef)]) (fun φ8 => [((φ1 0), .cells #[.slice a1 A.length c1, .slice a2 D.length c2, .slice a3 K.length c3] 56)]) (fun φ8 => []) s trivial (fun φ8 => by kernel_rfl) ?_
      intro φ8 w8 s
      refine ops_done (by kernel_rfl) ?_
      refine cond_true_rule (b := true) (by kernel_rfl) rfl ?_
      refine wp_seq ?_
      refine region_rule ?_
      refine ops_rule (C := []) [((φ1 0), .cells #[.slice a1 A.length c1, .slice a2 D.length c2, .slice a3 K.length c3] 56)] [] 2 [] 0 (fun φ9 => [(3, .int .i64 9), (2, .slice none 0 0)]) (fun φ9 => [((φ1 0), .cells #[.slice a1 A.length c1, .slice a2 D.length c2, .slice a3 K.length c3] 56)]) (fun φ9 => []) s trivial (fun φ9 => by kernel_rfl) ?_
      intro φ9 w9 s
      refine ops_done (by kernel_rfl) ?_
      refine wp_ret ?_
      refine ret_rule (C := []) [((φ1 0), .cells #[.slice a1 A.length c1, .slice a2 D.length c2, .slice a3 K.length c3] 56)] [] (.tuple #[.slice none 0 0, .int .i64 9]) [] [] s trivial (by kernel_rfl) ?_
      exact ⟨_, _, _, rfl, s, (by have e : ptE A D K = 9 := (by unfold ptE; simp only [hc7]; first | rfl | simp); rw [e]; rfl)⟩
    ·
      rw [hc7]
      refine ops_rule (C := []) [((φ1 0), .cells #[.slice a1 A.length c1, .slice a2 D.length c2, .slice a3 K.length c3] 56)] [] 2 [.o 0] 0 (fun φ10 => [(18, .slice a2 D.length c2), (17, .pointer (some ⟨(φ1 0), 1, none⟩))]) (fun φ10 => [((φ1 0), .cells #[.slice a1 A.length c1, .slice a2 D.length c2, .slice a3 K.length c3] 56)]) (fun φ10 => [(φ1 0)]) s trivial (fun φ10 => by kernel_rfl) ?_
      intro φ10 w10 s
      refine call_rule (some 19) s (tooLongG_c hD hlD) (by kernel_rfl) ?_
      intro v11 I11 w11 le11 h11 s
      replace hA := FSl.mono le11 hA
      replace hD := FSl.mono le11 hD
      replace hK := ISl.mono le11 hK
      obtain rfl := h11
      refine ops_rule (C := []) [((φ1 0), .cells #[.slice a1 A.length c1, .slice a2 D.length c2, .slice a3 K.length c3] 56)] [] 1 [] 0 (fun φ12 => [(20, .bool (D.any lgB))]) (fun φ12 => [((φ1 0), .cells #[.slice a1 A.length c1, .slice a2 D.length c2, .slice a3 K.length c3] 56)]) (fun φ12 => []) s trivial (fun φ12 => by kernel_rfl) ?_
      intro φ12 w12 s
      refine ops_done (by kernel_rfl) ?_
      rcases Bool.eq_false_or_eq_true (D.any lgB) with hc13 | hc13
      ·
        rw [hc13]
        refine cond_true_rule (b := true) (by kernel_rfl) rfl ?_
        refine wp_seq ?_
        refine region_rule ?_
        refine ops_rule (C := []) [((φ1 0), .cells #[.slice a1 A.length c1, .slice a2 D.length c2, .slice a3 K.length c3] 56)] [] 2 [] 0 (fun φ14 => [(3, .int .i64 9), (2, .slice none 0 0)]) (fun φ14 => [((φ1 0), .cells #[.slice a1 A.length c1, .slice a2 D.length c2, .slice a3 K.length c3] 56)]) (fun φ14 => []) s trivial (fun φ14 => by kernel_rfl) ?_
        intro φ14 w14 s
        refine ops_done (by kernel_rfl) ?_
        refine wp_ret ?_
        refine ret_rule (C := []) [((φ1 0), .cells #[.slice a1 A.length c1, .slice a2 D.length c2, .slice a3 K.length c3] 56)] [] (.tuple #[.slice none 0 0, .int .i64 9]) [] [] s trivial (by kernel_rfl) ?_
        exact ⟨_, _, _, rfl, s, (by have e : ptE A D K = 9 := (by unfold ptE; simp only [hc7, hc13]; first | rfl | simp); rw [e]; rfl)⟩
      ·
        rw [hc13]
        refine cond_false_rule (b := false) (by kernel_rfl) rfl ?_
        refine wp_skip ?_
        refine wp_seq ?_
        refine wp_seq ?_
        refine region_rule ?_
        refine ops_rule (C := []) [((φ1 0), .cells #[.slice a1 A.length c1, .slice a2 D.length c2, .slice a3 K.length c3] 56)] [] 2 [.o 0] 0 (fun φ15 => [(22, .slice a1 A.length c1), (21, .pointer (some ⟨(φ1 0), 0, none⟩))]) (fun φ15 => [((φ1 0), .cells #[.slice a1 A.length c1, .slice a2 D.length c2, .slice a3 K.length c3] 56)]) (fun φ15 => [(φ1 0)]) s trivial (fun φ15 => by kernel_rfl) ?_
        intro φ15 w15 s
        refine call_rule (some 23) s (containsG79_c hA (by omega)) (by kernel_rfl) ?_
        intro v16 I16 w16 le16 h16 s
        replace hA := FSl.mono le16 hA
        replace hD := FSl.mono le16 hD
        replace hK := ISl.mono le16 hK
        obtain rfl := h16
        refine ops_rule (C := []) [((φ1 0), .cells #[.slice a1 A.length c1, .slice a2 D.length c2, .slice a3 K.length c3] 56)] [] 1 [] 0 (fun φ17 => [(24, .bool (A.any skB))]) (fun φ17 => [((φ1 0), .cells #[.slice a1 A.length c1, .slice a2 D.length c2, .slice a3 K.length c3] 56)]) (fun φ17 => []) s trivial (fun φ17 => by kernel_rfl) ?_
        intro φ17 w17 s
        rcases Bool.eq_false_or_eq_true (A.any skB) with hc18 | hc18
        ·
          rw [hc18]
          refine ops_rule (C := []) [((φ1 0), .cells #[.slice a1 A.length c1, .slice a2 D.length c2, .slice a3 K.length c3] 56)] [] 9 [] 0 (fun φ19 => [(33, .bool true), (32, undef), (31, undef), (30, undef), (29, .bool true), (28, .bool true), (27, undef), (26, undef), (25, undef)]) (fun φ19 => [((φ1 0), .cells #[.slice a1 A.length c1, .slice a2 D.length c2, .slice a3 K.length c3] 56)]) (fun φ19 => []) s trivial (fun φ19 => by kernel_rfl) ?_
          intro φ19 w19 s
          refine ops_done (by kernel_rfl) ?_
          refine cond_true_rule (b := true) (by kernel_rfl) rfl ?_
          refine wp_seq ?_
          refine region_rule ?_
          refine ops_rule (C := []) [((φ1 0), .cells #[.slice a1 A.length c1, .slice a2 D.length c2, .slice a3 K.length c3] 56)] [] 2 [] 0 (fun φ20 => [(3, .int .i64 1), (2, .slice none 0 0)]) (fun φ20 => [((φ1 0), .cells #[.slice a1 A.length c1, .slice a2 D.length c2, .slice a3 K.length c3] 56)]) (fun φ20 => []) s trivial (fun φ20 => by kernel_rfl) ?_
          intro φ20 w20 s
          refine ops_done (by kernel_rfl) ?_
          refine wp_ret ?_
          refine ret_rule (C := []) [((φ1 0), .cells #[.slice a1 A.length c1, .slice a2 D.length c2, .slice a3 K.length c3] 56)] [] (.tuple #[.slice none 0 0, .int .i64 1]) [] [] s trivial (by kernel_rfl) ?_
          exact ⟨_, _, _, rfl, s, (by have e : ptE A D K = 1 := (by unfold ptE; simp only [hc7, hc13, hc18]; first | rfl | simp); rw [e]; rfl)⟩
        ·
          rw [hc18]
          refine ops_rule (C := []) [((φ1 0), .cells #[.slice a1 A.length c1, .slice a2 D.length c2, .slice a3 K.length c3] 56)] [] 2 [.o 0] 0 (fun φ21 => [(26, .slice a2 D.length c2), (25, .pointer (some ⟨(φ1 0), 1, none⟩))]) (fun φ21 => [((φ1 0), .cells #[.slice a1 A.length c1, .slice a2 D.length c2, .slice a3 K.length c3] 56)]) (fun φ21 => [(φ1 0)]) s trivial (fun φ21 => by kernel_rfl) ?_
          intro φ21 w21 s
          refine call_rule (some 27) s (containsG79_c hD (by omega)) (by kernel_rfl) ?_
          intro v22 I22 w22 le22 h22 s
          replace hA := FSl.mono le22 hA
          replace hD := FSl.mono le22 hD
          replace hK := ISl.mono le22 hK
          obtain rfl := h22
          refine ops_rule (C := []) [((φ1 0), .cells #[.slice a1 A.length c1, .slice a2 D.length c2, .slice a3 K.length c3] 56)] [] 2 [] 0 (fun φ23 => [(29, .bool (D.any skB)), (28, .bool (D.any skB))]) (fun φ23 => [((φ1 0), .cells #[.slice a1 A.length c1, .slice a2 D.length c2, .slice a3 K.length c3] 56)]) (fun φ23 => []) s trivial (fun φ23 => by kernel_rfl) ?_
          intro φ23 w23 s
          rcases Bool.eq_false_or_eq_true (D.any skB) with hc24 | hc24
          ·
            rw [hc24]
            refine ops_rule (C := []) [((φ1 0), .cells #[.slice a1 A.length c1, .slice a2 D.length c2, .slice a3 K.length c3] 56)] [] 4 [] 0 (fun φ25 => [(33, .bool true), (32, undef), (31, undef), (30, undef)]) (fun φ25 => [((φ1 0), .cells #[.slice a1 A.length c1, .slice a2 D.length c2, .slice a3 K.length c3] 56)]) (fun φ25 => []) s trivial (fun φ25 => by kernel_rfl) ?_
            intro φ25 w25 s
            refine ops_done (by kernel_rfl) ?_
            refine cond_true_rule (b := true) (by kernel_rfl) rfl ?_
            refine wp_seq ?_
            refine region_rule ?_
            refine ops_rule (C := []) [((φ1 0), .cells #[.slice a1 A.length c1, .slice a2 D.length c2, .slice a3 K.length c3] 56)] [] 2 [] 0 (fun φ26 => [(3, .int .i64 1), (2, .slice none 0 0)]) (fun φ26 => [((φ1 0), .cells #[.slice a1 A.length c1, .slice a2 D.length c2, .slice a3 K.length c3] 56)]) (fun φ26 => []) s trivial (fun φ26 => by kernel_rfl) ?_
            intro φ26 w26 s
            refine ops_done (by kernel_rfl) ?_
            refine wp_ret ?_
            refine ret_rule (C := []) [((φ1 0), .cells #[.slice a1 A.length c1, .slice a2 D.length c2, .slice a3 K.length c3] 56)] [] (.tuple #[.slice none 0 0, .int .i64 1]) [] [] s trivial (by kernel_rfl) ?_
            exact ⟨_, _, _, rfl, s, (by have e : ptE A D K = 1 := (by unfold ptE; simp only [hc7, hc13, hc18, hc24]; first | rfl | simp); rw [e]; rfl)⟩
          ·
            rw [hc24]
            refine ops_rule (C := []) [((φ1 0), .cells #[.slice a1 A.length c1, .slice a2 D.length c2, .slice a3 K.length c3] 56)] [] 2 [.o 0] 0 (fun φ27 => [(31, .slice a3 K.length c3), (30, .pointer (some ⟨(φ1 0), 2, none⟩))]) (fun φ27 => [((φ1 0), .cells #[.slice a1 A.length c1, .slice a2 D.length c2, .slice a3 K.length c3] 56)]) (fun φ27 => [(φ1 0)]) s trivial (fun φ27 => by kernel_rfl) ?_
            intro φ27 w27 s
            refine call_rule (some 32) s (containsG81_c hK (by omega)) (by kernel_rfl) ?_
            intro v28 I28 w28 le28 h28 s
            replace hA := FSl.mono le28 hA
            replace hD := FSl.mono le28 hD
            replace hK := ISl.mono le28 hK
            obtain rfl := h28
            refine ops_rule (C := []) [((φ1 0), .cells #[.slice a1 A.length c1, .slice a2 D.length c2, .slice a3 K.length c3] 56)] [] 1 [] 0 (fun φ29 => [(33, .bool (K.any siB))]) (fun φ29 => [((φ1 0), .cells #[.slice a1 A.length c1, .slice a2 D.length c2, .slice a3 K.length c3] 56)]) (fun φ29 => []) s trivial (fun φ29 => by kernel_rfl) ?_
            intro φ29 w29 s
            refine ops_done (by kernel_rfl) ?_
            rcases Bool.eq_false_or_eq_true (K.any siB) with hc30 | hc30
            ·
              rw [hc30]
              refine cond_true_rule (b := true) (by kernel_rfl) rfl ?_
              refine wp_seq ?_
              refine region_rule ?_
              refine ops_rule (C := []) [((φ1 0), .cells #[.slice a1 A.length c1, .slice a2 D.length c2, .slice a3 K.length c3] 56)] [] 2 [] 0 (fun φ31 => [(3, .int .i64 1), (2, .slice none 0 0)]) (fun φ31 => [((φ1 0), .cells #[.slice a1 A.length c1, .slice a2 D.length c2, .slice a3 K.length c3] 56)]) (fun φ31 => []) s trivial (fun φ31 => by kernel_rfl) ?_
              intro φ31 w31 s
              refine ops_done (by kernel_rfl) ?_
              refine wp_ret ?_
              refine ret_rule (C := []) [((φ1 0), .cells #[.slice a1 A.length c1, .slice a2 D.length c2, .slice a3 K.length c3] 56)] [] (.tuple #[.slice none 0 0, .int .i64 1]) [] [] s trivial (by kernel_rfl) ?_
              exact ⟨_, _, _, rfl, s, (by have e : ptE A D K = 1 := (by unfold ptE; simp only [hc7, hc13, hc18, hc24, hc30]; first | rfl | simp); rw [e]; rfl)⟩
            ·
              rw [hc30]
              refine cond_false_rule (b := false) (by kernel_rfl) rfl ?_
              refine wp_skip ?_
              refine wp_seq ?_
              exact absurd (show ptE A D K = 0 by unfold ptE; simp only [hc7, hc13, hc18, hc24, hc30]; rfl) he

end Go.Proofs.YtcpmjogeafhpnaaDoor
