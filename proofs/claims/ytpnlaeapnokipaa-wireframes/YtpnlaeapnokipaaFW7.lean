/- WireFrames. -/
import Derived.Test.YtpnlaeapnokipaaFW6
set_option linter.all false
set_option maxRecDepth 100000
namespace Go.Proofs.Ytpnlaeapnokipaa
open Go.RowKit Go.Sep
attribute [local irreducible] Go.wpList Go.Code.wp

theorem frameL_ref {l : List UInt8} : wd4 l.length ++ wd4 (4294967295 - crc 4294967295 (wd4 l.length ++ l)) ++ l = frameL l := by unfold frameL; rw [crc_append]
theorem frame_take {l : List UInt8} : (frameL (l.take 200)).take 300 = frameL (l.take 200) := List.take_of_length_le (by rw [frameL_len, List.length_take]; omega)
theorem openE_c {I : IM} {l q : List UInt8} {a : Option Addr} {n c k : Nat} (hl : BSl I l (.slice a n c)) (hn : l.length ≤ 1000000000) (e : openD l = (q, k, 0)) : Fun Try.prog 40 #[.slice a n c] I (fun v J => ∃ a c, v = .tuple #[.slice a (List.length q) c, .int .i64 ((k : Nat) : Int), .int .i64 0] ∧ BSl J q (.slice a (List.length q) c)) := by
  have := open_c hl hn
  rw [e] at this; exact this
theorem openT_c {I : IM} {l : List UInt8} {a : Option Addr} {n c : Nat} (hl : BSl I l (.slice a n c)) (hn : l.length ≤ 1000000000) (e : openD l = ([], 0, 13)) : Fun Try.prog 40 #[.slice a n c] I (fun v J => ∃ (a : Option Addr) (c : Nat), v = .tuple #[.slice a 0 c, .int .i64 0, .int .i64 13]) := by
  have := open_c hl hn
  rw [e] at this; exact this.mono fun v J _ ⟨a, c, h, _⟩ => ⟨a, c, h⟩
theorem bxor8_lt {a b : Nat} : bxor 8 a b < 256 := BitVec.isLt _
theorem turned_ne {b : UInt8} {t : Nat} (ht : t < 256) (h : ¬ t = 0) : UInt8.ofNat (bxor 8 b.toNat t) ≠ b := by
  have := turn_ne (byte_lt b) ht h
  rwa [UInt8.ofNat_toNat] at this

set_option maxHeartbeats 2000000 in
theorem refframe_c {I : IM} {l : List UInt8} {a : Option Addr} {n c : Nat} (hl : BSl I l (.slice a n c)) (hn : l.length ≤ 1000000) : Fun Try.prog 42 #[.slice a n c] I (fun v J => bsR (frameL l) v J) := by
  obtain ⟨rfl, -⟩ := hl.cap
  refine enter_rule 18 [(0, .slice a l.length c)] Try.func42 rfl (by kernel_rfl) ?_
  intro w s
  refine wp_seq ?_
  refine region_rule ?_
  refine ops_rule (C := []) [] [] 1 [] 0 (fun φ1 => [(2, .slice none 0 0)]) (fun φ1 => []) (fun φ1 => []) s trivial (fun φ1 => by kernel_rfl) ?_
  intro φ1 w1 s
  refine ops_done (by kernel_rfl) ?_
  refine wp_seq ?_
  refine region_rule ?_
  refine ops_rule (C := []) [] [] 3 [] 0 (fun φ2 => [(6, .int .u32 (IntKind.wrap .u32 ((l.length : Nat) : Int))), (5, .int .i64 ((l.length : Nat) : Int)), (4, .slice a l.length c)]) (fun φ2 => []) (fun φ2 => []) s trivial (fun φ2 => by kernel_rfl) ?_
  intro φ2 w2 s
  rw [nat_wrapu32 (a := l.length) (by   (try simp only [List.length_drop, List.length_take, List.length_append, List.length_cons, List.length_nil]); omega)]
  refine call_rule (some 7) s (fourB_c (n := l.length) (by   (try simp only [List.length_drop, List.length_take, List.length_append, List.length_cons, List.length_nil]); omega)) (by kernel_rfl) ?_
  intro v3 I3 w3 le3 h3 s
  replace hl := BSl.mono le3 hl
  obtain ⟨a3, c3, rfl, h3_0⟩ := h3
  refine ops_rule (C := []) [] [] 1 [] 0 (fun φ4 => [(3, .slice a3 (List.length (wd4 l.length)) c3)]) (fun φ4 => []) (fun φ4 => []) s trivial (fun φ4 => by kernel_rfl) ?_
  intro φ4 w4 s
  refine ops_done (by kernel_rfl) ?_
  refine wp_seq ?_
  refine region_rule ?_
  refine ops_rule (C := []) [] [] 4 [] 1 (fun φ5 => [(11, .slice (some ⟨(φ5 0), 0, none⟩) 2 2), (10, .slice a l.length c), (9, .slice a3 (List.length (wd4 l.length)) c3), (8, .slice a3 (List.length (wd4 l.length)) c3)]) (fun φ5 => [((φ5 0), .cells #[.slice a3 (List.length (wd4 l.length)) c3, .slice a l.length c] 34)]) (fun φ5 => []) s trivial (fun φ5 => by kernel_rfl) ?_
  intro φ5 w5 s
  obtain ⟨I6, le6, hk6, s⟩ := s.freezeAt 0 (φ5 0) (.cells #[.slice a3 (List.length (wd4 l.length)) c3, .slice a l.length c] 34) [] (by kernel_rfl) (by kernel_rfl)
  replace hl := BSl.mono le6 hl
  replace h3_0 := BSl.mono le6 h3_0
  refine call_rule (some 12) s (join2_c hk6 h3_0 hl (by (try simp only [wd4, List.length_append, List.length_cons, List.length_nil]); omega) (by (try simp only [wd4, List.length_append, List.length_cons, List.length_nil]); omega)) (by kernel_rfl) ?_
  intro v7 I7 w7 le7 h7 s
  replace hl := BSl.mono le7 hl
  replace h3_0 := BSl.mono le7 h3_0
  replace hk6 := le7 _ _ hk6
  obtain ⟨a7, c7, rfl, h7_0⟩ := h7
  refine call_rule (some 13) s (refsum_c h7_0 (by (try simp only [wd4, List.length_append, List.length_cons, List.length_nil]); omega)) (by kernel_rfl) ?_
  intro v8 I8 w8 le8 h8 s
  replace hl := BSl.mono le8 hl
  replace h3_0 := BSl.mono le8 h3_0
  replace h7_0 := BSl.mono le8 h7_0
  replace hk6 := le8 _ _ hk6
  obtain rfl := h8
  refine call_rule (some 14) s (fourB_c (n := 4294967295 - crc 4294967295 ((wd4 l.length) ++ l)) (by   (try simp only [List.length_drop, List.length_take, List.length_append, List.length_cons, List.length_nil]); omega)) (by kernel_rfl) ?_
  intro v9 I9 w9 le9 h9 s
  replace hl := BSl.mono le9 hl
  replace h3_0 := BSl.mono le9 h3_0
  replace h7_0 := BSl.mono le9 h7_0
  replace hk6 := le9 _ _ hk6
  obtain ⟨a9, c9, rfl, h9_0⟩ := h9
  refine ops_rule (C := []) [] [] 2 [] 1 (fun φ10 => [(16, .slice (some ⟨(φ10 0), 0, none⟩) 3 3), (15, .slice a l.length c)]) (fun φ10 => [((φ10 0), .cells #[.slice a3 (List.length (wd4 l.length)) c3, .slice a9 (List.length (wd4 (4294967295 - crc 4294967295 ((wd4 l.length) ++ l)))) c9, .slice a l.length c] 34)]) (fun φ10 => []) s trivial (fun φ10 => by kernel_rfl) ?_
  intro φ10 w10 s
  obtain ⟨I11, le11, hk11, s⟩ := s.freezeAt 0 (φ10 0) (.cells #[.slice a3 (List.length (wd4 l.length)) c3, .slice a9 (List.length (wd4 (4294967295 - crc 4294967295 ((wd4 l.length) ++ l)))) c9, .slice a l.length c] 34) [] (by kernel_rfl) (by kernel_rfl)
  replace hl := BSl.mono le11 hl
  replace h3_0 := BSl.mono le11 h3_0
  replace h7_0 := BSl.mono le11 h7_0
  replace h9_0 := BSl.mono le11 h9_0
  replace hk6 := le11 _ _ hk6
  refine call_rule (some 17) s (join3_c hk11 h3_0 h9_0 hl (by (try simp only [wd4, List.length_append, List.length_cons, List.length_nil]); omega) (by (try simp only [wd4, List.length_append, List.length_cons, List.length_nil]); omega) (by (try simp only [wd4, List.length_append, List.length_cons, List.length_nil]); omega)) (by kernel_rfl) ?_
  intro v12 I12 w12 le12 h12 s
  replace hl := BSl.mono le12 hl
  replace h3_0 := BSl.mono le12 h3_0
  replace h7_0 := BSl.mono le12 h7_0
  replace h9_0 := BSl.mono le12 h9_0
  replace hk6 := le12 _ _ hk6
  replace hk11 := le12 _ _ hk11
  obtain ⟨a12, c12, rfl, h12_0⟩ := h12
  refine ops_rule (C := []) [] [] 1 [] 0 (fun φ13 => [(2, .slice a12 (List.length ((wd4 l.length) ++ (wd4 (4294967295 - crc 4294967295 ((wd4 l.length) ++ l))) ++ l)) c12)]) (fun φ13 => []) (fun φ13 => []) s trivial (fun φ13 => by kernel_rfl) ?_
  intro φ13 w13 s
  refine ops_done (by kernel_rfl) ?_
  refine wp_ret ?_
  refine ret_rule (C := []) [] [] (.slice a12 (List.length ((wd4 l.length) ++ (wd4 (4294967295 - crc 4294967295 ((wd4 l.length) ++ l))) ++ l)) c12) [] [] s trivial (by kernel_rfl) ?_
  exact ⟨_, _, _, rfl, s, (by rw [← frameL_ref]; exact ⟨_, _, rfl, h12_0⟩)⟩

set_option maxHeartbeats 4000000 in
theorem wireFrames_c {I : IM} {l : List UInt8} {a : Option Addr} {n c : Nat} (hl : BSl I l (.slice a n c)) {l2 : List UInt8} {a2 : Option Addr} {n2 c2 : Nat} (hl2 : BSl I l2 (.slice a2 n2 c2)) {q0 t : Nat} (hq : q0 < 65536) (ht : t < 256) : Fun Try.prog 9 #[.slice a n c, .slice a2 n2 c2, .int .u16 ((q0 : Nat) : Int), .int .u8 ((t : Nat) : Int)] I (fun v J => v = .bool true) := by
  obtain ⟨rfl, -⟩ := hl.cap
  obtain ⟨rfl, -⟩ := hl2.cap
  refine enter_rule 83 [(0, .slice a l.length c), (1, .slice a2 l2.length c2), (2, .int .u16 ((q0 : Nat) : Int)), (3, .int .u8 ((t : Nat) : Int))] Try.func9 rfl (by kernel_rfl) ?_
  intro w s
  refine wp_seq ?_
  refine region_rule ?_
  refine ops_rule (C := []) [] [] 1 [] 0 (fun φ1 => [(8, .bool false)]) (fun φ1 => []) (fun φ1 => []) s trivial (fun φ1 => by kernel_rfl) ?_
  intro φ1 w1 s
  refine ops_done (by kernel_rfl) ?_
  refine wp_seq ?_
  refine wp_seq ?_
  refine region_rule ?_
  refine call_rule (some 13) s (awake6_c) (by kernel_rfl) ?_
  intro v2 I2 w2 le2 h2 s
  replace hl := BSl.mono le2 hl
  replace hl2 := BSl.mono le2 hl2
  obtain rfl := h2
  refine ops_rule (C := []) [] [] 1 [] 0 (fun φ3 => [(14, .bool false)]) (fun φ3 => []) (fun φ3 => []) s trivial (fun φ3 => by kernel_rfl) ?_
  intro φ3 w3 s
  refine ops_done (by kernel_rfl) ?_
  refine cond_false_rule (b := false) (by kernel_rfl) rfl ?_
  refine wp_skip ?_
  refine wp_seq ?_
  refine region_rule ?_
  refine ops_rule (C := []) [] [] 1 [] 0 (fun φ4 => [(15, .slice a l.length c)]) (fun φ4 => []) (fun φ4 => []) s trivial (fun φ4 => by kernel_rfl) ?_
  intro φ4 w4 s
  refine call_rule (some 16) s (cut_c (m := 200) hl (by decide)) (by kernel_rfl) ?_
  intro v5 I5 w5 le5 h5 s
  replace hl := BSl.mono le5 hl
  replace hl2 := BSl.mono le5 hl2
  obtain ⟨a5, c5, rfl, h5_0⟩ := h5
  refine ops_rule (C := []) [] [] 1 [] 0 (fun φ6 => [(17, .slice a2 l2.length c2)]) (fun φ6 => []) (fun φ6 => []) s trivial (fun φ6 => by kernel_rfl) ?_
  intro φ6 w6 s
  refine call_rule (some 18) s (cut_c (m := 30) hl2 (by decide)) (by kernel_rfl) ?_
  intro v7 I7 w7 le7 h7 s
  replace hl := BSl.mono le7 hl
  replace hl2 := BSl.mono le7 hl2
  replace h5_0 := BSl.mono le7 h5_0
  obtain ⟨a7, c7, rfl, h7_0⟩ := h7
  refine ops_rule (C := []) [] [] 2 [] 0 (fun φ8 => [(1, .slice a7 (List.length (l2.take 30)) c7), (0, .slice a5 (List.length (l.take 200)) c5)]) (fun φ8 => []) (fun φ8 => []) s trivial (fun φ8 => by kernel_rfl) ?_
  intro φ8 w8 s
  refine ops_done (by kernel_rfl) ?_
  refine wp_seq ?_
  refine region_rule ?_
  refine ops_rule (C := []) [] [] 1 [] 0 (fun φ9 => [(19, .slice a5 (List.length (l.take 200)) c5)]) (fun φ9 => []) (fun φ9 => []) s trivial (fun φ9 => by kernel_rfl) ?_
  intro φ9 w9 s
  refine callF_rule (H := []) (F := []) (some 20) s (frame_r h5_0 (by simp only [List.length_take]; omega)) (by kernel_rfl) ?_
  intro v10 I10 w10 F10 le10 h10 s
  replace hl := BSl.mono le10 hl
  replace hl2 := BSl.mono le10 hl2
  replace h5_0 := BSl.mono le10 h5_0
  replace h7_0 := BSl.mono le10 h7_0
  obtain ⟨g11, cap11, cur11, hv11, hF11, hc11, hrow11⟩ := row_open h10 (by rw [frameL_len]; omega)
  subst hv11
  subst hF11
  refine ops_rule (C := []) [(g11, .cells cur11 5)] [] 1 [] 0 (fun φ12 => [(9, .slice (some ⟨g11, 0, none⟩) (((frameL (l.take 200))).length) cap11)]) (fun φ12 => [(g11, .cells cur11 5)]) (fun φ12 => []) s trivial (fun φ12 => by kernel_rfl) ?_
  intro φ12 w12 s
  refine ops_done (by kernel_rfl) ?_
  refine wp_seq ?_
  refine region_rule ?_
  refine ops_rule (C := []) [(g11, .cells cur11 5)] [] 1 [] 0 (fun φ13 => [(22, .slice (some ⟨g11, 0, none⟩) (((frameL (l.take 200))).length) cap11)]) (fun φ13 => [(g11, .cells cur11 5)]) (fun φ13 => []) s trivial (fun φ13 => by kernel_rfl) ?_
  intro φ13 w13 s
  have hle14 : IM.Le I10 (IM.add I10 g11 (.cells cur11 5)) := IM.le_add (s.free (g11, .cells cur11 5) (by simp)) _
  refine callLF_rule (H := ([(g11, .cells cur11 5)] ++ [])) (R := fun v F' => RowH 5 1 v (((frameL (l.take 200)).take 300)).length ((((frameL (l.take 200)).take 300)).map bV) F') (some 23) s (IM.add I10 g11 (.cells cur11 5)) hle14 (add_sub (by simp)) (cut_r (m := 300) (row_lend (I := I10) hrow11) (by decide)) (by kernel_rfl) ?_
  intro v15 w15 F15 h15 s
  refine ops_rule (C := []) [(g11, .cells cur11 5)] F15 1 [] 0 (fun φ16 => [(24, .slice a7 (List.length (l2.take 30)) c7)]) (fun φ16 => [(g11, .cells cur11 5)]) (fun φ16 => []) s trivial (fun φ16 => by kernel_rfl) ?_
  intro φ16 w16 s
  refine append_rule (H := [(g11, .cells cur11 5)]) (F := F15) 34 34 5 Try.t5 (.int .u8 0) 1 1 (some 25) s Try.underlying34 (by kernel_rfl) (by kernel_rfl) (by kernel_rfl) (by kernel_rfl) (by kernel_rfl) (by decide) h15 (src_bsl s.sub h7_0) (by have hfl := frameL_len (l.take 200); have hfm := List.length_take (i := 200) (l := l); have hmod := Nat.mod_lt q0 (show 0 < (frameL (l.take 200)).length - 4 by omega);  (try simp only [maxLen, List.length_append, List.length_cons, List.length_nil, List.length_take, List.length_drop]); omega) (by have hfl := frameL_len (l.take 200); have hfm := List.length_take (i := 200) (l := l); have hmod := Nat.mod_lt q0 (show 0 < (frameL (l.take 200)).length - 4 by omega);  (try simp only [maxLen, List.length_append, List.length_cons, List.length_nil, List.length_take, List.length_drop]); omega) (by kernel_rfl) ?_
  intro v17 w17 F17 s h17
  replace h17 : RowH 5 1 v17 ((((frameL (l.take 200)).take 300) ++ (l2.take 30)).length) ((((frameL (l.take 200)).take 300) ++ (l2.take 30)).map bV) F17 := row_app (x := ((frameL (l.take 200)).take 300)) (y := (l2.take 30)) h17
  obtain ⟨I18, le18, hb18, s⟩ := freeze_row (H := [(g11, .cells cur11 5)]) (F := F17) s h17
  replace hl := BSl.mono le18 hl
  replace hl2 := BSl.mono le18 hl2
  replace h5_0 := BSl.mono le18 h5_0
  replace h7_0 := BSl.mono le18 h7_0
  rw [frame_take] at hb18
  obtain ⟨a18, c18, hv18, hc18, hb18⟩ := hb18.open
  subst hv18
  refine call_rule (some 26) s (openE_c (q := (l.take 200)) (k := ((frameL (l.take 200))).length) hb18 (by (try simp only [List.length_set]); (try simp only [List.length_append]); (try simp only [frameL_len]); (try simp only [List.length_take]); omega) (frame_open (l.take 200) (l2.take 30) (by simp only [List.length_take]; omega))) (by kernel_rfl) ?_
  intro v19 I19 w19 le19 h19 s
  replace hl := BSl.mono le19 hl
  replace hl2 := BSl.mono le19 hl2
  replace h5_0 := BSl.mono le19 h5_0
  replace h7_0 := BSl.mono le19 h7_0
  replace hb18 := BSl.mono le19 hb18
  obtain ⟨a19, c19, rfl, h19_0⟩ := h19
  refine ops_rule (C := []) [(g11, .cells cur11 5)] [] 7 [] 0 (fun φ20 => [(12, .int .i64 0), (11, .int .i64 ((((frameL (l.take 200))).length : Nat) : Int)), (10, .slice a19 (List.length (l.take 200)) c19), (29, .int .i64 0), (28, .int .i64 ((((frameL (l.take 200))).length : Nat) : Int)), (27, .slice a19 (List.length (l.take 200)) c19), (21, .tuple #[.slice a19 (List.length (l.take 200)) c19, .int .i64 ((((frameL (l.take 200))).length : Nat) : Int), .int .i64 0])]) (fun φ20 => [(g11, .cells cur11 5)]) (fun φ20 => []) s trivial (fun φ20 => by kernel_rfl) ?_
  intro φ20 w20 s
  refine ops_done (by kernel_rfl) ?_
  refine wp_seq ?_
  refine wp_seq ?_
  refine region_rule ?_
  refine ops_rule (C := []) [(g11, .cells cur11 5)] [] 2 [] 0 (fun φ21 => [(31, .slice a5 (List.length (l.take 200)) c5), (30, .slice (some ⟨g11, 0, none⟩) (((frameL (l.take 200))).length) cap11)]) (fun φ21 => [(g11, .cells cur11 5)]) (fun φ21 => []) s trivial (fun φ21 => by kernel_rfl) ?_
  intro φ21 w21 s
  refine call_rule (some 32) s (refframe_c h5_0 (by simp only [List.length_take]; omega)) (by kernel_rfl) ?_
  intro v22 I22 w22 le22 h22 s
  replace hl := BSl.mono le22 hl
  replace hl2 := BSl.mono le22 hl2
  replace h5_0 := BSl.mono le22 h5_0
  replace h7_0 := BSl.mono le22 h7_0
  replace hb18 := BSl.mono le22 hb18
  replace h19_0 := BSl.mono le22 h19_0
  obtain ⟨a22, c22, rfl, h22_0⟩ := h22
  have hle23 : IM.Le I22 (IM.add I22 g11 (.cells cur11 5)) := IM.le_add (s.free (g11, .cells cur11 5) (by simp)) _
  refine callL_rule (H := ([(g11, .cells cur11 5)] ++ [])) (R := fun v => v = .bool true) (some 33) s (IM.add I22 g11 (.cells cur11 5)) hle23 (add_sub (by simp)) (sameR_c (row_lend (I := I22) hrow11) (BSl.mono hle23 h22_0) (by (try simp only [List.length_set]); (try simp only [List.length_append]); (try simp only [frameL_len]); (try simp only [List.length_take]); omega)) (by kernel_rfl) ?_
  intro v24 w24 h24 s
  obtain rfl := h24
  refine ops_rule (C := []) [(g11, .cells cur11 5)] [] 12 [] 0 (fun φ25 => [(45, .bool (((((frameL (l.take 200))).length : Nat) : Int) != ((((frameL (l.take 200))).length : Nat) : Int))), (44, .bool (((((frameL (l.take 200))).length : Nat) : Int) != ((((frameL (l.take 200))).length : Nat) : Int))), (43, .bool (((((frameL (l.take 200))).length : Nat) : Int) != ((((frameL (l.take 200))).length : Nat) : Int))), (42, .int .i64 ((((frameL (l.take 200))).length : Nat) : Int)), (41, .slice (some ⟨g11, 0, none⟩) (((frameL (l.take 200))).length) cap11), (40, .int .i64 ((((frameL (l.take 200))).length : Nat) : Int)), (39, .bool false), (38, .bool false), (37, .bool false), (36, .int .i64 0), (35, .bool false), (34, .bool false)]) (fun φ25 => [(g11, .cells cur11 5)]) (fun φ25 => []) s trivial (fun φ25 => by kernel_rfl) ?_
  intro φ25 w25 s
  rw [(nat_neq (a := (((frameL (l.take 200))).length)) (b := (((frameL (l.take 200))).length))).trans (decide_eq_false (fun q => q rfl))]
  rcases Bool.eq_false_or_eq_true (false) with hc26 | hc26
  ·
    refine ops_rule (C := []) [(g11, .cells cur11 5)] [] 2 [] 0 (fun φ27 => [(47, .slice a5 (List.length (l.take 200)) c5), (46, .slice a19 (List.length (l.take 200)) c19)]) (fun φ27 => [(g11, .cells cur11 5)]) (fun φ27 => []) s trivial (fun φ27 => by kernel_rfl) ?_
    intro φ27 w27 s
    refine call_rule (some 48) s (sameR_c h19_0 h5_0 (by (try simp only [List.length_set]); (try simp only [List.length_append]); (try simp only [frameL_len]); (try simp only [List.length_take]); omega)) (by kernel_rfl) ?_
    intro v28 I28 w28 le28 h28 s
    replace hl := BSl.mono le28 hl
    replace hl2 := BSl.mono le28 hl2
    replace h5_0 := BSl.mono le28 h5_0
    replace h7_0 := BSl.mono le28 h7_0
    replace hb18 := BSl.mono le28 hb18
    replace h19_0 := BSl.mono le28 h19_0
    replace h22_0 := BSl.mono le28 h22_0
    obtain rfl := h28
    refine ops_rule (C := []) [(g11, .cells cur11 5)] [] 2 [] 0 (fun φ29 => [(50, .bool false), (49, .bool false)]) (fun φ29 => [(g11, .cells cur11 5)]) (fun φ29 => []) s trivial (fun φ29 => by kernel_rfl) ?_
    intro φ29 w29 s
    refine ops_done (by kernel_rfl) ?_
    refine cond_false_rule (b := false) (by kernel_rfl) rfl ?_
    refine wp_skip ?_
    refine wp_seq ?_
    refine wp_seq ?_
    refine region_rule ?_
    refine ops_rule (C := []) [(g11, .cells cur11 5)] [] 2 [] 0 (fun φ30 => [(52, .bool (((t : Nat) : Int) == ((0 : Nat) : Int))), (51, .int .u8 ((t : Nat) : Int))]) (fun φ30 => [(g11, .cells cur11 5)]) (fun φ30 => []) s trivial (fun φ30 => by kernel_rfl) ?_
    intro φ30 w30 s
    rw [nat_eql (a := t) (b := 0)]
    refine ops_done (by kernel_rfl) ?_
    rcases Bool.eq_false_or_eq_true (decide (t = 0)) with hc31 | hc31
    ·
      rw [hc31]
      refine cond_true_rule (b := true) (by kernel_rfl) rfl ?_
      refine wp_seq ?_
      refine region_rule ?_
      refine ops_rule (C := []) [(g11, .cells cur11 5)] [] 1 [] 0 (fun φ32 => [(8, .bool true)]) (fun φ32 => [(g11, .cells cur11 5)]) (fun φ32 => []) s trivial (fun φ32 => by kernel_rfl) ?_
      intro φ32 w32 s
      refine ops_done (by kernel_rfl) ?_
      refine wp_ret ?_
      refine ret_rule (C := []) [(g11, .cells cur11 5)] [] (.bool true) [] [] s trivial (by kernel_rfl) ?_
      exact ⟨_, _, _, rfl, s, rfl⟩
    ·
      rw [hc31]
      refine cond_false_rule (b := false) (by kernel_rfl) rfl ?_
      refine wp_skip ?_
      refine wp_seq ?_
      refine region_rule ?_
      refine ops_rule (C := []) [(g11, .cells cur11 5)] [] 6 [] 0 (fun φ33 => [(58, .int .i64 (IntKind.wrap .i64 (((((frameL (l.take 200))).length : Nat) : Int) - ((4 : Nat) : Int)))), (57, .int .i64 ((((frameL (l.take 200))).length : Nat) : Int)), (56, .slice (some ⟨g11, 0, none⟩) (((frameL (l.take 200))).length) cap11), (55, .int .i64 (IntKind.wrap .i64 ((q0 : Nat) : Int))), (54, .int .u16 ((q0 : Nat) : Int)), (53, .slice (some ⟨g11, 0, none⟩) (((frameL (l.take 200))).length) cap11)]) (fun φ33 => [(g11, .cells cur11 5)]) (fun φ33 => []) s trivial (fun φ33 => by kernel_rfl) ?_
      intro φ33 w33 s
      rw [nat_wrapI (a := q0) (by have hfl := frameL_len (l.take 200); have hfm := List.length_take (i := 200) (l := l); have hmod := Nat.mod_lt q0 (show 0 < (frameL (l.take 200)).length - 4 by omega); have hq1 := of_decide_eq_false hc31; omega)]
      rw [nat_subI (a := (((frameL (l.take 200))).length)) (b := 4) (by have hfl := frameL_len (l.take 200); have hfm := List.length_take (i := 200) (l := l); have hmod := Nat.mod_lt q0 (show 0 < (frameL (l.take 200)).length - 4 by omega); have hq1 := of_decide_eq_false hc31; (try simp only [List.length_drop, List.length_take, List.length_append, List.length_cons, List.length_nil]); omega) (by have hfl := frameL_len (l.take 200); have hfm := List.length_take (i := 200) (l := l); have hmod := Nat.mod_lt q0 (show 0 < (frameL (l.take 200)).length - 4 by omega); have hq1 := of_decide_eq_false hc31; (try simp only [List.length_drop, List.length_take, List.length_append, List.length_cons, List.length_nil]); omega)]
      refine sem_rule (binOp .rem 3 (.int .i64 ((q0 : Nat) : Int)) (.int .i64 (((((frameL (l.take 200))).length) - 4 : Nat) : Int))) (some 59) (.int .i64 ((q0 % ((((frameL (l.take 200))).length) - 4) : Nat) : Int)) (by kernel_rfl) (run_remI (by have hfl := frameL_len (l.take 200); have hfm := List.length_take (i := 200) (l := l); have hmod := Nat.mod_lt q0 (show 0 < (frameL (l.take 200)).length - 4 by omega); have hq1 := of_decide_eq_false hc31; (try simp only [List.length_drop, List.length_take, List.length_append, List.length_cons, List.length_nil]); omega)) ?_
      refine ops_rule (C := []) [(g11, .cells cur11 5)] [] 1 [] 0 (fun φ34 => [(60, .int .i64 (IntKind.wrap .i64 (((4 : Nat) : Int) + ((q0 % ((((frameL (l.take 200))).length) - 4) : Nat) : Int))))]) (fun φ34 => [(g11, .cells cur11 5)]) (fun φ34 => []) s trivial (fun φ34 => by kernel_rfl) ?_
      intro φ34 w34 s
      rw [nat_addI (a := 4) (b := (q0 % ((((frameL (l.take 200))).length) - 4))) (by have hfl := frameL_len (l.take 200); have hfm := List.length_take (i := 200) (l := l); have hmod := Nat.mod_lt q0 (show 0 < (frameL (l.take 200)).length - 4 by omega); have hq1 := of_decide_eq_false hc31; (try simp only [List.length_drop, List.length_take, List.length_append, List.length_cons, List.length_nil]); omega)]
      refine sem_rule (Instr.indexAt 34 (.slice (some ⟨g11, 0, none⟩) (((frameL (l.take 200))).length) cap11) (.int .i64 ((4 + (q0 % ((((frameL (l.take 200))).length) - 4)) : Nat) : Int))) (some 61) (.pointer (some ⟨g11, 4 + (q0 % ((((frameL (l.take 200))).length) - 4)), none⟩)) (by kernel_rfl) (row_idx (by have hfl := frameL_len (l.take 200); have hfm := List.length_take (i := 200) (l := l); have hmod := Nat.mod_lt q0 (show 0 < (frameL (l.take 200)).length - 4 by omega); have hq1 := of_decide_eq_false hc31; (try simp only [List.length_drop, List.length_take, List.length_append, List.length_cons, List.length_nil]); omega)) ?_
      refine sem_rule (Instr.loadAt 5 (.pointer (some ⟨g11, 4 + (q0 % ((((frameL (l.take 200))).length) - 4)), none⟩))) (some 62) (.int .u8 ((((frameL (l.take 200)).getD (4 + (q0 % ((((frameL (l.take 200))).length) - 4))) 0).toNat : Nat) : Int)) (by kernel_rfl) (row_ld s (by simp) hrow11 (by have hfl := frameL_len (l.take 200); have hfm := List.length_take (i := 200) (l := l); have hmod := Nat.mod_lt q0 (show 0 < (frameL (l.take 200)).length - 4 by omega); have hq1 := of_decide_eq_false hc31; (try simp only [List.length_drop, List.length_take, List.length_append, List.length_cons, List.length_nil]); omega)) ?_
      refine ops_rule (C := []) [(g11, .cells cur11 5)] [] 1 [] 0 (fun φ35 => [(63, .int .u8 ((t : Nat) : Int))]) (fun φ35 => [(g11, .cells cur11 5)]) (fun φ35 => []) s trivial (fun φ35 => by kernel_rfl) ?_
      intro φ35 w35 s
      refine sem_rule (binOp .xor 5 (.int .u8 ((((frameL (l.take 200)).getD (4 + (q0 % ((((frameL (l.take 200))).length) - 4))) 0).toNat : Nat) : Int)) (.int .u8 ((t : Nat) : Int))) (some 64) (.int .u8 ((bxor 8 (((frameL (l.take 200)).getD (4 + (q0 % ((((frameL (l.take 200))).length) - 4))) 0).toNat) t : Nat) : Int)) (by kernel_rfl) (run_bit8.1) ?_
      refine sem_rule (Instr.indexAt 34 (.slice (some ⟨g11, 0, none⟩) (((frameL (l.take 200))).length) cap11) (.int .i64 ((4 + (q0 % ((((frameL (l.take 200))).length) - 4)) : Nat) : Int))) (some 65) (.pointer (some ⟨g11, 4 + (q0 % ((((frameL (l.take 200))).length) - 4)), none⟩)) (by kernel_rfl) (row_idx (by have hfl := frameL_len (l.take 200); have hfm := List.length_take (i := 200) (l := l); have hmod := Nat.mod_lt q0 (show 0 < (frameL (l.take 200)).length - 4 by omega); have hq1 := of_decide_eq_false hc31; (try simp only [List.length_drop, List.length_take, List.length_append, List.length_cons, List.length_nil]); omega)) ?_
      obtain ⟨w36, cur36, hr36, s, hrow36⟩ := row_st (H := [(g11, .cells cur11 5)]) (q := 0) (i := 4 + (q0 % ((((frameL (l.take 200))).length) - 4))) (x := bxor 8 (((frameL (l.take 200)).getD (4 + (q0 % ((((frameL (l.take 200))).length) - 4))) 0).toNat) t) s (by kernel_rfl) hrow11 (by have hfl := frameL_len (l.take 200); have hfm := List.length_take (i := 200) (l := l); have hmod := Nat.mod_lt q0 (show 0 < (frameL (l.take 200)).length - 4 by omega); have hq1 := of_decide_eq_false hc31; (try simp only [List.length_drop, List.length_take, List.length_append, List.length_cons, List.length_nil]); omega) (bxor8_lt)
      refine semU_rule (Instr.storeAt 5 (.pointer (some ⟨g11, 4 + (q0 % ((((frameL (l.take 200))).length) - 4)), none⟩)) (.int .u8 ((bxor 8 (((frameL (l.take 200)).getD (4 + (q0 % ((((frameL (l.take 200))).length) - 4))) 0).toNat) t : Nat) : Int))) none (by kernel_rfl) hr36 ?_
      refine ops_done (by kernel_rfl) ?_
      refine wp_seq ?_
      refine region_rule ?_
      refine ops_rule (C := []) [(g11, .cells cur36 5)] [] 1 [] 0 (fun φ37 => [(67, .slice (some ⟨g11, 0, none⟩) (((frameL (l.take 200))).length) cap11)]) (fun φ37 => [(g11, .cells cur36 5)]) (fun φ37 => []) s trivial (fun φ37 => by kernel_rfl) ?_
      intro φ37 w37 s
      have hle38 : IM.Le I28 (IM.add I28 g11 (.cells cur36 5)) := IM.le_add (s.free (g11, .cells cur36 5) (by simp)) _
      refine callL_rule (H := ([(g11, .cells cur36 5)] ++ [])) (R := fun v => ∃ (a : Option Addr) (c : Nat), v = .tuple #[.slice a 0 c, .int .i64 0, .int .i64 13]) (some 68) s (IM.add I28 g11 (.cells cur36 5)) hle38 (add_sub (by simp)) (openT_c (row_lend (I := I28) hrow36) (by (try simp only [List.length_set]); (try simp only [List.length_append]); (try simp only [frameL_len]); (try simp only [List.length_take]); omega) (frame_turned (l.take 200) (by simp only [List.length_take]; omega) (by omega) (by have hfl := frameL_len (l.take 200); have hfm := List.length_take (i := 200) (l := l); have hmod := Nat.mod_lt q0 (show 0 < (frameL (l.take 200)).length - 4 by omega); omega) (turned_ne ht (of_decide_eq_false hc31)))) (by kernel_rfl) ?_
      intro v39 w39 h39 s
      obtain ⟨a39, c39, rfl⟩ := h39
      refine ops_rule (C := []) [(g11, .cells cur36 5)] [] 7 [] 0 (fun φ40 => [(12, .int .i64 13), (11, .int .i64 0), (10, .slice a39 0 c39), (71, .int .i64 13), (70, .int .i64 0), (69, .slice a39 0 c39), (66, .tuple #[.slice a39 0 c39, .int .i64 0, .int .i64 13])]) (fun φ40 => [(g11, .cells cur36 5)]) (fun φ40 => []) s trivial (fun φ40 => by kernel_rfl) ?_
      intro φ40 w40 s
      refine ops_done (by kernel_rfl) ?_
      refine wp_seq ?_
      refine region_rule ?_
      refine ops_rule (C := []) [(g11, .cells cur36 5)] [] 12 [] 0 (fun φ41 => [(8, .bool true), (82, .bool true), (81, .bool true), (80, .int .i64 0), (79, .bool true), (78, .bool true), (77, .bool true), (76, .int .i64 0), (75, .slice a39 0 c39), (74, .bool true), (73, .bool true), (72, .int .i64 13)]) (fun φ41 => [(g11, .cells cur36 5)]) (fun φ41 => []) s trivial (fun φ41 => by kernel_rfl) ?_
      intro φ41 w41 s
      refine ops_done (by kernel_rfl) ?_
      refine wp_ret ?_
      refine ret_rule (C := []) [(g11, .cells cur36 5)] [] (.bool true) [] [] s trivial (by kernel_rfl) ?_
      exact ⟨_, _, _, rfl, s, rfl⟩
  ·
    refine ops_rule (C := []) [(g11, .cells cur11 5)] [] 2 [] 0 (fun φ42 => [(47, .slice a5 (List.length (l.take 200)) c5), (46, .slice a19 (List.length (l.take 200)) c19)]) (fun φ42 => [(g11, .cells cur11 5)]) (fun φ42 => []) s trivial (fun φ42 => by kernel_rfl) ?_
    intro φ42 w42 s
    refine call_rule (some 48) s (sameR_c h19_0 h5_0 (by (try simp only [List.length_set]); (try simp only [List.length_append]); (try simp only [frameL_len]); (try simp only [List.length_take]); omega)) (by kernel_rfl) ?_
    intro v43 I43 w43 le43 h43 s
    replace hl := BSl.mono le43 hl
    replace hl2 := BSl.mono le43 hl2
    replace h5_0 := BSl.mono le43 h5_0
    replace h7_0 := BSl.mono le43 h7_0
    replace hb18 := BSl.mono le43 hb18
    replace h19_0 := BSl.mono le43 h19_0
    replace h22_0 := BSl.mono le43 h22_0
    obtain rfl := h43
    refine ops_rule (C := []) [(g11, .cells cur11 5)] [] 2 [] 0 (fun φ44 => [(50, .bool false), (49, .bool false)]) (fun φ44 => [(g11, .cells cur11 5)]) (fun φ44 => []) s trivial (fun φ44 => by kernel_rfl) ?_
    intro φ44 w44 s
    refine ops_done (by kernel_rfl) ?_
    refine cond_false_rule (b := false) (by kernel_rfl) rfl ?_
    refine wp_skip ?_
    refine wp_seq ?_
    refine wp_seq ?_
    refine region_rule ?_
    refine ops_rule (C := []) [(g11, .cells cur11 5)] [] 2 [] 0 (fun φ45 => [(52, .bool (((t : Nat) : Int) == ((0 : Nat) : Int))), (51, .int .u8 ((t : Nat) : Int))]) (fun φ45 => [(g11, .cells cur11 5)]) (fun φ45 => []) s trivial (fun φ45 => by kernel_rfl) ?_
    intro φ45 w45 s
    rw [nat_eql (a := t) (b := 0)]
    refine ops_done (by kernel_rfl) ?_
    rcases Bool.eq_false_or_eq_true (decide (t = 0)) with hc46 | hc46
    ·
      rw [hc46]
      refine cond_true_rule (b := true) (by kernel_rfl) rfl ?_
      refine wp_seq ?_
      refine region_rule ?_
      refine ops_rule (C := []) [(g11, .cells cur11 5)] [] 1 [] 0 (fun φ47 => [(8, .bool true)]) (fun φ47 => [(g11, .cells cur11 5)]) (fun φ47 => []) s trivial (fun φ47 => by kernel_rfl) ?_
      intro φ47 w47 s
      refine ops_done (by kernel_rfl) ?_
      refine wp_ret ?_
      refine ret_rule (C := []) [(g11, .cells cur11 5)] [] (.bool true) [] [] s trivial (by kernel_rfl) ?_
      exact ⟨_, _, _, rfl, s, rfl⟩
    ·
      rw [hc46]
      refine cond_false_rule (b := false) (by kernel_rfl) rfl ?_
      refine wp_skip ?_
      refine wp_seq ?_
      refine region_rule ?_
      refine ops_rule (C := []) [(g11, .cells cur11 5)] [] 6 [] 0 (fun φ48 => [(58, .int .i64 (IntKind.wrap .i64 (((((frameL (l.take 200))).length : Nat) : Int) - ((4 : Nat) : Int)))), (57, .int .i64 ((((frameL (l.take 200))).length : Nat) : Int)), (56, .slice (some ⟨g11, 0, none⟩) (((frameL (l.take 200))).length) cap11), (55, .int .i64 (IntKind.wrap .i64 ((q0 : Nat) : Int))), (54, .int .u16 ((q0 : Nat) : Int)), (53, .slice (some ⟨g11, 0, none⟩) (((frameL (l.take 200))).length) cap11)]) (fun φ48 => [(g11, .cells cur11 5)]) (fun φ48 => []) s trivial (fun φ48 => by kernel_rfl) ?_
      intro φ48 w48 s
      rw [nat_wrapI (a := q0) (by have hfl := frameL_len (l.take 200); have hfm := List.length_take (i := 200) (l := l); have hmod := Nat.mod_lt q0 (show 0 < (frameL (l.take 200)).length - 4 by omega); have hq1 := of_decide_eq_false hc46; omega)]
      rw [nat_subI (a := (((frameL (l.take 200))).length)) (b := 4) (by have hfl := frameL_len (l.take 200); have hfm := List.length_take (i := 200) (l := l); have hmod := Nat.mod_lt q0 (show 0 < (frameL (l.take 200)).length - 4 by omega); have hq1 := of_decide_eq_false hc46; (try simp only [List.length_drop, List.length_take, List.length_append, List.length_cons, List.length_nil]); omega) (by have hfl := frameL_len (l.take 200); have hfm := List.length_take (i := 200) (l := l); have hmod := Nat.mod_lt q0 (show 0 < (frameL (l.take 200)).length - 4 by omega); have hq1 := of_decide_eq_false hc46; (try simp only [List.length_drop, List.length_take, List.length_append, List.length_cons, List.length_nil]); omega)]
      refine sem_rule (binOp .rem 3 (.int .i64 ((q0 : Nat) : Int)) (.int .i64 (((((frameL (l.take 200))).length) - 4 : Nat) : Int))) (some 59) (.int .i64 ((q0 % ((((frameL (l.take 200))).length) - 4) : Nat) : Int)) (by kernel_rfl) (run_remI (by have hfl := frameL_len (l.take 200); have hfm := List.length_take (i := 200) (l := l); have hmod := Nat.mod_lt q0 (show 0 < (frameL (l.take 200)).length - 4 by omega); have hq1 := of_decide_eq_false hc46; (try simp only [List.length_drop, List.length_take, List.length_append, List.length_cons, List.length_nil]); omega)) ?_
      refine ops_rule (C := []) [(g11, .cells cur11 5)] [] 1 [] 0 (fun φ49 => [(60, .int .i64 (IntKind.wrap .i64 (((4 : Nat) : Int) + ((q0 % ((((frameL (l.take 200))).length) - 4) : Nat) : Int))))]) (fun φ49 => [(g11, .cells cur11 5)]) (fun φ49 => []) s trivial (fun φ49 => by kernel_rfl) ?_
      intro φ49 w49 s
      rw [nat_addI (a := 4) (b := (q0 % ((((frameL (l.take 200))).length) - 4))) (by have hfl := frameL_len (l.take 200); have hfm := List.length_take (i := 200) (l := l); have hmod := Nat.mod_lt q0 (show 0 < (frameL (l.take 200)).length - 4 by omega); have hq1 := of_decide_eq_false hc46; (try simp only [List.length_drop, List.length_take, List.length_append, List.length_cons, List.length_nil]); omega)]
      refine sem_rule (Instr.indexAt 34 (.slice (some ⟨g11, 0, none⟩) (((frameL (l.take 200))).length) cap11) (.int .i64 ((4 + (q0 % ((((frameL (l.take 200))).length) - 4)) : Nat) : Int))) (some 61) (.pointer (some ⟨g11, 4 + (q0 % ((((frameL (l.take 200))).length) - 4)), none⟩)) (by kernel_rfl) (row_idx (by have hfl := frameL_len (l.take 200); have hfm := List.length_take (i := 200) (l := l); have hmod := Nat.mod_lt q0 (show 0 < (frameL (l.take 200)).length - 4 by omega); have hq1 := of_decide_eq_false hc46; (try simp only [List.length_drop, List.length_take, List.length_append, List.length_cons, List.length_nil]); omega)) ?_
      refine sem_rule (Instr.loadAt 5 (.pointer (some ⟨g11, 4 + (q0 % ((((frameL (l.take 200))).length) - 4)), none⟩))) (some 62) (.int .u8 ((((frameL (l.take 200)).getD (4 + (q0 % ((((frameL (l.take 200))).length) - 4))) 0).toNat : Nat) : Int)) (by kernel_rfl) (row_ld s (by simp) hrow11 (by have hfl := frameL_len (l.take 200); have hfm := List.length_take (i := 200) (l := l); have hmod := Nat.mod_lt q0 (show 0 < (frameL (l.take 200)).length - 4 by omega); have hq1 := of_decide_eq_false hc46; (try simp only [List.length_drop, List.length_take, List.length_append, List.length_cons, List.length_nil]); omega)) ?_
      refine ops_rule (C := []) [(g11, .cells cur11 5)] [] 1 [] 0 (fun φ50 => [(63, .int .u8 ((t : Nat) : Int))]) (fun φ50 => [(g11, .cells cur11 5)]) (fun φ50 => []) s trivial (fun φ50 => by kernel_rfl) ?_
      intro φ50 w50 s
      refine sem_rule (binOp .xor 5 (.int .u8 ((((frameL (l.take 200)).getD (4 + (q0 % ((((frameL (l.take 200))).length) - 4))) 0).toNat : Nat) : Int)) (.int .u8 ((t : Nat) : Int))) (some 64) (.int .u8 ((bxor 8 (((frameL (l.take 200)).getD (4 + (q0 % ((((frameL (l.take 200))).length) - 4))) 0).toNat) t : Nat) : Int)) (by kernel_rfl) (run_bit8.1) ?_
      refine sem_rule (Instr.indexAt 34 (.slice (some ⟨g11, 0, none⟩) (((frameL (l.take 200))).length) cap11) (.int .i64 ((4 + (q0 % ((((frameL (l.take 200))).length) - 4)) : Nat) : Int))) (some 65) (.pointer (some ⟨g11, 4 + (q0 % ((((frameL (l.take 200))).length) - 4)), none⟩)) (by kernel_rfl) (row_idx (by have hfl := frameL_len (l.take 200); have hfm := List.length_take (i := 200) (l := l); have hmod := Nat.mod_lt q0 (show 0 < (frameL (l.take 200)).length - 4 by omega); have hq1 := of_decide_eq_false hc46; (try simp only [List.length_drop, List.length_take, List.length_append, List.length_cons, List.length_nil]); omega)) ?_
      obtain ⟨w51, cur51, hr51, s, hrow51⟩ := row_st (H := [(g11, .cells cur11 5)]) (q := 0) (i := 4 + (q0 % ((((frameL (l.take 200))).length) - 4))) (x := bxor 8 (((frameL (l.take 200)).getD (4 + (q0 % ((((frameL (l.take 200))).length) - 4))) 0).toNat) t) s (by kernel_rfl) hrow11 (by have hfl := frameL_len (l.take 200); have hfm := List.length_take (i := 200) (l := l); have hmod := Nat.mod_lt q0 (show 0 < (frameL (l.take 200)).length - 4 by omega); have hq1 := of_decide_eq_false hc46; (try simp only [List.length_drop, List.length_take, List.length_append, List.length_cons, List.length_nil]); omega) (bxor8_lt)
      refine semU_rule (Instr.storeAt 5 (.pointer (some ⟨g11, 4 + (q0 % ((((frameL (l.take 200))).length) - 4)), none⟩)) (.int .u8 ((bxor 8 (((frameL (l.take 200)).getD (4 + (q0 % ((((frameL (l.take 200))).length) - 4))) 0).toNat) t : Nat) : Int))) none (by kernel_rfl) hr51 ?_
      refine ops_done (by kernel_rfl) ?_
      refine wp_seq ?_
      refine region_rule ?_
      refine ops_rule (C := []) [(g11, .cells cur51 5)] [] 1 [] 0 (fun φ52 => [(67, .slice (some ⟨g11, 0, none⟩) (((frameL (l.take 200))).length) cap11)]) (fun φ52 => [(g11, .cells cur51 5)]) (fun φ52 => []) s trivial (fun φ52 => by kernel_rfl) ?_
      intro φ52 w52 s
      have hle53 : IM.Le I43 (IM.add I43 g11 (.cells cur51 5)) := IM.le_add (s.free (g11, .cells cur51 5) (by simp)) _
      refine callL_rule (H := ([(g11, .cells cur51 5)] ++ [])) (R := fun v => ∃ (a : Option Addr) (c : Nat), v = .tuple #[.slice a 0 c, .int .i64 0, .int .i64 13]) (some 68) s (IM.add I43 g11 (.cells cur51 5)) hle53 (add_sub (by simp)) (openT_c (row_lend (I := I43) hrow51) (by (try simp only [List.length_set]); (try simp only [List.length_append]); (try simp only [frameL_len]); (try simp only [List.length_take]); omega) (frame_turned (l.take 200) (by simp only [List.length_take]; omega) (by omega) (by have hfl := frameL_len (l.take 200); have hfm := List.length_take (i := 200) (l := l); have hmod := Nat.mod_lt q0 (show 0 < (frameL (l.take 200)).length - 4 by omega); omega) (turned_ne ht (of_decide_eq_false hc46)))) (by kernel_rfl) ?_
      intro v54 w54 h54 s
      obtain ⟨a54, c54, rfl⟩ := h54
      refine ops_rule (C := []) [(g11, .cells cur51 5)] [] 7 [] 0 (fun φ55 => [(12, .int .i64 13), (11, .int .i64 0), (10, .slice a54 0 c54), (71, .int .i64 13), (70, .int .i64 0), (69, .slice a54 0 c54), (66, .tuple #[.slice a54 0 c54, .int .i64 0, .int .i64 13])]) (fun φ55 => [(g11, .cells cur51 5)]) (fun φ55 => []) s trivial (fun φ55 => by kernel_rfl) ?_
      intro φ55 w55 s
      refine ops_done (by kernel_rfl) ?_
      refine wp_seq ?_
      refine region_rule ?_
      refine ops_rule (C := []) [(g11, .cells cur51 5)] [] 12 [] 0 (fun φ56 => [(8, .bool true), (82, .bool true), (81, .bool true), (80, .int .i64 0), (79, .bool true), (78, .bool true), (77, .bool true), (76, .int .i64 0), (75, .slice a54 0 c54), (74, .bool true), (73, .bool true), (72, .int .i64 13)]) (fun φ56 => [(g11, .cells cur51 5)]) (fun φ56 => []) s trivial (fun φ56 => by kernel_rfl) ?_
      intro φ56 w56 s
      refine ops_done (by kernel_rfl) ?_
      refine wp_ret ?_
      refine ret_rule (C := []) [(g11, .cells cur51 5)] [] (.bool true) [] [] s trivial (by kernel_rfl) ?_
      exact ⟨_, _, _, rfl, s, rfl⟩

end Go.Proofs.Ytpnlaeapnokipaa
