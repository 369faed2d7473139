/- Frames are made. -/
import Derived.Test.YtpnlaeapnokipaaRW4
import Derived.Test.YtpnlaeapnokipaaRB4
import Derived.Test.YtpnlaeapnokipaaRC2
set_option linter.all false
set_option maxRecDepth 100000
namespace Go.Proofs.Ytpnlaeapnokipaa
open Go.RowKit Go.Sep
attribute [local irreducible] Go.wpList Go.Code.wp

set_option maxHeartbeats 1000000 in
theorem addWord_r {I : IM} {F : List OB} {l : List UInt8} {v0 : Value} {n : Nat} (h : RowH 5 1 v0 l.length (l.map bV) F) (hn : n < 4294967296) (hl : l.length ≤ 1000000) : FunM Try.prog 70 #[v0, .int .u32 ((n : Nat) : Int)] I F (fun v J F => RowH 5 1 v (l ++ wd4 n).length ((l ++ wd4 n).map bV) F) := by
  refine enterM_rule 19 [(0, v0), (1, .int .u32 ((n : Nat) : Int))] Try.func70 rfl (by kernel_rfl) ?_
  intro w s
  refine wp_seq ?_
  refine region_rule ?_
  refine ops_rule (C := []) [] F 1 [] 0 (fun φ1 => [(4, .slice none 0 0)]) (fun φ1 => []) (fun φ1 => []) s trivial (fun φ1 => by kernel_rfl) ?_
  intro φ1 w1 s
  refine ops_done (by kernel_rfl) ?_
  refine wp_seq ?_
  refine region_rule ?_
  refine ops_rule (C := []) [] F 2 [] 0 (fun φ2 => [(6, .int .u32 ((n : Nat) : Int)), (5, v0)]) (fun φ2 => []) (fun φ2 => []) s trivial (fun φ2 => by kernel_rfl) ?_
  intro φ2 w2 s
  refine sem_rule (convert 59 5 (.int .u32 ((n : Nat) : Int))) (some 7) (.int .u8 ((n % 256 : Nat) : Int)) (by kernel_rfl) (run_conv8 (by kernel_rfl) ⟨_, Try.underlying59⟩) ?_
  refine ops_rule (C := []) [] F 1 [] 0 (fun φ3 => [(8, .int .u32 ((n : Nat) : Int))]) (fun φ3 => []) (fun φ3 => []) s trivial (fun φ3 => by kernel_rfl) ?_
  intro φ3 w3 s
  refine sem_rule (binOp .shr 59 (.int .u32 ((n : Nat) : Int)) (.int .u64 ((8 : Nat) : Int))) (some 9) (.int .u32 ((n / 2 ^ 8 : Nat) : Int)) (by kernel_rfl) (run_shrU (by show _ < 4294967296;   omega)) ?_
  refine sem_rule (convert 59 5 (.int .u32 ((n / 2 ^ 8 : Nat) : Int))) (some 10) (.int .u8 (((n / 2 ^ 8) % 256 : Nat) : Int)) (by kernel_rfl) (run_conv8 (by kernel_rfl) ⟨_, Try.underlying59⟩) ?_
  refine ops_rule (C := []) [] F 1 [] 0 (fun φ4 => [(11, .int .u32 ((n : Nat) : Int))]) (fun φ4 => []) (fun φ4 => []) s trivial (fun φ4 => by kernel_rfl) ?_
  intro φ4 w4 s
  refine sem_rule (binOp .shr 59 (.int .u32 ((n : Nat) : Int)) (.int .u64 ((16 : Nat) : Int))) (some 12) (.int .u32 ((n / 2 ^ 16 : Nat) : Int)) (by kernel_rfl) (run_shrU (by show _ < 4294967296;   omega)) ?_
  refine sem_rule (convert 59 5 (.int .u32 ((n / 2 ^ 16 : Nat) : Int))) (some 13) (.int .u8 (((n / 2 ^ 16) % 256 : Nat) : Int)) (by kernel_rfl) (run_conv8 (by kernel_rfl) ⟨_, Try.underlying59⟩) ?_
  refine ops_rule (C := []) [] F 1 [] 0 (fun φ5 => [(14, .int .u32 ((n : Nat) : Int))]) (fun φ5 => []) (fun φ5 => []) s trivial (fun φ5 => by kernel_rfl) ?_
  intro φ5 w5 s
  refine sem_rule (binOp .shr 59 (.int .u32 ((n : Nat) : Int)) (.int .u64 ((24 : Nat) : Int))) (some 15) (.int .u32 ((n / 2 ^ 24 : Nat) : Int)) (by kernel_rfl) (run_shrU (by show _ < 4294967296;   omega)) ?_
  refine sem_rule (convert 59 5 (.int .u32 ((n / 2 ^ 24 : Nat) : Int))) (some 16) (.int .u8 (((n / 2 ^ 24) % 256 : Nat) : Int)) (by kernel_rfl) (run_conv8 (by kernel_rfl) ⟨_, Try.underlying59⟩) ?_
  refine ops_rule (C := []) [] F 1 [] 1 (fun φ6 => [(17, .slice (some ⟨(φ6 0), 0, none⟩) 4 4)]) (fun φ6 => [((φ6 0), .cells #[.int .u8 ((n % 256 : Nat) : Int), .int .u8 (((n / 2 ^ 8) % 256 : Nat) : Int), .int .u8 (((n / 2 ^ 16) % 256 : Nat) : Int), .int .u8 (((n / 2 ^ 24) % 256 : Nat) : Int)] 5)]) (fun φ6 => []) s trivial (fun φ6 => by kernel_rfl) ?_
  intro φ6 w6 s
  refine append_rule (H := [((φ6 0), .cells #[.int .u8 ((n % 256 : Nat) : Int), .int .u8 (((n / 2 ^ 8) % 256 : Nat) : Int), .int .u8 (((n / 2 ^ 16) % 256 : Nat) : Int), .int .u8 (((n / 2 ^ 24) % 256 : Nat) : Int)] 5)]) (F := F) 34 34 5 Try.t5 (.int .u8 0) 1 1 (some 18) s Try.underlying34 (by kernel_rfl) (by kernel_rfl) (by kernel_rfl) (by kernel_rfl) (by kernel_rfl) (by decide) h (src_own (H := [((φ6 0), .cells #[.int .u8 ((n % 256 : Nat) : Int), .int .u8 (((n / 2 ^ 8) % 256 : Nat) : Int), .int .u8 (((n / 2 ^ 16) % 256 : Nat) : Int), .int .u8 (((n / 2 ^ 24) % 256 : Nat) : Int)] 5)]) s 0 (φ6 0) #[.int .u8 ((n % 256 : Nat) : Int), .int .u8 (((n / 2 ^ 8) % 256 : Nat) : Int), .int .u8 (((n / 2 ^ 16) % 256 : Nat) : Int), .int .u8 (((n / 2 ^ 24) % 256 : Nat) : Int)] 5 34 5 4 4 1 [.int .u8 ((n % 256 : Nat) : Int), .int .u8 (((n / 2 ^ 8) % 256 : Nat) : Int), .int .u8 (((n / 2 ^ 16) % 256 : Nat) : Int), .int .u8 (((n / 2 ^ 24) % 256 : Nat) : Int)] (by kernel_rfl) under34 (by kernel_rfl) (by kernel_rfl) (by kernel_rfl)) (by   (try simp only [maxLen, List.length_append, List.length_cons, List.length_nil, List.length_take, List.length_drop]); omega) (by   (try simp only [maxLen, List.length_append, List.length_cons, List.length_nil, List.length_take, List.length_drop]); omega) (by kernel_rfl) ?_
  intro v7 w7 F7 s h7
  replace h7 : RowH 5 1 v7 ((l ++ ([UInt8.ofNat (n % 256), UInt8.ofNat ((n / 2 ^ 8) % 256), UInt8.ofNat ((n / 2 ^ 16) % 256), UInt8.ofNat ((n / 2 ^ 24) % 256)] : List UInt8)).length) ((l ++ ([UInt8.ofNat (n % 256), UInt8.ofNat ((n / 2 ^ 8) % 256), UInt8.ofNat ((n / 2 ^ 16) % 256), UInt8.ofNat ((n / 2 ^ 24) % 256)] : List UInt8)).map bV) F7 := row_snoc (x := l) (y := ([UInt8.ofNat (n % 256), UInt8.ofNat ((n / 2 ^ 8) % 256), UInt8.ofNat ((n / 2 ^ 16) % 256), UInt8.ofNat ((n / 2 ^ 24) % 256)] : List UInt8)) h7 (by simp only [List.map_cons, List.map_nil]; exact cells_bytes4 (by   omega) (by   omega) (by   omega) (by   omega))
  refine ops_rule (C := []) [((φ6 0), .cells #[.int .u8 ((n % 256 : Nat) : Int), .int .u8 (((n / 2 ^ 8) % 256 : Nat) : Int), .int .u8 (((n / 2 ^ 16) % 256 : Nat) : Int), .int .u8 (((n / 2 ^ 24) % 256 : Nat) : Int)] 5)] F7 1 [] 0 (fun φ8 => [(4, v7)]) (fun φ8 => [((φ6 0), .cells #[.int .u8 ((n % 256 : Nat) : Int), .int .u8 (((n / 2 ^ 8) % 256 : Nat) : Int), .int .u8 (((n / 2 ^ 16) % 256 : Nat) : Int), .int .u8 (((n / 2 ^ 24) % 256 : Nat) : Int)] 5)]) (fun φ8 => []) s trivial (fun φ8 => by kernel_rfl) ?_
  intro φ8 w8 s
  refine ops_done (by kernel_rfl) ?_
  refine wp_ret ?_
  refine ret_rule (C := []) [((φ6 0), .cells #[.int .u8 ((n % 256 : Nat) : Int), .int .u8 (((n / 2 ^ 8) % 256 : Nat) : Int), .int .u8 (((n / 2 ^ 16) % 256 : Nat) : Int), .int .u8 (((n / 2 ^ 24) % 256 : Nat) : Int)] 5)] F7 (v7) [] [] s trivial (by kernel_rfl) ?_
  replace s := s.drop (List.sublist_append_right [((φ6 0), .cells #[.int .u8 ((n % 256 : Nat) : Int), .int .u8 (((n / 2 ^ 8) % 256 : Nat) : Int), .int .u8 (((n / 2 ^ 16) % 256 : Nat) : Int), .int .u8 (((n / 2 ^ 24) % 256 : Nat) : Int)] 5)] F7)
  exact ⟨_, _, _, rfl, s, h7⟩

set_option maxHeartbeats 2000000 in
theorem frame_r {I : IM} {l : List UInt8} {a : Option Addr} {n c : Nat} (hl : BSl I l (.slice a n c)) (hn : l.length ≤ 1000000) : FunM Try.prog 39 #[.slice a n c] I [] (fun v J F => RowH 5 1 v (frameL l).length ((frameL l).map bV) F) := by
  obtain ⟨rfl, -⟩ := hl.cap
  refine enterM_rule 21 [(0, .slice a l.length c)] Try.func39 rfl (by kernel_rfl) ?_
  intro w s
  refine wp_seq ?_
  refine region_rule ?_
  refine ops_rule (C := []) [] [] 1 [] 0 (fun φ1 => [(2, .slice none 0 0)]) (fun φ1 => []) (fun φ1 => []) s trivial (fun φ1 => by kernel_rfl) ?_
  intro φ1 w1 s
  refine ops_done (by kernel_rfl) ?_
  refine wp_seq ?_
  refine region_rule ?_
  refine ops_rule (C := []) [] [] 3 [] 0 (fun φ2 => [(6, .int .i64 (IntKind.wrap .i64 (((8 : Nat) : Int) + ((l.length : Nat) : Int)))), (5, .int .i64 ((l.length : Nat) : Int)), (4, .slice a l.length c)]) (fun φ2 => []) (fun φ2 => []) s trivial (fun φ2 => by kernel_rfl) ?_
  intro φ2 w2 s
  rw [nat_addI (a := 8) (b := l.length) (by   (try simp only [List.length_drop, List.length_take, List.length_append, List.length_cons, List.length_nil]); omega)]
  obtain ⟨g3, cur3, w3, hr3, s, hrow3⟩ := make_row (H := []) (c := 8 + l.length) s (by   (try simp only [List.length_drop, List.length_take, List.length_append, List.length_cons, List.length_nil]); omega)
  refine sem_rule (Instr.makeSlice 34 (.int .i64 0) (.int .i64 ((8 + l.length : Nat) : Int))) (some 7) (.slice (some ⟨g3, 0, none⟩) 0 (8 + l.length)) (by kernel_rfl) hr3 ?_
  refine ops_rule (C := []) [] [(g3, .cells cur3 5)] 1 [] 0 (fun φ4 => [(3, .slice (some ⟨g3, 0, none⟩) 0 (8 + l.length))]) (fun φ4 => []) (fun φ4 => []) s trivial (fun φ4 => by kernel_rfl) ?_
  intro φ4 w4 s
  refine ops_done (by kernel_rfl) ?_
  refine wp_seq ?_
  refine region_rule ?_
  refine ops_rule (C := []) [] [(g3, .cells cur3 5)] 4 [] 0 (fun φ5 => [(11, .int .u32 (IntKind.wrap .u32 ((l.length : Nat) : Int))), (10, .int .i64 ((l.length : Nat) : Int)), (9, .slice a l.length c), (8, .slice (some ⟨g3, 0, none⟩) 0 (8 + l.length))]) (fun φ5 => []) (fun φ5 => []) s trivial (fun φ5 => by kernel_rfl) ?_
  intro φ5 w5 s
  rw [nat_wrapu32 (a := l.length) (by   (try simp only [List.length_drop, List.length_take, List.length_append, List.length_cons, List.length_nil]); omega)]
  refine callF_rule (H := []) (F := [(g3, .cells cur3 5)]) (some 12) s (addWord_r (l := []) (n := l.length) hrow3 (by omega) (by (try simp only [List.length_append, wd4, List.length_cons, List.length_nil]); omega)) (by kernel_rfl) ?_
  intro v6 I6 w6 F6 le6 h6 s
  replace hl := BSl.mono le6 hl
  refine ops_rule (C := []) [] F6 1 [] 0 (fun φ7 => [(3, v6)]) (fun φ7 => []) (fun φ7 => []) s trivial (fun φ7 => by kernel_rfl) ?_
  intro φ7 w7 s
  refine ops_done (by kernel_rfl) ?_
  refine wp_seq ?_
  refine region_rule ?_
  refine ops_rule (C := []) [] F6 3 [] 0 (fun φ8 => [(15, .slice a l.length c), (14, v6), (13, v6)]) (fun φ8 => []) (fun φ8 => []) s trivial (fun φ8 => by kernel_rfl) ?_
  intro φ8 w8 s
  obtain ⟨Ip9, hle9, hsub9, a9, c9, hv9, hB9⟩ := row_lendF (H := []) (F := F6) s h6
  subst hv9
  refine callL_rule (H := ([] ++ F6)) (R := fun v => v = .int .u32 ((4294967295 - crc (crc 4294967295 (wd4 l.length)) l : Nat) : Int)) (some 16) s (Ip9) hle9 hsub9 (frameSum_c hB9 (by (try simp only [wd4, List.length_cons, List.length_nil, List.length_append]); omega) (BSl.mono hle9 hl) (by (try simp only [wd4, List.length_cons, List.length_nil, List.length_append]); omega)) (by kernel_rfl) ?_
  intro v10 w10 h10 s
  obtain rfl := h10
  refine callF_rule (H := []) (F := F6) (some 17) s (addWord_r (l := wd4 l.length) (n := 4294967295 - crc (crc 4294967295 (wd4 l.length)) l) h6 (by omega) (by (try simp only [List.length_append, wd4, List.length_cons, List.length_nil]); omega)) (by kernel_rfl) ?_
  intro v11 I11 w11 F11 le11 h11 s
  replace hl := BSl.mono le11 hl
  refine ops_rule (C := []) [] F11 1 [] 0 (fun φ12 => [(3, v11)]) (fun φ12 => []) (fun φ12 => []) s trivial (fun φ12 => by kernel_rfl) ?_
  intro φ12 w12 s
  refine ops_done (by kernel_rfl) ?_
  refine wp_seq ?_
  refine region_rule ?_
  refine ops_rule (C := []) [] F11 2 [] 0 (fun φ13 => [(19, .slice a l.length c), (18, v11)]) (fun φ13 => []) (fun φ13 => []) s trivial (fun φ13 => by kernel_rfl) ?_
  intro φ13 w13 s
  refine append_rule (H := []) (F := F11) 34 34 5 Try.t5 (.int .u8 0) 1 1 (some 20) s Try.underlying34 (by kernel_rfl) (by kernel_rfl) (by kernel_rfl) (by kernel_rfl) (by kernel_rfl) (by decide) h11 (src_bsl s.sub hl) (by simp only [maxLen, List.length_append, wd4, List.length_cons, List.length_nil]; omega) (by simp only [maxLen, List.length_append, wd4, List.length_cons, List.length_nil]; omega) (by kernel_rfl) ?_
  intro v14 w14 F14 s h14
  replace h14 : RowH 5 1 v14 ((wd4 l.length ++ wd4 (4294967295 - crc (crc 4294967295 (wd4 l.length)) l) ++ l).length) ((wd4 l.length ++ wd4 (4294967295 - crc (crc 4294967295 (wd4 l.length)) l) ++ l).map bV) F14 := row_app (x := (wd4 l.length ++ wd4 (4294967295 - crc (crc 4294967295 (wd4 l.length)) l))) (y := l) h14
  refine ops_rule (C := []) [] F14 1 [] 0 (fun φ15 => [(2, v14)]) (fun φ15 => []) (fun φ15 => []) s trivial (fun φ15 => by kernel_rfl) ?_
  intro φ15 w15 s
  refine ops_done (by kernel_rfl) ?_
  refine wp_ret ?_
  refine ret_rule (C := []) [] F14 (v14) [] [] s trivial (by kernel_rfl) ?_
  replace s := s.drop (List.sublist_append_right [] F14)
  exact ⟨_, _, _, rfl, s, h14⟩

end Go.Proofs.Ytpnlaeapnokipaa
