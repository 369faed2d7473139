/- Stamps are written. -/
import Derived.Test.YtgmigcmhnmmdkaaCoK3
import Derived.Test.YtgmigcmhnmmdkaaCoBwW13
import Derived.Laws.Strings
set_option linter.all false
set_option maxRecDepth 100000
namespace Go.Proofs.Ytgmigcmhnmmdkaa
open Go.RowKit Go.Sep
attribute [local irreducible] Go.wpList Go.Code.wp

set_option maxHeartbeats 400000 in
theorem codeID_c {I : IM} {t : Ev.T} {bi : Bool} {pi : Option Addr} (ht : Ev.TRep I t bi pi) (hlen : (idB t).length ≤ 700000) : Fun Try.prog 11 #[.agg #[.bool bi, .pointer pi]] I (fun v J => ∃ (a : Option Addr) (c : Nat), v = .slice a (List.length (pk (idB t))) c ∧ BSl J (pk (idB t)) (.slice a (List.length (pk (idB t))) c)) := by
  refine enter_rule 10 [(0, .agg #[.bool bi, .pointer pi])] Try.func11 rfl (by kernel_rfl) ?_
  intro w s
  refine wp_seq ?_
  refine region_rule ?_
  refine ops_rule (C := []) [] [] 2 [] 1 (fun φ1 => [(2, .slice none 0 0), (1, .pointer (some ⟨(φ1 0), 0, none⟩))]) (fun φ1 => [((φ1 0), .cells #[.bool bi, .pointer pi] 26)]) (fun φ1 => []) s trivial (fun φ1 => by kernel_rfl) ?_
  intro φ1 w1 s
  refine ops_done (by kernel_rfl) ?_
  refine wp_seq ?_
  refine region_rule ?_
  refine callF_rule (H := [((φ1 0), .cells #[.bool bi, .pointer pi] 26)]) (F := []) (some 4) s (newWriter_c) (by kernel_rfl) ?_
  rintro v2 I2 w2 F2 le2 ⟨b2, rfl, rfl⟩ s
  replace ht := Ev.TRep.mono le2 ht
  refine ops_rule (C := []) [((φ1 0), .cells #[.bool bi, .pointer pi] 26), (b2, .cells #[.slice none 0 0, .int .i64 0] 91)] [] 1 [] 0 (fun φ3 => [(3, .pointer (some ⟨b2, 0, none⟩))]) (fun φ3 => [((φ1 0), .cells #[.bool bi, .pointer pi] 26), (b2, .cells #[.slice none 0 0, .int .i64 0] 91)]) (fun φ3 => []) s trivial (fun φ3 => by kernel_rfl) ?_
  intro φ3 w3 s
  refine ops_done (by kernel_rfl) ?_
  refine wp_seq ?_
  refine region_rule ?_
  refine ops_rule (C := []) [((φ1 0), .cells #[.bool bi, .pointer pi] 26), (b2, .cells #[.slice none 0 0, .int .i64 0] 91)] [] 2 [.o 0, .o 0] 0 (fun φ4 => [(6, .agg #[.bool bi, .pointer pi]), (5, .pointer (some ⟨b2, 0, none⟩))]) (fun φ4 => [((φ1 0), .cells #[.bool bi, .pointer pi] 26), (b2, .cells #[.slice none 0 0, .int .i64 0] 91)]) (fun φ4 => [(φ1 0), (φ1 0)]) s trivial (fun φ4 => by kernel_rfl) ?_
  intro φ4 w4 s
  refine callH_rule (b := (b2, .cells #[.slice none 0 0, .int .i64 0] 91)) (H := [((φ1 0), .cells #[.bool bi, .pointer pi] 26), (b2, .cells #[.slice none 0 0, .int .i64 0] 91)]) (F := []) (Hr := [((φ1 0), .cells #[.bool bi, .pointer pi] 26)]) (some 7) 1 s (by kernel_rfl) (by kernel_rfl) (putID_c t (b := b2) (cnt := 0) (bs := ([] : List Bool)) (v0 := .slice none 0 0) ht (rfl) (by have h7 := hlen; (try simp only [List.length_append, List.length_nil] at h7 ⊢); omega) (row_nilB : RowH 5 1 (.slice none 0 0) (pk []).length ((pk []).map bV) [])) (by kernel_rfl) ?_
  rintro v5 I5 w5 b5 F5 le5 - h5 s
  replace ht := Ev.TRep.mono le5 ht
  obtain ⟨v5, rfl, rfl, hr5⟩ := h5
  refine ops_done (by kernel_rfl) ?_
  refine wp_seq ?_
  refine region_rule ?_
  refine ops_rule (C := []) [(b2, .cells #[v5, .int .i64 ((0 + (idB t).length : Nat) : Int)] 91), ((φ1 0), .cells #[.bool bi, .pointer pi] 26)] F5 1 [] 0 (fun φ6 => [(8, .pointer (some ⟨b2, 0, none⟩))]) (fun φ6 => [(b2, .cells #[v5, .int .i64 ((0 + (idB t).length : Nat) : Int)] 91), ((φ1 0), .cells #[.bool bi, .pointer pi] 26)]) (fun φ6 => []) s trivial (fun φ6 => by kernel_rfl) ?_
  intro φ6 w6 s
  refine callH_rule (b := (b2, .cells #[v5, .int .i64 ((0 + (idB t).length : Nat) : Int)] 91)) (H := [(b2, .cells #[v5, .int .i64 ((0 + (idB t).length : Nat) : Int)] 91), ((φ1 0), .cells #[.bool bi, .pointer pi] 26)]) (F := F5) (Hr := [((φ1 0), .cells #[.bool bi, .pointer pi] 26)]) (some 9) 0 s (by kernel_rfl) (by kernel_rfl) (bytesA_c (b := b2) (cnt := 0 + (idB t).length) (bs := idB t) (v0 := v5) (by have h7 := hlen; (try simp only [List.length_append, List.length_nil] at h7 ⊢); omega) hr5) (by kernel_rfl) ?_
  rintro v7 I7 w7 b7 F7 le7 - h7 s
  replace ht := Ev.TRep.mono le7 ht
  obtain ⟨a7, c7, rfl, rfl, hr7, h7_0⟩ := h7
  refine ops_rule (C := []) [(b2, .cells #[v5, .int .i64 ((0 + (idB t).length : Nat) : Int)] 91), ((φ1 0), .cells #[.bool bi, .pointer pi] 26)] F7 1 [] 0 (fun φ8 => [(2, .slice a7 (List.length (pk (idB t))) c7)]) (fun φ8 => [(b2, .cells #[v5, .int .i64 ((0 + (idB t).length : Nat) : Int)] 91), ((φ1 0), .cells #[.bool bi, .pointer pi] 26)]) (fun φ8 => []) s trivial (fun φ8 => by kernel_rfl) ?_
  intro φ8 w8 s
  refine ops_done (by kernel_rfl) ?_
  refine wp_ret ?_
  refine ret_rule (C := []) [(b2, .cells #[v5, .int .i64 ((0 + (idB t).length : Nat) : Int)] 91), ((φ1 0), .cells #[.bool bi, .pointer pi] 26)] F7 (.slice a7 (List.length (pk (idB t))) c7) [] [] s trivial (by kernel_rfl) ?_
  exact ⟨_, _, _, rfl, s, ⟨_, _, rfl, h7_0⟩⟩

set_option maxHeartbeats 400000 in
theorem codeEvent_c {I : IM} {e : Ev.E} {be : Nat} {pe : Option Addr} (he : Ev.ERep I e be pe) (htop : e.top < 18446744073709551616) (hlen : (evB e).length ≤ 700000) : Fun Try.prog 13 #[.agg #[.int .u64 ((be : Nat) : Int), .pointer pe]] I (fun v J => ∃ (a : Option Addr) (c : Nat), v = .slice a (List.length (pk (evB e))) c ∧ BSl J (pk (evB e)) (.slice a (List.length (pk (evB e))) c)) := by
  refine enter_rule 10 [(0, .agg #[.int .u64 ((be : Nat) : Int), .pointer pe])] Try.func13 rfl (by kernel_rfl) ?_
  intro w s
  refine wp_seq ?_
  refine region_rule ?_
  refine ops_rule (C := []) [] [] 2 [] 1 (fun φ1 => [(2, .slice none 0 0), (1, .pointer (some ⟨(φ1 0), 0, none⟩))]) (fun φ1 => [((φ1 0), .cells #[.int .u64 ((be : Nat) : Int), .pointer pe] 30)]) (fun φ1 => []) s trivial (fun φ1 => by kernel_rfl) ?_
  intro φ1 w1 s
  refine ops_done (by kernel_rfl) ?_
  refine wp_seq ?_
  refine region_rule ?_
  refine callF_rule (H := [((φ1 0), .cells #[.int .u64 ((be : Nat) : Int), .pointer pe] 30)]) (F := []) (some 4) s (newWriter_c) (by kernel_rfl) ?_
  rintro v2 I2 w2 F2 le2 ⟨b2, rfl, rfl⟩ s
  replace he := Ev.ERep.mono le2 he
  refine ops_rule (C := []) [((φ1 0), .cells #[.int .u64 ((be : Nat) : Int), .pointer pe] 30), (b2, .cells #[.slice none 0 0, .int .i64 0] 91)] [] 1 [] 0 (fun φ3 => [(3, .pointer (some ⟨b2, 0, none⟩))]) (fun φ3 => [((φ1 0), .cells #[.int .u64 ((be : Nat) : Int), .pointer pe] 30), (b2, .cells #[.slice none 0 0, .int .i64 0] 91)]) (fun φ3 => []) s trivial (fun φ3 => by kernel_rfl) ?_
  intro φ3 w3 s
  refine ops_done (by kernel_rfl) ?_
  refine wp_seq ?_
  refine region_rule ?_
  refine ops_rule (C := []) [((φ1 0), .cells #[.int .u64 ((be : Nat) : Int), .pointer pe] 30), (b2, .cells #[.slice none 0 0, .int .i64 0] 91)] [] 2 [.o 0, .o 0] 0 (fun φ4 => [(6, .agg #[.int .u64 ((be : Nat) : Int), .pointer pe]), (5, .pointer (some ⟨b2, 0, none⟩))]) (fun φ4 => [((φ1 0), .cells #[.int .u64 ((be : Nat) : Int), .pointer pe] 30), (b2, .cells #[.slice none 0 0, .int .i64 0] 91)]) (fun φ4 => [(φ1 0), (φ1 0)]) s trivial (fun φ4 => by kernel_rfl) ?_
  intro φ4 w4 s
  refine callH_rule (b := (b2, .cells #[.slice none 0 0, .int .i64 0] 91)) (H := [((φ1 0), .cells #[.int .u64 ((be : Nat) : Int), .pointer pe] 30), (b2, .cells #[.slice none 0 0, .int .i64 0] 91)]) (F := []) (Hr := [((φ1 0), .cells #[.int .u64 ((be : Nat) : Int), .pointer pe] 30)]) (some 7) 1 s (by kernel_rfl) (by kernel_rfl) (putEvent_c e (b := b2) (cnt := 0) (bs := ([] : List Bool)) (v0 := .slice none 0 0) he (htop) (rfl) (by have h7 := hlen; (try simp only [List.length_append, List.length_nil] at h7 ⊢); omega) (row_nilB : RowH 5 1 (.slice none 0 0) (pk []).length ((pk []).map bV) [])) (by kernel_rfl) ?_
  rintro v5 I5 w5 b5 F5 le5 - h5 s
  replace he := Ev.ERep.mono le5 he
  obtain ⟨v5, rfl, rfl, hr5⟩ := h5
  refine ops_done (by kernel_rfl) ?_
  refine wp_seq ?_
  refine region_rule ?_
  refine ops_rule (C := []) [(b2, .cells #[v5, .int .i64 ((0 + (evB e).length : Nat) : Int)] 91), ((φ1 0), .cells #[.int .u64 ((be : Nat) : Int), .pointer pe] 30)] F5 1 [] 0 (fun φ6 => [(8, .pointer (some ⟨b2, 0, none⟩))]) (fun φ6 => [(b2, .cells #[v5, .int .i64 ((0 + (evB e).length : Nat) : Int)] 91), ((φ1 0), .cells #[.int .u64 ((be : Nat) : Int), .pointer pe] 30)]) (fun φ6 => []) s trivial (fun φ6 => by kernel_rfl) ?_
  intro φ6 w6 s
  refine callH_rule (b := (b2, .cells #[v5, .int .i64 ((0 + (evB e).length : Nat) : Int)] 91)) (H := [(b2, .cells #[v5, .int .i64 ((0 + (evB e).length : Nat) : Int)] 91), ((φ1 0), .cells #[.int .u64 ((be : Nat) : Int), .pointer pe] 30)]) (F := F5) (Hr := [((φ1 0), .cells #[.int .u64 ((be : Nat) : Int), .pointer pe] 30)]) (some 9) 0 s (by kernel_rfl) (by kernel_rfl) (bytesA_c (b := b2) (cnt := 0 + (evB e).length) (bs := evB e) (v0 := v5) (by have h7 := hlen; (try simp only [List.length_append, List.length_nil] at h7 ⊢); omega) hr5) (by kernel_rfl) ?_
  rintro v7 I7 w7 b7 F7 le7 - h7 s
  replace he := Ev.ERep.mono le7 he
  obtain ⟨a7, c7, rfl, rfl, hr7, h7_0⟩ := h7
  refine ops_rule (C := []) [(b2, .cells #[v5, .int .i64 ((0 + (evB e).length : Nat) : Int)] 91), ((φ1 0), .cells #[.int .u64 ((be : Nat) : Int), .pointer pe] 30)] F7 1 [] 0 (fun φ8 => [(2, .slice a7 (List.length (pk (evB e))) c7)]) (fun φ8 => [(b2, .cells #[v5, .int .i64 ((0 + (evB e).length : Nat) : Int)] 91), ((φ1 0), .cells #[.int .u64 ((be : Nat) : Int), .pointer pe] 30)]) (fun φ8 => []) s trivial (fun φ8 => by kernel_rfl) ?_
  intro φ8 w8 s
  refine ops_done (by kernel_rfl) ?_
  refine wp_ret ?_
  refine ret_rule (C := []) [(b2, .cells #[v5, .int .i64 ((0 + (evB e).length : Nat) : Int)] 91), ((φ1 0), .cells #[.int .u64 ((be : Nat) : Int), .pointer pe] 30)] F7 (.slice a7 (List.length (pk (evB e))) c7) [] [] s trivial (by kernel_rfl) ?_
  exact ⟨_, _, _, rfl, s, ⟨_, _, rfl, h7_0⟩⟩

set_option maxHeartbeats 400000 in
theorem codeStamp_c {I : IM} {t : Ev.T} {bi : Bool} {pi : Option Addr} (ht : Ev.TRep I t bi pi) {e : Ev.E} {be : Nat} {pe : Option Addr} (he : Ev.ERep I e be pe) (htop : e.top < 18446744073709551616) (hlen : (idB t).length + (evB e).length ≤ 700000) : Fun Try.prog 8 #[.agg #[.bool bi, .pointer pi, .int .u64 ((be : Nat) : Int), .pointer pe]] I (fun v J => ∃ (a : Option Addr) (c : Nat), v = .slice a (List.length (pk (idB t ++ evB e))) c ∧ BSl J (pk (idB t ++ evB e)) (.slice a (List.length (pk (idB t ++ evB e))) c)) := by
  refine enter_rule 15 [(0, .agg #[.bool bi, .pointer pi, .int .u64 ((be : Nat) : Int), .pointer pe])] Try.func8 rfl (by kernel_rfl) ?_
  intro w s
  refine wp_seq ?_
  refine region_rule ?_
  refine ops_rule (C := []) [] [] 2 [] 1 (fun φ1 => [(2, .slice none 0 0), (1, .pointer (some ⟨(φ1 0), 0, none⟩))]) (fun φ1 => [((φ1 0), .cells #[.bool bi, .pointer pi, .int .u64 ((be : Nat) : Int), .pointer pe] 32)]) (fun φ1 => []) s trivial (fun φ1 => by kernel_rfl) ?_
  intro φ1 w1 s
  refine ops_done (by kernel_rfl) ?_
  refine wp_seq ?_
  refine region_rule ?_
  refine callF_rule (H := [((φ1 0), .cells #[.bool bi, .pointer pi, .int .u64 ((be : Nat) : Int), .pointer pe] 32)]) (F := []) (some 4) s (newWriter_c) (by kernel_rfl) ?_
  rintro v2 I2 w2 F2 le2 ⟨b2, rfl, rfl⟩ s
  replace ht := Ev.TRep.mono le2 ht
  replace he := Ev.ERep.mono le2 he
  refine ops_rule (C := []) [((φ1 0), .cells #[.bool bi, .pointer pi, .int .u64 ((be : Nat) : Int), .pointer pe] 32), (b2, .cells #[.slice none 0 0, .int .i64 0] 91)] [] 1 [] 0 (fun φ3 => [(3, .pointer (some ⟨b2, 0, none⟩))]) (fun φ3 => [((φ1 0), .cells #[.bool bi, .pointer pi, .int .u64 ((be : Nat) : Int), .pointer pe] 32), (b2, .cells #[.slice none 0 0, .int .i64 0] 91)]) (fun φ3 => []) s trivial (fun φ3 => by kernel_rfl) ?_
  intro φ3 w3 s
  refine ops_done (by kernel_rfl) ?_
  refine wp_seq ?_
  refine region_rule ?_
  refine ops_rule (C := []) [((φ1 0), .cells #[.bool bi, .pointer pi, .int .u64 ((be : Nat) : Int), .pointer pe] 32), (b2, .cells #[.slice none 0 0, .int .i64 0] 91)] [] 3 [.o 0, .o 0] 0 (fun φ4 => [(7, .agg #[.bool bi, .pointer pi]), (6, .pointer (some ⟨(φ1 0), 0, none⟩)), (5, .pointer (some ⟨b2, 0, none⟩))]) (fun φ4 => [((φ1 0), .cells #[.bool bi, .pointer pi, .int .u64 ((be : Nat) : Int), .pointer pe] 32), (b2, .cells #[.slice none 0 0, .int .i64 0] 91)]) (fun φ4 => [(φ1 0), (φ1 0)]) s trivial (fun φ4 => by kernel_rfl) ?_
  intro φ4 w4 s
  refine callH_rule (b := (b2, .cells #[.slice none 0 0, .int .i64 0] 91)) (H := [((φ1 0), .cells #[.bool bi, .pointer pi, .int .u64 ((be : Nat) : Int), .pointer pe] 32), (b2, .cells #[.slice none 0 0, .int .i64 0] 91)]) (F := []) (Hr := [((φ1 0), .cells #[.bool bi, .pointer pi, .int .u64 ((be : Nat) : Int), .pointer pe] 32)]) (some 8) 1 s (by kernel_rfl) (by kernel_rfl) (putID_c t (b := b2) (cnt := 0) (bs := ([] : List Bool)) (v0 := .slice none 0 0) ht (rfl) (by have h7 := hlen; (try simp only [List.length_append, List.length_nil] at h7 ⊢); omega) (row_nilB : RowH 5 1 (.slice none 0 0) (pk []).length ((pk []).map bV) [])) (by kernel_rfl) ?_
  rintro v5 I5 w5 b5 F5 le5 - h5 s
  replace ht := Ev.TRep.mono le5 ht
  replace he := Ev.ERep.mono le5 he
  obtain ⟨v5, rfl, rfl, hr5⟩ := h5
  refine ops_done (by kernel_rfl) ?_
  refine wp_seq ?_
  refine region_rule ?_
  refine ops_rule (C := []) [(b2, .cells #[v5, .int .i64 ((0 + (idB t).length : Nat) : Int)] 91), ((φ1 0), .cells #[.bool bi, .pointer pi, .int .u64 ((be : Nat) : Int), .pointer pe] 32)] F5 3 [.o 1, .o 1] 0 (fun φ6 => [(11, .agg #[.int .u64 ((be : Nat) : Int), .pointer pe]), (10, .pointer (some ⟨(φ1 0), 2, none⟩)), (9, .pointer (some ⟨b2, 0, none⟩))]) (fun φ6 => [(b2, .cells #[v5, .int .i64 ((0 + (idB t).length : Nat) : Int)] 91), ((φ1 0), .cells #[.bool bi, .pointer pi, .int .u64 ((be : Nat) : Int), .pointer pe] 32)]) (fun φ6 => [(φ1 0), (φ1 0)]) s trivial (fun φ6 => by kernel_rfl) ?_
  intro φ6 w6 s
  refine callH_rule (b := (b2, .cells #[v5, .int .i64 ((0 + (idB t).length : Nat) : Int)] 91)) (H := [(b2, .cells #[v5, .int .i64 ((0 + (idB t).length : Nat) : Int)] 91), ((φ1 0), .cells #[.bool bi, .pointer pi, .int .u64 ((be : Nat) : Int), .pointer pe] 32)]) (F := F5) (Hr := [((φ1 0), .cells #[.bool bi, .pointer pi, .int .u64 ((be : Nat) : Int), .pointer pe] 32)]) (some 12) 0 s (by kernel_rfl) (by kernel_rfl) (putEvent_c e (b := b2) (cnt := 0 + (idB t).length) (bs := idB t) (v0 := v5) he (htop) (by (try simp only [List.length_append, putBits_len]); omega) (by have h7 := hlen; (try simp only [List.length_append, List.length_nil] at h7 ⊢); omega) hr5) (by kernel_rfl) ?_
  rintro v7 I7 w7 b7 F7 le7 - h7 s
  replace ht := Ev.TRep.mono le7 ht
  replace he := Ev.ERep.mono le7 he
  obtain ⟨v7, rfl, rfl, hr7⟩ := h7
  refine ops_done (by kernel_rfl) ?_
  refine wp_seq ?_
  refine region_rule ?_
  refine ops_rule (C := []) [(b2, .cells #[v7, .int .i64 ((0 + (idB t).length + (evB e).length : Nat) : Int)] 91), ((φ1 0), .cells #[.bool bi, .pointer pi, .int .u64 ((be : Nat) : Int), .pointer pe] 32)] F7 1 [] 0 (fun φ8 => [(13, .pointer (some ⟨b2, 0, none⟩))]) (fun φ8 => [(b2, .cells #[v7, .int .i64 ((0 + (idB t).length + (evB e).length : Nat) : Int)] 91), ((φ1 0), .cells #[.bool bi, .pointer pi, .int .u64 ((be : Nat) : Int), .pointer pe] 32)]) (fun φ8 => []) s trivial (fun φ8 => by kernel_rfl) ?_
  intro φ8 w8 s
  refine callH_rule (b := (b2, .cells #[v7, .int .i64 ((0 + (idB t).length + (evB e).length : Nat) : Int)] 91)) (H := [(b2, .cells #[v7, .int .i64 ((0 + (idB t).length + (evB e).length : Nat) : Int)] 91), ((φ1 0), .cells #[.bool bi, .pointer pi, .int .u64 ((be : Nat) : Int), .pointer pe] 32)]) (F := F7) (Hr := [((φ1 0), .cells #[.bool bi, .pointer pi, .int .u64 ((be : Nat) : Int), .pointer pe] 32)]) (some 14) 0 s (by kernel_rfl) (by kernel_rfl) (bytesA_c (b := b2) (cnt := 0 + (idB t).length + (evB e).length) (bs := (idB t ++ evB e)) (v0 := v7) (by have h7 := hlen; (try simp only [List.length_append, List.length_nil] at h7 ⊢); omega) hr7) (by kernel_rfl) ?_
  rintro v9 I9 w9 b9 F9 le9 - h9 s
  replace ht := Ev.TRep.mono le9 ht
  replace he := Ev.ERep.mono le9 he
  obtain ⟨a9, c9, rfl, rfl, hr9, h9_0⟩ := h9
  refine ops_rule (C := []) [(b2, .cells #[v7, .int .i64 ((0 + (idB t).length + (evB e).length : Nat) : Int)] 91), ((φ1 0), .cells #[.bool bi, .pointer pi, .int .u64 ((be : Nat) : Int), .pointer pe] 32)] F9 1 [] 0 (fun φ10 => [(2, .slice a9 (List.length (pk (idB t ++ evB e))) c9)]) (fun φ10 => [(b2, .cells #[v7, .int .i64 ((0 + (idB t).length + (evB e).length : Nat) : Int)] 91), ((φ1 0), .cells #[.bool bi, .pointer pi, .int .u64 ((be : Nat) : Int), .pointer pe] 32)]) (fun φ10 => []) s trivial (fun φ10 => by kernel_rfl) ?_
  intro φ10 w10 s
  refine ops_done (by kernel_rfl) ?_
  refine wp_ret ?_
  refine ret_rule (C := []) [(b2, .cells #[v7, .int .i64 ((0 + (idB t).length + (evB e).length : Nat) : Int)] 91), ((φ1 0), .cells #[.bool bi, .pointer pi, .int .u64 ((be : Nat) : Int), .pointer pe] 32)] F9 (.slice a9 (List.length (pk (idB t ++ evB e))) c9) [] [] s trivial (by kernel_rfl) ?_
  exact ⟨_, _, _, rfl, s, ⟨_, _, rfl, h9_0⟩⟩

theorem strL_beq (x y : List UInt8) : ((⟨x.toArray⟩ : ByteArray).toList == (⟨y.toArray⟩ : ByteArray).toList) = decide (x = y) := by
  have hx : ∀ l : List UInt8, (⟨l.toArray⟩ : ByteArray).toList = l := fun l => by rw [Go.ByteArray.toList_eq]
  rw [hx, hx]
  exact Bool.beq_eq_decide_eq x y

theorem equalD_c {I : IM} {l l2 : List UInt8} {a a2 : Option Addr} {n c n2 c2 : Nat} (hl : BSl I l (.slice a n c)) (hl2 : BSl I l2 (.slice a2 n2 c2)) : Fun Try.prog 14 #[.slice a n c, .slice a2 n2 c2] I (fun v J => v = .bool (decide (l = l2))) := by
  obtain ⟨rfl, -⟩ := hl.cap
  obtain ⟨rfl, -⟩ := hl2.cap
  refine enter_rule 10 [(0, .slice a l.length c), (1, .slice a2 l2.length c2)] Try.func14 rfl (by kernel_rfl) ?_
  intro w s
  refine wp_seq ?_
  refine region_rule ?_
  refine ops_rule (C := []) [] [] 1 [] 0 (fun φ1 => [(4, .bool false)]) (fun φ1 => []) (fun φ1 => []) s trivial (fun φ1 => by kernel_rfl) ?_
  intro φ1 w1 s
  refine ops_done (by kernel_rfl) ?_
  refine wp_seq ?_
  refine region_rule ?_
  refine ops_rule (C := []) [] [] 1 [] 0 (fun φ2 => [(5, .slice a l.length c)]) (fun φ2 => []) (fun φ2 => []) s trivial (fun φ2 => by kernel_rfl) ?_
  intro φ2 w2 s
  refine sem_rule (convert 22 9 (.slice a l.length c)) (some 6) (.string ⟨(l).toArray⟩) (by kernel_rfl) (run_b2s s.sub hl) ?_
  refine ops_rule (C := []) [] [] 1 [] 0 (fun φ3 => [(7, .slice a2 l2.length c2)]) (fun φ3 => []) (fun φ3 => []) s trivial (fun φ3 => by kernel_rfl) ?_
  intro φ3 w3 s
  refine sem_rule (convert 22 9 (.slice a2 l2.length c2)) (some 8) (.string ⟨(l2).toArray⟩) (by kernel_rfl) (run_b2s s.sub hl2) ?_
  refine ops_rule (C := []) [] [] 2 [] 0 (fun φ4 => [(4, .bool ((⟨(l).toArray⟩ : ByteArray).toList == (⟨(l2).toArray⟩ : ByteArray).toList)), (9, .bool ((⟨(l).toArray⟩ : ByteArray).toList == (⟨(l2).toArray⟩ : ByteArray).toList))]) (fun φ4 => []) (fun φ4 => []) s trivial (fun φ4 => by kernel_rfl) ?_
  intro φ4 w4 s
  refine ops_done (by kernel_rfl) ?_
  refine wp_ret ?_
  refine ret_rule (C := []) [] [] (.bool ((⟨(l).toArray⟩ : ByteArray).toList == (⟨(l2).toArray⟩ : ByteArray).toList)) [] [] s trivial (by kernel_rfl) ?_
  exact ⟨_, _, _, rfl, s, (congrArg Value.bool (strL_beq l l2))⟩

set_option maxHeartbeats 400000 in
theorem seed_c {I : IM} : Fun Try.prog 32 #[] I (fun v J => v = .agg #[.bool true, .pointer none, .int .u64 0, .pointer none]) := by
  refine enter_rule 3 [] Try.func32 rfl (by kernel_rfl) ?_
  intro w s
  refine wp_seq ?_
  refine region_rule ?_
  refine ops_rule (C := []) [] [] 1 [] 1 (fun φ1 => [(0, .pointer (some ⟨(φ1 0), 0, none⟩))]) (fun φ1 => [((φ1 0), .cells #[.bool false, .pointer none, .int .u64 0, .pointer none] 32)]) (fun φ1 => []) s trivial (fun φ1 => by kernel_rfl) ?_
  intro φ1 w1 s
  refine ops_done (by kernel_rfl) ?_
  refine wp_seq ?_
  refine region_rule ?_
  refine call_rule (some 1) s (Ev.tone_c) (by kernel_rfl) ?_
  intro v2 I2 w2 le2 h2 s
  obtain rfl := h2
  refine ops_rule (C := []) [((φ1 0), .cells #[.bool false, .pointer none, .int .u64 0, .pointer none] 32)] [] 2 [.o 0, .o 0, .o 0, .o 0] 0 (fun φ3 => [(2, .agg #[.bool true, .pointer none, .int .u64 0, .pointer none])]) (fun φ3 => [((φ1 0), .cells #[.bool true, .pointer none, .int .u64 0, .pointer none] 32)]) (fun φ3 => [(φ1 0), (φ1 0), (φ1 0), (φ1 0)]) s trivial (fun φ3 => by kernel_rfl) ?_
  intro φ3 w3 s
  refine ops_done (by kernel_rfl) ?_
  refine wp_ret ?_
  refine ret_rule (C := []) [((φ1 0), .cells #[.bool true, .pointer none, .int .u64 0, .pointer none] 32)] [] (.agg #[.bool true, .pointer none, .int .u64 0, .pointer none]) [.o 0, .o 0, .o 0, .o 0] [(φ1 0), (φ1 0), (φ1 0), (φ1 0)] s trivial (by kernel_rfl) ?_
  exact ⟨_, _, _, rfl, s, rfl⟩

end Go.Proofs.Ytgmigcmhnmmdkaa
