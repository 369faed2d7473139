/- Stamps are written. -/
import Derived.Test.YtgmigcmhnmmdkaaCoM18
import Derived.Test.YtgmigcmhnmmdkaaCoM13
import Derived.Laws.Strings
import Derived.OpenShut
set_option linter.all false
set_option maxRecDepth 100000
namespace Go.Proofs.Ytgmigcmhnmmdkaa
open Go.RowKit Go.Sep
attribute [local irreducible] Go.wpList Go.Code.wp

set_option maxHeartbeats 400000 in
theorem codeID_c {I : IM} {t : Ev.T} {bi : Bool} {pi : Option Addr} (ht : Ev.TRep I t bi pi) (hlen : (idB t).length ≤ 700000) : Fun Try.prog 11 #[.agg #[.bool bi, .pointer pi]] I (fun v J => ∃ (a : Option Addr) (c : Nat), v = .slice a (List.length (pk (idB t))) c ∧ BSl J (pk (idB t)) (.slice a (List.length (pk (idB t))) c)) := by
  refine enter_rule 10 [(0, .agg #[.bool bi, .pointer pi])] Try.func11 rfl (by kernel_rfl) ?_
  intro w s
  refine wp_seq ?_
  refine region_rule ?_
  refine ops_rule (C := []) [] [] 2 [] 1 (fun φ1 => [(2, .slice none 0 0), (1, .pointer (some ⟨(φ1 0), 0, none⟩))]) (fun φ1 => [((φ1 0), .cells #[.bool bi, .pointer pi] 26)]) (fun φ1 => []) s trivial (fun φ1 => by kernel_rfl) ?_
  intro φ1 w1 s
  refine ops_done (by kernel_rfl) ?_
  refine wp_seq ?_
  refine region_rule ?_
  refine callF_rule (H := [((φ1 0), .cells #[.bool bi, .pointer pi] 26)]) (F := []) (some 4) s (newWriter_c) (by kernel_rfl) ?_
  rintro v2 I2 w2 F2 le2 ⟨b2, rfl, rfl⟩ s
  replace ht := Ev.TRep.mono le2 ht
  refine ops_rule (C := []) [((φ1 0), .cells #[.bool bi, .pointer pi] 26), (b2, .cells #[.slice none 0 0, .int .i64 0] 91)] [] 1 [] 0 (fun φ3 => [(3, .pointer (some ⟨b2, 0, none⟩))]) (fun φ3 => [((φ1 0), .cells #[.bool bi, .pointer pi] 26), (b2, .cells #[.slice none 0 0, .int .i64 0] 91)]) (fun φ3 => []) s trivial (fun φ3 => by kernel_rfl) ?_
  intro φ3 w3 s
  refine ops_done (by kernel_rfl) ?_
  refine wp_seq ?_
  refine region_rule ?_
  refine ops_rule (C := []) [((φ1 0), .cells #[.bool bi, .pointer pi] 26), (b2, .cells #[.slice none 0 0, .int .i64 0] 91)] [] 2 [.o 0, .o 0] 0 (fun φ4 => [(6, .agg #[.bool bi, .pointer pi]), (5, .pointer (some ⟨b2, 0, none⟩))]) (fun φ4 => [((φ1 0), .cells #[.bool bi, .pointer pi] 26), (b2, .cells #[.slice none 0 0, .int .i64 0] 91)]) (fun φ4 => [(φ1 0), (φ1 0)]) s trivial (fun φ4 => by kernel_rfl) ?_
  intro φ4 w4 s
  refine callH_rule (b := (b2, .cells #[.slice none 0 0, .int .i64 0] 91)) (H := [((φ1 0), .cells #[.bool bi, .pointer pi] 26), (b2, .cells #[.slice none 0 0, .int .i64 0] 91)]) (F := []) (Hr := [((φ1 0), .cells #[.bool bi, .pointer pi] 26)]) (some 7) 1 s (by kernel_rfl) (by kernel_rfl) (putID_c t (b := b2) (cnt := 0) (bs := ([] : List Bool)) (v0 := .slice none 0 0) ht (rfl) (by have h7 := hlen; (try simp only [List.length_append, List.length_nil] at h7 ⊢); omega) (row_nilB : RowH 5 1 (.slice none 0 0) (pk []).length ((pk []).map bV) [])) (by kernel_rfl) ?_
  rintro v5 I5 w5 b5 F5 le5 - h5 s
  replace ht := Ev.TRep.mono le5 ht
  obtain ⟨v5, rfl, rfl, hr5⟩ := h5
  refine ops_done (by kernel_rfl) ?_
  refine wp_seq ?_
  refine region_rule ?_
  refine ops_rule (C := []) [(b2, .cells #[v5, .int .i64 ((0 + (idB t).length : Nat) : Int)] 91), ((φ1 0), .cells #[.bool bi, .pointer pi] 26)] F5 1 [] 0 (fun φ6 => [(8, .pointer (some ⟨b2, 0, none⟩))]) (fun φ6 => [(b2, .cells #[v5, .int .i64 ((0 + (idB t).length : Nat) : Int)] 91), ((φ1 0), .cells #[.bool bi, .pointer pi] 26)]) (fun φ6 => []) s trivial (fun φ6 => by kernel_rfl) ?_
  intro φ6 w6 s
  refine callH_rule (b := (b2, .cells #[v5, .int .i64 ((0 + (idB t).length : Nat) : Int)] 91)) (H := [(b2, .cells #[v5, .int .i64 ((0 + (idB t).length : Nat) : Int)] 91), ((φ1 0), .cells #[.bool bi, .pointer pi] 26)]) (F := F5) (Hr := [((φ1 0), .cells #[.bool bi, .pointer pi] 26)]) (some 9) 0 s (by kernel_rfl) (by kernel_rfl) (bytesA_c (b := b2) (cnt := 0 + (idB t).length) (bs := idB t) (v0 := v5) (by have h7 := hlen; (try simp only [List.length_append, List.length_nil] at h7 ⊢); omega) hr5) (by kernel_rfl) ?_
  rintro v7 I7 w7 b7 F7 le7 - h7 s
  replace ht := Ev.TRep.mono le7 ht
  obtain ⟨a7, c7, rfl, rfl, hr7, h7_0⟩ := h7
  refine ops_rule (C := []) [(b2, .cells #[v5, .int .i64 ((0 + (idB t).length : Nat) : Int)] 91), ((φ1 0), .cells #[.bool bi, .pointer pi] 26)] F7 1 [] 0 (fun φ8 => [(2, .slice a7 (List.length (pk (idB t))) c7)]) (fun φ8 => [(b2, .cells #[v5, .int .i64 ((0 + (idB t).length : Nat) : Int)] 91), ((φ1 0), .cells #[.bool bi, .pointer pi] 26)]) (fun φ8 => []) s trivial (fun φ8 => by kernel_rfl) ?_
  intro φ8 w8 s
  refine ops_done (by kernel_rfl) ?_
  refine wp_ret ?_
  refine ret_rule (C := []) [(b2, .cells #[v5, .int .i64 ((0 + (idB t).length : Nat) : Int)] 91), ((φ1 0), .cells #[.bool bi, .pointer pi] 26)] F7 (.slice a7 (List.length (pk (idB t))) c7) [] [] s trivial (by kernel_rfl) ?_
  exact ⟨_, _, _, rfl, s, ⟨_, _, rfl, h7_0⟩⟩

set_option maxHeartbeats 400000 in
theorem codeEvent_c {I : IM} {e : Ev.E} {be : Nat} {pe : Option Addr} (he : Ev.ERep I e be pe) (htop : e.top < 18446744073709551616) (hlen : (evB e).length ≤ 700000) : Fun Try.prog 13 #[.agg #[.int .u64 ((be : Nat) : Int), .pointer pe]] I (fun v J => ∃ (a : Option Addr) (c : Nat), v = .slice a (List.length (pk (evB e))) c ∧ BSl J (pk (evB e)) (.slice a (List.length (pk (evB e))) c)) := by
  refine enter_rule 10 [(0, .agg #[.int .u64 ((be : Nat) : Int), .pointer pe])] Try.func13 rfl (by kernel_rfl) ?_
  intro w s
  refine wp_seq ?_
  refine region_rule ?_
  refine ops_rule (C := []) [] [] 2 [] 1 (fun φ1 => [(2, .slice none 0 0), (1, .pointer (some ⟨(φ1 0), 0, none⟩))]) (fun φ1 => [((φ1 0), .cells #[.int .u64 ((be : Nat) : Int), .pointer pe] 30)]) (fun φ1 => []) s trivial (fun φ1 => by kernel_rfl) ?_
  intro φ1 w1 s
  refine ops_done (by kernel_rfl) ?_
  refine wp_seq ?_
  refine region_rule ?_
  refine callF_rule (H := [((φ1 0), .cells #[.int .u64 ((be : Nat) : Int), .pointer pe] 30)]) (F := []) (some 4) s (newWriter_c) (by kernel_rfl) ?_
  rintro v2 I2 w2 F2 le2 ⟨b2, rfl, rfl⟩ s
  replace he := Ev.ERep.mono le2 he
  refine ops_rule (C := []) [((φ1 0), .cells #[.int .u64 ((be : Nat) : Int), .pointer pe] 30), (b2, .cells #[.slice none 0 0, .int .i64 0] 91)] [] 1 [] 0 (fun φ3 => [(3, .pointer (some ⟨b2, 0, none⟩))]) (fun φ3 => [((φ1 0), .cells #[.int .u64 ((be : Nat) : Int), .pointer pe] 30), (b2, .cells #[.slice none 0 0, .int .i64 0] 91)]) (fun φ3 => []) s trivial (fun φ3 => by kernel_rfl) ?_
  intro φ3 w3 s
  refine ops_done (by kernel_rfl) ?_
  refine wp_seq ?_
  refine region_rule ?_
  refine ops_rule (C := []) [((φ1 0), .cells #[.int .u64 ((be : Nat) : Int), .pointer pe] 30), (b2, .cells #[.slice none 0 0, .int .i64 0] 91)] [] 2 [.o 0, .o 0] 0 (fun φ4 => [(6, .agg #[.int .u64 ((be : Nat) : Int), .pointer pe]), (5, .pointer (some ⟨b2, 0, none⟩))]) (fun φ4 => [((φ1 0), .cells #[.int .u64 ((be : Nat) : Int), .pointer pe] 30), (b2, .cells #[.slice none 0 0, .int .i64 0] 91)]) (fun φ4 => [(φ1 0), (φ1 0)]) s trivial (fun φ4 => by kernel_rfl) ?_
  intro φ4 w4 s
  refine callH_rule (b := (b2, .cells #[.slice none 0 0, .int .i64 0] 91)) (H := [((φ1 0), .cells #[.int .u64 ((be : Nat) : Int), .pointer pe] 30), (b2, .cells #[.slice none 0 0, .int .i64 0] 91)]) (F := []) (Hr := [((φ1 0), .cells #[.int .u64 ((be : Nat) : Int), .pointer pe] 30)]) (some 7) 1 s (by kernel_rfl) (by kernel_rfl) (putEvent_c e (b := b2) (cnt := 0) (bs := ([] : List Bool)) (v0 := .slice none 0 0) he (htop) (rfl) (by have h7 := hlen; (try simp only [List.length_append, List.length_nil] at h7 ⊢); omega) (row_nilB : RowH 5 1 (.slice none 0 0) (pk []).length ((pk []).map bV) [])) (by kernel_rfl) ?_
  rintro v5 I5 w5 b5 F5 le5 - h5 s
  replace he := Ev.ERep.mono le5 he
  obtain ⟨v5, rfl, rfl, hr5⟩ := h5
  refine ops_done (by kernel_rfl) ?_
  refine wp_seq ?_
  refine region_rule ?_
  refine ops_rule (C := []) [(b2, .cells #[v5, .int .i64 ((0 + (evB e).length : Nat) : Int)] 91), ((φ1 0), .cells #[.int .u64 ((be : Nat) : Int), .pointer pe] 30)] F5 1 [] 0 (fun φ6 => [(8, .pointer (some ⟨b2, 0, none⟩))]) (fun φ6 => [(b2, .cells #[v5, .int .i64 ((0 + (evB e).length : Nat) : Int)] 91), ((φ1 0), .cells #[.int .u64 ((be : Nat) : Int), .pointer pe] 30)]) (fun φ6 => []) s trivial (fun φ6 => by kernel_rfl) ?_
  intro φ6 w6 s
  refine callH_rule (b := (b2, .cells #[v5, .int .i64 ((0 + (evB e).length : Nat) : Int)] 91)) (H := [(b2, .cells #[v5, .int .i64 ((0 + (evB e).length : Nat) : Int)] 91), ((φ1 0), .cells #[.int .u64 ((be : Nat) : Int), .pointer pe] 30)]) (F := F5) (Hr := [((φ1 0), .cells #[.int .u64 ((be : Nat) : Int), .pointer pe] 30)]) (some 9) 0 s (by kernel_rfl) (by kernel_rfl) (bytesA_c (b := b2) (cnt := 0 + (evB e).length) (bs := evB e) (v0 := v5) (by have h7 := hlen; (try simp only [List.length_append, List.length_nil] at h7 ⊢); omega) hr5) (by kernel_rfl) ?_
  rintro v7 I7 w7 b7 F7 le7 - h7 s
  replace he := Ev.ERep.mono le7 he
  obtain ⟨a7, c7, rfl, rfl, hr7, h7_0⟩ := h7
  refine ops_rule (C := []) [(b2, .cells #[v5, .int .i64 ((0 + (evB e).length : Nat) : Int)] 91), ((φ1 0), .cells #[.int .u64 ((be : Nat) : Int), .pointer pe] 30)] F7 1 [] 0 (fun φ8 => [(2, .slice a7 (List.length (pk (evB e))) c7)]) (fun φ8 => [(b2, .cells #[v5, .int .i64 ((0 + (evB e).length : Nat) : Int)] 91), ((φ1 0), .cells #[.int .u64 ((be : Nat) : Int), .pointer pe] 30)]) (fun φ8 => []) s trivial (fun φ8 => by kernel_rfl) ?_
  intro φ8 w8 s
  refine ops_done (by kernel_rfl) ?_
  refine wp_ret ?_
  refine ret_rule (C := []) [(b2, .cells #[v5, .int .i64 ((0 + (evB e).length : Nat) : Int)] 91), ((φ1 0), .cells #[.int .u64 ((be : Nat) : Int), .pointer pe] 30)] F7 (.slice a7 (List.length (pk (evB e))) c7) [] [] s trivial (by kernel_rfl) ?_
  exact ⟨_, _, _, rfl, s, ⟨_, _, rfl, h7_0⟩⟩

set_option maxHeartbeats 400000 in
theorem codeStamp_c {I : IM} {t : Ev.T} {bi : Bool} {pi : Option Addr} (ht : Ev.TRep I t bi pi) {e : Ev.E} {be : Nat} {pe : Option Addr} (he : Ev.ERep I e be pe) (htop : e.top < 18446744073709551616) (hlen : (idB t).length + (evB e).length ≤ 700000) : Fun Try.prog 8 #[.agg #[.bool bi, .pointer pi, .int .u64 ((be : Nat) : Int), .pointer pe]] I (fun v J => ∃ (a : Option Addr) (c : Nat), v = .slice a (List.length (pk (idB t ++ evB e))) c ∧ BSl J (pk (idB t ++ evB e)) (.slice a (List.length (pk (idB t ++ evB e))) c)) := by
  refine enter_rule 15 [(0, .agg #[.bool bi, .pointer pi, .int .u64 ((be : Nat) : Int), .pointer pe])] Try.func8 rfl (by kernel_rfl) ?_
  intro w s
  refine wp_seq ?_
  refine region_rule ?_
  refine ops_rule (C := []) [] [] 2 [] 1 (fun φ1 => [(2, .slice none 0 0), (1, .pointer (some ⟨(φ1 0), 0, none⟩))]) (fun φ1 => [((φ1 0), .cells #[.bool bi, .pointer pi, .int .u64 ((be : Nat) : Int), .pointer pe] 32)]) (fun φ1 => []) s trivial (fun φ1 => by kernel_rfl) ?_
  intro φ1 w1 s
  refine ops_done (by kernel_rfl) ?_
  refine wp_seq ?_
  refine region_rule ?_
  refine callF_rule (H := [((φ1 0), .cells #[.bool bi, .pointer pi, .int .u64 ((be : Nat) : Int), .pointer pe] 32)]) (F := []) (some 4) s (newWriter_c) (by kernel_rfl) ?_
  rintro v2 I2 w2 F2 le2 ⟨b2, rfl, rfl⟩ s
  replace ht := Ev.TRep.mono le2 ht
  replace he := Ev.ERep.mono le2 he
  refine ops_rule (C := []) [((φ1 0), .cells #[.bool bi, .pointer pi, .int .u64 ((be : Nat) : Int), .pointer pe] 32), (b2, .cells #[.slice none 0 0, .int .i64 0] 91)] [] 1 [] 0 (fun φ3 => [(3, .pointer (some ⟨b2, 0, none⟩))]) (fun φ3 => [((φ1 0), .cells #[.bool bi, .pointer pi, .int .u64 ((be : Nat) : Int), .pointer pe] 32), (b2, .cells #[.slice none 0 0, .int .i64 0] 91)]) (fun φ3 => []) s trivial (fun φ3 => by kernel_rfl) ?_
  intro φ3 w3 s
  refine ops_done (by kernel_rfl) ?_
  refine wp_seq ?_
  refine region_rule ?_
  refine ops_rule (C := []) [((φ1 0), .cells #[.bool bi, .pointer pi, .int .u64 ((be : Nat) : Int), .pointer pe] 32), (b2, .cells #[.slice none 0 0, .int .i64 0] 91)] [] 3 [.o 0, .o 0] 0 (fun φ4 => [(7, .agg #[.bool bi, .pointer pi]), (6, .pointer (some ⟨(φ1 0), 0, none⟩)), (5, .pointer (some ⟨b2, 0, none⟩))]) (fun φ4 => [((φ1 0), .cells #[.bool bi, .pointer pi, .int .u64 ((be : Nat) : Int), .pointer pe] 32), (b2, .cells #[.slice none 0 0, .int .i64 0] 91)]) (fun φ4 => [(φ1 0), (φ1 0)]) s trivial (fun φ4 => by kernel_rfl) ?_
  intro φ4 w4 s
  refine callH_rule (b := (b2, .cells #[.slice none 0 0, .int .i64 0] 91)) (H := [((φ1 0), .cells #[.bool bi, .pointer pi, .int .u64 ((be : Nat) : Int), .pointer pe] 32), (b2, .cells #[.slice none 0 0, .int .i64 0] 91)]) (F := []) (Hr := [((φ1 0), .cells #[.bool bi, .pointer pi, .int .u64 ((be : Nat) : Int), .pointer pe] 32)]) (some 8) 1 s (by kernel_rfl) (by kernel_rfl) (putID_c t (b := b2) (cnt := 0) (bs := ([] : List Bool)) (v0 := .slice none 0 0) ht (rfl) (by have h7 := hlen; (try simp only [List.length_append, List.length_nil] at h7 ⊢); omega) (row_nilB : RowH 5 1 (.slice none 0 0) (pk []).length ((pk []).map bV) [])) (by kernel_rfl) ?_
  rintro v5 I5 w5 b5 F5 le5 - h5 s
  replace ht := Ev.TRep.mono le5 ht
  replace he := Ev.ERep.mono le5 he
  obtain ⟨v5, rfl, rfl, hr5⟩ := h5
  refine ops_done (by kernel_rfl) ?_
  refine wp_seq ?_
  refine region_rule ?_
  refine ops_rule (C := []) [(b2, .cells #[v5, .int .i64 ((0 + (idB t).length : Nat) : Int)] 91), ((φ1 0), .cells #[.bool bi, .pointer pi, .int .u64 ((be : Nat) : Int), .pointer pe] 32)] F5 3 [.o 1, .o 1] 0 (fun φ6 => [(11, .agg #[.int .u64 ((be : Nat) : Int), .pointer pe]), (10, .pointer (some ⟨(φ1 0), 2, none⟩)), (9, .pointer (some ⟨b2, 0, none⟩))]) (fun φ6 => [(b2, .cells #[v5, .int .i64 ((0 + (idB t).length : Nat) : Int)] 91), ((φ1 0), .cells #[.bool bi, .pointer pi, .int .u64 ((be : Nat) : Int), .pointer pe] 32)]) (fun φ6 => [(φ1 0), (φ1 0)]) s trivial (fun φ6 => by kernel_rfl) ?_
  intro φ6 w6 s
  refine callH_rule (b := (b2, .cells #[v5, .int .i64 ((0 + (idB t).length : Nat) : Int)] 91)) (H := [(b2, .cells #[v5, .int .i64 ((0 + (idB t).length : Nat) : Int)] 91), ((φ1 0), .cells #[.bool bi, .pointer pi, .int .u64 ((be : Nat) : Int), .pointer pe] 32)]) (F := F5) (Hr := [((φ1 0), .cells #[.bool bi, .pointer pi, .int .u64 ((be : Nat) : Int), .pointer pe] 32)]) (some 12) 0 s (by kernel_rfl) (by kernel_rfl) (putEvent_c e (b := b2) (cnt := 0 + (idB t).length) (bs := idB t) (v0 := v5) he (htop) (by (try simp only [List.length_append, putBits_len]); omega) (by have h7 := hlen; (try simp only [List.length_append, List.length_nil] at h7 ⊢); omega) hr5) (by kernel_rfl) ?_
  rintro v7 I7 w7 b7 F7 le7 - h7 s
  replace ht := Ev.TRep.mono le7 ht
  replace he := Ev.ERep.mono le7 he
  obtain ⟨v7, rfl, rfl, hr7⟩ := h7
  refine ops_done (by kernel_rfl) ?_
  refine wp_seq ?_
  refine region_rule ?_
  refine ops_rule (C := []) [(b2, .cells #[v7, .int .i64 ((0 + (idB t).length + (evB e).length : Nat) : Int)] 91), ((φ1 0), .cells #[.bool bi, .pointer pi, .int .u64 ((be : Nat) : Int), .pointer pe] 32)] F7 1 [] 0 (fun φ8 => [(13, .pointer (some ⟨b2, 0, none⟩))]) (fun φ8 => [(b2, .cells #[v7, .int .i64 ((0 + (idB t).length + (evB e).length : Nat) : Int)] 91), ((φ1 0), .cells #[.bool bi, .pointer pi, .int .u64 ((be : Nat) : Int), .pointer pe] 32)]) (fun φ8 => []) s trivial (fun φ8 => by kernel_rfl) ?_
  intro φ8 w8 s
  refine callH_rule (b := (b2, .cells #[v7, .int .i64 ((0 + (idB t).length + (evB e).length : Nat) : Int)] 91)) (H := [(b2, .cells #[v7, .int .i64 ((0 + (idB t).length + (evB e).length : Nat) : Int)] 91), ((φ1 0), .cells #[.bool bi, .pointer pi, .int .u64 ((be : Nat) : Int), .pointer pe] 32)]) (F := F7) (Hr := [((φ1 0), .cells #[.bool bi, .pointer pi, .int .u64 ((be : Nat) : Int), .pointer pe] 32)]) (some 14) 0 s (by kernel_rfl) (by kernel_rfl) (bytesA_c (b := b2) (cnt := 0 + (idB t).length + (evB e).length) (bs := (idB t ++ evB e)) (v0 := v7) (by have h7 := hlen; (try simp only [List.length_append, List.length_nil] at h7 ⊢); omega) hr7) (by kernel_rfl) ?_
  rintro v9 I9 w9 b9 F9 le9 - h9 s
  replace ht := Ev.TRep.mono le9 ht
  replace he := Ev.ERep.mono le9 he
  obtain ⟨a9, c9, rfl, rfl, hr9, h9_0⟩ := h9
  refine ops_rule (C := []) [(b2, .cells #[v7, .int .i64 ((0 + (idB t).length + (evB e).length : Nat) : Int)] 91), ((φ1 0), .cells #[.bool bi, .pointer pi, .int .u64 ((be : Nat) : Int), .pointer pe] 32)] F9 1 [] 0 (fun φ10 => [(2, .slice a9 (List.length (pk (idB t ++ evB e))) c9)]) (fun φ10 => [(b2, .cells #[v7, .int .i64 ((0 + (idB t).length + (evB e).length : Nat) : Int)] 91), ((φ1 0), .cells #[.bool bi, .pointer pi, .int .u64 ((be : Nat) : Int), .pointer pe] 32)]) (fun φ10 => []) s trivial (fun φ10 => by kernel_rfl) ?_
  intro φ10 w10 s
  refine ops_done (by kernel_rfl) ?_
  refine wp_ret ?_
  refine ret_rule (C := []) [(b2, .cells #[v7, .int .i64 ((0 + (idB t).length + (evB e).length : Nat) : Int)] 91), ((φ1 0), .cells #[.bool bi, .pointer pi, .int .u64 ((be : Nat) : Int), .pointer pe] 32)] F9 (.slice a9 (List.length (pk (idB t ++ evB e))) c9) [] [] s trivial (by kernel_rfl) ?_
  exact ⟨_, _, _, rfl, s, ⟨_, _, rfl, h9_0⟩⟩

theorem strL_beq (x y : List UInt8) : ((⟨x.toArray⟩ : ByteArray).toList == (⟨y.toArray⟩ : ByteArray).toList) = decide (x = y) := by
  have hx : ∀ l : List UInt8, (⟨l.toArray⟩ : ByteArray).toList = l := fun l => by rw [Go.ByteArray.toList_eq]
  rw [hx, hx]
  exact Bool.beq_eq_decide_eq x y

theorem equalD_c {I : IM} {l l2 : List UInt8} {a a2 : Option Addr} {n c n2 c2 : Nat} (hl : BSl I l (.slice a n c)) (hl2 : BSl I l2 (.slice a2 n2 c2)) : Fun Try.prog 14 #[.slice a n c, .slice a2 n2 c2] I (fun v J => v = .bool (decide (l = l2))) := by
  obtain ⟨rfl, -⟩ := hl.cap
  obtain ⟨rfl, -⟩ := hl2.cap
  refine enter_rule 10 [(0, .slice a l.length c), (1, .slice a2 l2.length c2)] Try.func14 rfl (by kernel_rfl) ?_
  intro w s
  refine wp_seq ?_
  refine region_rule ?_
  refine ops_rule (C := []) [] [] 1 [] 0 (fun φ1 => [(4, .bool false)]) (fun φ1 => []) (fun φ1 => []) s trivial (fun φ1 => by kernel_rfl) ?_
  intro φ1 w1 s
  refine ops_done (by kernel_rfl) ?_
  refine wp_seq ?_
  refine region_rule ?_
  refine ops_rule (C := []) [] [] 1 [] 0 (fun φ2 => [(5, .slice a l.length c)]) (fun φ2 => []) (fun φ2 => []) s trivial (fun φ2 => by kernel_rfl) ?_
  intro φ2 w2 s
  refine sem_rule (convert 22 9 (.slice a l.length c)) (some 6) (.string ⟨(l).toArray⟩) (by kernel_rfl) (run_b2s s.sub hl) ?_
  refine ops_rule (C := []) [] [] 1 [] 0 (fun φ3 => [(7, .slice a2 l2.length c2)]) (fun φ3 => []) (fun φ3 => []) s trivial (fun φ3 => by kernel_rfl) ?_
  intro φ3 w3 s
  refine sem_rule (convert 22 9 (.slice a2 l2.length c2)) (some 8) (.string ⟨(l2).toArray⟩) (by kernel_rfl) (run_b2s s.sub hl2) ?_
  refine ops_rule (C := []) [] [] 2 [] 0 (fun φ4 => [(4, .bool ((⟨(l).toArray⟩ : ByteArray).toList == (⟨(l2).toArray⟩ : ByteArray).toList)), (9, .bool ((⟨(l).toArray⟩ : ByteArray).toList == (⟨(l2).toArray⟩ : ByteArray).toList))]) (fun φ4 => []) (fun φ4 => []) s trivial (fun φ4 => by kernel_rfl) ?_
  intro φ4 w4 s
  refine ops_done (by kernel_rfl) ?_
  refine wp_ret ?_
  refine ret_rule (C := []) [] [] (.bool ((⟨(l).toArray⟩ : ByteArray).toList == (⟨(l2).toArray⟩ : ByteArray).toList)) [] [] s trivial (by kernel_rfl) ?_
  exact ⟨_, _, _, rfl, s, (congrArg Value.bool (strL_beq l l2))⟩

set_option maxHeartbeats 400000 in
theorem seed_c {I : IM} : Fun Try.prog 32 #[] I (fun v J => v = .agg #[.bool true, .pointer none, .int .u64 0, .pointer none]) := by
  refine enter_rule 3 [] Try.func32 rfl (by kernel_rfl) ?_
  intro w s
  refine wp_seq ?_
  refine region_rule ?_
  refine ops_rule (C := []) [] [] 1 [] 1 (fun φ1 => [(0, .pointer (some ⟨(φ1 0), 0, none⟩))]) (fun φ1 => [((φ1 0), .cells #[.bool false, .pointer none, .int .u64 0, .pointer none] 32)]) (fun φ1 => []) s trivial (fun φ1 => by kernel_rfl) ?_
  intro φ1 w1 s
  refine ops_done (by kernel_rfl) ?_
  refine wp_seq ?_
  refine region_rule ?_
  refine call_rule (some 1) s (Ev.tone_c) (by kernel_rfl) ?_
  intro v2 I2 w2 le2 h2 s
  obtain rfl := h2
  refine ops_rule (C := []) [((φ1 0), .cells #[.bool false, .pointer none, .int .u64 0, .pointer none] 32)] [] 2 [.o 0, .o 0, .o 0, .o 0] 0 (fun φ3 => [(2, .agg #[.bool true, .pointer none, .int .u64 0, .pointer none])]) (fun φ3 => [((φ1 0), .cells #[.bool true, .pointer none, .int .u64 0, .pointer none] 32)]) (fun φ3 => [(φ1 0), (φ1 0), (φ1 0), (φ1 0)]) s trivial (fun φ3 => by kernel_rfl) ?_
  intro φ3 w3 s
  refine ops_done (by kernel_rfl) ?_
  refine wp_ret ?_
  refine ret_rule (C := []) [((φ1 0), .cells #[.bool true, .pointer none, .int .u64 0, .pointer none] 32)] [] (.agg #[.bool true, .pointer none, .int .u64 0, .pointer none]) [.o 0, .o 0, .o 0, .o 0] [(φ1 0), (φ1 0), (φ1 0), (φ1 0)] s trivial (by kernel_rfl) ?_
  exact ⟨_, _, _, rfl, s, rfl⟩

end Go.Proofs.Ytgmigcmhnmmdkaa
/- What is the same. -/
set_option linter.all false
set_option maxRecDepth 100000
namespace Go.Proofs.Ytgmigcmhnmmdkaa
open Go.RowKit Go.Sep
attribute [local irreducible] Go.wpList Go.Code.wp

theorem bsl_lit {I : IM} {b n : Nat} {cs : Array Value} {T : TypeId} {fr : Nat × Nat} {l : List UInt8} (h : I b = some (.cells cs T fr)) (hc : cs.toList = l.map bV) (hn : n = l.length) : BSl I l (.slice (some ⟨b, 0, none⟩) n n) := by
  subst hn
  refine ⟨_, _, rfl, Nat.le_refl _, fun j x hj => ⟨b, 0, cs, T, fr, rfl, h, ?_⟩⟩
  have : cs.toList[j]? = some (bV x) := by rw [hc, List.getElem?_map, hj]; rfl
  rw [Nat.zero_add]
  have h2 : cs[j]? = some (bV x) := by simpa using this
  exact h2
theorem idSame_c {I : IM} {A B : Ev.T} {ba bb : Bool} {pa pb : Option Addr} (hA : Ev.TRep I A ba pa) (hB : Ev.TRep I B bb pb) : Fun Try.prog 18 #[.agg #[.bool ba, .pointer pa], .agg #[.bool bb, .pointer pb]] I (fun v J => v = .bool (decide (A = B))) := by
  have := Ev.idsame_c hA hB
  rw [cover_same] at this; exact this
theorem evSame_c {I : IM} {A B : Ev.E} {ba bb : Nat} {pa pb : Option Addr} (hA : Ev.ERep I A ba pa) (hB : Ev.ERep I B bb pb) (a : A.nf ∧ A.depth ≤ 16 ∧ A.top ≤ 1048576) (b : B.nf ∧ B.depth ≤ 16 ∧ B.top ≤ 1048576) : Fun Try.prog 19 #[.agg #[.int .u64 ((ba : Nat) : Int), .pointer pa], .agg #[.int .u64 ((bb : Nat) : Int), .pointer pb]] I (fun v J => v = .bool (decide (A = B))) := by
  have := Ev.same_c hA hB (by omega) (by omega) (by omega) (by omega)
  rw [leq_same_iff a.1 b.1 (by omega) (by omega)] at this; exact this
theorem equalT_c {I : IM} {l l2 : List UInt8} {a a2 : Option Addr} {n c n2 c2 : Nat} (hl : BSl I l (.slice a n c)) (hl2 : BSl I l2 (.slice a2 n2 c2)) (e : l = l2) : Fun Try.prog 14 #[.slice a n c, .slice a2 n2 c2] I (fun v J => v = .bool true) := by
  have := equalD_c hl hl2
  rw [decide_eq_true e] at this; exact this
theorem equalB_c {I : IM} {l l2 : List UInt8} {a a2 : Option Addr} {n c n2 c2 : Nat} (hl : BSl I l (.slice a n c)) (hl2 : BSl I l2 (.slice a2 n2 c2)) (P : Prop) [Decidable P] (e : l = l2 ↔ P) : Fun Try.prog 14 #[.slice a n c, .slice a2 n2 c2] I (fun v J => v = .bool (decide P)) := by
  have := equalD_c hl hl2
  rw [decide_eq_decide.2 e] at this; exact this
def okE (e : Ev.E) : Prop := e.nf ∧ e.depth ≤ 7 ∧ e.top ≤ 7 + 3 * 7
theorem okE.w {e : Ev.E} (h : okE e) : e.nf ∧ e.depth ≤ 16 ∧ e.top ≤ 1048576 := ⟨h.1, by have := h.2.1; omega, by have := h.2.2; omega⟩
theorem okE.t {e : Ev.E} (h : okE e) : e.top < 18446744073709551616 := by have := h.2.2; omega
theorem okE.len {e : Ev.E} (h : okE e) : (evB e).length ≤ 40000 := by have := evB_len e 7 h.2.1; omega
def okT (t : Ev.T) : Prop := t.nf ∧ t.depth ≤ 7
theorem okT.len {t : Ev.T} (h : okT t) : (idB t).length ≤ 1000 := by have := idB_len t 7 h.2; omega

theorem run_eqBB {w : World} {x : Bool} : (binOp .eql 4 (.bool x) (.bool x)).run Try.prog w = .ok (.bool true) w := by cases x <;> kernel_rfl

set_option maxHeartbeats 400000 in
theorem stampSame_c {I : IM} {t t2 : Ev.T} {e e2 : Ev.E} {bi bi2 : Bool} {pi pi2 : Option Addr} {be be2 : Nat} {pe pe2 : Option Addr} (ht : Ev.TRep I t bi pi) (ht2 : Ev.TRep I t2 bi2 pi2) (he : Ev.ERep I e be pe) (he2 : Ev.ERep I e2 be2 pe2) (ho : okE e) (ho2 : okE e2) : Fun Try.prog 17 #[.agg #[.bool bi, .pointer pi, .int .u64 ((be : Nat) : Int), .pointer pe], .agg #[.bool bi2, .pointer pi2, .int .u64 ((be2 : Nat) : Int), .pointer pe2]] I (fun v J => v = .bool (decide (t = t2 ∧ e = e2))) := by
  refine enter_rule 17 [(0, .agg #[.bool bi, .pointer pi, .int .u64 ((be : Nat) : Int), .pointer pe]), (1, .agg #[.bool bi2, .pointer pi2, .int .u64 ((be2 : Nat) : Int), .pointer pe2])] Try.func17 rfl (by kernel_rfl) ?_
  intro w s
  refine wp_seq ?_
  refine region_rule ?_
  refine ops_rule (C := []) [] [] 3 [] 2 (fun φ1 => [(4, .bool false), (3, .pointer (some ⟨(φ1 1), 0, none⟩)), (2, .pointer (some ⟨(φ1 0), 0, none⟩))]) (fun φ1 => [((φ1 0), .cells #[.bool bi, .pointer pi, .int .u64 ((be : Nat) : Int), .pointer pe] 32), ((φ1 1), .cells #[.bool bi2, .pointer pi2, .int .u64 ((be2 : Nat) : Int), .pointer pe2] 32)]) (fun φ1 => []) s trivial (fun φ1 => by kernel_rfl) ?_
  intro φ1 w1 s
  refine ops_done (by kernel_rfl) ?_
  refine wp_seq ?_
  refine region_rule ?_
  refine ops_rule (C := []) [((φ1 0), .cells #[.bool bi, .pointer pi, .int .u64 ((be : Nat) : Int), .pointer pe] 32), ((φ1 1), .cells #[.bool bi2, .pointer pi2, .int .u64 ((be2 : Nat) : Int), .pointer pe2] 32)] [] 4 [.o 0, .o 0, .o 1, .o 1] 0 (fun φ2 => [(8, .agg #[.bool bi2, .pointer pi2]), (7, .pointer (some ⟨(φ1 1), 0, none⟩)), (6, .agg #[.bool bi, .pointer pi]), (5, .pointer (some ⟨(φ1 0), 0, none⟩))]) (fun φ2 => [((φ1 0), .cells #[.bool bi, .pointer pi, .int .u64 ((be : Nat) : Int), .pointer pe] 32), ((φ1 1), .cells #[.bool bi2, .pointer pi2, .int .u64 ((be2 : Nat) : Int), .pointer pe2] 32)]) (fun φ2 => [(φ1 0), (φ1 0), (φ1 1), (φ1 1)]) s trivial (fun φ2 => by kernel_rfl) ?_
  intro φ2 w2 s
  refine call_rule (some 9) s (idSame_c ht ht2) (by kernel_rfl) ?_
  intro v3 I3 w3 le3 h3 s
  replace ht := Ev.TRep.mono le3 ht
  replace he := Ev.ERep.mono le3 he
  replace ht2 := Ev.TRep.mono le3 ht2
  replace he2 := Ev.ERep.mono le3 he2
  obtain rfl := h3
  refine ops_rule (C := []) [((φ1 0), .cells #[.bool bi, .pointer pi, .int .u64 ((be : Nat) : Int), .pointer pe] 32), ((φ1 1), .cells #[.bool bi2, .pointer pi2, .int .u64 ((be2 : Nat) : Int), .pointer pe2] 32)] [] 1 [] 0 (fun φ4 => [(10, .bool (decide (t = t2)))]) (fun φ4 => [((φ1 0), .cells #[.bool bi, .pointer pi, .int .u64 ((be : Nat) : Int), .pointer pe] 32), ((φ1 1), .cells #[.bool bi2, .pointer pi2, .int .u64 ((be2 : Nat) : Int), .pointer pe2] 32)]) (fun φ4 => []) s trivial (fun φ4 => by kernel_rfl) ?_
  intro φ4 w4 s
  rcases Bool.eq_false_or_eq_true (decide (t = t2)) with hc5 | hc5
  ·
    rw [hc5]
    refine ops_rule (C := []) [((φ1 0), .cells #[.bool bi, .pointer pi, .int .u64 ((be : Nat) : Int), .pointer pe] 32), ((φ1 1), .cells #[.bool bi2, .pointer pi2, .int .u64 ((be2 : Nat) : Int), .pointer pe2] 32)] [] 4 [.o 0, .o 0, .o 1, .o 1] 0 (fun φ6 => [(14, .agg #[.int .u64 ((be2 : Nat) : Int), .pointer pe2]), (13, .pointer (some ⟨(φ1 1), 2, none⟩)), (12, .agg #[.int .u64 ((be : Nat) : Int), .pointer pe]), (11, .pointer (some ⟨(φ1 0), 2, none⟩))]) (fun φ6 => [((φ1 0), .cells #[.bool bi, .pointer pi, .int .u64 ((be : Nat) : Int), .pointer pe] 32), ((φ1 1), .cells #[.bool bi2, .pointer pi2, .int .u64 ((be2 : Nat) : Int), .pointer pe2] 32)]) (fun φ6 => [(φ1 0), (φ1 0), (φ1 1), (φ1 1)]) s trivial (fun φ6 => by kernel_rfl) ?_
    intro φ6 w6 s
    refine call_rule (some 15) s (evSame_c he he2 (okE.w ho) (okE.w ho2)) (by kernel_rfl) ?_
    intro v7 I7 w7 le7 h7 s
    replace ht := Ev.TRep.mono le7 ht
    replace he := Ev.ERep.mono le7 he
    replace ht2 := Ev.TRep.mono le7 ht2
    replace he2 := Ev.ERep.mono le7 he2
    obtain rfl := h7
    refine ops_rule (C := []) [((φ1 0), .cells #[.bool bi, .pointer pi, .int .u64 ((be : Nat) : Int), .pointer pe] 32), ((φ1 1), .cells #[.bool bi2, .pointer pi2, .int .u64 ((be2 : Nat) : Int), .pointer pe2] 32)] [] 2 [] 0 (fun φ8 => [(4, .bool (decide (e = e2))), (16, .bool (decide (e = e2)))]) (fun φ8 => [((φ1 0), .cells #[.bool bi, .pointer pi, .int .u64 ((be : Nat) : Int), .pointer pe] 32), ((φ1 1), .cells #[.bool bi2, .pointer pi2, .int .u64 ((be2 : Nat) : Int), .pointer pe2] 32)]) (fun φ8 => []) s trivial (fun φ8 => by kernel_rfl) ?_
    intro φ8 w8 s
    refine ops_done (by kernel_rfl) ?_
    refine wp_ret ?_
    refine ret_rule (C := []) [((φ1 0), .cells #[.bool bi, .pointer pi, .int .u64 ((be : Nat) : Int), .pointer pe] 32), ((φ1 1), .cells #[.bool bi2, .pointer pi2, .int .u64 ((be2 : Nat) : Int), .pointer pe2] 32)] [] (.bool (decide (e = e2))) [] [] s trivial (by kernel_rfl) ?_
    exact ⟨_, _, _, rfl, s, (congrArg Value.bool (by simp only [decide_eq_true_eq, decide_eq_false_iff_not] at *; simp [*]))⟩
  ·
    rw [hc5]
    refine ops_rule (C := []) [((φ1 0), .cells #[.bool bi, .pointer pi, .int .u64 ((be : Nat) : Int), .pointer pe] 32), ((φ1 1), .cells #[.bool bi2, .pointer pi2, .int .u64 ((be2 : Nat) : Int), .pointer pe2] 32)] [] 7 [] 0 (fun φ9 => [(4, .bool false), (16, .bool false), (15, undef), (14, undef), (13, undef), (12, undef), (11, undef)]) (fun φ9 => [((φ1 0), .cells #[.bool bi, .pointer pi, .int .u64 ((be : Nat) : Int), .pointer pe] 32), ((φ1 1), .cells #[.bool bi2, .pointer pi2, .int .u64 ((be2 : Nat) : Int), .pointer pe2] 32)]) (fun φ9 => []) s trivial (fun φ9 => by kernel_rfl) ?_
    intro φ9 w9 s
    refine ops_done (by kernel_rfl) ?_
    refine wp_ret ?_
    refine ret_rule (C := []) [((φ1 0), .cells #[.bool bi, .pointer pi, .int .u64 ((be : Nat) : Int), .pointer pe] 32), ((φ1 1), .cells #[.bool bi2, .pointer pi2, .int .u64 ((be2 : Nat) : Int), .pointer pe2] 32)] [] (.bool false) [] [] s trivial (by kernel_rfl) ?_
    exact ⟨_, _, _, rfl, s, (congrArg Value.bool (by simp only [decide_eq_true_eq, decide_eq_false_iff_not] at *; simp [*]))⟩

set_option maxHeartbeats 400000 in
theorem awake7_c {I : IM} : Fun Try.prog 6 #[] I (fun v J => v = .bool true) := by
  refine enter_rule 5 [] Try.func6 rfl (by kernel_rfl) ?_
  intro w s
  refine wp_seq ?_
  refine region_rule ?_
  refine ops_rule (C := []) [] [] 1 [] 0 (fun φ1 => [(0, .bool false)]) (fun φ1 => []) (fun φ1 => []) s trivial (fun φ1 => by kernel_rfl) ?_
  intro φ1 w1 s
  refine ops_done (by kernel_rfl) ?_
  refine wp_seq ?_
  refine region_rule ?_
  refine call_rule (some 1) s (seed_c) (by kernel_rfl) ?_
  intro v2 I2 w2 le2 h2 s
  obtain rfl := h2
  refine call_rule (some 2) s (codeStamp_c (Ev.TRep.o _) (Ev.ERep.lf _ 0) (by decide) (by decide)) (by kernel_rfl) ?_
  intro v3 I3 w3 le3 h3 s
  obtain ⟨a3, c3, rfl, h3_0⟩ := h3
  refine ops_rule (C := []) [] [] 1 [] 1 (fun φ4 => [(3, .slice (some ⟨(φ4 0), 0, none⟩) 1 1)]) (fun φ4 => [((φ4 0), .cells #[.int .u8 48] 5)]) (fun φ4 => []) s trivial (fun φ4 => by kernel_rfl) ?_
  intro φ4 w4 s
  obtain ⟨I5, le5, hk5, s⟩ := s.freezeAt 0 (φ4 0) (.cells #[.int .u8 48] 5) [] (by kernel_rfl) (by kernel_rfl)
  replace h3_0 := BSl.mono le5 h3_0
  refine call_rule (some 4) s (equalT_c h3_0 (bsl_lit (l := ([48] : List UInt8)) hk5 (by kernel_rfl) rfl) (by decide)) (by kernel_rfl) ?_
  intro v6 I6 w6 le6 h6 s
  replace h3_0 := BSl.mono le6 h3_0
  replace hk5 := le6 _ _ hk5
  obtain rfl := h6
  refine ops_rule (C := []) [] [] 1 [] 0 (fun φ7 => [(0, .bool true)]) (fun φ7 => []) (fun φ7 => []) s trivial (fun φ7 => by kernel_rfl) ?_
  intro φ7 w7 s
  refine ops_done (by kernel_rfl) ?_
  refine wp_ret ?_
  refine ret_rule (C := []) [] [] (.bool true) [] [] s trivial (by kernel_rfl) ?_
  exact ⟨_, _, _, rfl, s, rfl⟩

theorem made7_c {I : IM} {p q : List UInt8} {vp vq : Value} (hp : BSl I p vp) (hq : BSl I q vq) : Fun Try.prog 7 #[vp, vq] I (fun v J => ∃ ib ip eb ep ki ke i e, v = .tuple #[.agg #[.bool ib, .pointer ip, .int .u64 ((eb : Nat) : Int), .pointer ep], .agg #[.pointer (some ⟨ki, 0, none⟩), .pointer (some ⟨ke, 0, none⟩)]] ∧ okT i ∧ okE e ∧ Ev.TRep J i ib ip ∧ Ev.ERep J e eb ep ∧ Ev.RT J i ki ∧ Ev.RE J e ke) := Ev.made_c hp hq

end Go.Proofs.Ytgmigcmhnmmdkaa
/- Two stamps have the same bytes just if they are the same. -/
set_option linter.all false
set_option maxRecDepth 100000
namespace Go.Proofs.Ytgmigcmhnmmdkaa
open Go.RowKit Go.Sep
attribute [local irreducible] Go.wpList Go.Code.wp

set_option maxHeartbeats 4000000 in
theorem codeOnce_c {I : IM} {p1 : List UInt8} {a1 : Option Addr} {n1 c1 : Nat} (h10 : BSl I p1 (.slice a1 n1 c1)) {p2 : List UInt8} {a2 : Option Addr} {n2 c2 : Nat} (h20 : BSl I p2 (.slice a2 n2 c2)) {p3 : List UInt8} {a3 : Option Addr} {n3 c3 : Nat} (h30 : BSl I p3 (.slice a3 n3 c3)) {p4 : List UInt8} {a4 : Option Addr} {n4 c4 : Nat} (h40 : BSl I p4 (.slice a4 n4 c4)) {bsame : Bool} : Fun Try.prog 5 #[.slice a1 n1 c1, .slice a2 n2 c2, .slice a3 n3 c3, .slice a4 n4 c4, .bool bsame] I (fun v J => v = .bool true) := by
  obtain ⟨rfl, -⟩ := h10.cap
  obtain ⟨rfl, -⟩ := h20.cap
  obtain ⟨rfl, -⟩ := h30.cap
  obtain ⟨rfl, -⟩ := h40.cap
  refine enter_rule 70 [(0, .slice a1 p1.length c1), (1, .slice a2 p2.length c2), (2, .slice a3 p3.length c3), (3, .slice a4 p4.length c4), (4, .bool bsame)] Try.func5 rfl (by kernel_rfl) ?_
  intro w s
  refine wp_seq ?_
  refine region_rule ?_
  refine ops_rule (C := []) [] [] 1 [] 0 (fun φ1 => [(10, .bool false)]) (fun φ1 => []) (fun φ1 => []) s trivial (fun φ1 => by kernel_rfl) ?_
  intro φ1 w1 s
  refine ops_done (by kernel_rfl) ?_
  refine wp_seq ?_
  refine wp_seq ?_
  refine region_rule ?_
  refine call_rule (some 15) s (awake7_c) (by kernel_rfl) ?_
  intro v2 I2 w2 le2 h2 s
  replace h10 := BSl.mono le2 h10
  replace h20 := BSl.mono le2 h20
  replace h30 := BSl.mono le2 h30
  replace h40 := BSl.mono le2 h40
  obtain rfl := h2
  refine ops_rule (C := []) [] [] 1 [] 0 (fun φ3 => [(16, .bool false)]) (fun φ3 => []) (fun φ3 => []) s trivial (fun φ3 => by kernel_rfl) ?_
  intro φ3 w3 s
  refine ops_done (by kernel_rfl) ?_
  refine cond_false_rule (b := false) (by kernel_rfl) rfl ?_
  refine wp_skip ?_
  refine wp_seq ?_
  refine region_rule ?_
  refine ops_rule (C := []) [] [] 2 [] 0 (fun φ4 => [(19, .slice a2 p2.length c2), (18, .slice a1 p1.length c1)]) (fun φ4 => []) (fun φ4 => []) s trivial (fun φ4 => by kernel_rfl) ?_
  intro φ4 w4 s
  refine call_rule (some 20) s (made7_c h10 h20) (by kernel_rfl) ?_
  intro v5 I5 w5 le5 h5 s
  replace h10 := BSl.mono le5 h10
  replace h20 := BSl.mono le5 h20
  replace h30 := BSl.mono le5 h30
  replace h40 := BSl.mono le5 h40
  obtain ⟨ib5, ip5, eb5, ep5, ki5, ke5, i5, e5, rfl, h5_0, h5_1, h5_2, h5_3, h5_4, h5_5⟩ := h5
  refine ops_rule (C := []) [] [] 7 [.o 0, .o 0, .o 0, .o 0, .o 1, .o 1] 2 (fun φ6 => [(12, .pointer (some ⟨(φ6 1), 0, none⟩)), (11, .pointer (some ⟨(φ6 0), 0, none⟩)), (22, .agg #[.pointer (some ⟨ki5, 0, none⟩), .pointer (some ⟨ke5, 0, none⟩)]), (21, .agg #[.bool ib5, .pointer ip5, .int .u64 ((eb5 : Nat) : Int), .pointer ep5]), (17, .tuple #[.agg #[.bool ib5, .pointer ip5, .int .u64 ((eb5 : Nat) : Int), .pointer ep5], .agg #[.pointer (some ⟨ki5, 0, none⟩), .pointer (some ⟨ke5, 0, none⟩)]])]) (fun φ6 => [((φ6 0), .cells #[.bool ib5, .pointer ip5, .int .u64 ((eb5 : Nat) : Int), .pointer ep5] 32), ((φ6 1), .cells #[.pointer (some ⟨ki5, 0, none⟩), .pointer (some ⟨ke5, 0, none⟩)] 36)]) (fun φ6 => [(φ6 0), (φ6 0), (φ6 0), (φ6 0), (φ6 1), (φ6 1)]) s trivial (fun φ6 => by kernel_rfl) ?_
  intro φ6 w6 s
  refine ops_done (by kernel_rfl) ?_
  refine wp_seq ?_
  refine region_rule ?_
  refine ops_rule (C := []) [((φ6 0), .cells #[.bool ib5, .pointer ip5, .int .u64 ((eb5 : Nat) : Int), .pointer ep5] 32), ((φ6 1), .cells #[.pointer (some ⟨ki5, 0, none⟩), .pointer (some ⟨ke5, 0, none⟩)] 36)] [] 2 [] 0 (fun φ7 => [(25, .slice a4 p4.length c4), (24, .slice a3 p3.length c3)]) (fun φ7 => [((φ6 0), .cells #[.bool ib5, .pointer ip5, .int .u64 ((eb5 : Nat) : Int), .pointer ep5] 32), ((φ6 1), .cells #[.pointer (some ⟨ki5, 0, none⟩), .pointer (some ⟨ke5, 0, none⟩)] 36)]) (fun φ7 => []) s trivial (fun φ7 => by kernel_rfl) ?_
  intro φ7 w7 s
  refine call_rule (some 26) s (made7_c h30 h40) (by kernel_rfl) ?_
  intro v8 I8 w8 le8 h8 s
  replace h10 := BSl.mono le8 h10
  replace h20 := BSl.mono le8 h20
  replace h30 := BSl.mono le8 h30
  replace h40 := BSl.mono le8 h40
  replace h5_2 := Ev.TRep.mono le8 h5_2
  replace h5_3 := Ev.ERep.mono le8 h5_3
  replace h5_4 := Ev.RT.mono le8 h5_4
  replace h5_5 := Ev.RE.mono le8 h5_5
  obtain ⟨ib8, ip8, eb8, ep8, ki8, ke8, i8, e8, rfl, h8_0, h8_1, h8_2, h8_3, h8_4, h8_5⟩ := h8
  refine ops_rule (C := []) [((φ6 0), .cells #[.bool ib5, .pointer ip5, .int .u64 ((eb5 : Nat) : Int), .pointer ep5] 32), ((φ6 1), .cells #[.pointer (some ⟨ki5, 0, none⟩), .pointer (some ⟨ke5, 0, none⟩)] 36)] [] 7 [.o 2, .o 2, .o 2, .o 2, .o 3, .o 3] 2 (fun φ9 => [(14, .pointer (some ⟨(φ9 1), 0, none⟩)), (13, .pointer (some ⟨(φ9 0), 0, none⟩)), (28, .agg #[.pointer (some ⟨ki8, 0, none⟩), .pointer (some ⟨ke8, 0, none⟩)]), (27, .agg #[.bool ib8, .pointer ip8, .int .u64 ((eb8 : Nat) : Int), .pointer ep8]), (23, .tuple #[.agg #[.bool ib8, .pointer ip8, .int .u64 ((eb8 : Nat) : Int), .pointer ep8], .agg #[.pointer (some ⟨ki8, 0, none⟩), .pointer (some ⟨ke8, 0, none⟩)]])]) (fun φ9 => [((φ6 0), .cells #[.bool ib5, .pointer ip5, .int .u64 ((eb5 : Nat) : Int), .pointer ep5] 32), ((φ6 1), .cells #[.pointer (some ⟨ki5, 0, none⟩), .pointer (some ⟨ke5, 0, none⟩)] 36), ((φ9 0), .cells #[.bool ib8, .pointer ip8, .int .u64 ((eb8 : Nat) : Int), .pointer ep8] 32), ((φ9 1), .cells #[.pointer (some ⟨ki8, 0, none⟩), .pointer (some ⟨ke8, 0, none⟩)] 36)]) (fun φ9 => [(φ9 0), (φ9 0), (φ9 0), (φ9 0), (φ9 1), (φ9 1)]) s trivial (fun φ9 => by kernel_rfl) ?_
  intro φ9 w9 s
  refine ops_done (by kernel_rfl) ?_
  refine wp_seq ?_
  refine wp_seq ?_
  refine region_rule ?_
  refine ops_rule (C := []) [((φ6 0), .cells #[.bool ib5, .pointer ip5, .int .u64 ((eb5 : Nat) : Int), .pointer ep5] 32), ((φ6 1), .cells #[.pointer (some ⟨ki5, 0, none⟩), .pointer (some ⟨ke5, 0, none⟩)] 36), ((φ9 0), .cells #[.bool ib8, .pointer ip8, .int .u64 ((eb8 : Nat) : Int), .pointer ep8] 32), ((φ9 1), .cells #[.pointer (some ⟨ki8, 0, none⟩), .pointer (some ⟨ke8, 0, none⟩)] 36)] [] 1 [] 0 (fun φ10 => [(29, .bool bsame)]) (fun φ10 => [((φ6 0), .cells #[.bool ib5, .pointer ip5, .int .u64 ((eb5 : Nat) : Int), .pointer ep5] 32), ((φ6 1), .cells #[.pointer (some ⟨ki5, 0, none⟩), .pointer (some ⟨ke5, 0, none⟩)] 36), ((φ9 0), .cells #[.bool ib8, .pointer ip8, .int .u64 ((eb8 : Nat) : Int), .pointer ep8] 32), ((φ9 1), .cells #[.pointer (some ⟨ki8, 0, none⟩), .pointer (some ⟨ke8, 0, none⟩)] 36)]) (fun φ10 => []) s trivial (fun φ10 => by kernel_rfl) ?_
  intro φ10 w10 s
  refine ops_done (by kernel_rfl) ?_
  rcases Bool.eq_false_or_eq_true (bsame) with hc11 | hc11
  ·
    rw [hc11]
    refine cond_true_rule (b := true) (by kernel_rfl) rfl ?_
    refine region_rule ?_
    refine ops_rule (C := []) [((φ6 0), .cells #[.bool ib5, .pointer ip5, .int .u64 ((eb5 : Nat) : Int), .pointer ep5] 32), ((φ6 1), .cells #[.pointer (some ⟨ki5, 0, none⟩), .pointer (some ⟨ke5, 0, none⟩)] 36), ((φ9 0), .cells #[.bool ib8, .pointer ip8, .int .u64 ((eb8 : Nat) : Int), .pointer ep8] 32), ((φ9 1), .cells #[.pointer (some ⟨ki8, 0, none⟩), .pointer (some ⟨ke8, 0, none⟩)] 36)] [] 2 [.o 0, .o 0, .o 0, .o 0, .o 2, .o 2, .o 2, .o 2] 0 (fun φ12 => [(30, .agg #[.bool ib5, .pointer ip5, .int .u64 ((eb5 : Nat) : Int), .pointer ep5])]) (fun φ12 => [((φ6 0), .cells #[.bool ib5, .pointer ip5, .int .u64 ((eb5 : Nat) : Int), .pointer ep5] 32), ((φ6 1), .cells #[.pointer (some ⟨ki5, 0, none⟩), .pointer (some ⟨ke5, 0, none⟩)] 36), ((φ9 0), .cells #[.bool ib5, .pointer ip5, .int .u64 ((eb5 : Nat) : Int), .pointer ep5] 32), ((φ9 1), .cells #[.pointer (some ⟨ki8, 0, none⟩), .pointer (some ⟨ke8, 0, none⟩)] 36)]) (fun φ12 => [(φ6 0), (φ6 0), (φ6 0), (φ6 0), (φ9 0), (φ9 0), (φ9 0), (φ9 0)]) s trivial (fun φ12 => by kernel_rfl) ?_
    intro φ12 w12 s
    refine ops_done (by kernel_rfl) ?_
    refine wp_seq ?_
    refine draw_rule (C := []) ⟨(fun φ13 xs13 => [.look 0 [.o 0, .o 0, .o 0, .o 0] [(φ6 0), (φ6 0), (φ6 0), (φ6 0)], .call 8 #[.agg #[.bool ib5, .pointer ip5, .int .u64 ((eb5 : Nat) : Int), .pointer ep5]], .look 0 [.o 2, .o 2, .o 2, .o 2] [(φ9 0), (φ9 0), (φ9 0), (φ9 0)], .call 8 #[.agg #[.bool ib5, .pointer ip5, .int .u64 ((eb5 : Nat) : Int), .pointer ep5]], .call 14 #[.slice ((xs13 1).p 0) (List.length (pk (idB i5 ++ evB e5))) ((xs13 1).n 0), .slice ((xs13 3).p 0) (List.length (pk (idB i5 ++ evB e5))) ((xs13 3).n 0)], .look 0 [.o 0, .o 0, .o 0, .o 0] [(φ6 0), (φ6 0), (φ6 0), (φ6 0)], .look 0 [.o 2, .o 2, .o 2, .o 2] [(φ9 0), (φ9 0), (φ9 0), (φ9 0)], .call 17 #[.agg #[.bool ib5, .pointer ip5, .int .u64 ((eb5 : Nat) : Int), .pointer ep5], .agg #[.bool ib5, .pointer ip5, .int .u64 ((eb5 : Nat) : Int), .pointer ep5]], .ran (binOp .eql 4 (.bool (decide (i5 = i5 ∧ e5 = e5))) (.bool (decide (i5 = i5 ∧ e5 = e5)))), .look 0 [] [], .look 0 [] [], .look 0 [.o 0, .o 0] [(φ6 0), (φ6 0)], .call 11 #[.agg #[.bool ib5, .pointer ip5]], .look 0 [] [], .look 0 [.o 2, .o 2] [(φ9 0), (φ9 0)], .call 11 #[.agg #[.bool ib5, .pointer ip5]], .call 14 #[.slice ((xs13 12).p 0) (List.length (pk (idB i5))) ((xs13 12).n 0), .slice ((xs13 15).p 0) (List.length (pk (idB i5))) ((xs13 15).n 0)], .look 0 [] [], .look 0 [.o 0, .o 0] [(φ6 0), (φ6 0)], .look 0 [] [], .look 0 [.o 2, .o 2] [(φ9 0), (φ9 0)], .call 18 #[.agg #[.bool ib5, .pointer ip5], .agg #[.bool ib5, .pointer ip5]], .ran (binOp .eql 4 (.bool (decide (i5 = i5))) (.bool (decide (i5 = i5)))), .look 0 [] [], .look 0 [] [], .look 0 [] [], .look 0 [.o 0, .o 0] [(φ6 0), (φ6 0)], .call 13 #[.agg #[.int .u64 ((eb5 : Nat) : Int), .pointer ep5]], .look 0 [] [], .look 0 [.o 2, .o 2] [(φ9 0), (φ9 0)], .call 13 #[.agg #[.int .u64 ((eb5 : Nat) : Int), .pointer ep5]], .call 14 #[.slice ((xs13 27).p 0) (List.length (pk (evB e5))) ((xs13 27).n 0), .slice ((xs13 30).p 0) (List.length (pk (evB e5))) ((xs13 30).n 0)], .look 0 [] [], .look 0 [.o 0, .o 0] [(φ6 0), (φ6 0)], .look 0 [] [], .look 0 [.o 2, .o 2] [(φ9 0), (φ9 0)], .call 19 #[.agg #[.int .u64 ((eb5 : Nat) : Int), .pointer ep5], .agg #[.int .u64 ((eb5 : Nat) : Int), .pointer ep5]], .ran (binOp .eql 4 (.bool (decide (e5 = e5))) (.bool (decide (e5 = e5)))), .look 0 [] [], .look 0 [] []]), (fun φ13 xs13 => [.agg #[.bool ib5, .pointer ip5, .int .u64 ((eb5 : Nat) : Int), .pointer ep5], .slice ((xs13 1).p 0) (List.length (pk (idB i5 ++ evB e5))) ((xs13 1).n 0), .agg #[.bool ib5, .pointer ip5, .int .u64 ((eb5 : Nat) : Int), .pointer ep5], .slice ((xs13 3).p 0) (List.length (pk (idB i5 ++ evB e5))) ((xs13 3).n 0), .bool (decide (i5 = i5 ∧ e5 = e5)), .agg #[.bool ib5, .pointer ip5, .int .u64 ((eb5 : Nat) : Int), .pointer ep5], .agg #[.bool ib5, .pointer ip5, .int .u64 ((eb5 : Nat) : Int), .pointer ep5], .bool (decide (i5 = i5 ∧ e5 = e5)), .bool true, .bool true, .pointer (some ⟨(φ6 0), 0, none⟩), .agg #[.bool ib5, .pointer ip5], .slice ((xs13 12).p 0) (List.length (pk (idB i5))) ((xs13 12).n 0), .pointer (some ⟨(φ9 0), 0, none⟩), .agg #[.bool ib5, .pointer ip5], .slice ((xs13 15).p 0) (List.length (pk (idB i5))) ((xs13 15).n 0), .bool (decide (i5 = i5)), .pointer (some ⟨(φ6 0), 0, none⟩), .agg #[.bool ib5, .pointer ip5], .pointer (some ⟨(φ9 0), 0, none⟩), .agg #[.bool ib5, .pointer ip5], .bool (decide (i5 = i5)), .bool true, .bool true, .bool true, .pointer (some ⟨(φ6 0), 2, none⟩), .agg #[.int .u64 ((eb5 : Nat) : Int), .pointer ep5], .slice ((xs13 27).p 0) (List.length (pk (evB e5))) ((xs13 27).n 0), .pointer (some ⟨(φ9 0), 2, none⟩), .agg #[.int .u64 ((eb5 : Nat) : Int), .pointer ep5], .slice ((xs13 30).p 0) (List.length (pk (evB e5))) ((xs13 30).n 0), .bool (decide (e5 = e5)), .pointer (some ⟨(φ6 0), 2, none⟩), .agg #[.int .u64 ((eb5 : Nat) : Int), .pointer ep5], .pointer (some ⟨(φ9 0), 2, none⟩), .agg #[.int .u64 ((eb5 : Nat) : Int), .pointer ep5], .bool (decide (e5 = e5)), .bool true, .bool true, .bool true]), (fun φ13 xs13 => [[((φ6 0), .cells #[.bool ib5, .pointer ip5, .int .u64 ((eb5 : Nat) : Int), .pointer ep5] 32), ((φ6 1), .cells #[.pointer (some ⟨ki5, 0, none⟩), .pointer (some ⟨ke5, 0, none⟩)] 36), ((φ9 0), .cells #[.bool ib5, .pointer ip5, .int .u64 ((eb5 : Nat) : Int), .pointer ep5] 32), ((φ9 1), .cells #[.pointer (some ⟨ki8, 0, none⟩), .pointer (some ⟨ke8, 0, none⟩)] 36)]]), (fun φ13 xs13 => [[default, default, default, default, default, default, default, default, default, default, default, default, default, default, default, default, default, default, default, default, default, default, default, default, default, default, default, default, default, default, default, default, default, default, default, default, default, default, default, default]]), [], [1, 3, 1, 3, 3, 1, 1, 3, 6, 1, 1, 1, 3, 1, 1, 3, 3, 1, 1, 1, 1, 3, 6, 1, 1, 1, 1, 3, 1, 1, 3, 3, 1, 1, 1, 1, 3, 6, 1, 1]⟩ (fun j => ([MP.any, ⟨fun x J => BSl J (pk (idB i5 ++ evB e5)) (.slice (x.p 0) (List.length (pk (idB i5 ++ evB e5))) (x.n 0)), fun le h => BSl.mono le h⟩, MP.any, ⟨fun x J => BSl J (pk (idB i5 ++ evB e5)) (.slice (x.p 0) (List.length (pk (idB i5 ++ evB e5))) (x.n 0)), fun le h => BSl.mono le h⟩, MP.any, MP.any, MP.any, MP.any, MP.any, MP.any, MP.any, MP.any, ⟨fun x J => BSl J (pk (idB i5)) (.slice (x.p 0) (List.length (pk (idB i5))) (x.n 0)), fun le h => BSl.mono le h⟩, MP.any, MP.any, ⟨fun x J => BSl J (pk (idB i5)) (.slice (x.p 0) (List.length (pk (idB i5))) (x.n 0)), fun le h => BSl.mono le h⟩, MP.any, MP.any, MP.any, MP.any, MP.any, MP.any, MP.any, MP.any, MP.any, MP.any, MP.any, ⟨fun x J => BSl J (pk (evB e5)) (.slice (x.p 0) (List.length (pk (evB e5))) (x.n 0)), fun le h => BSl.mono le h⟩, MP.any, MP.any, ⟨fun x J => BSl J (pk (evB e5)) (.slice (x.p 0) (List.length (pk (evB e5))) (x.n 0)), fun le h => BSl.mono le h⟩, MP.any, MP.any, MP.any, MP.any, MP.any, MP.any, MP.any, MP.any, MP.any] : List MP).getD j MP.any) [1, 3, 4, 7, 12, 15, 16, 21, 27, 30, 31, 36] [] [8, 22, 37] (fun φ13 xs13 => []) (fun φ13 xs13 => [(31, .agg #[.bool ib5, .pointer ip5, .int .u64 ((eb5 : Nat) : Int), .pointer ep5]), (32, .slice ((xs13 1).p 0) (List.length (pk (idB i5 ++ evB e5))) ((xs13 1).n 0)), (33, .agg #[.bool ib5, .pointer ip5, .int .u64 ((eb5 : Nat) : Int), .pointer ep5]), (34, .slice ((xs13 3).p 0) (List.length (pk (idB i5 ++ evB e5))) ((xs13 3).n 0)), (35, .bool (decide (i5 = i5 ∧ e5 = e5))), (36, .agg #[.bool ib5, .pointer ip5, .int .u64 ((eb5 : Nat) : Int), .pointer ep5]), (37, .agg #[.bool ib5, .pointer ip5, .int .u64 ((eb5 : Nat) : Int), .pointer ep5]), (38, .bool (decide (i5 = i5 ∧ e5 = e5))), (39, .bool true), (40, .bool true), (41, .pointer (some ⟨(φ6 0), 0, none⟩)), (42, .agg #[.bool ib5, .pointer ip5]), (43, .slice ((xs13 12).p 0) (List.length (pk (idB i5))) ((xs13 12).n 0)), (44, .pointer (some ⟨(φ9 0), 0, none⟩)), (45, .agg #[.bool ib5, .pointer ip5]), (46, .slice ((xs13 15).p 0) (List.length (pk (idB i5))) ((xs13 15).n 0)), (47, .bool (decide (i5 = i5))), (48, .pointer (some ⟨(φ6 0), 0, none⟩)), (49, .agg #[.bool ib5, .pointer ip5]), (50, .pointer (some ⟨(φ9 0), 0, none⟩)), (51, .agg #[.bool ib5, .pointer ip5]), (52, .bool (decide (i5 = i5))), (53, .bool true), (54, .bool true), (55, .bool true), (56, .pointer (some ⟨(φ6 0), 2, none⟩)), (57, .agg #[.int .u64 ((eb5 : Nat) : Int), .pointer ep5]), (58, .slice ((xs13 27).p 0) (List.length (pk (evB e5))) ((xs13 27).n 0)), (59, .pointer (some ⟨(φ9 0), 2, none⟩)), (60, .agg #[.int .u64 ((eb5 : Nat) : Int), .pointer ep5]), (61, .slice ((xs13 30).p 0) (List.length (pk (evB e5))) ((xs13 30).n 0)), (62, .bool (decide (e5 = e5))), (63, .pointer (some ⟨(φ6 0), 2, none⟩)), (64, .agg #[.int .u64 ((eb5 : Nat) : Int), .pointer ep5]), (65, .pointer (some ⟨(φ9 0), 2, none⟩)), (66, .agg #[.int .u64 ((eb5 : Nat) : Int), .pointer ep5]), (67, .bool (decide (e5 = e5))), (68, .bool true), (69, .bool true), (10, .bool true)]) (fun φ13 xs13 => [((φ6 0), .cells #[.bool ib5, .pointer ip5, .int .u64 ((eb5 : Nat) : Int), .pointer ep5] 32), ((φ6 1), .cells #[.pointer (some ⟨ki5, 0, none⟩), .pointer (some ⟨ke5, 0, none⟩)] 36), ((φ9 0), .cells #[.bool ib5, .pointer ip5, .int .u64 ((eb5 : Nat) : Int), .pointer ep5] 32), ((φ9 1), .cells #[.pointer (some ⟨ki8, 0, none⟩), .pointer (some ⟨ke8, 0, none⟩)] 36)]) s trivial (by kernel_rfl) (by kernel_rfl) (fun _ _ => by kernel_rfl) (fun _ _ => by kernel_rfl) ⟨fun _ _ => by kernel_rfl, fun _ _ => by kernel_rfl, fun _ _ => by kernel_rfl, fun _ _ => by kernel_rfl⟩ (fun _ _ _ => by kernel_rfl) (fun _ _ => by kernel_rfl) (fun _ _ => by kernel_rfl) (fun _ _ => by kernel_rfl) (fun _ _ => by kernel_rfl) (fun _ _ => by kernel_rfl) trivial ⟨kcast (A := ∀ (φ13 : Nat → Nat) (xs13 : Xs) (J : IM) (w : World), I8.Le J → J.Sub w → ((binOp .eql 4 (.bool (decide (i5 = i5 ∧ e5 = e5))) (.bool (decide (i5 = i5 ∧ e5 = e5)))) : Sem Value).run Try.prog w = .ok (.bool true) w) (by kernel_rfl) (fun φ13 xs13 J w hJ hS => run_eqBB), ⟨kcast (A := ∀ (φ13 : Nat → Nat) (xs13 : Xs) (J : IM) (w : World), I8.Le J → J.Sub w → ((binOp .eql 4 (.bool (decide (i5 = i5))) (.bool (decide (i5 = i5)))) : Sem Value).run Try.prog w = .ok (.bool true) w) (by kernel_rfl) (fun φ13 xs13 J w hJ hS => run_eqBB), ⟨kcast (A := ∀ (φ13 : Nat → Nat) (xs13 : Xs) (J : IM) (w : World), I8.Le J → J.Sub w → ((binOp .eql 4 (.bool (decide (e5 = e5))) (.bool (decide (e5 = e5)))) : Sem Value).run Try.prog w = .ok (.bool true) w) (by kernel_rfl) (fun φ13 xs13 J w hJ hS => run_eqBB), trivial⟩⟩⟩ (by kernel_rfl) ⟨?c13_1, ?c13_3, ?c13_4, ?c13_7, ?c13_12, ?c13_15, ?c13_16, ?c13_21, ?c13_27, ?c13_30, ?c13_31, ?c13_36, trivial⟩ ?k13
    case c13_1 =>
      refine kcast (A := ∀ (φ13 : Nat → Nat) (xs13 : Xs) (J1_13 : IM), I8.Le J1_13 → Fun Try.prog 8 #[.agg #[.bool ib5, .pointer ip5, .int .u64 ((eb5 : Nat) : Int), .pointer ep5]] J1_13 (fun v J' => ∃ x : UX, v = .slice (x.p 0) (List.length (pk (idB i5 ++ evB e5))) (x.n 0) ∧ (BSl J' (pk (idB i5 ++ evB e5)) (.slice (x.p 0) (List.length (pk (idB i5 ++ evB e5))) (x.n 0))))) (by kernel_rfl) ?_
      intro φ13 xs13 J1_13 leJ
      have h5_2 := Ev.TRep.mono leJ h5_2
      have h5_3 := Ev.ERep.mono leJ h5_3
      exact Fun.mono (codeStamp_c h5_2 h5_3 (okE.t h5_1) (by have l1 := okT.len h5_0; have l2 := okE.len h5_1; omega)) (fun v J' _ ⟨y0, y1, hv, g0⟩ => ⟨{ UX.d with p := fun j => y0, n := fun j => y1 }, hv, g0⟩)
    case c13_3 =>
      refine kcast (A := ∀ (φ13 : Nat → Nat) (xs13 : Xs) (J3_13 : IM), I8.Le J3_13 → (BSl J3_13 (pk (idB i5 ++ evB e5)) (.slice ((xs13 1).p 0) (List.length (pk (idB i5 ++ evB e5))) ((xs13 1).n 0))) → Fun Try.prog 8 #[.agg #[.bool ib5, .pointer ip5, .int .u64 ((eb5 : Nat) : Int), .pointer ep5]] J3_13 (fun v J' => ∃ x : UX, v = .slice (x.p 0) (List.length (pk (idB i5 ++ evB e5))) (x.n 0) ∧ (BSl J' (pk (idB i5 ++ evB e5)) (.slice (x.p 0) (List.length (pk (idB i5 ++ evB e5))) (x.n 0))))) (by kernel_rfl) ?_
      intro φ13 xs13 J3_13 leJ
      rintro h13_1_0
      have h5_2 := Ev.TRep.mono leJ h5_2
      have h5_3 := Ev.ERep.mono leJ h5_3
      exact Fun.mono (codeStamp_c h5_2 h5_3 (okE.t h5_1) (by have l1 := okT.len h5_0; have l2 := okE.len h5_1; omega)) (fun v J' _ ⟨y0, y1, hv, g0⟩ => ⟨{ UX.d with p := fun j => y0, n := fun j => y1 }, hv, g0⟩)
    case c13_4 =>
      refine kcast (A := ∀ (φ13 : Nat → Nat) (xs13 : Xs) (J4_13 : IM), I8.Le J4_13 → (BSl J4_13 (pk (idB i5 ++ evB e5)) (.slice ((xs13 1).p 0) (List.length (pk (idB i5 ++ evB e5))) ((xs13 1).n 0))) → (BSl J4_13 (pk (idB i5 ++ evB e5)) (.slice ((xs13 3).p 0) (List.length (pk (idB i5 ++ evB e5))) ((xs13 3).n 0))) → Fun Try.prog 14 #[.slice ((xs13 1).p 0) (List.length (pk (idB i5 ++ evB e5))) ((xs13 1).n 0), .slice ((xs13 3).p 0) (List.length (pk (idB i5 ++ evB e5))) ((xs13 3).n 0)] J4_13 (fun v J' => ∃ x : UX, v = .bool (decide (i5 = i5 ∧ e5 = e5)) ∧ (True))) (by kernel_rfl) ?_
      intro φ13 xs13 J4_13 leJ
      rintro h13_1_0 h13_3_0
      exact Fun.mono (equalB_c h13_1_0 h13_3_0 (i5 = i5 ∧ e5 = e5) (st_once h5_1.1 h5_1.1 (okE.t h5_1) (okE.t h5_1))) (fun v J' _ h => ⟨UX.d, h, trivial⟩)
    case c13_7 =>
      refine kcast (A := ∀ (φ13 : Nat → Nat) (xs13 : Xs) (J7_13 : IM), I8.Le J7_13 → (BSl J7_13 (pk (idB i5 ++ evB e5)) (.slice ((xs13 1).p 0) (List.length (pk (idB i5 ++ evB e5))) ((xs13 1).n 0))) → (BSl J7_13 (pk (idB i5 ++ evB e5)) (.slice ((xs13 3).p 0) (List.length (pk (idB i5 ++ evB e5))) ((xs13 3).n 0))) → (True) → Fun Try.prog 17 #[.agg #[.bool ib5, .pointer ip5, .int .u64 ((eb5 : Nat) : Int), .pointer ep5], .agg #[.bool ib5, .pointer ip5, .int .u64 ((eb5 : Nat) : Int), .pointer ep5]] J7_13 (fun v J' => ∃ x : UX, v = .bool (decide (i5 = i5 ∧ e5 = e5)) ∧ (True))) (by kernel_rfl) ?_
      intro φ13 xs13 J7_13 leJ
      rintro h13_1_0 h13_3_0 _
      have h5_2 := Ev.TRep.mono leJ h5_2
      have h5_3 := Ev.ERep.mono leJ h5_3
      exact Fun.mono (stampSame_c h5_2 h5_2 h5_3 h5_3 h5_1 h5_1) (fun v J' _ h => ⟨UX.d, h, trivial⟩)
    case c13_12 =>
      refine kcast (A := ∀ (φ13 : Nat → Nat) (xs13 : Xs) (J12_13 : IM), I8.Le J12_13 → (BSl J12_13 (pk (idB i5 ++ evB e5)) (.slice ((xs13 1).p 0) (List.length (pk (idB i5 ++ evB e5))) ((xs13 1).n 0))) → (BSl J12_13 (pk (idB i5 ++ evB e5)) (.slice ((xs13 3).p 0) (List.length (pk (idB i5 ++ evB e5))) ((xs13 3).n 0))) → (True) → (True) → Fun Try.prog 11 #[.agg #[.bool ib5, .pointer ip5]] J12_13 (fun v J' => ∃ x : UX, v = .slice (x.p 0) (List.length (pk (idB i5))) (x.n 0) ∧ (BSl J' (pk (idB i5)) (.slice (x.p 0) (List.length (pk (idB i5))) (x.n 0))))) (by kernel_rfl) ?_
      intro φ13 xs13 J12_13 leJ
      rintro h13_1_0 h13_3_0 _ _
      have h5_2 := Ev.TRep.mono leJ h5_2
      exact Fun.mono (codeID_c h5_2 (by have l1 := okT.len h5_0; omega)) (fun v J' _ ⟨y0, y1, hv, g0⟩ => ⟨{ UX.d with p := fun j => y0, n := fun j => y1 }, hv, g0⟩)
    case c13_15 =>
      refine kcast (A := ∀ (φ13 : Nat → Nat) (xs13 : Xs) (J15_13 : IM), I8.Le J15_13 → (BSl J15_13 (pk (idB i5 ++ evB e5)) (.slice ((xs13 1).p 0) (List.length (pk (idB i5 ++ evB e5))) ((xs13 1).n 0))) → (BSl J15_13 (pk (idB i5 ++ evB e5)) (.slice ((xs13 3).p 0) (List.length (pk (idB i5 ++ evB e5))) ((xs13 3).n 0))) → (True) → (True) → (BSl J15_13 (pk (idB i5)) (.slice ((xs13 12).p 0) (List.length (pk (idB i5))) ((xs13 12).n 0))) → Fun Try.prog 11 #[.agg #[.bool ib5, .pointer ip5]] J15_13 (fun v J' => ∃ x : UX, v = .slice (x.p 0) (List.length (pk (idB i5))) (x.n 0) ∧ (BSl J' (pk (idB i5)) (.slice (x.p 0) (List.length (pk (idB i5))) (x.n 0))))) (by kernel_rfl) ?_
      intro φ13 xs13 J15_13 leJ
      rintro h13_1_0 h13_3_0 _ _ h13_12_0
      have h5_2 := Ev.TRep.mono leJ h5_2
      exact Fun.mono (codeID_c h5_2 (by have l1 := okT.len h5_0; omega)) (fun v J' _ ⟨y0, y1, hv, g0⟩ => ⟨{ UX.d with p := fun j => y0, n := fun j => y1 }, hv, g0⟩)
    case c13_16 =>
      refine kcast (A := ∀ (φ13 : Nat → Nat) (xs13 : Xs) (J16_13 : IM), I8.Le J16_13 → (BSl J16_13 (pk (idB i5 ++ evB e5)) (.slice ((xs13 1).p 0) (List.length (pk (idB i5 ++ evB e5))) ((xs13 1).n 0))) → (BSl J16_13 (pk (idB i5 ++ evB e5)) (.slice ((xs13 3).p 0) (List.length (pk (idB i5 ++ evB e5))) ((xs13 3).n 0))) → (True) → (True) → (BSl J16_13 (pk (idB i5)) (.slice ((xs13 12).p 0) (List.length (pk (idB i5))) ((xs13 12).n 0))) → (BSl J16_13 (pk (idB i5)) (.slice ((xs13 15).p 0) (List.length (pk (idB i5))) ((xs13 15).n 0))) → Fun Try.prog 14 #[.slice ((xs13 12).p 0) (List.length (pk (idB i5))) ((xs13 12).n 0), .slice ((xs13 15).p 0) (List.length (pk (idB i5))) ((xs13 15).n 0)] J16_13 (fun v J' => ∃ x : UX, v = .bool (decide (i5 = i5)) ∧ (True))) (by kernel_rfl) ?_
      intro φ13 xs13 J16_13 leJ
      rintro h13_1_0 h13_3_0 _ _ h13_12_0 h13_15_0
      exact Fun.mono (equalB_c h13_12_0 h13_15_0 (i5 = i5) id_once) (fun v J' _ h => ⟨UX.d, h, trivial⟩)
    case c13_21 =>
      refine kcast (A := ∀ (φ13 : Nat → Nat) (xs13 : Xs) (J21_13 : IM), I8.Le J21_13 → (BSl J21_13 (pk (idB i5 ++ evB e5)) (.slice ((xs13 1).p 0) (List.length (pk (idB i5 ++ evB e5))) ((xs13 1).n 0))) → (BSl J21_13 (pk (idB i5 ++ evB e5)) (.slice ((xs13 3).p 0) (List.length (pk (idB i5 ++ evB e5))) ((xs13 3).n 0))) → (True) → (True) → (BSl J21_13 (pk (idB i5)) (.slice ((xs13 12).p 0) (List.length (pk (idB i5))) ((xs13 12).n 0))) → (BSl J21_13 (pk (idB i5)) (.slice ((xs13 15).p 0) (List.length (pk (idB i5))) ((xs13 15).n 0))) → (True) → Fun Try.prog 18 #[.agg #[.bool ib5, .pointer ip5], .agg #[.bool ib5, .pointer ip5]] J21_13 (fun v J' => ∃ x : UX, v = .bool (decide (i5 = i5)) ∧ (True))) (by kernel_rfl) ?_
      intro φ13 xs13 J21_13 leJ
      rintro h13_1_0 h13_3_0 _ _ h13_12_0 h13_15_0 _
      have h5_2 := Ev.TRep.mono leJ h5_2
      exact Fun.mono (idSame_c h5_2 h5_2) (fun v J' _ h => ⟨UX.d, h, trivial⟩)
    case c13_27 =>
      refine kcast (A := ∀ (φ13 : Nat → Nat) (xs13 : Xs) (J27_13 : IM), I8.Le J27_13 → (BSl J27_13 (pk (idB i5 ++ evB e5)) (.slice ((xs13 1).p 0) (List.length (pk (idB i5 ++ evB e5))) ((xs13 1).n 0))) → (BSl J27_13 (pk (idB i5 ++ evB e5)) (.slice ((xs13 3).p 0) (List.length (pk (idB i5 ++ evB e5))) ((xs13 3).n 0))) → (True) → (True) → (BSl J27_13 (pk (idB i5)) (.slice ((xs13 12).p 0) (List.length (pk (idB i5))) ((xs13 12).n 0))) → (BSl J27_13 (pk (idB i5)) (.slice ((xs13 15).p 0) (List.length (pk (idB i5))) ((xs13 15).n 0))) → (True) → (True) → Fun Try.prog 13 #[.agg #[.int .u64 ((eb5 : Nat) : Int), .pointer ep5]] J27_13 (fun v J' => ∃ x : UX, v = .slice (x.p 0) (List.length (pk (evB e5))) (x.n 0) ∧ (BSl J' (pk (evB e5)) (.slice (x.p 0) (List.length (pk (evB e5))) (x.n 0))))) (by kernel_rfl) ?_
      intro φ13 xs13 J27_13 leJ
      rintro h13_1_0 h13_3_0 _ _ h13_12_0 h13_15_0 _ _
      have h5_3 := Ev.ERep.mono leJ h5_3
      exact Fun.mono (codeEvent_c h5_3 (okE.t h5_1) (by have l2 := okE.len h5_1; omega)) (fun v J' _ ⟨y0, y1, hv, g0⟩ => ⟨{ UX.d with p := fun j => y0, n := fun j => y1 }, hv, g0⟩)
    case c13_30 =>
      refine kcast (A := ∀ (φ13 : Nat → Nat) (xs13 : Xs) (J30_13 : IM), I8.Le J30_13 → (BSl J30_13 (pk (idB i5 ++ evB e5)) (.slice ((xs13 1).p 0) (List.length (pk (idB i5 ++ evB e5))) ((xs13 1).n 0))) → (BSl J30_13 (pk (idB i5 ++ evB e5)) (.slice ((xs13 3).p 0) (List.length (pk (idB i5 ++ evB e5))) ((xs13 3).n 0))) → (True) → (True) → (BSl J30_13 (pk (idB i5)) (.slice ((xs13 12).p 0) (List.length (pk (idB i5))) ((xs13 12).n 0))) → (BSl J30_13 (pk (idB i5)) (.slice ((xs13 15).p 0) (List.length (pk (idB i5))) ((xs13 15).n 0))) → (True) → (True) → (BSl J30_13 (pk (evB e5)) (.slice ((xs13 27).p 0) (List.length (pk (evB e5))) ((xs13 27).n 0))) → Fun Try.prog 13 #[.agg #[.int .u64 ((eb5 : Nat) : Int), .pointer ep5]] J30_13 (fun v J' => ∃ x : UX, v = .slice (x.p 0) (List.length (pk (evB e5))) (x.n 0) ∧ (BSl J' (pk (evB e5)) (.slice (x.p 0) (List.length (pk (evB e5))) (x.n 0))))) (by kernel_rfl) ?_
      intro φ13 xs13 J30_13 leJ
      rintro h13_1_0 h13_3_0 _ _ h13_12_0 h13_15_0 _ _ h13_27_0
      have h5_3 := Ev.ERep.mono leJ h5_3
      exact Fun.mono (codeEvent_c h5_3 (okE.t h5_1) (by have l2 := okE.len h5_1; omega)) (fun v J' _ ⟨y0, y1, hv, g0⟩ => ⟨{ UX.d with p := fun j => y0, n := fun j => y1 }, hv, g0⟩)
    case c13_31 =>
      refine kcast (A := ∀ (φ13 : Nat → Nat) (xs13 : Xs) (J31_13 : IM), I8.Le J31_13 → (BSl J31_13 (pk (idB i5 ++ evB e5)) (.slice ((xs13 1).p 0) (List.length (pk (idB i5 ++ evB e5))) ((xs13 1).n 0))) → (BSl J31_13 (pk (idB i5 ++ evB e5)) (.slice ((xs13 3).p 0) (List.length (pk (idB i5 ++ evB e5))) ((xs13 3).n 0))) → (True) → (True) → (BSl J31_13 (pk (idB i5)) (.slice ((xs13 12).p 0) (List.length (pk (idB i5))) ((xs13 12).n 0))) → (BSl J31_13 (pk (idB i5)) (.slice ((xs13 15).p 0) (List.length (pk (idB i5))) ((xs13 15).n 0))) → (True) → (True) → (BSl J31_13 (pk (evB e5)) (.slice ((xs13 27).p 0) (List.length (pk (evB e5))) ((xs13 27).n 0))) → (BSl J31_13 (pk (evB e5)) (.slice ((xs13 30).p 0) (List.length (pk (evB e5))) ((xs13 30).n 0))) → Fun Try.prog 14 #[.slice ((xs13 27).p 0) (List.length (pk (evB e5))) ((xs13 27).n 0), .slice ((xs13 30).p 0) (List.length (pk (evB e5))) ((xs13 30).n 0)] J31_13 (fun v J' => ∃ x : UX, v = .bool (decide (e5 = e5)) ∧ (True))) (by kernel_rfl) ?_
      intro φ13 xs13 J31_13 leJ
      rintro h13_1_0 h13_3_0 _ _ h13_12_0 h13_15_0 _ _ h13_27_0 h13_30_0
      exact Fun.mono (equalB_c h13_27_0 h13_30_0 (e5 = e5) (ev_once h5_1.1 h5_1.1 (okE.t h5_1) (okE.t h5_1))) (fun v J' _ h => ⟨UX.d, h, trivial⟩)
    case c13_36 =>
      refine kcast (A := ∀ (φ13 : Nat → Nat) (xs13 : Xs) (J36_13 : IM), I8.Le J36_13 → (BSl J36_13 (pk (idB i5 ++ evB e5)) (.slice ((xs13 1).p 0) (List.length (pk (idB i5 ++ evB e5))) ((xs13 1).n 0))) → (BSl J36_13 (pk (idB i5 ++ evB e5)) (.slice ((xs13 3).p 0) (List.length (pk (idB i5 ++ evB e5))) ((xs13 3).n 0))) → (True) → (True) → (BSl J36_13 (pk (idB i5)) (.slice ((xs13 12).p 0) (List.length (pk (idB i5))) ((xs13 12).n 0))) → (BSl J36_13 (pk (idB i5)) (.slice ((xs13 15).p 0) (List.length (pk (idB i5))) ((xs13 15).n 0))) → (True) → (True) → (BSl J36_13 (pk (evB e5)) (.slice ((xs13 27).p 0) (List.length (pk (evB e5))) ((xs13 27).n 0))) → (BSl J36_13 (pk (evB e5)) (.slice ((xs13 30).p 0) (List.length (pk (evB e5))) ((xs13 30).n 0))) → (True) → Fun Try.prog 19 #[.agg #[.int .u64 ((eb5 : Nat) : Int), .pointer ep5], .agg #[.int .u64 ((eb5 : Nat) : Int), .pointer ep5]] J36_13 (fun v J' => ∃ x : UX, v = .bool (decide (e5 = e5)) ∧ (True))) (by kernel_rfl) ?_
      intro φ13 xs13 J36_13 leJ
      rintro h13_1_0 h13_3_0 _ _ h13_12_0 h13_15_0 _ _ h13_27_0 h13_30_0 _
      have h5_3 := Ev.ERep.mono leJ h5_3
      exact Fun.mono (evSame_c h5_3 h5_3 (okE.w h5_1) (okE.w h5_1)) (fun v J' _ h => ⟨UX.d, h, trivial⟩)
    case k13 =>
      rintro φ13 xs13 I13 w13 le13 s h13_1_0 h13_3_0 _ _ h13_12_0 h13_15_0 _ _ h13_27_0 h13_30_0 _ _
      replace h10 := BSl.mono le13 h10
      replace h20 := BSl.mono le13 h20
      replace h30 := BSl.mono le13 h30
      replace h40 := BSl.mono le13 h40
      replace h5_2 := Ev.TRep.mono le13 h5_2
      replace h5_3 := Ev.ERep.mono le13 h5_3
      replace h5_4 := Ev.RT.mono le13 h5_4
      replace h5_5 := Ev.RE.mono le13 h5_5
      replace h8_2 := Ev.TRep.mono le13 h8_2
      replace h8_3 := Ev.ERep.mono le13 h8_3
      replace h8_4 := Ev.RT.mono le13 h8_4
      replace h8_5 := Ev.RE.mono le13 h8_5
      refine wp_ret ?_
      refine ret_rule (C := []) [((φ6 0), .cells #[.bool ib5, .pointer ip5, .int .u64 ((eb5 : Nat) : Int), .pointer ep5] 32), ((φ6 1), .cells #[.pointer (some ⟨ki5, 0, none⟩), .pointer (some ⟨ke5, 0, none⟩)] 36), ((φ9 0), .cells #[.bool ib5, .pointer ip5, .int .u64 ((eb5 : Nat) : Int), .pointer ep5] 32), ((φ9 1), .cells #[.pointer (some ⟨ki8, 0, none⟩), .pointer (some ⟨ke8, 0, none⟩)] 36)] [] (.bool true) [] [] s trivial (by kernel_rfl) ?_
      exact ⟨_, _, _, rfl, s, rfl⟩
  ·
    rw [hc11]
    refine cond_false_rule (b := false) (by kernel_rfl) rfl ?_
    refine wp_skip ?_
    refine wp_seq ?_
    refine draw_rule (C := []) ⟨(fun φ14 xs14 => [.look 0 [.o 0, .o 0, .o 0, .o 0] [(φ6 0), (φ6 0), (φ6 0), (φ6 0)], .call 8 #[.agg #[.bool ib5, .pointer ip5, .int .u64 ((eb5 : Nat) : Int), .pointer ep5]], .look 0 [.o 2, .o 2, .o 2, .o 2] [(φ9 0), (φ9 0), (φ9 0), (φ9 0)], .call 8 #[.agg #[.bool ib8, .pointer ip8, .int .u64 ((eb8 : Nat) : Int), .pointer ep8]], .call 14 #[.slice ((xs14 1).p 0) (List.length (pk (idB i5 ++ evB e5))) ((xs14 1).n 0), .slice ((xs14 3).p 0) (List.length (pk (idB i8 ++ evB e8))) ((xs14 3).n 0)], .look 0 [.o 0, .o 0, .o 0, .o 0] [(φ6 0), (φ6 0), (φ6 0), (φ6 0)], .look 0 [.o 2, .o 2, .o 2, .o 2] [(φ9 0), (φ9 0), (φ9 0), (φ9 0)], .call 17 #[.agg #[.bool ib5, .pointer ip5, .int .u64 ((eb5 : Nat) : Int), .pointer ep5], .agg #[.bool ib8, .pointer ip8, .int .u64 ((eb8 : Nat) : Int), .pointer ep8]], .ran (binOp .eql 4 (.bool (decide (i5 = i8 ∧ e5 = e8))) (.bool (decide (i5 = i8 ∧ e5 = e8)))), .look 0 [] [], .look 0 [] [], .look 0 [.o 0, .o 0] [(φ6 0), (φ6 0)], .call 11 #[.agg #[.bool ib5, .pointer ip5]], .look 0 [] [], .look 0 [.o 2, .o 2] [(φ9 0), (φ9 0)], .call 11 #[.agg #[.bool ib8, .pointer ip8]], .call 14 #[.slice ((xs14 12).p 0) (List.length (pk (idB i5))) ((xs14 12).n 0), .slice ((xs14 15).p 0) (List.length (pk (idB i8))) ((xs14 15).n 0)], .look 0 [] [], .look 0 [.o 0, .o 0] [(φ6 0), (φ6 0)], .look 0 [] [], .look 0 [.o 2, .o 2] [(φ9 0), (φ9 0)], .call 18 #[.agg #[.bool ib5, .pointer ip5], .agg #[.bool ib8, .pointer ip8]], .ran (binOp .eql 4 (.bool (decide (i5 = i8))) (.bool (decide (i5 = i8)))), .look 0 [] [], .look 0 [] [], .look 0 [] [], .look 0 [.o 0, .o 0] [(φ6 0), (φ6 0)], .call 13 #[.agg #[.int .u64 ((eb5 : Nat) : Int), .pointer ep5]], .look 0 [] [], .look 0 [.o 2, .o 2] [(φ9 0), (φ9 0)], .call 13 #[.agg #[.int .u64 ((eb8 : Nat) : Int), .pointer ep8]], .call 14 #[.slice ((xs14 27).p 0) (List.length (pk (evB e5))) ((xs14 27).n 0), .slice ((xs14 30).p 0) (List.length (pk (evB e8))) ((xs14 30).n 0)], .look 0 [] [], .look 0 [.o 0, .o 0] [(φ6 0), (φ6 0)], .look 0 [] [], .look 0 [.o 2, .o 2] [(φ9 0), (φ9 0)], .call 19 #[.agg #[.int .u64 ((eb5 : Nat) : Int), .pointer ep5], .agg #[.int .u64 ((eb8 : Nat) : Int), .pointer ep8]], .ran (binOp .eql 4 (.bool (decide (e5 = e8))) (.bool (decide (e5 = e8)))), .look 0 [] [], .look 0 [] []]), (fun φ14 xs14 => [.agg #[.bool ib5, .pointer ip5, .int .u64 ((eb5 : Nat) : Int), .pointer ep5], .slice ((xs14 1).p 0) (List.length (pk (idB i5 ++ evB e5))) ((xs14 1).n 0), .agg #[.bool ib8, .pointer ip8, .int .u64 ((eb8 : Nat) : Int), .pointer ep8], .slice ((xs14 3).p 0) (List.length (pk (idB i8 ++ evB e8))) ((xs14 3).n 0), .bool (decide (i5 = i8 ∧ e5 = e8)), .agg #[.bool ib5, .pointer ip5, .int .u64 ((eb5 : Nat) : Int), .pointer ep5], .agg #[.bool ib8, .pointer ip8, .int .u64 ((eb8 : Nat) : Int), .pointer ep8], .bool (decide (i5 = i8 ∧ e5 = e8)), .bool true, .bool true, .pointer (some ⟨(φ6 0), 0, none⟩), .agg #[.bool ib5, .pointer ip5], .slice ((xs14 12).p 0) (List.length (pk (idB i5))) ((xs14 12).n 0), .pointer (some ⟨(φ9 0), 0, none⟩), .agg #[.bool ib8, .pointer ip8], .slice ((xs14 15).p 0) (List.length (pk (idB i8))) ((xs14 15).n 0), .bool (decide (i5 = i8)), .pointer (some ⟨(φ6 0), 0, none⟩), .agg #[.bool ib5, .pointer ip5], .pointer (some ⟨(φ9 0), 0, none⟩), .agg #[.bool ib8, .pointer ip8], .bool (decide (i5 = i8)), .bool true, .bool true, .bool true, .pointer (some ⟨(φ6 0), 2, none⟩), .agg #[.int .u64 ((eb5 : Nat) : Int), .pointer ep5], .slice ((xs14 27).p 0) (List.length (pk (evB e5))) ((xs14 27).n 0), .pointer (some ⟨(φ9 0), 2, none⟩), .agg #[.int .u64 ((eb8 : Nat) : Int), .pointer ep8], .slice ((xs14 30).p 0) (List.length (pk (evB e8))) ((xs14 30).n 0), .bool (decide (e5 = e8)), .pointer (some ⟨(φ6 0), 2, none⟩), .agg #[.int .u64 ((eb5 : Nat) : Int), .pointer ep5], .pointer (some ⟨(φ9 0), 2, none⟩), .agg #[.int .u64 ((eb8 : Nat) : Int), .pointer ep8], .bool (decide (e5 = e8)), .bool true, .bool true, .bool true]), (fun φ14 xs14 => [[((φ6 0), .cells #[.bool ib5, .pointer ip5, .int .u64 ((eb5 : Nat) : Int), .pointer ep5] 32), ((φ6 1), .cells #[.pointer (some ⟨ki5, 0, none⟩), .pointer (some ⟨ke5, 0, none⟩)] 36), ((φ9 0), .cells #[.bool ib8, .pointer ip8, .int .u64 ((eb8 : Nat) : Int), .pointer ep8] 32), ((φ9 1), .cells #[.pointer (some ⟨ki8, 0, none⟩), .pointer (some ⟨ke8, 0, none⟩)] 36)]]), (fun φ14 xs14 => [[default, default, default, default, default, default, default, default, default, default, default, default, default, default, default, default, default, default, default, default, default, default, default, default, default, default, default, default, default, default, default, default, default, default, default, default, default, default, default, default]]), [], [1, 3, 1, 3, 3, 1, 1, 3, 6, 1, 1, 1, 3, 1, 1, 3, 3, 1, 1, 1, 1, 3, 6, 1, 1, 1, 1, 3, 1, 1, 3, 3, 1, 1, 1, 1, 3, 6, 1, 1]⟩ (fun j => ([MP.any, ⟨fun x J => BSl J (pk (idB i5 ++ evB e5)) (.slice (x.p 0) (List.length (pk (idB i5 ++ evB e5))) (x.n 0)), fun le h => BSl.mono le h⟩, MP.any, ⟨fun x J => BSl J (pk (idB i8 ++ evB e8)) (.slice (x.p 0) (List.length (pk (idB i8 ++ evB e8))) (x.n 0)), fun le h => BSl.mono le h⟩, MP.any, MP.any, MP.any, MP.any, MP.any, MP.any, MP.any, MP.any, ⟨fun x J => BSl J (pk (idB i5)) (.slice (x.p 0) (List.length (pk (idB i5))) (x.n 0)), fun le h => BSl.mono le h⟩, MP.any, MP.any, ⟨fun x J => BSl J (pk (idB i8)) (.slice (x.p 0) (List.length (pk (idB i8))) (x.n 0)), fun le h => BSl.mono le h⟩, MP.any, MP.any, MP.any, MP.any, MP.any, MP.any, MP.any, MP.any, MP.any, MP.any, MP.any, ⟨fun x J => BSl J (pk (evB e5)) (.slice (x.p 0) (List.length (pk (evB e5))) (x.n 0)), fun le h => BSl.mono le h⟩, MP.any, MP.any, ⟨fun x J => BSl J (pk (evB e8)) (.slice (x.p 0) (List.length (pk (evB e8))) (x.n 0)), fun le h => BSl.mono le h⟩, MP.any, MP.any, MP.any, MP.any, MP.any, MP.any, MP.any, MP.any, MP.any] : List MP).getD j MP.any) [1, 3, 4, 7, 12, 15, 16, 21, 27, 30, 31, 36] [] [8, 22, 37] (fun φ14 xs14 => []) (fun φ14 xs14 => [(31, .agg #[.bool ib5, .pointer ip5, .int .u64 ((eb5 : Nat) : Int), .pointer ep5]), (32, .slice ((xs14 1).p 0) (List.length (pk (idB i5 ++ evB e5))) ((xs14 1).n 0)), (33, .agg #[.bool ib8, .pointer ip8, .int .u64 ((eb8 : Nat) : Int), .pointer ep8]), (34, .slice ((xs14 3).p 0) (List.length (pk (idB i8 ++ evB e8))) ((xs14 3).n 0)), (35, .bool (decide (i5 = i8 ∧ e5 = e8))), (36, .agg #[.bool ib5, .pointer ip5, .int .u64 ((eb5 : Nat) : Int), .pointer ep5]), (37, .agg #[.bool ib8, .pointer ip8, .int .u64 ((eb8 : Nat) : Int), .pointer ep8]), (38, .bool (decide (i5 = i8 ∧ e5 = e8))), (39, .bool true), (40, .bool true), (41, .pointer (some ⟨(φ6 0), 0, none⟩)), (42, .agg #[.bool ib5, .pointer ip5]), (43, .slice ((xs14 12).p 0) (List.length (pk (idB i5))) ((xs14 12).n 0)), (44, .pointer (some ⟨(φ9 0), 0, none⟩)), (45, .agg #[.bool ib8, .pointer ip8]), (46, .slice ((xs14 15).p 0) (List.length (pk (idB i8))) ((xs14 15).n 0)), (47, .bool (decide (i5 = i8))), (48, .pointer (some ⟨(φ6 0), 0, none⟩)), (49, .agg #[.bool ib5, .pointer ip5]), (50, .pointer (some ⟨(φ9 0), 0, none⟩)), (51, .agg #[.bool ib8, .pointer ip8]), (52, .bool (decide (i5 = i8))), (53, .bool true), (54, .bool true), (55, .bool true), (56, .pointer (some ⟨(φ6 0), 2, none⟩)), (57, .agg #[.int .u64 ((eb5 : Nat) : Int), .pointer ep5]), (58, .slice ((xs14 27).p 0) (List.length (pk (evB e5))) ((xs14 27).n 0)), (59, .pointer (some ⟨(φ9 0), 2, none⟩)), (60, .agg #[.int .u64 ((eb8 : Nat) : Int), .pointer ep8]), (61, .slice ((xs14 30).p 0) (List.length (pk (evB e8))) ((xs14 30).n 0)), (62, .bool (decide (e5 = e8))), (63, .pointer (some ⟨(φ6 0), 2, none⟩)), (64, .agg #[.int .u64 ((eb5 : Nat) : Int), .pointer ep5]), (65, .pointer (some ⟨(φ9 0), 2, none⟩)), (66, .agg #[.int .u64 ((eb8 : Nat) : Int), .pointer ep8]), (67, .bool (decide (e5 = e8))), (68, .bool true), (69, .bool true), (10, .bool true)]) (fun φ14 xs14 => [((φ6 0), .cells #[.bool ib5, .pointer ip5, .int .u64 ((eb5 : Nat) : Int), .pointer ep5] 32), ((φ6 1), .cells #[.pointer (some ⟨ki5, 0, none⟩), .pointer (some ⟨ke5, 0, none⟩)] 36), ((φ9 0), .cells #[.bool ib8, .pointer ip8, .int .u64 ((eb8 : Nat) : Int), .pointer ep8] 32), ((φ9 1), .cells #[.pointer (some ⟨ki8, 0, none⟩), .pointer (some ⟨ke8, 0, none⟩)] 36)]) s trivial (by kernel_rfl) (by kernel_rfl) (fun _ _ => by kernel_rfl) (fun _ _ => by kernel_rfl) ⟨fun _ _ => by kernel_rfl, fun _ _ => by kernel_rfl, fun _ _ => by kernel_rfl, fun _ _ => by kernel_rfl⟩ (fun _ _ _ => by kernel_rfl) (fun _ _ => by kernel_rfl) (fun _ _ => by kernel_rfl) (fun _ _ => by kernel_rfl) (fun _ _ => by kernel_rfl) (fun _ _ => by kernel_rfl) trivial ⟨kcast (A := ∀ (φ14 : Nat → Nat) (xs14 : Xs) (J : IM) (w : World), I8.Le J → J.Sub w → ((binOp .eql 4 (.bool (decide (i5 = i8 ∧ e5 = e8))) (.bool (decide (i5 = i8 ∧ e5 = e8)))) : Sem Value).run Try.prog w = .ok (.bool true) w) (by kernel_rfl) (fun φ14 xs14 J w hJ hS => run_eqBB), ⟨kcast (A := ∀ (φ14 : Nat → Nat) (xs14 : Xs) (J : IM) (w : World), I8.Le J → J.Sub w → ((binOp .eql 4 (.bool (decide (i5 = i8))) (.bool (decide (i5 = i8)))) : Sem Value).run Try.prog w = .ok (.bool true) w) (by kernel_rfl) (fun φ14 xs14 J w hJ hS => run_eqBB), ⟨kcast (A := ∀ (φ14 : Nat → Nat) (xs14 : Xs) (J : IM) (w : World), I8.Le J → J.Sub w → ((binOp .eql 4 (.bool (decide (e5 = e8))) (.bool (decide (e5 = e8)))) : Sem Value).run Try.prog w = .ok (.bool true) w) (by kernel_rfl) (fun φ14 xs14 J w hJ hS => run_eqBB), trivial⟩⟩⟩ (by kernel_rfl) ⟨?c14_1, ?c14_3, ?c14_4, ?c14_7, ?c14_12, ?c14_15, ?c14_16, ?c14_21, ?c14_27, ?c14_30, ?c14_31, ?c14_36, trivial⟩ ?k14
    case c14_1 =>
      refine kcast (A := ∀ (φ14 : Nat → Nat) (xs14 : Xs) (J1_14 : IM), I8.Le J1_14 → Fun Try.prog 8 #[.agg #[.bool ib5, .pointer ip5, .int .u64 ((eb5 : Nat) : Int), .pointer ep5]] J1_14 (fun v J' => ∃ x : UX, v = .slice (x.p 0) (List.length (pk (idB i5 ++ evB e5))) (x.n 0) ∧ (BSl J' (pk (idB i5 ++ evB e5)) (.slice (x.p 0) (List.length (pk (idB i5 ++ evB e5))) (x.n 0))))) (by kernel_rfl) ?_
      intro φ14 xs14 J1_14 leJ
      have h5_2 := Ev.TRep.mono leJ h5_2
      have h5_3 := Ev.ERep.mono leJ h5_3
      exact Fun.mono (codeStamp_c h5_2 h5_3 (okE.t h5_1) (by have l1 := okT.len h5_0; have l2 := okE.len h5_1; omega)) (fun v J' _ ⟨y0, y1, hv, g0⟩ => ⟨{ UX.d with p := fun j => y0, n := fun j => y1 }, hv, g0⟩)
    case c14_3 =>
      refine kcast (A := ∀ (φ14 : Nat → Nat) (xs14 : Xs) (J3_14 : IM), I8.Le J3_14 → (BSl J3_14 (pk (idB i5 ++ evB e5)) (.slice ((xs14 1).p 0) (List.length (pk (idB i5 ++ evB e5))) ((xs14 1).n 0))) → Fun Try.prog 8 #[.agg #[.bool ib8, .pointer ip8, .int .u64 ((eb8 : Nat) : Int), .pointer ep8]] J3_14 (fun v J' => ∃ x : UX, v = .slice (x.p 0) (List.length (pk (idB i8 ++ evB e8))) (x.n 0) ∧ (BSl J' (pk (idB i8 ++ evB e8)) (.slice (x.p 0) (List.length (pk (idB i8 ++ evB e8))) (x.n 0))))) (by kernel_rfl) ?_
      intro φ14 xs14 J3_14 leJ
      rintro h14_1_0
      have h8_2 := Ev.TRep.mono leJ h8_2
      have h8_3 := Ev.ERep.mono leJ h8_3
      exact Fun.mono (codeStamp_c h8_2 h8_3 (okE.t h8_1) (by have l1 := okT.len h8_0; have l2 := okE.len h8_1; omega)) (fun v J' _ ⟨y0, y1, hv, g0⟩ => ⟨{ UX.d with p := fun j => y0, n := fun j => y1 }, hv, g0⟩)
    case c14_4 =>
      refine kcast (A := ∀ (φ14 : Nat → Nat) (xs14 : Xs) (J4_14 : IM), I8.Le J4_14 → (BSl J4_14 (pk (idB i5 ++ evB e5)) (.slice ((xs14 1).p 0) (List.length (pk (idB i5 ++ evB e5))) ((xs14 1).n 0))) → (BSl J4_14 (pk (idB i8 ++ evB e8)) (.slice ((xs14 3).p 0) (List.length (pk (idB i8 ++ evB e8))) ((xs14 3).n 0))) → Fun Try.prog 14 #[.slice ((xs14 1).p 0) (List.length (pk (idB i5 ++ evB e5))) ((xs14 1).n 0), .slice ((xs14 3).p 0) (List.length (pk (idB i8 ++ evB e8))) ((xs14 3).n 0)] J4_14 (fun v J' => ∃ x : UX, v = .bool (decide (i5 = i8 ∧ e5 = e8)) ∧ (True))) (by kernel_rfl) ?_
      intro φ14 xs14 J4_14 leJ
      rintro h14_1_0 h14_3_0
      exact Fun.mono (equalB_c h14_1_0 h14_3_0 (i5 = i8 ∧ e5 = e8) (st_once h5_1.1 h8_1.1 (okE.t h5_1) (okE.t h8_1))) (fun v J' _ h => ⟨UX.d, h, trivial⟩)
    case c14_7 =>
      refine kcast (A := ∀ (φ14 : Nat → Nat) (xs14 : Xs) (J7_14 : IM), I8.Le J7_14 → (BSl J7_14 (pk (idB i5 ++ evB e5)) (.slice ((xs14 1).p 0) (List.length (pk (idB i5 ++ evB e5))) ((xs14 1).n 0))) → (BSl J7_14 (pk (idB i8 ++ evB e8)) (.slice ((xs14 3).p 0) (List.length (pk (idB i8 ++ evB e8))) ((xs14 3).n 0))) → (True) → Fun Try.prog 17 #[.agg #[.bool ib5, .pointer ip5, .int .u64 ((eb5 : Nat) : Int), .pointer ep5], .agg #[.bool ib8, .pointer ip8, .int .u64 ((eb8 : Nat) : Int), .pointer ep8]] J7_14 (fun v J' => ∃ x : UX, v = .bool (decide (i5 = i8 ∧ e5 = e8)) ∧ (True))) (by kernel_rfl) ?_
      intro φ14 xs14 J7_14 leJ
      rintro h14_1_0 h14_3_0 _
      have h5_2 := Ev.TRep.mono leJ h5_2
      have h5_3 := Ev.ERep.mono leJ h5_3
      have h8_2 := Ev.TRep.mono leJ h8_2
      have h8_3 := Ev.ERep.mono leJ h8_3
      exact Fun.mono (stampSame_c h5_2 h8_2 h5_3 h8_3 h5_1 h8_1) (fun v J' _ h => ⟨UX.d, h, trivial⟩)
    case c14_12 =>
      refine kcast (A := ∀ (φ14 : Nat → Nat) (xs14 : Xs) (J12_14 : IM), I8.Le J12_14 → (BSl J12_14 (pk (idB i5 ++ evB e5)) (.slice ((xs14 1).p 0) (List.length (pk (idB i5 ++ evB e5))) ((xs14 1).n 0))) → (BSl J12_14 (pk (idB i8 ++ evB e8)) (.slice ((xs14 3).p 0) (List.length (pk (idB i8 ++ evB e8))) ((xs14 3).n 0))) → (True) → (True) → Fun Try.prog 11 #[.agg #[.bool ib5, .pointer ip5]] J12_14 (fun v J' => ∃ x : UX, v = .slice (x.p 0) (List.length (pk (idB i5))) (x.n 0) ∧ (BSl J' (pk (idB i5)) (.slice (x.p 0) (List.length (pk (idB i5))) (x.n 0))))) (by kernel_rfl) ?_
      intro φ14 xs14 J12_14 leJ
      rintro h14_1_0 h14_3_0 _ _
      have h5_2 := Ev.TRep.mono leJ h5_2
      exact Fun.mono (codeID_c h5_2 (by have l1 := okT.len h5_0; omega)) (fun v J' _ ⟨y0, y1, hv, g0⟩ => ⟨{ UX.d with p := fun j => y0, n := fun j => y1 }, hv, g0⟩)
    case c14_15 =>
      refine kcast (A := ∀ (φ14 : Nat → Nat) (xs14 : Xs) (J15_14 : IM), I8.Le J15_14 → (BSl J15_14 (pk (idB i5 ++ evB e5)) (.slice ((xs14 1).p 0) (List.length (pk (idB i5 ++ evB e5))) ((xs14 1).n 0))) → (BSl J15_14 (pk (idB i8 ++ evB e8)) (.slice ((xs14 3).p 0) (List.length (pk (idB i8 ++ evB e8))) ((xs14 3).n 0))) → (True) → (True) → (BSl J15_14 (pk (idB i5)) (.slice ((xs14 12).p 0) (List.length (pk (idB i5))) ((xs14 12).n 0))) → Fun Try.prog 11 #[.agg #[.bool ib8, .pointer ip8]] J15_14 (fun v J' => ∃ x : UX, v = .slice (x.p 0) (List.length (pk (idB i8))) (x.n 0) ∧ (BSl J' (pk (idB i8)) (.slice (x.p 0) (List.length (pk (idB i8))) (x.n 0))))) (by kernel_rfl) ?_
      intro φ14 xs14 J15_14 leJ
      rintro h14_1_0 h14_3_0 _ _ h14_12_0
      have h8_2 := Ev.TRep.mono leJ h8_2
      exact Fun.mono (codeID_c h8_2 (by have l1 := okT.len h8_0; omega)) (fun v J' _ ⟨y0, y1, hv, g0⟩ => ⟨{ UX.d with p := fun j => y0, n := fun j => y1 }, hv, g0⟩)
    case c14_16 =>
      refine kcast (A := ∀ (φ14 : Nat → Nat) (xs14 : Xs) (J16_14 : IM), I8.Le J16_14 → (BSl J16_14 (pk (idB i5 ++ evB e5)) (.slice ((xs14 1).p 0) (List.length (pk (idB i5 ++ evB e5))) ((xs14 1).n 0))) → (BSl J16_14 (pk (idB i8 ++ evB e8)) (.slice ((xs14 3).p 0) (List.length (pk (idB i8 ++ evB e8))) ((xs14 3).n 0))) → (True) → (True) → (BSl J16_14 (pk (idB i5)) (.slice ((xs14 12).p 0) (List.length (pk (idB i5))) ((xs14 12).n 0))) → (BSl J16_14 (pk (idB i8)) (.slice ((xs14 15).p 0) (List.length (pk (idB i8))) ((xs14 15).n 0))) → Fun Try.prog 14 #[.slice ((xs14 12).p 0) (List.length (pk (idB i5))) ((xs14 12).n 0), .slice ((xs14 15).p 0) (List.length (pk (idB i8))) ((xs14 15).n 0)] J16_14 (fun v J' => ∃ x : UX, v = .bool (decide (i5 = i8)) ∧ (True))) (by kernel_rfl) ?_
      intro φ14 xs14 J16_14 leJ
      rintro h14_1_0 h14_3_0 _ _ h14_12_0 h14_15_0
      exact Fun.mono (equalB_c h14_12_0 h14_15_0 (i5 = i8) id_once) (fun v J' _ h => ⟨UX.d, h, trivial⟩)
    case c14_21 =>
      refine kcast (A := ∀ (φ14 : Nat → Nat) (xs14 : Xs) (J21_14 : IM), I8.Le J21_14 → (BSl J21_14 (pk (idB i5 ++ evB e5)) (.slice ((xs14 1).p 0) (List.length (pk (idB i5 ++ evB e5))) ((xs14 1).n 0))) → (BSl J21_14 (pk (idB i8 ++ evB e8)) (.slice ((xs14 3).p 0) (List.length (pk (idB i8 ++ evB e8))) ((xs14 3).n 0))) → (True) → (True) → (BSl J21_14 (pk (idB i5)) (.slice ((xs14 12).p 0) (List.length (pk (idB i5))) ((xs14 12).n 0))) → (BSl J21_14 (pk (idB i8)) (.slice ((xs14 15).p 0) (List.length (pk (idB i8))) ((xs14 15).n 0))) → (True) → Fun Try.prog 18 #[.agg #[.bool ib5, .pointer ip5], .agg #[.bool ib8, .pointer ip8]] J21_14 (fun v J' => ∃ x : UX, v = .bool (decide (i5 = i8)) ∧ (True))) (by kernel_rfl) ?_
      intro φ14 xs14 J21_14 leJ
      rintro h14_1_0 h14_3_0 _ _ h14_12_0 h14_15_0 _
      have h5_2 := Ev.TRep.mono leJ h5_2
      have h8_2 := Ev.TRep.mono leJ h8_2
      exact Fun.mono (idSame_c h5_2 h8_2) (fun v J' _ h => ⟨UX.d, h, trivial⟩)
    case c14_27 =>
      refine kcast (A := ∀ (φ14 : Nat → Nat) (xs14 : Xs) (J27_14 : IM), I8.Le J27_14 → (BSl J27_14 (pk (idB i5 ++ evB e5)) (.slice ((xs14 1).p 0) (List.length (pk (idB i5 ++ evB e5))) ((xs14 1).n 0))) → (BSl J27_14 (pk (idB i8 ++ evB e8)) (.slice ((xs14 3).p 0) (List.length (pk (idB i8 ++ evB e8))) ((xs14 3).n 0))) → (True) → (True) → (BSl J27_14 (pk (idB i5)) (.slice ((xs14 12).p 0) (List.length (pk (idB i5))) ((xs14 12).n 0))) → (BSl J27_14 (pk (idB i8)) (.slice ((xs14 15).p 0) (List.length (pk (idB i8))) ((xs14 15).n 0))) → (True) → (True) → Fun Try.prog 13 #[.agg #[.int .u64 ((eb5 : Nat) : Int), .pointer ep5]] J27_14 (fun v J' => ∃ x : UX, v = .slice (x.p 0) (List.length (pk (evB e5))) (x.n 0) ∧ (BSl J' (pk (evB e5)) (.slice (x.p 0) (List.length (pk (evB e5))) (x.n 0))))) (by kernel_rfl) ?_
      intro φ14 xs14 J27_14 leJ
      rintro h14_1_0 h14_3_0 _ _ h14_12_0 h14_15_0 _ _
      have h5_3 := Ev.ERep.mono leJ h5_3
      exact Fun.mono (codeEvent_c h5_3 (okE.t h5_1) (by have l2 := okE.len h5_1; omega)) (fun v J' _ ⟨y0, y1, hv, g0⟩ => ⟨{ UX.d with p := fun j => y0, n := fun j => y1 }, hv, g0⟩)
    case c14_30 =>
      refine kcast (A := ∀ (φ14 : Nat → Nat) (xs14 : Xs) (J30_14 : IM), I8.Le J30_14 → (BSl J30_14 (pk (idB i5 ++ evB e5)) (.slice ((xs14 1).p 0) (List.length (pk (idB i5 ++ evB e5))) ((xs14 1).n 0))) → (BSl J30_14 (pk (idB i8 ++ evB e8)) (.slice ((xs14 3).p 0) (List.length (pk (idB i8 ++ evB e8))) ((xs14 3).n 0))) → (True) → (True) → (BSl J30_14 (pk (idB i5)) (.slice ((xs14 12).p 0) (List.length (pk (idB i5))) ((xs14 12).n 0))) → (BSl J30_14 (pk (idB i8)) (.slice ((xs14 15).p 0) (List.length (pk (idB i8))) ((xs14 15).n 0))) → (True) → (True) → (BSl J30_14 (pk (evB e5)) (.slice ((xs14 27).p 0) (List.length (pk (evB e5))) ((xs14 27).n 0))) → Fun Try.prog 13 #[.agg #[.int .u64 ((eb8 : Nat) : Int), .pointer ep8]] J30_14 (fun v J' => ∃ x : UX, v = .slice (x.p 0) (List.length (pk (evB e8))) (x.n 0) ∧ (BSl J' (pk (evB e8)) (.slice (x.p 0) (List.length (pk (evB e8))) (x.n 0))))) (by kernel_rfl) ?_
      intro φ14 xs14 J30_14 leJ
      rintro h14_1_0 h14_3_0 _ _ h14_12_0 h14_15_0 _ _ h14_27_0
      have h8_3 := Ev.ERep.mono leJ h8_3
      exact Fun.mono (codeEvent_c h8_3 (okE.t h8_1) (by have l2 := okE.len h8_1; omega)) (fun v J' _ ⟨y0, y1, hv, g0⟩ => ⟨{ UX.d with p := fun j => y0, n := fun j => y1 }, hv, g0⟩)
    case c14_31 =>
      refine kcast (A := ∀ (φ14 : Nat → Nat) (xs14 : Xs) (J31_14 : IM), I8.Le J31_14 → (BSl J31_14 (pk (idB i5 ++ evB e5)) (.slice ((xs14 1).p 0) (List.length (pk (idB i5 ++ evB e5))) ((xs14 1).n 0))) → (BSl J31_14 (pk (idB i8 ++ evB e8)) (.slice ((xs14 3).p 0) (List.length (pk (idB i8 ++ evB e8))) ((xs14 3).n 0))) → (True) → (True) → (BSl J31_14 (pk (idB i5)) (.slice ((xs14 12).p 0) (List.length (pk (idB i5))) ((xs14 12).n 0))) → (BSl J31_14 (pk (idB i8)) (.slice ((xs14 15).p 0) (List.length (pk (idB i8))) ((xs14 15).n 0))) → (True) → (True) → (BSl J31_14 (pk (evB e5)) (.slice ((xs14 27).p 0) (List.length (pk (evB e5))) ((xs14 27).n 0))) → (BSl J31_14 (pk (evB e8)) (.slice ((xs14 30).p 0) (List.length (pk (evB e8))) ((xs14 30).n 0))) → Fun Try.prog 14 #[.slice ((xs14 27).p 0) (List.length (pk (evB e5))) ((xs14 27).n 0), .slice ((xs14 30).p 0) (List.length (pk (evB e8))) ((xs14 30).n 0)] J31_14 (fun v J' => ∃ x : UX, v = .bool (decide (e5 = e8)) ∧ (True))) (by kernel_rfl) ?_
      intro φ14 xs14 J31_14 leJ
      rintro h14_1_0 h14_3_0 _ _ h14_12_0 h14_15_0 _ _ h14_27_0 h14_30_0
      exact Fun.mono (equalB_c h14_27_0 h14_30_0 (e5 = e8) (ev_once h5_1.1 h8_1.1 (okE.t h5_1) (okE.t h8_1))) (fun v J' _ h => ⟨UX.d, h, trivial⟩)
    case c14_36 =>
      refine kcast (A := ∀ (φ14 : Nat → Nat) (xs14 : Xs) (J36_14 : IM), I8.Le J36_14 → (BSl J36_14 (pk (idB i5 ++ evB e5)) (.slice ((xs14 1).p 0) (List.length (pk (idB i5 ++ evB e5))) ((xs14 1).n 0))) → (BSl J36_14 (pk (idB i8 ++ evB e8)) (.slice ((xs14 3).p 0) (List.length (pk (idB i8 ++ evB e8))) ((xs14 3).n 0))) → (True) → (True) → (BSl J36_14 (pk (idB i5)) (.slice ((xs14 12).p 0) (List.length (pk (idB i5))) ((xs14 12).n 0))) → (BSl J36_14 (pk (idB i8)) (.slice ((xs14 15).p 0) (List.length (pk (idB i8))) ((xs14 15).n 0))) → (True) → (True) → (BSl J36_14 (pk (evB e5)) (.slice ((xs14 27).p 0) (List.length (pk (evB e5))) ((xs14 27).n 0))) → (BSl J36_14 (pk (evB e8)) (.slice ((xs14 30).p 0) (List.length (pk (evB e8))) ((xs14 30).n 0))) → (True) → Fun Try.prog 19 #[.agg #[.int .u64 ((eb5 : Nat) : Int), .pointer ep5], .agg #[.int .u64 ((eb8 : Nat) : Int), .pointer ep8]] J36_14 (fun v J' => ∃ x : UX, v = .bool (decide (e5 = e8)) ∧ (True))) (by kernel_rfl) ?_
      intro φ14 xs14 J36_14 leJ
      rintro h14_1_0 h14_3_0 _ _ h14_12_0 h14_15_0 _ _ h14_27_0 h14_30_0 _
      have h5_3 := Ev.ERep.mono leJ h5_3
      have h8_3 := Ev.ERep.mono leJ h8_3
      exact Fun.mono (evSame_c h5_3 h8_3 (okE.w h5_1) (okE.w h8_1)) (fun v J' _ h => ⟨UX.d, h, trivial⟩)
    case k14 =>
      rintro φ14 xs14 I14 w14 le14 s h14_1_0 h14_3_0 _ _ h14_12_0 h14_15_0 _ _ h14_27_0 h14_30_0 _ _
      replace h10 := BSl.mono le14 h10
      replace h20 := BSl.mono le14 h20
      replace h30 := BSl.mono le14 h30
      replace h40 := BSl.mono le14 h40
      replace h5_2 := Ev.TRep.mono le14 h5_2
      replace h5_3 := Ev.ERep.mono le14 h5_3
      replace h5_4 := Ev.RT.mono le14 h5_4
      replace h5_5 := Ev.RE.mono le14 h5_5
      replace h8_2 := Ev.TRep.mono le14 h8_2
      replace h8_3 := Ev.ERep.mono le14 h8_3
      replace h8_4 := Ev.RT.mono le14 h8_4
      replace h8_5 := Ev.RE.mono le14 h8_5
      refine wp_ret ?_
      refine ret_rule (C := []) [((φ6 0), .cells #[.bool ib5, .pointer ip5, .int .u64 ((eb5 : Nat) : Int), .pointer ep5] 32), ((φ6 1), .cells #[.pointer (some ⟨ki5, 0, none⟩), .pointer (some ⟨ke5, 0, none⟩)] 36), ((φ9 0), .cells #[.bool ib8, .pointer ip8, .int .u64 ((eb8 : Nat) : Int), .pointer ep8] 32), ((φ9 1), .cells #[.pointer (some ⟨ki8, 0, none⟩), .pointer (some ⟨ke8, 0, none⟩)] 36)] [] (.bool true) [] [] s trivial (by kernel_rfl) ?_
      exact ⟨_, _, _, rfl, s, rfl⟩

end Go.Proofs.Ytgmigcmhnmmdkaa
/- A slice of bytes that came in, as the contracts want it. -/
set_option linter.all false
namespace Go.Proofs.Ytgmigcmhnmmdkaa
open Go.RowKit Go.Sep

theorem u8_nat {z : Int} (h : (Lit.int .u8 z).wf = true) : z = (((UInt8.ofNat z.toNat).toNat : Nat) : Int) := by
  have hb : 0 ≤ z ∧ z < 256 := by
    have := h; simp [Lit.wf, IntKind.min, IntKind.max, IntKind.signed, IntKind.bits] at this; omega
  rw [UInt8.toNat_ofNat']
  omega
theorem cell_block {w : World} {b o : Nat} {v : Value} (h : w.cell? ⟨b, o, none⟩ = some v) : ∃ cs T fr, w.heap[b]? = some (.cells cs T fr) ∧ cs[o]? = some v := by
  unfold World.cell? at h
  cases hb : w.heap[b]? with
  | none => simp [hb] at h
  | some ob =>
    cases ob <;> simp [hb] at h
    exact ⟨_, _, _, rfl, h⟩
theorem bslI_row {w : World} {a : Option Addr} {len cap : Nat} {zs : List Int}
    (h : (a = none ∧ len = 0 ∧ cap = 0 ∧ zs = []) ∨ ∃ x, a = some x ∧ len ≤ cap ∧ cap ≤ maxLen ∧ zs.length = cap ∧ (∀ i, i < zs.length → w.cell? (x.add i) = some (.int .u8 (zs.getD i 0))) ∧ ∀ n ∈ zs, (Lit.int .u8 n).wf = true) :
    ∃ l, BSl (fun k => w.heap[k]?) l (.slice a len cap) := by
  rcases h with ⟨rfl, rfl, rfl, rfl⟩ | ⟨x, rfl, hl, hm, hz, hc, hw⟩
  · exact ⟨[], bsl_nil _⟩
  · refine ⟨(zs.take len).map fun z => UInt8.ofNat z.toNat, some x, cap, by rw [List.length_map, List.length_take, Nat.min_eq_left (show len ≤ zs.length by omega)], by rw [List.length_map, List.length_take]; omega, fun j y hj => ?_⟩
    rw [List.getElem?_map, Option.map_eq_some_iff] at hj
    obtain ⟨z, hz1, rfl⟩ := hj
    rw [List.getElem?_take] at hz1
    split at hz1
    · have hjl : j < zs.length := (List.getElem?_eq_some_iff.1 hz1).1
      have h1 := hc j hjl
      have h2 : zs.getD j 0 = z := by simp [hz1]
      rw [h2] at h1
      obtain ⟨b, o, sp⟩ := x
      cases sp with
      | none =>
        have : (⟨b, o, none⟩ : Addr).add j = ⟨b, o + j, none⟩ := by unfold Addr.add; split <;> simp_all
        rw [this] at h1
        obtain ⟨cs, T, fr, e1, e2⟩ := cell_block h1
        refine ⟨b, o, cs, T, fr, rfl, e1, ?_⟩
        rw [← u8_nat (hw z (List.mem_of_getElem? hz1))]; exact e2
      | some sp =>
        exfalso
        have h0 := hc 0 (by omega)
        unfold World.cell? Addr.add at h0
        rw [if_pos rfl] at h0
        revert h0
        split <;> simp
    · cases hz1
end Go.Proofs.Ytgmigcmhnmmdkaa
