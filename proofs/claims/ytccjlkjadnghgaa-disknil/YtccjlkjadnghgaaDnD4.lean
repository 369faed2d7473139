/- The example of the disk. -/
import Derived.Test.YtccjlkjadnghgaaDnD3
set_option linter.all false
set_option maxRecDepth 100000
namespace Go.Proofs.Ytccjlkjadnghgaa
open Go.RowKit Go.Sep
attribute [local irreducible] Go.wpList Go.Code.wp

theorem appGo_c {I : IM} {d m room used armed torn : Nat} {es : List (Nat × List UInt8)} {arr : Array MapEntry} {clk k n : Nat} {F : List OB} {l q : List UInt8} {a : Option Addr} {c : Nat} (hl : BSl I l (.slice a n c)) (hM : MapP es arr F) (hu : used ≤ room) (hr : room ≤ 9223372036854775807) (ha : armed ≤ 9223372036854775807) (hb : tot es + l.length ≤ 1000000) (h : ¬ room - used < l.length) (hq : (if armed = 1 then l.take torn else l) = q) : FunM Try.prog 17 #[.pointer (some ⟨d, 0, none⟩), .int .u64 ((k : Nat) : Int), .slice a n c] I ((d, .cells #[.map (some m), .int .i64 ((room : Nat) : Int), .int .i64 ((used : Nat) : Int), .bool false, .bool false, .int .i64 ((armed : Nat) : Int), .int .i64 ((torn : Nat) : Int)] 70) :: (m, .map arr clk) :: F) (fun v J H' => ∃ (d1 m1 : OB) (F' : List OB), H' = d1 :: m1 :: F' ∧ ∃ (arr' : Array MapEntry) (clk' : Nat), d1 = (d, .cells #[.map (some m), .int .i64 ((room : Nat) : Int), .int .i64 ((used + q.length : Nat) : Int), .bool false, .bool (decide (armed = 1)), .int .i64 ((armed - 1 : Nat) : Int), .int .i64 ((torn : Nat) : Int)] 70) ∧ m1 = (m, .map arr' clk') ∧ v = .int .i64 ((cntE armed : Nat) : Int) ∧ MapP (mput es k (((mget es k).getD []) ++ q)) arr' F') := by
  have h9 := app_c (d := d) (m := m) (clk := clk) (k := k) (full := false) (off := false) (torn := torn) hl hM hu hr ha hb
  rw [dApp_go h hq] at h9
  exact h9

theorem mem_dm {d0 m0 : OB} {Hr F Fw : List OB} : ∀ e ∈ d0 :: m0 :: F, e ∈ (d0 :: m0 :: Hr) ++ (F ++ Fw) := fun e he => by
  cases he with
  | head => exact .head _
  | tail _ he =>
    cases he with
    | head => exact .tail _ (.head _)
    | tail _ he => exact List.mem_append_right _ (List.mem_append_left _ he)

set_option maxHeartbeats 4000000 in
theorem awake11_c {I : IM} : Fun Try.prog 8 #[] I (fun v J => v = .bool true) := by
  refine enter_rule 41 [] Try.func8 rfl (by kernel_rfl) ?_
  intro w s
  refine wp_seq ?_
  refine region_rule ?_
  refine ops_rule (C := []) [] [] 1 [] 0 (fun φ1 => [(0, .bool false)]) (fun φ1 => []) (fun φ1 => []) s trivial (fun φ1 => by kernel_rfl) ?_
  intro φ1 w1 s
  refine ops_done (by kernel_rfl) ?_
  refine wp_seq ?_
  refine region_rule ?_
  refine callF_rule (H := []) (F := []) (some 6) s (newN_c (n := 9)) (by kernel_rfl) ?_
  rintro v2 I2 w2 F2 le2 ⟨d, m, rfl, rfl⟩ s
  replace s : St _ _ _ _ _ ([(d, .cells #[.map (some m), .int .i64 9, .int .i64 0, .bool false, .bool false, .int .i64 0, .int .i64 0] 70), (m, .map #[] 0)] ++ (([] : List OB) ++ ([] : List OB))) := s
  refine ops_rule (C := []) [(d, .cells #[.map (some m), .int .i64 9, .int .i64 0, .bool false, .bool false, .int .i64 0, .int .i64 0] 70), (m, .map #[] 0)] (([] : List OB) ++ ([] : List OB)) 1 [] 0 (fun φ3 => [(1, .pointer (some ⟨d, 0, none⟩))]) (fun φ3 => [(d, .cells #[.map (some m), .int .i64 9, .int .i64 0, .bool false, .bool false, .int .i64 0, .int .i64 0] 70), (m, .map #[] 0)]) (fun φ3 => []) s trivial (fun φ3 => by kernel_rfl) ?_
  intro φ3 w3 s
  refine ops_done (by kernel_rfl) ?_
  refine wp_seq ?_
  refine region_rule ?_
  refine ops_rule (C := []) [(d, .cells #[.map (some m), .int .i64 9, .int .i64 0, .bool false, .bool false, .int .i64 0, .int .i64 0] 70), (m, .map #[] 0)] (([] : List OB) ++ ([] : List OB)) 1 [] 0 (fun φ4 => [(7, .pointer (some ⟨d, 0, none⟩))]) (fun φ4 => [(d, .cells #[.map (some m), .int .i64 9, .int .i64 0, .bool false, .bool false, .int .i64 0, .int .i64 0] 70), (m, .map #[] 0)]) (fun φ4 => []) s trivial (fun φ4 => by kernel_rfl) ?_
  intro φ4 w4 s
  refine callB_rule (b := (d, .cells #[.map (some m), .int .i64 9, .int .i64 0, .bool false, .bool false, .int .i64 0, .int .i64 0] 70)) (H := [(d, .cells #[.map (some m), .int .i64 9, .int .i64 0, .bool false, .bool false, .int .i64 0, .int .i64 0] 70), (m, .map #[] 0)]) (F := (([] : List OB) ++ ([] : List OB))) (Hr := [(m, .map #[] 0)]) (some 8) 0 s (by kernel_rfl) (by kernel_rfl) (arm_c (room := 9) (used := 0) (armed := 0) (torn := 0) (n := 2) (z := 1)) (by kernel_rfl) ?_
  rintro v5 I5 w5 b5 le5 - h5 s
  obtain ⟨rfl, rfl⟩ := h5
  refine ops_done (by kernel_rfl) ?_
  refine wp_seq ?_
  refine region_rule ?_
  refine ops_rule (C := []) [(d, .cells #[.map (some m), .int .i64 9, .int .i64 0, .bool false, .bool false, .int .i64 2, .int .i64 1] 70), (m, .map #[] 0)] (([] : List OB) ++ ([] : List OB)) 2 [] 1 (fun φ6 => [(10, .slice (some ⟨(φ6 0), 0, none⟩) 1 1), (9, .pointer (some ⟨d, 0, none⟩))]) (fun φ6 => [(d, .cells #[.map (some m), .int .i64 9, .int .i64 0, .bool false, .bool false, .int .i64 2, .int .i64 1] 70), (m, .map #[] 0), ((φ6 0), .cells #[.int .u8 97] 5)]) (fun φ6 => []) s trivial (fun φ6 => by kernel_rfl) ?_
  intro φ6 w6 s
  obtain ⟨w7, fr7, hr7, s⟩ := mark_own (H := [(d, .cells #[.map (some m), .int .i64 9, .int .i64 0, .bool false, .bool false, .int .i64 2, .int .i64 1] 70), (m, .map #[] 0), ((φ6 0), .cells #[.int .u8 97] 5)]) (F := (([] : List OB) ++ ([] : List OB))) s (q := 2) (b := (φ6 0)) (cs := #[.int .u8 97]) (n := 1) (c := 1) (by kernel_rfl)
  refine sem_rule (convert 29 29 (.slice (some ⟨(φ6 0), 0, none⟩) 1 1)) (some 11) (.slice (some ⟨(φ6 0), 0, none⟩) 1 1) (by kernel_rfl) hr7 ?_
  obtain ⟨I8, le8, hk8, s⟩ := s.freezeAt 2 (φ6 0) (.cells #[.int .u8 97] 5 fr7) ([(d, .cells #[.map (some m), .int .i64 9, .int .i64 0, .bool false, .bool false, .int .i64 2, .int .i64 1] 70), (m, .map #[] 0)] ++ (([] : List OB) ++ ([] : List OB))) (by kernel_rfl) (by kernel_rfl)
  refine callD_rule (d0 := (d, .cells #[.map (some m), .int .i64 9, .int .i64 0, .bool false, .bool false, .int .i64 2, .int .i64 1] 70)) (m0 := (m, .map #[] 0)) (Hr := []) (F := ([] : List OB)) (Fw := ([] : List OB)) (some 12) s (appGo_c (room := 9) (used := 0) (armed := 2) (torn := 1) (k := 1) (q := [97]) (bsl_lit (l := ([97] : List UInt8)) hk8 (by kernel_rfl) rfl) map_empty (by decide) (by decide) (by decide) (by decide) (by decide) (by rfl)) (by kernel_rfl) ?_
  rintro v9 I9 w9 d9 m9 F9 le9 ⟨arr9, clk9, rfl, rfl, rfl, hM9⟩ s
  replace hk8 := le9 _ _ hk8
  replace s : St _ _ _ _ _ ([(d, .cells #[.map (some m), .int .i64 9, .int .i64 1, .bool false, .bool false, .int .i64 1, .int .i64 1] 70), (m, .map arr9 clk9)] ++ (F9 ++ ([] : List OB))) := s
  replace hM9 : MapP [(1, ([97] : List UInt8))] arr9 F9 := hM9
  refine ops_rule (C := []) [(d, .cells #[.map (some m), .int .i64 9, .int .i64 1, .bool false, .bool false, .int .i64 1, .int .i64 1] 70), (m, .map arr9 clk9)] (F9 ++ ([] : List OB)) 2 [] 1 (fun φ10 => [(14, .slice (some ⟨(φ10 0), 0, none⟩) 2 2), (13, .pointer (some ⟨d, 0, none⟩))]) (fun φ10 => [(d, .cells #[.map (some m), .int .i64 9, .int .i64 1, .bool false, .bool false, .int .i64 1, .int .i64 1] 70), (m, .map arr9 clk9), ((φ10 0), .cells #[.int .u8 98, .int .u8 99] 5)]) (fun φ10 => []) s trivial (fun φ10 => by kernel_rfl) ?_
  intro φ10 w10 s
  obtain ⟨w11, fr11, hr11, s⟩ := mark_own (H := [(d, .cells #[.map (some m), .int .i64 9, .int .i64 1, .bool false, .bool false, .int .i64 1, .int .i64 1] 70), (m, .map arr9 clk9), ((φ10 0), .cells #[.int .u8 98, .int .u8 99] 5)]) (F := (F9 ++ ([] : List OB))) s (q := 2) (b := (φ10 0)) (cs := #[.int .u8 98, .int .u8 99]) (n := 2) (c := 2) (by kernel_rfl)
  refine sem_rule (convert 29 29 (.slice (some ⟨(φ10 0), 0, none⟩) 2 2)) (some 15) (.slice (some ⟨(φ10 0), 0, none⟩) 2 2) (by kernel_rfl) hr11 ?_
  obtain ⟨I12, le12, hk12, s⟩ := s.freezeAt 2 (φ10 0) (.cells #[.int .u8 98, .int .u8 99] 5 fr11) ([(d, .cells #[.map (some m), .int .i64 9, .int .i64 1, .bool false, .bool false, .int .i64 1, .int .i64 1] 70), (m, .map arr9 clk9)] ++ (F9 ++ ([] : List OB))) (by kernel_rfl) (by kernel_rfl)
  replace hk8 := le12 _ _ hk8
  refine callD_rule (d0 := (d, .cells #[.map (some m), .int .i64 9, .int .i64 1, .bool false, .bool false, .int .i64 1, .int .i64 1] 70)) (m0 := (m, .map arr9 clk9)) (Hr := []) (F := F9) (Fw := ([] : List OB)) (some 16) s (appGo_c (room := 9) (used := 1) (armed := 1) (torn := 1) (k := 1) (q := [98]) (bsl_lit (l := ([98, 99] : List UInt8)) hk12 (by kernel_rfl) rfl) hM9 (by decide) (by decide) (by decide) (by decide) (by decide) (by rfl)) (by kernel_rfl) ?_
  rintro v13 I13 w13 d13 m13 F13 le13 ⟨arr13, clk13, rfl, rfl, rfl, hM13⟩ s
  replace hk8 := le13 _ _ hk8
  replace hk12 := le13 _ _ hk12
  replace s : St _ _ _ _ _ ([(d, .cells #[.map (some m), .int .i64 9, .int .i64 2, .bool false, .bool true, .int .i64 0, .int .i64 1] 70), (m, .map arr13 clk13)] ++ (F13 ++ ([] : List OB))) := s
  replace hM13 : MapP [(1, ([97, 98] : List UInt8))] arr13 F13 := hM13
  refine ops_rule (C := []) [(d, .cells #[.map (some m), .int .i64 9, .int .i64 2, .bool false, .bool true, .int .i64 0, .int .i64 1] 70), (m, .map arr13 clk13)] (F13 ++ ([] : List OB)) 2 [] 0 (fun φ14 => [(3, .int .i64 10), (2, .int .i64 0)]) (fun φ14 => [(d, .cells #[.map (some m), .int .i64 9, .int .i64 2, .bool false, .bool true, .int .i64 0, .int .i64 1] 70), (m, .map arr13 clk13)]) (fun φ14 => []) s trivial (fun φ14 => by kernel_rfl) ?_
  intro φ14 w14 s
  refine ops_done (by kernel_rfl) ?_
  refine wp_seq ?_
  refine region_rule ?_
  refine ops_rule (C := []) [(d, .cells #[.map (some m), .int .i64 9, .int .i64 2, .bool false, .bool true, .int .i64 0, .int .i64 1] 70), (m, .map arr13 clk13)] (F13 ++ ([] : List OB)) 1 [] 0 (fun φ15 => [(18, .pointer (some ⟨d, 0, none⟩))]) (fun φ15 => [(d, .cells #[.map (some m), .int .i64 9, .int .i64 2, .bool false, .bool true, .int .i64 0, .int .i64 1] 70), (m, .map arr13 clk13)]) (fun φ15 => []) s trivial (fun φ15 => by kernel_rfl) ?_
  intro φ15 w15 s
  obtain ⟨v0_16, Fe16, Fr16, hp16, hr16, hf16, hl16, -⟩ := map_open hM13 m 1
  have hL16 : ∀ e ∈ ((d, .cells #[.map (some m), .int .i64 9, .int .i64 2, .bool false, .bool true, .int .i64 0, .int .i64 1] 70) :: (m, .map arr13 clk13) :: F13), e ∈ ([(d, .cells #[.map (some m), .int .i64 9, .int .i64 2, .bool false, .bool true, .int .i64 0, .int .i64 1] 70), (m, .map arr13 clk13)] ++ (F13 ++ ([] : List OB))) := mem_dm
  refine callLF_rule (H := ([(d, .cells #[.map (some m), .int .i64 9, .int .i64 2, .bool false, .bool true, .int .i64 0, .int .i64 1] 70), (m, .map arr13 clk13)] ++ (F13 ++ ([] : List OB)))) (R := fun v F' => ∃ v1, v = .tuple #[v1, .bool (mget [(1, ([97, 98] : List UInt8))] 1).isSome] ∧ RowH 5 1 v1 ((mget [(1, ([97, 98] : List UInt8))] 1).getD []).length (((mget [(1, ([97, 98] : List UInt8))] 1).getD []).map bV) F') (some 19) s (IM.all I13 ((d, .cells #[.map (some m), .int .i64 9, .int .i64 2, .bool false, .bool true, .int .i64 0, .int .i64 1] 70) :: (m, .map arr13 clk13) :: F13)) (all_le s hL16) (all_sub hL16) (read_r (all_get s hL16 ((d, .cells #[.map (some m), .int .i64 9, .int .i64 2, .bool false, .bool true, .int .i64 0, .int .i64 1] 70)) (.head _)) (all_get s hL16 ((m, .map arr13 clk13)) (.tail _ (.head _))) hf16 hl16 (row_all hr16 (fun e he => all_get s hL16 e (.tail _ (.tail _ (hp16.mem_iff.2 (List.mem_append_right _ he)))))) (by decide)) (by kernel_rfl) ?_
  rintro v16 w16 G16 ⟨v1_16, rfl, hq16⟩ s
  obtain ⟨I16, le16, hb16, s⟩ := freeze_row (H := ([(d, .cells #[.map (some m), .int .i64 9, .int .i64 2, .bool false, .bool true, .int .i64 0, .int .i64 1] 70), (m, .map arr13 clk13)] ++ (F13 ++ ([] : List OB)))) (F := G16) s hq16
  obtain ⟨a16, c16, rfl, -, hb16⟩ := hb16.open
  replace hk8 := le16 _ _ hk8
  replace hk12 := le16 _ _ hk12
  have e16 : ((mget [(1, ([97, 98] : List UInt8))] 1).getD []) = [97, 98] := rfl
  rw [e16] at hb16 ⊢
  refine ops_rule (C := []) [(d, .cells #[.map (some m), .int .i64 9, .int .i64 2, .bool false, .bool true, .int .i64 0, .int .i64 1] 70), (m, .map arr13 clk13)] (F13 ++ ([] : List OB)) 5 [] 0 (fun φ17 => [(5, .bool ((mget [(1, ([97, 98] : List UInt8))] 1).isSome)), (4, .slice a16 (List.length [97, 98]) c16), (21, .bool ((mget [(1, ([97, 98] : List UInt8))] 1).isSome)), (20, .slice a16 (List.length [97, 98]) c16), (17, .tuple #[.slice a16 (List.length [97, 98]) c16, .bool ((mget [(1, ([97, 98] : List UInt8))] 1).isSome)])]) (fun φ17 => [(d, .cells #[.map (some m), .int .i64 9, .int .i64 2, .bool false, .bool true, .int .i64 0, .int .i64 1] 70), (m, .map arr13 clk13)]) (fun φ17 => []) s trivial (fun φ17 => by kernel_rfl) ?_
  intro φ17 w17 s
  refine ops_done (by kernel_rfl) ?_
  refine wp_seq ?_
  refine region_rule ?_
  refine ops_rule (C := []) [(d, .cells #[.map (some m), .int .i64 9, .int .i64 2, .bool false, .bool true, .int .i64 0, .int .i64 1] 70), (m, .map arr13 clk13)] (F13 ++ ([] : List OB)) 10 [] 0 (fun φ18 => [(31, .bool ((mget [(1, ([97, 98] : List UInt8))] 1).isSome)), (30, .bool ((mget [(1, ([97, 98] : List UInt8))] 1).isSome)), (29, .bool ((mget [(1, ([97, 98] : List UInt8))] 1).isSome)), (28, .bool true), (27, .bool true), (26, .bool true), (25, .int .i64 10), (24, .bool true), (23, .bool true), (22, .int .i64 0)]) (fun φ18 => [(d, .cells #[.map (some m), .int .i64 9, .int .i64 2, .bool false, .bool true, .int .i64 0, .int .i64 1] 70), (m, .map arr13 clk13)]) (fun φ18 => []) s trivial (fun φ18 => by kernel_rfl) ?_
  intro φ18 w18 s
  rcases Bool.eq_false_or_eq_true ((mget [(1, ([97, 98] : List UInt8))] 1).isSome) with hc19 | hc19
  ·
    rw [hc19]
    refine ops_rule (C := []) [(d, .cells #[.map (some m), .int .i64 9, .int .i64 2, .bool false, .bool true, .int .i64 0, .int .i64 1] 70), (m, .map arr13 clk13)] (F13 ++ ([] : List OB)) 1 [] 0 (fun φ20 => [(32, .slice a16 (List.length [97, 98]) c16)]) (fun φ20 => [(d, .cells #[.map (some m), .int .i64 9, .int .i64 2, .bool false, .bool true, .int .i64 0, .int .i64 1] 70), (m, .map arr13 clk13)]) (fun φ20 => []) s trivial (fun φ20 => by kernel_rfl) ?_
    intro φ20 w20 s
    refine sem_rule (convert 29 9 (.slice a16 (List.length [97, 98]) c16)) (some 33) (.string ⟨#[97, 98]⟩) (by kernel_rfl) (run_b2s s.sub hb16) ?_
    refine ops_rule (C := []) [(d, .cells #[.map (some m), .int .i64 9, .int .i64 2, .bool false, .bool true, .int .i64 0, .int .i64 1] 70), (m, .map arr13 clk13)] (F13 ++ ([] : List OB)) 4 [] 0 (fun φ21 => [(37, .pointer (some ⟨d, 0, none⟩)), (36, .bool true), (35, .bool true), (34, .bool true)]) (fun φ21 => [(d, .cells #[.map (some m), .int .i64 9, .int .i64 2, .bool false, .bool true, .int .i64 0, .int .i64 1] 70), (m, .map arr13 clk13)]) (fun φ21 => []) s trivial (fun φ21 => by kernel_rfl) ?_
    intro φ21 w21 s
    refine callB_rule (b := (d, .cells #[.map (some m), .int .i64 9, .int .i64 2, .bool false, .bool true, .int .i64 0, .int .i64 1] 70)) (H := [(d, .cells #[.map (some m), .int .i64 9, .int .i64 2, .bool false, .bool true, .int .i64 0, .int .i64 1] 70), (m, .map arr13 clk13)]) (F := (F13 ++ ([] : List OB))) (Hr := [(m, .map arr13 clk13)]) (some 38) 0 s (by kernel_rfl) (by kernel_rfl) (up_c (room := 9) (used := 2) (armed := 0) (torn := 1)) (by kernel_rfl) ?_
    rintro v22 I22 w22 b22 le22 - h22 s
    replace hb16 := BSl.mono le22 hb16
    replace hk8 := le22 _ _ hk8
    replace hk12 := le22 _ _ hk12
    obtain ⟨rfl, rfl⟩ := h22
    refine ops_rule (C := []) [(d, .cells #[.map (some m), .int .i64 9, .int .i64 2, .bool false, .bool true, .int .i64 0, .int .i64 1] 70), (m, .map arr13 clk13)] (F13 ++ ([] : List OB)) 3 [] 0 (fun φ23 => [(0, .bool true), (40, .bool true), (39, .bool true)]) (fun φ23 => [(d, .cells #[.map (some m), .int .i64 9, .int .i64 2, .bool false, .bool true, .int .i64 0, .int .i64 1] 70), (m, .map arr13 clk13)]) (fun φ23 => []) s trivial (fun φ23 => by kernel_rfl) ?_
    intro φ23 w23 s
    refine ops_done (by kernel_rfl) ?_
    refine wp_ret ?_
    refine ret_rule (C := []) [(d, .cells #[.map (some m), .int .i64 9, .int .i64 2, .bool false, .bool true, .int .i64 0, .int .i64 1] 70), (m, .map arr13 clk13)] (F13 ++ ([] : List OB)) (.bool true) [] [] s trivial (by kernel_rfl) ?_
    exact ⟨_, _, _, rfl, s, rfl⟩
  ·
    exact absurd hc19 (by decide)

end Go.Proofs.Ytccjlkjadnghgaa
