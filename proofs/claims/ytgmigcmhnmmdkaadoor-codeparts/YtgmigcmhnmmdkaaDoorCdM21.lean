/- The document reads ids. -/
import Derived.Test.YtgmigcmhnmmdkaaDoorCdM20
import Derived.Test.YtgmigcmhnmmdkaaDoorCdM18
import Derived.Test.YtgmigcmhnmmdkaaDoorCdM14
set_option linter.all false
set_option maxRecDepth 100000
namespace Go.Proofs.YtgmigcmhnmmdkaaDoor
open Go.RowKit Go.Sep
attribute [local irreducible] Go.wpList Go.Code.wp

theorem funM_mono {P : Program} {f : FuncId} {args : Array Value} {I : IM} {H : List OB} {R R' : Value → IM → List OB → Prop} (h : FunM P f args I H R) (k : ∀ v J H', R v J H' → R' v J H') : FunM P f args I H R' :=
  fun w hw ho => (h w hw ho).mono fun e w' ⟨v, J, H', he, p, r⟩ => ⟨v, J, H', he, p, k v J H' r⟩
theorem refGetV_c {I : IM} {B : List Bool} {a : Option Addr} {n c y e : Nat} (hb : BoS I B (.slice a n c)) (hn9 : B.length ≤ 1000000) {k : Nat} (hk : k ≤ 64) : FunM Tryd.prog 39 #[.pointer (some ⟨y, 0, none⟩), .int .i64 ((k : Nat) : Int)] I [(y, .cells #[.slice a n c, .int .i64 ((e : Nat) : Int)] 40)] (fun v J H' => ∃ b' : OB, H' = [b'] ∧ b'.1 = y ∧ ∃ (V E D : Nat) (B' : List Bool) (a' : Option Addr) (n' c' : Nat), v = .int .u64 ((V : Nat) : Int) ∧ b' = (y, .cells #[.slice a' n' c', .int .i64 ((E : Nat) : Int)] 40) ∧ BoS J B' (.slice a' n' c') ∧ gV e B k = V ∧ gE e B k = E ∧ gD e B k = D ∧ B.drop D = B') := by
  have h := refGetB_c (y := y) (e := e) (z := ((k : Nat) : Int)) hb hn9
  have hc : clampN ((k : Nat) : Int) = k := by unfold clampN; omega
  rw [hc] at h
  refine funM_mono h (fun v J H' q => ?_)
  obtain ⟨b', h1, h2, a', n', c', h3, h4, h5⟩ := q
  exact ⟨b', h1, h2, _, _, _, _, a', n', c', h3, h4, h5, rfl, rfl, rfl, rfl⟩
theorem refGetV0_c {I : IM} {B : List Bool} {a : Option Addr} {n c y e : Nat} (hb : BoS I B (.slice a n c)) (hn9 : B.length ≤ 1000000) {k : Nat} (he : e = 0) (hk : k ≤ 64) : FunM Tryd.prog 39 #[.pointer (some ⟨y, 0, none⟩), .int .i64 ((k : Nat) : Int)] I [(y, .cells #[.slice a n c, .int .i64 ((e : Nat) : Int)] 40)] (fun v J H' => ∃ b' : OB, H' = [b'] ∧ b'.1 = y ∧ ∃ (V E D : Nat) (B' : List Bool) (a' : Option Addr) (n' c' : Nat), v = .int .u64 ((V : Nat) : Int) ∧ b' = (y, .cells #[.slice a' n' c', .int .i64 ((E : Nat) : Int)] 40) ∧ BoS J B' (.slice a' n' c') ∧ gV 0 B k = V ∧ gE 0 B k = E ∧ gD 0 B k = D ∧ B.drop D = B') := by
  subst he; exact refGetV_c hb hn9 hk
theorem dlB {B B' : List Bool} {d : Nat} (h : B.drop d = B') (hB : B.length ≤ 1000000) : B'.length ≤ 1000000 := by rw [← h]; exact dl hB
theorem kindZ : Ev.kindT Ev.T.zero = 0 := rfl
theorem leafRT {I : IM} {k x : Nat} (h : I k = some (.cells #[.int .i64 ((x : Nat) : Int), .pointer none, .pointer none] 77)) (hx : x < 2) : Ev.RT I (if x = 1 then .one else .zero) k := by
  have : x = 0 ∨ x = 1 := by omega
  rcases this with rfl | rfl
  · exact h
  · exact h

set_option maxHeartbeats 4000000 in
theorem refID_step {I : IM} {B : List Bool} {a : Option Addr} {n c y e : Nat} (hb : BoS I B (.slice a n c)) (hn9 : B.length ≤ 1000000) (he : e = 0) {g : List Bool → Rd Ev.T} (hg : OkT g) {deep : Nat} (hdp : deep ≤ 16) {last : Bool} (hlast : last = decide (deep = 16)) (ih : deep ≠ 16 → ∀ {J : IM} {a : Option Addr} {n c y e : Nat} {B : List Bool}, BoS J B (.slice a n c) → B.length ≤ 1000000 → e = 0 → FunM Tryd.prog 12 #[.pointer (some ⟨y, 0, none⟩), .int .i64 ((deep + 1 : Nat) : Int)] J [(y, .cells #[.slice a n c, .int .i64 ((e : Nat) : Int)] 40)] (fun v J H' => ∃ b' : OB, H' = [b'] ∧ b'.1 = y ∧ ∃ (k : Nat) (T : Ev.T) (R E D : Nat) (B' : List Bool) (a' : Option Addr) (n' c' : Nat), v = .tuple #[.pointer (some ⟨k, 0, none⟩), .int .i64 ((R : Nat) : Int)] ∧ b' = (y, .cells #[.slice a' n' c', .int .i64 ((E : Nat) : Int)] 40) ∧ Ev.RT J T k ∧ BoS J B' (.slice a' n' c') ∧ g B = ⟨T, R, D, E⟩ ∧ B.drop D = B')) : FunM Tryd.prog 12 #[.pointer (some ⟨y, 0, none⟩), .int .i64 ((deep : Nat) : Int)] I [(y, .cells #[.slice a n c, .int .i64 ((e : Nat) : Int)] 40)] (fun v J H' => ∃ b' : OB, H' = [b'] ∧ b'.1 = y ∧ ∃ (k : Nat) (T : Ev.T) (R E D : Nat) (B' : List Bool) (a' : Option Addr) (n' c' : Nat), v = .tuple #[.pointer (some ⟨k, 0, none⟩), .int .i64 ((R : Nat) : Int)] ∧ b' = (y, .cells #[.slice a' n' c', .int .i64 ((E : Nat) : Int)] 40) ∧ Ev.RT J T k ∧ BoS J B' (.slice a' n' c') ∧ idD g last B = ⟨T, R, D, E⟩ ∧ B.drop D = B') := by
 obtain ⟨rfl, -⟩ := hb.cap
 refine enterM_rule 109 [(0, pB y), (1, .int .i64 deep)] Tryd.func12 rfl (by kernel_rfl) ?_
 intro w s
 refine seqR ?_
 refine oKD [(y, .cells #[.slice a B.length c, .int .i64 e] 40)] [] 2 [] 0 (fun φ1 => [(5, .int .i64 0), (4, .pointer none)]) (fun φ1 => []) s (fun φ1 => by kernel_rfl) (by kernel_rfl) ?_
 intro φ1 w1 s
 refine seqR ?_
 refine oK _ [] 1 [] 0 (fun φ2 => [(11, pB y)]) (fun φ2 => []) s (fun φ2 => by kernel_rfl) ?_
 intro φ2 w2 s
 refine callB_rule (b := (y, .cells #[.slice a B.length c, .int .i64 e] 40)) (F := []) (Hr := []) (some 12) 0 s (by kernel_rfl) (by kernel_rfl) (refGetV0_c (k := 2) (y := y) (e := e) hb hn9 he (by decide)) (by kernel_rfl) ?_
 rintro v3 I3 w3 b3 le3 - h3 s
 obtain ⟨V3, E3, D3, B3, a3, n3, c3, rfl, rfl, h3_0, h3_1, h3_2, h3_3, h3_4⟩ := h3
 refine oKD _ [] 1 [] 0 (fun φ4 => [(6, .int .u64 V3)]) (fun φ4 => []) s (fun φ4 => by kernel_rfl) (by kernel_rfl) ?_
 intro φ4 w4 s
 refine wp_seq ?_
 refine seqR ?_
 refine oK _ [] 6 [.o 0] 0 (fun φ5 => [(18, .bool (((E3 : Nat) : Int) == ((0 : Nat) : Int))), (17, .bool (((E3 : Nat) : Int) == ((0 : Nat) : Int))), (16, .int .i64 E3), (15, .pointer (some ⟨y, 1, none⟩)), (14, pB y), (13, pB y)]) (fun φ5 => [y]) s (fun φ5 => by kernel_rfl) ?_
 intro φ5 w5 s
 rw [nat_eql (a := E3) (b := 0)]
 rcases Bool.eq_false_or_eq_true (decide (E3 = 0)) with hc6 | hc6
 ·
  rw [hc6]
  refine oK _ [] 3 [] 0 (fun φ7 => [(21, .bool (((V3 : Nat) : Int) == ((0 : Nat) : Int))), (20, .bool (((V3 : Nat) : Int) == ((0 : Nat) : Int))), (19, .int .u64 V3)]) (fun φ7 => []) s (fun φ7 => by kernel_rfl) ?_
  intro φ7 w7 s
  rw [nat_eql (a := V3) (b := 0)]
  refine ops_done (by kernel_rfl) ?_
  rcases Bool.eq_false_or_eq_true (decide (V3 = 0)) with hc8 | hc8
  ·
   rw [hc8]
   refine cond_true_rule (b := true) (by kernel_rfl) rfl ?_
   refine seqR ?_
   refine oK _ [] 1 [] 0 (fun φ9 => [(22, pB y)]) (fun φ9 => []) s (fun φ9 => by kernel_rfl) ?_
   intro φ9 w9 s
   refine callB_rule (b := (y, .cells #[.slice a3 n3 c3, .int .i64 E3] 40)) (F := []) (Hr := []) (some 23) 0 s (by kernel_rfl) (by kernel_rfl) (refGetV0_c (k := 1) (y := y) (e := E3) h3_0 (dlB h3_4 hn9) (of_decide_eq_true hc6) (by decide)) (by kernel_rfl) ?_
   rintro v10 I10 w10 b10 le10 - h10 s
   replace h3_0 := BoS.mono le10 h3_0
   obtain ⟨V10, E10, D10, B10, a10, n10, c10, rfl, rfl, h10_0, h10_1, h10_2, h10_3, h10_4⟩ := h10
   refine oKD _ [] 1 [] 0 (fun φ11 => [(7, .int .u64 V10)]) (fun φ11 => []) s (fun φ11 => by kernel_rfl) (by kernel_rfl) ?_
   intro φ11 w11 s
   refine seqR ?_
   refine oK _ [] 5 [.o 0] 0 (fun φ12 => [(28, .bool (((E10 : Nat) : Int) == ((0 : Nat) : Int))), (27, .int .i64 E10), (26, .pointer (some ⟨y, 1, none⟩)), (25, pB y), (24, pB y)]) (fun φ12 => [y]) s (fun φ12 => by kernel_rfl) ?_
   intro φ12 w12 s
   rw [nat_eql (a := E10) (b := 0)]
   refine ops_done (by kernel_rfl) ?_
   rcases Bool.eq_false_or_eq_true (decide (E10 = 0)) with hc13 | hc13
   ·
    rw [hc13]
    refine cond_true_rule (b := true) (by kernel_rfl) rfl ?_
    refine seqR ?_
    refine oA _ [] 6 [] 1 (fun φ14 => [(5, .int .i64 0), (4, pB (φ14 0)), (32, pB (φ14 0)), (31, .agg #[.int .i64 (IntKind.wrap .i64 ((V10 : Nat) : Int)), .pointer none, .pointer none]), (30, .int .i64 (IntKind.wrap .i64 ((V10 : Nat) : Int))), (29, .int .u64 V10)]) (fun φ14 => [(y, .cells #[.slice a10 n10 c10, .int .i64 E10] 40), (φ14 0, .cells #[.int .i64 (IntKind.wrap .i64 ((V10 : Nat) : Int)), .pointer none, .pointer none] 77)]) (fun φ14 => []) s (fun φ14 => by kernel_rfl) ?_
    intro φ14 w14 s
    rw [nat_wrapI (a := V10) (by have h9 := (by have q9 := gV_lt 0 B3 1; rw [h10_1] at q9; exact q9); omega)] at s ⊢
    refine ops_done (by kernel_rfl) ?_
    refine wp_ret ?_
    refine ret_rule (C := []) _ [] (.tuple #[pB (φ14 0), .int .i64 0]) [] [] s trivial (by kernel_rfl) ?_
    replace s := s.drop (List.Sublist.append (List.Sublist.cons₂ _ (List.Sublist.cons₂ _ List.Sublist.slnil)) (List.Sublist.refl []))
    obtain ⟨I15, le15, hk15, s⟩ := s.freezeAt 1 (φ14 0) (.cells #[.int .i64 ((V10 : Nat) : Int), .pointer none, .pointer none] 77) [(y, .cells #[.slice a10 n10 c10, .int .i64 ((E10 : Nat) : Int)] 40)] (by kernel_rfl) (by kernel_rfl)
    replace h3_0 := BoS.mono le15 h3_0
    replace h10_0 := BoS.mono le15 h10_0
    have e9 : idD g last B = ⟨(if V10 = 1 then Ev.T.one else Ev.T.zero), 0, D3 + D10, E10⟩ := by unfold idD hvG hR hL badT; simp [-List.drop_drop, Nat.add_assoc, hlast, kindZ, h3_1, h3_2, h3_3, h3_4, h10_1, h10_2, h10_3, h10_4, of_decide_eq_true hc6, of_decide_eq_true hc8, of_decide_eq_true hc13]
    exact ⟨_, _, _, rfl, s, ⟨_, rfl, rfl, _, (if V10 = 1 then Ev.T.one else Ev.T.zero), _, _, _, _, _, _, _, rfl, rfl, leafRT hk15 (by have q9 := gV_lt 0 B3 1; rw [h10_1] at q9; exact q9), h10_0, e9, (by simp only [← List.drop_drop, h3_4, h10_4])⟩⟩
   ·
    rw [hc13]
    refine cond_false_rule (b := false) (by kernel_rfl) rfl ?_
    refine wp_skip ?_
    refine wp_seq ?_
    refine seqR ?_
    refine oK _ [] 5 [.o 0] 0 (fun φ16 => [(37, .bool (((E10 : Nat) : Int) != ((0 : Nat) : Int))), (36, .int .i64 E10), (35, .pointer (some ⟨y, 1, none⟩)), (34, pB y), (33, pB y)]) (fun φ16 => [y]) s (fun φ16 => by kernel_rfl) ?_
    intro φ16 w16 s
    rw [nat_neq (a := E10) (b := 0)]
    refine ops_done (by kernel_rfl) ?_
    rcases Bool.eq_false_or_eq_true (decide (E10 ≠ 0)) with hc17 | hc17
    ·
     rw [hc17]
     refine cond_true_rule (b := true) (by kernel_rfl) rfl ?_
     refine seqR ?_
     refine call_rule (some 38) s (Ev.rzero_c) (by kernel_rfl) ?_
     intro v18 I18 w18 le18 h18 s
     replace h3_0 := BoS.mono le18 h3_0
     replace h10_0 := BoS.mono le18 h10_0
     obtain ⟨k18, rfl, h18_0⟩ := h18
     refine oKD _ [] 2 [] 0 (fun φ19 => [(5, .int .i64 6), (4, pB k18)]) (fun φ19 => []) s (fun φ19 => by kernel_rfl) (by kernel_rfl) ?_
     intro φ19 w19 s
     refine wp_ret ?_
     refine ret_rule (C := []) _ [] (.tuple #[pB k18, .int .i64 6]) [] [] s trivial (by kernel_rfl) ?_
     replace s := s.drop (List.Sublist.append (List.Sublist.cons₂ _ List.Sublist.slnil) (List.Sublist.refl []))
     have e9 : idD g last B = ⟨Ev.T.zero, 6, D3 + D10, E10⟩ := by unfold idD hvG hR hL badT; simp [-List.drop_drop, Nat.add_assoc, hlast, kindZ, h3_1, h3_2, h3_3, h3_4, h10_1, h10_2, h10_3, h10_4, of_decide_eq_true hc6, of_decide_eq_true hc8, of_decide_eq_false hc13, of_decide_eq_true hc17]
     exact ⟨_, _, _, rfl, s, ⟨_, rfl, rfl, _, Ev.T.zero, _, _, _, _, _, _, _, rfl, rfl, h18_0, h10_0, e9, (by simp only [← List.drop_drop, h3_4, h10_4])⟩⟩
    ·
     exact absurd (show _ from (by have q1 := of_decide_eq_false hc17; have q2 := of_decide_eq_false hc13; simp only [ne_eq, Decidable.not_not] at q1 q2; first | exact q1 q2 | exact q2 q1)) id
  ·
   rw [hc8]
   refine cond_false_rule (b := false) (by kernel_rfl) rfl ?_
   refine wp_skip ?_
   refine wp_seq ?_
   refine seqR ?_
   refine oK _ [] 5 [.o 0] 0 (fun φ20 => [(37, .bool (((E3 : Nat) : Int) != ((0 : Nat) : Int))), (36, .int .i64 E3), (35, .pointer (some ⟨y, 1, none⟩)), (34, pB y), (33, pB y)]) (fun φ20 => [y]) s (fun φ20 => by kernel_rfl) ?_
   intro φ20 w20 s
   rw [nat_neq (a := E3) (b := 0)]
   refine ops_done (by kernel_rfl) ?_
   rcases Bool.eq_false_or_eq_true (decide (E3 ≠ 0)) with hc21 | hc21
   ·
    exact absurd (show _ from (by have q1 := of_decide_eq_true hc21; have q2 := of_decide_eq_true hc6; simp only [ne_eq, Decidable.not_not] at q1 q2; first | exact q1 q2 | exact q2 q1)) id
   ·
    rw [hc21]
    refine cond_false_rule (b := false) (by kernel_rfl) rfl ?_
    refine wp_skip ?_
    refine wp_seq ?_
    refine seqR ?_
    refine oK _ [] 2 [] 0 (fun φ22 => [(40, .bool (((deep : Nat) : Int) == ((16 : Nat) : Int))), (39, .int .i64 deep)]) (fun φ22 => []) s (fun φ22 => by kernel_rfl) ?_
    intro φ22 w22 s
    rw [nat_eql (a := deep) (b := 16)]
    refine ops_done (by kernel_rfl) ?_
    rcases Bool.eq_false_or_eq_true (decide (deep = 16)) with hc23 | hc23
    ·
     rw [hc23]
     refine cond_true_rule (b := true) (by kernel_rfl) rfl ?_
     refine seqR ?_
     refine call_rule (some 41) s (Ev.rzero_c) (by kernel_rfl) ?_
     intro v24 I24 w24 le24 h24 s
     replace h3_0 := BoS.mono le24 h3_0
     obtain ⟨k24, rfl, h24_0⟩ := h24
     refine oKD _ [] 2 [] 0 (fun φ25 => [(5, .int .i64 3), (4, pB k24)]) (fun φ25 => []) s (fun φ25 => by kernel_rfl) (by kernel_rfl) ?_
     intro φ25 w25 s
     refine wp_ret ?_
     refine ret_rule (C := []) _ [] (.tuple #[pB k24, .int .i64 3]) [] [] s trivial (by kernel_rfl) ?_
     replace s := s.drop (List.Sublist.append (List.Sublist.cons₂ _ List.Sublist.slnil) (List.Sublist.refl []))
     have e9 : idD g last B = ⟨Ev.T.zero, 3, D3, E3⟩ := by unfold idD hvG hR hL badT; simp [-List.drop_drop, Nat.add_assoc, hlast, kindZ, h3_1, h3_2, h3_3, h3_4, of_decide_eq_true hc6, of_decide_eq_false hc8, Decidable.not_not.1 (of_decide_eq_false hc21), of_decide_eq_true hc23]
     exact ⟨_, _, _, rfl, s, ⟨_, rfl, rfl, _, Ev.T.zero, _, _, _, _, _, _, _, rfl, rfl, h24_0, h3_0, e9, (by simp only [← List.drop_drop, h3_4])⟩⟩
    ·
     rw [hc23]
     refine cond_false_rule (b := false) (by kernel_rfl) rfl ?_
     refine wp_skip ?_
     refine seqR ?_
     refine call_rule (some 42) s (Ev.rzero_c) (by kernel_rfl) ?_
     intro v26 I26 w26 le26 h26 s
     replace h3_0 := BoS.mono le26 h3_0
     obtain ⟨k26, rfl, h26_0⟩ := h26
     refine call_rule (some 43) s (Ev.rzero_c) (by kernel_rfl) ?_
     intro v27 I27 w27 le27 h27 s
     replace h3_0 := BoS.mono le27 h3_0
     replace h26_0 := Ev.RT.mono le27 h26_0
     obtain ⟨k27, rfl, h27_0⟩ := h27
     refine oKD _ [] 2 [] 0 (fun φ28 => [(9, pB k27), (8, pB k26)]) (fun φ28 => []) s (fun φ28 => by kernel_rfl) (by kernel_rfl) ?_
     intro φ28 w28 s
     refine seqR ?_
     refine oKD _ [] 1 [] 0 (fun φ29 => [(10, .int .i64 0)]) (fun φ29 => []) s (fun φ29 => by kernel_rfl) (by kernel_rfl) ?_
     intro φ29 w29 s
     refine wp_seq ?_
     refine seqR ?_
     refine oK _ [] 2 [] 0 (fun φ30 => [(45, .bool (((V3 : Nat) : Int) != ((1 : Nat) : Int))), (44, .int .u64 V3)]) (fun φ30 => []) s (fun φ30 => by kernel_rfl) ?_
     intro φ30 w30 s
     rw [nat_neq (a := V3) (b := 1)]
     refine ops_done (by kernel_rfl) ?_
     rcases Bool.eq_false_or_eq_true (decide (V3 ≠ 1)) with hc31 | hc31
     ·
      rw [hc31]
      refine cond_true_rule (b := true) (by kernel_rfl) rfl ?_
      refine seqR ?_
      refine oK _ [] 3 [] 0 (fun φ32 => [(49, .int .i64 (IntKind.wrap .i64 (((deep : Nat) : Int) + ((1 : Nat) : Int)))), (48, .int .i64 deep), (47, pB y)]) (fun φ32 => []) s (fun φ32 => by kernel_rfl) ?_
      intro φ32 w32 s
      rw [nat_addI (a := deep) (b := 1) (by  have hq0 := of_decide_eq_true hc6; have hq1 := of_decide_eq_false hc8; have hq2 := of_decide_eq_false hc21; have hq3 := of_decide_eq_false hc23; have hq4 := of_decide_eq_true hc31; omega)]
      refine callB_rule (b := (y, .cells #[.slice a3 n3 c3, .int .i64 E3] 40)) (F := []) (Hr := []) (some 50) 0 s (by kernel_rfl) (by kernel_rfl) ((ih (of_decide_eq_false hc23)) h3_0 (dlB h3_4 hn9) (of_decide_eq_true hc6)) (by kernel_rfl) ?_
      rintro v33 I33 w33 b33 le33 - h33 s
      replace h3_0 := BoS.mono le33 h3_0
      replace h26_0 := Ev.RT.mono le33 h26_0
      replace h27_0 := Ev.RT.mono le33 h27_0
      obtain ⟨k33, T33, R33, E33, D33, B33, a33, n33, c33, rfl, rfl, h33_0, h33_1, h33_2, h33_3⟩ := h33
      refine oKD _ [] 5 [] 0 (fun φ34 => [(10, .int .i64 R33), (8, pB k33), (52, .int .i64 R33), (51, pB k33), (46, .tuple #[pB k33, .int .i64 R33])]) (fun φ34 => []) s (fun φ34 => by kernel_rfl) (by kernel_rfl) ?_
      intro φ34 w34 s
      refine seqR ?_
      refine oK _ [] 2 [] 0 (fun φ35 => [(54, .bool (((R33 : Nat) : Int) != ((0 : Nat) : Int))), (53, .int .i64 R33)]) (fun φ35 => []) s (fun φ35 => by kernel_rfl) ?_
      intro φ35 w35 s
      rw [nat_neq (a := R33) (b := 0)]
      refine ops_done (by kernel_rfl) ?_
      rcases Bool.eq_false_or_eq_true (decide (R33 ≠ 0)) with hc36 | hc36
      ·
       rw [hc36]
       refine cond_true_rule (b := true) (by kernel_rfl) rfl ?_
       refine seqR ?_
       refine call_rule (some 55) s (Ev.rzero_c) (by kernel_rfl) ?_
       intro v37 I37 w37 le37 h37 s
       replace h3_0 := BoS.mono le37 h3_0
       replace h26_0 := Ev.RT.mono le37 h26_0
       replace h27_0 := Ev.RT.mono le37 h27_0
       replace h33_0 := Ev.RT.mono le37 h33_0
       replace h33_1 := BoS.mono le37 h33_1
       obtain ⟨k37, rfl, h37_0⟩ := h37
       refine oKD _ [] 3 [] 0 (fun φ38 => [(5, .int .i64 R33), (4, pB k37), (56, .int .i64 R33)]) (fun φ38 => []) s (fun φ38 => by kernel_rfl) (by kernel_rfl) ?_
       intro φ38 w38 s
       refine wp_ret ?_
       refine ret_rule (C := []) _ [] (.tuple #[pB k37, .int .i64 R33]) [] [] s trivial (by kernel_rfl) ?_
       replace s := s.drop (List.Sublist.append (List.Sublist.cons₂ _ List.Sublist.slnil) (List.Sublist.refl []))
       have e9 : idD g last B = ⟨Ev.T.zero, R33, D3 + D33, E33⟩ := by unfold idD hvG hR hL badT; simp [-List.drop_drop, Nat.add_assoc, hlast, kindZ, h3_1, h3_2, h3_3, h3_4, h33_2, h33_3, of_decide_eq_true hc6, of_decide_eq_false hc8, Decidable.not_not.1 (of_decide_eq_false hc21), of_decide_eq_false hc23, of_decide_eq_true hc31, of_decide_eq_true hc36]
       exact ⟨_, _, _, rfl, s, ⟨_, rfl, rfl, _, Ev.T.zero, _, _, _, _, _, _, _, rfl, rfl, h37_0, h33_1, e9, (by simp only [← List.drop_drop, h3_4, h33_3])⟩⟩
      ·
       rw [hc36]
       refine cond_false_rule (b := false) (by kernel_rfl) rfl ?_
       refine wp_skip ?_
       refine wp_seq ?_
       refine seqR ?_
       refine oK _ [] 2 [] 0 (fun φ39 => [(58, .bool (((V3 : Nat) : Int) != ((2 : Nat) : Int))), (57, .int .u64 V3)]) (fun φ39 => []) s (fun φ39 => by kernel_rfl) ?_
       intro φ39 w39 s
       rw [nat_neq (a := V3) (b := 2)]
       refine ops_done (by kernel_rfl) ?_
       rcases Bool.eq_false_or_eq_true (decide (V3 ≠ 2)) with hc40 | hc40
       ·
        rw [hc40]
        refine cond_true_rule (b := true) (by kernel_rfl) rfl ?_
        refine seqR ?_
        refine oK _ [] 3 [] 0 (fun φ41 => [(62, .int .i64 (IntKind.wrap .i64 (((deep : Nat) : Int) + ((1 : Nat) : Int)))), (61, .int .i64 deep), (60, pB y)]) (fun φ41 => []) s (fun φ41 => by kernel_rfl) ?_
        intro φ41 w41 s
        rw [nat_addI (a := deep) (b := 1) (by  have hq0 := of_decide_eq_true hc6; have hq1 := of_decide_eq_false hc8; have hq2 := of_decide_eq_false hc21; have hq3 := of_decide_eq_false hc23; have hq4 := of_decide_eq_true hc31; have hq5 := of_decide_eq_false hc36; have hq6 := of_decide_eq_true hc40; omega)]
        refine callB_rule (b := (y, .cells #[.slice a33 n33 c33, .int .i64 E33] 40)) (F := []) (Hr := []) (some 63) 0 s (by kernel_rfl) (by kernel_rfl) ((ih (of_decide_eq_false hc23)) h33_1 (dlB h33_3 (dlB h3_4 hn9)) (by have q9 := hg.e B3; rw [h33_2] at q9; exact q9 (Decidable.not_not.1 (of_decide_eq_false hc36)))) (by kernel_rfl) ?_
        rintro v42 I42 w42 b42 le42 - h42 s
        replace h3_0 := BoS.mono le42 h3_0
        replace h26_0 := Ev.RT.mono le42 h26_0
        replace h27_0 := Ev.RT.mono le42 h27_0
        replace h33_0 := Ev.RT.mono le42 h33_0
        replace h33_1 := BoS.mono le42 h33_1
        obtain ⟨k42, T42, R42, E42, D42, B42, a42, n42, c42, rfl, rfl, h42_0, h42_1, h42_2, h42_3⟩ := h42
        refine oKD _ [] 5 [] 0 (fun φ43 => [(10, .int .i64 R42), (9, pB k42), (65, .int .i64 R42), (64, pB k42), (59, .tuple #[pB k42, .int .i64 R42])]) (fun φ43 => []) s (fun φ43 => by kernel_rfl) (by kernel_rfl) ?_
        intro φ43 w43 s
        refine seqR ?_
        refine oK _ [] 2 [] 0 (fun φ44 => [(67, .bool (((R42 : Nat) : Int) != ((0 : Nat) : Int))), (66, .int .i64 R42)]) (fun φ44 => []) s (fun φ44 => by kernel_rfl) ?_
        intro φ44 w44 s
        rw [nat_neq (a := R42) (b := 0)]
        refine ops_done (by kernel_rfl) ?_
        rcases Bool.eq_false_or_eq_true (decide (R42 ≠ 0)) with hc45 | hc45
        ·
         rw [hc45]
         refine cond_true_rule (b := true) (by kernel_rfl) rfl ?_
         refine seqR ?_
         refine call_rule (some 68) s (Ev.rzero_c) (by kernel_rfl) ?_
         intro v46 I46 w46 le46 h46 s
         replace h3_0 := BoS.mono le46 h3_0
         replace h26_0 := Ev.RT.mono le46 h26_0
         replace h27_0 := Ev.RT.mono le46 h27_0
         replace h33_0 := Ev.RT.mono le46 h33_0
         replace h33_1 := BoS.mono le46 h33_1
         replace h42_0 := Ev.RT.mono le46 h42_0
         replace h42_1 := BoS.mono le46 h42_1
         obtain ⟨k46, rfl, h46_0⟩ := h46
         refine oKD _ [] 3 [] 0 (fun φ47 => [(5, .int .i64 R42), (4, pB k46), (69, .int .i64 R42)]) (fun φ47 => []) s (fun φ47 => by kernel_rfl) (by kernel_rfl) ?_
         intro φ47 w47 s
         refine wp_ret ?_
         refine ret_rule (C := []) _ [] (.tuple #[pB k46, .int .i64 R42]) [] [] s trivial (by kernel_rfl) ?_
         replace s := s.drop (List.Sublist.append (List.Sublist.cons₂ _ List.Sublist.slnil) (List.Sublist.refl []))
         have e9 : idD g last B = ⟨Ev.T.zero, R42, D3 + D33 + D42, E42⟩ := by unfold idD hvG hR hL badT; simp [-List.drop_drop, Nat.add_assoc, hlast, kindZ, h3_1, h3_2, h3_3, h3_4, h33_2, h33_3, h42_2, h42_3, of_decide_eq_true hc6, of_decide_eq_false hc8, Decidable.not_not.1 (of_decide_eq_false hc21), of_decide_eq_false hc23, of_decide_eq_true hc31, Decidable.not_not.1 (of_decide_eq_false hc36), of_decide_eq_true hc40, of_decide_eq_true hc45]
         exact ⟨_, _, _, rfl, s, ⟨_, rfl, rfl, _, Ev.T.zero, _, _, _, _, _, _, _, rfl, rfl, h46_0, h42_1, e9, (by simp only [← List.drop_drop, h3_4, h33_3, h42_3])⟩⟩
        ·
         rw [hc45]
         refine cond_false_rule (b := false) (by kernel_rfl) rfl ?_
         refine wp_skip ?_
         refine wp_seq ?_
         refine seqR ?_
         obtain ⟨pl48, pr48, hp48⟩ := Ev.RT.peek h33_0
         refine ops_rule (C := [(k33, .cells #[.int .i64 (Ev.kindT T33), .pointer pl48, .pointer pr48] 77)]) _ [] 6 [.c 0] 0 (fun φ48 => [(75, .bool (((Ev.kindT T33 : Nat) : Int) == ((0 : Nat) : Int))), (74, .bool (((Ev.kindT T33 : Nat) : Int) == ((0 : Nat) : Int))), (73, .int .i64 (Ev.kindT T33)), (72, pB k33), (71, pB k33), (70, pB k33)]) (fun φ48 => [(y, .cells #[.slice a42 n42 c42, .int .i64 E42] 40)]) (fun φ48 => [k33]) s ⟨hp48, trivial⟩ (fun φ48 => by kernel_rfl) ?_
         intro φ48 w48 s
         rw [nat_eql (a := (Ev.kindT T33)) (b := 0)]
         rcases Bool.eq_false_or_eq_true (decide ((Ev.kindT T33) = 0)) with hc50 | hc50
         ·
          rw [hc50]
          refine oK _ [] 4 [] 0 (fun φ51 => [(79, .bool (((V3 : Nat) : Int) != ((1 : Nat) : Int))), (78, .bool (((V3 : Nat) : Int) != ((1 : Nat) : Int))), (77, .bool (((V3 : Nat) : Int) != ((1 : Nat) : Int))), (76, .int .u64 V3)]) (fun φ51 => []) s (fun φ51 => by kernel_rfl) ?_
          intro φ51 w51 s
          rw [nat_neq (a := V3) (b := 1)]
          rw [hc31]
          refine oKD _ [] 24 [] 0 (fun φ52 => [(103, .bool true), (102, undef), (101, undef), (100, undef), (99, undef), (98, undef), (97, undef), (96, undef), (95, undef), (94, undef), (93, undef), (92, undef), (91, undef), (90, .bool true), (89, .bool true), (88, undef), (87, undef), (86, undef), (85, undef), (84, undef), (83, undef), (82, undef), (81, undef), (80, undef)]) (fun φ52 => []) s (fun φ52 => by kernel_rfl) (by kernel_rfl) ?_
          intro φ52 w52 s
          refine cond_true_rule (b := true) (by kernel_rfl) rfl ?_
          refine seqR ?_
          refine call_rule (some 104) s (Ev.rzero_c) (by kernel_rfl) ?_
          intro v53 I53 w53 le53 h53 s
          replace h3_0 := BoS.mono le53 h3_0
          replace h26_0 := Ev.RT.mono le53 h26_0
          replace h27_0 := Ev.RT.mono le53 h27_0
          replace h33_0 := Ev.RT.mono le53 h33_0
          replace h33_1 := BoS.mono le53 h33_1
          replace h42_0 := Ev.RT.mono le53 h42_0
          replace h42_1 := BoS.mono le53 h42_1
          replace hp48 := le53 _ _ hp48
          obtain ⟨k53, rfl, h53_0⟩ := h53
          refine oKD _ [] 2 [] 0 (fun φ54 => [(5, .int .i64 6), (4, pB k53)]) (fun φ54 => []) s (fun φ54 => by kernel_rfl) (by kernel_rfl) ?_
          intro φ54 w54 s
          refine wp_ret ?_
          refine ret_rule (C := []) _ [] (.tuple #[pB k53, .int .i64 6]) [] [] s trivial (by kernel_rfl) ?_
          replace s := s.drop (List.Sublist.append (List.Sublist.cons₂ _ List.Sublist.slnil) (List.Sublist.refl []))
          have e9 : idD g last B = ⟨Ev.T.zero, 6, D3 + D33 + D42, E42⟩ := by unfold idD hvG hR hL badT; simp [-List.drop_drop, Nat.add_assoc, hlast, kindZ, h3_1, h3_2, h3_3, h3_4, h33_2, h33_3, h42_2, h42_3, of_decide_eq_true hc6, of_decide_eq_false hc8, Decidable.not_not.1 (of_decide_eq_false hc21), of_decide_eq_false hc23, of_decide_eq_true hc31, Decidable.not_not.1 (of_decide_eq_false hc36), of_decide_eq_true hc40, Decidable.not_not.1 (of_decide_eq_false hc45), of_decide_eq_true hc50, of_decide_eq_true hc31]
          exact ⟨_, _, _, rfl, s, ⟨_, rfl, rfl, _, Ev.T.zero, _, _, _, _, _, _, _, rfl, rfl, h53_0, h42_1, e9, (by simp only [← List.drop_drop, h3_4, h33_3, h42_3])⟩⟩
         ·
          rw [hc50]
          obtain ⟨pl55, pr55, hp55⟩ := Ev.RT.peek h42_0
          refine ops_rule (C := [(k42, .cells #[.int .i64 (Ev.kindT T42), .pointer pl55, .pointer pr55] 77)]) _ [] 10 [.c 0] 0 (fun φ55 => [(85, .bool (((Ev.kindT T42 : Nat) : Int) == ((0 : Nat) : Int))), (84, .bool (((Ev.kindT T42 : Nat) : Int) == ((0 : Nat) : Int))), (83, .int .i64 (Ev.kindT T42)), (82, pB k42), (81, pB k42), (80, pB k42), (79, .bool false), (78, .bool false), (77, undef), (76, undef)]) (fun φ55 => [(y, .cells #[.slice a42 n42 c42, .int .i64 E42] 40)]) (fun φ55 => [k42]) s ⟨hp55, trivial⟩ (fun φ55 => by kernel_rfl) ?_
          intro φ55 w55 s
          rw [nat_eql (a := (Ev.kindT T42)) (b := 0)]
          rcases Bool.eq_false_or_eq_true (decide ((Ev.kindT T42) = 0)) with hc57 | hc57
          ·
           rw [hc57]
           refine oK _ [] 5 [] 0 (fun φ58 => [(90, .bool (((V3 : Nat) : Int) != ((2 : Nat) : Int))), (89, .bool (((V3 : Nat) : Int) != ((2 : Nat) : Int))), (88, .bool (((V3 : Nat) : Int) != ((2 : Nat) : Int))), (87, .bool (((V3 : Nat) : Int) != ((2 : Nat) : Int))), (86, .int .u64 V3)]) (fun φ58 => []) s (fun φ58 => by kernel_rfl) ?_
           intro φ58 w58 s
           rw [nat_neq (a := V3) (b := 2)]
           rw [hc40]
           refine oKD _ [] 13 [] 0 (fun φ59 => [(103, .bool true), (102, undef), (101, undef), (100, undef), (99, undef), (98, undef), (97, undef), (96, undef), (95, undef), (94, undef), (93, undef), (92, undef), (91, undef)]) (fun φ59 => []) s (fun φ59 => by kernel_rfl) (by kernel_rfl) ?_
           intro φ59 w59 s
           refine cond_true_rule (b := true) (by kernel_rfl) rfl ?_
           refine seqR ?_
           refine call_rule (some 104) s (Ev.rzero_c) (by kernel_rfl) ?_
           intro v60 I60 w60 le60 h60 s
           replace h3_0 := BoS.mono le60 h3_0
           replace h26_0 := Ev.RT.mono le60 h26_0
           replace h27_0 := Ev.RT.mono le60 h27_0
           replace h33_0 := Ev.RT.mono le60 h33_0
           replace h33_1 := BoS.mono le60 h33_1
           replace h42_0 := Ev.RT.mono le60 h42_0
           replace h42_1 := BoS.mono le60 h42_1
           replace hp48 := le60 _ _ hp48
           replace hp55 := le60 _ _ hp55
           obtain ⟨k60, rfl, h60_0⟩ := h60
           refine oKD _ [] 2 [] 0 (fun φ61 => [(5, .int .i64 6), (4, pB k60)]) (fun φ61 => []) s (fun φ61 => by kernel_rfl) (by kernel_rfl) ?_
           intro φ61 w61 s
           refine wp_ret ?_
           refine ret_rule (C := []) _ [] (.tuple #[pB k60, .int .i64 6]) [] [] s trivial (by kernel_rfl) ?_
           replace s := s.drop (List.Sublist.append (List.Sublist.cons₂ _ List.Sublist.slnil) (List.Sublist.refl []))
           have e9 : idD g last B = ⟨Ev.T.zero, 6, D3 + D33 + D42, E42⟩ := by unfold idD hvG hR hL badT; simp [-List.drop_drop, Nat.add_assoc, hlast, kindZ, h3_1, h3_2, h3_3, h3_4, h33_2, h33_3, h42_2, h42_3, of_decide_eq_true hc6, of_decide_eq_false hc8, Decidable.not_not.1 (of_decide_eq_false hc21), of_decide_eq_false hc23, of_decide_eq_true hc31, Decidable.not_not.1 (of_decide_eq_false hc36), of_decide_eq_true hc40, Decidable.not_not.1 (of_decide_eq_false hc45), of_decide_eq_false hc50, of_decide_eq_true hc57, of_decide_eq_true hc40]
           exact ⟨_, _, _, rfl, s, ⟨_, rfl, rfl, _, Ev.T.zero, _, _, _, _, _, _, _, rfl, rfl, h60_0, h42_1, e9, (by simp only [← List.drop_drop, h3_4, h33_3, h42_3])⟩⟩
          ·
           rw [hc57]
           refine ops_rule (C := [(k33, .cells #[.int .i64 (Ev.kindT T33), .pointer pl48, .pointer pr48] 77)]) _ [] 11 [.c 0] 0 (fun φ62 => [(96, .bool (((Ev.kindT T33 : Nat) : Int) == ((1 : Nat) : Int))), (95, .bool (((Ev.kindT T33 : Nat) : Int) == ((1 : Nat) : Int))), (94, .int .i64 (Ev.kindT T33)), (93, pB k33), (92, pB k33), (91, pB k33), (90, .bool false), (89, .bool false), (88, .bool false), (87, undef), (86, undef)]) (fun φ62 => [(y, .cells #[.slice a42 n42 c42, .int .i64 E42] 40)]) (fun φ62 => [k33]) s ⟨hp48, trivial⟩ (fun φ62 => by kernel_rfl) ?_
           intro φ62 w62 s
           rw [nat_eql (a := (Ev.kindT T33)) (b := 1)]
           rcases Bool.eq_false_or_eq_true (decide ((Ev.kindT T33) = 1)) with hc63 | hc63
           ·
            rw [hc63]
            refine ops_rule (C := [(k42, .cells #[.int .i64 (Ev.kindT T42), .pointer pl55, .pointer pr55] 77)]) _ [] 7 [.c 0] 0 (fun φ64 => [(103, .bool (((Ev.kindT T42 : Nat) : Int) == ((1 : Nat) : Int))), (102, .bool (((Ev.kindT T42 : Nat) : Int) == ((1 : Nat) : Int))), (101, .bool (((Ev.kindT T42 : Nat) : Int) == ((1 : Nat) : Int))), (100, .int .i64 (Ev.kindT T42)), (99, pB k42), (98, pB k42), (97, pB k42)]) (fun φ64 => [(y, .cells #[.slice a42 n42 c42, .int .i64 E42] 40)]) (fun φ64 => [k42]) s ⟨hp55, trivial⟩ (fun φ64 => by kernel_rfl) ?_
            intro φ64 w64 s
            rw [nat_eql (a := (Ev.kindT T42)) (b := 1)]
            refine ops_done (by kernel_rfl) ?_
            rcases Bool.eq_false_or_eq_true (decide ((Ev.kindT T42) = 1)) with hc65 | hc65
            ·
             rw [hc65]
             refine cond_true_rule (b := true) (by kernel_rfl) rfl ?_
             refine seqR ?_
             refine call_rule (some 104) s (Ev.rzero_c) (by kernel_rfl) ?_
             intro v66 I66 w66 le66 h66 s
             replace h3_0 := BoS.mono le66 h3_0
             replace h26_0 := Ev.RT.mono le66 h26_0
             replace h27_0 := Ev.RT.mono le66 h27_0
             replace h33_0 := Ev.RT.mono le66 h33_0
             replace h33_1 := BoS.mono le66 h33_1
             replace h42_0 := Ev.RT.mono le66 h42_0
             replace h42_1 := BoS.mono le66 h42_1
             obtain ⟨k66, rfl, h66_0⟩ := h66
             refine oKD _ [] 2 [] 0 (fun φ67 => [(5, .int .i64 6), (4, pB k66)]) (fun φ67 => []) s (fun φ67 => by kernel_rfl) (by kernel_rfl) ?_
             intro φ67 w67 s
             refine wp_ret ?_
             refine ret_rule (C := []) _ [] (.tuple #[pB k66, .int .i64 6]) [] [] s trivial (by kernel_rfl) ?_
             replace s := s.drop (List.Sublist.append (List.Sublist.cons₂ _ List.Sublist.slnil) (List.Sublist.refl []))
             have e9 : idD g last B = ⟨Ev.T.zero, 6, D3 + D33 + D42, E42⟩ := by unfold idD hvG hR hL badT; simp [-List.drop_drop, Nat.add_assoc, hlast, kindZ, h3_1, h3_2, h3_3, h3_4, h33_2, h33_3, h42_2, h42_3, of_decide_eq_true hc6, of_decide_eq_false hc8, Decidable.not_not.1 (of_decide_eq_false hc21), of_decide_eq_false hc23, of_decide_eq_true hc31, Decidable.not_not.1 (of_decide_eq_false hc36), of_decide_eq_true hc40, Decidable.not_not.1 (of_decide_eq_false hc45), of_decide_eq_false hc50, of_decide_eq_false hc57, of_decide_eq_true hc63, of_decide_eq_true hc65]
             exact ⟨_, _, _, rfl, s, ⟨_, rfl, rfl, _, Ev.T.zero, _, _, _, _, _, _, _, rfl, rfl, h66_0, h42_1, e9, (by simp only [← List.drop_drop, h3_4, h33_3, h42_3])⟩⟩
            ·
             rw [hc65]
             refine cond_false_rule (b := false) (by kernel_rfl) rfl ?_
             refine wp_skip ?_
             refine seqR ?_
             refine oAD _ [] 6 [] 1 (fun φ68 => [(5, .int .i64 0), (4, pB (φ68 0)), (108, pB (φ68 0)), (107, .agg #[.int .i64 2, pB k33, pB k42]), (106, pB k42), (105, pB k33)]) (fun φ68 => [(y, .cells #[.slice a42 n42 c42, .int .i64 E42] 40), (φ68 0, .cells #[.int .i64 2, pB k33, pB k42] 77)]) (fun φ68 => []) s (fun φ68 => by kernel_rfl) (by kernel_rfl) ?_
             intro φ68 w68 s
             refine wp_ret ?_
             refine ret_rule (C := []) _ [] (.tuple #[pB (φ68 0), .int .i64 0]) [] [] s trivial (by kernel_rfl) ?_
             replace s := s.drop (List.Sublist.append (List.Sublist.cons₂ _ (List.Sublist.cons₂ _ List.Sublist.slnil)) (List.Sublist.refl []))
             obtain ⟨I69, le69, hk69, s⟩ := s.freezeAt 1 (φ68 0) (.cells #[.int .i64 2, .pointer (some ⟨k33, 0, none⟩), .pointer (some ⟨k42, 0, none⟩)] 77) [(y, .cells #[.slice a42 n42 c42, .int .i64 ((E42 : Nat) : Int)] 40)] (by kernel_rfl) (by kernel_rfl)
             replace h3_0 := BoS.mono le69 h3_0
             replace h26_0 := Ev.RT.mono le69 h26_0
             replace h27_0 := Ev.RT.mono le69 h27_0
             replace h33_0 := Ev.RT.mono le69 h33_0
             replace h33_1 := BoS.mono le69 h33_1
             replace h42_0 := Ev.RT.mono le69 h42_0
             replace h42_1 := BoS.mono le69 h42_1
             have e9 : idD g last B = ⟨Ev.T.node T33 T42, 0, D3 + D33 + D42, E42⟩ := by unfold idD hvG hR hL badT; simp [-List.drop_drop, Nat.add_assoc, hlast, kindZ, h3_1, h3_2, h3_3, h3_4, h33_2, h33_3, h42_2, h42_3, of_decide_eq_true hc6, of_decide_eq_false hc8, Decidable.not_not.1 (of_decide_eq_false hc21), of_decide_eq_false hc23, of_decide_eq_true hc31, Decidable.not_not.1 (of_decide_eq_false hc36), of_decide_eq_true hc40, Decidable.not_not.1 (of_decide_eq_false hc45), of_decide_eq_false hc50, of_decide_eq_false hc57, of_decide_eq_true hc63, of_decide_eq_false hc65]
             exact ⟨_, _, _, rfl, s, ⟨_, rfl, rfl, _, Ev.T.node T33 T42, _, _, _, _, _, _, _, rfl, rfl, ⟨_, _, hk69, h33_0, h42_0⟩, h42_1, e9, (by simp only [← List.drop_drop, h3_4, h33_3, h42_3])⟩⟩
           ·
            rw [hc63]
            refine oKD _ [] 7 [] 0 (fun φ70 => [(103, .bool false), (102, .bool false), (101, undef), (100, undef), (99, undef), (98, undef), (97, undef)]) (fun φ70 => []) s (fun φ70 => by kernel_rfl) (by kernel_rfl) ?_
            intro φ70 w70 s
            refine cond_false_rule (b := false) (by kernel_rfl) rfl ?_
            refine wp_skip ?_
            refine seqR ?_
            refine oAD _ [] 6 [] 1 (fun φ71 => [(5, .int .i64 0), (4, pB (φ71 0)), (108, pB (φ71 0)), (107, .agg #[.int .i64 2, pB k33, pB k42]), (106, pB k42), (105, pB k33)]) (fun φ71 => [(y, .cells #[.slice a42 n42 c42, .int .i64 E42] 40), (φ71 0, .cells #[.int .i64 2, pB k33, pB k42] 77)]) (fun φ71 => []) s (fun φ71 => by kernel_rfl) (by kernel_rfl) ?_
            intro φ71 w71 s
            refine wp_ret ?_
            refine ret_rule (C := []) _ [] (.tuple #[pB (φ71 0), .int .i64 0]) [] [] s trivial (by kernel_rfl) ?_
            replace s := s.drop (List.Sublist.append (List.Sublist.cons₂ _ (List.Sublist.cons₂ _ List.Sublist.slnil)) (List.Sublist.refl []))
            obtain ⟨I72, le72, hk72, s⟩ := s.freezeAt 1 (φ71 0) (.cells #[.int .i64 2, .pointer (some ⟨k33, 0, none⟩), .pointer (some ⟨k42, 0, none⟩)] 77) [(y, .cells #[.slice a42 n42 c42, .int .i64 ((E42 : Nat) : Int)] 40)] (by kernel_rfl) (by kernel_rfl)
            replace h3_0 := BoS.mono le72 h3_0
            replace h26_0 := Ev.RT.mono le72 h26_0
            replace h27_0 := Ev.RT.mono le72 h27_0
            replace h33_0 := Ev.RT.mono le72 h33_0
            replace h33_1 := BoS.mono le72 h33_1
            replace h42_0 := Ev.RT.mono le72 h42_0
            replace h42_1 := BoS.mono le72 h42_1
            have e9 : idD g last B = ⟨Ev.T.node T33 T42, 0, D3 + D33 + D42, E42⟩ := by unfold idD hvG hR hL badT; simp [-List.drop_drop, Nat.add_assoc, hlast, kindZ, h3_1, h3_2, h3_3, h3_4, h33_2, h33_3, h42_2, h42_3, of_decide_eq_true hc6, of_decide_eq_false hc8, Decidable.not_not.1 (of_decide_eq_false hc21), of_decide_eq_false hc23, of_decide_eq_true hc31, Decidable.not_not.1 (of_decide_eq_false hc36), of_decide_eq_true hc40, Decidable.not_not.1 (of_decide_eq_false hc45), of_decide_eq_false hc50, of_decide_eq_false hc57, of_decide_eq_false hc63]
            exact ⟨_, _, _, rfl, s, ⟨_, rfl, rfl, _, Ev.T.node T33 T42, _, _, _, _, _, _, _, rfl, rfl, ⟨_, _, hk72, h33_0, h42_0⟩, h42_1, e9, (by simp only [← List.drop_drop, h3_4, h33_3, h42_3])⟩⟩
       ·
        rw [hc40]
        refine cond_false_rule (b := false) (by kernel_rfl) rfl ?_
        refine wp_skip ?_
        refine wp_seq ?_
        refine seqR ?_
        obtain ⟨pl73, pr73, hp73⟩ := Ev.RT.peek h33_0
        refine ops_rule (C := [(k33, .cells #[.int .i64 (Ev.kindT T33), .pointer pl73, .pointer pr73] 77)]) _ [] 6 [.c 0] 0 (fun φ73 => [(75, .bool (((Ev.kindT T33 : Nat) : Int) == ((0 : Nat) : Int))), (74, .bool (((Ev.kindT T33 : Nat) : Int) == ((0 : Nat) : Int))), (73, .int .i64 (Ev.kindT T33)), (72, pB k33), (71, pB k33), (70, pB k33)]) (fun φ73 => [(y, .cells #[.slice a33 n33 c33, .int .i64 E33] 40)]) (fun φ73 => [k33]) s ⟨hp73, trivial⟩ (fun φ73 => by kernel_rfl) ?_
        intro φ73 w73 s
        rw [nat_eql (a := (Ev.kindT T33)) (b := 0)]
        rcases Bool.eq_false_or_eq_true (decide ((Ev.kindT T33) = 0)) with hc75 | hc75
        ·
         rw [hc75]
         refine oK _ [] 4 [] 0 (fun φ76 => [(79, .bool (((V3 : Nat) : Int) != ((1 : Nat) : Int))), (78, .bool (((V3 : Nat) : Int) != ((1 : Nat) : Int))), (77, .bool (((V3 : Nat) : Int) != ((1 : Nat) : Int))), (76, .int .u64 V3)]) (fun φ76 => []) s (fun φ76 => by kernel_rfl) ?_
         intro φ76 w76 s
         rw [nat_neq (a := V3) (b := 1)]
         rw [hc31]
         refine oKD _ [] 24 [] 0 (fun φ77 => [(103, .bool true), (102, undef), (101, undef), (100, undef), (99, undef), (98, undef), (97, undef), (96, undef), (95, undef), (94, undef), (93, undef), (92, undef), (91, undef), (90, .bool true), (89, .bool true), (88, undef), (87, undef), (86, undef), (85, undef), (84, undef), (83, undef), (82, undef), (81, undef), (80, undef)]) (fun φ77 => []) s (fun φ77 => by kernel_rfl) (by kernel_rfl) ?_
         intro φ77 w77 s
         refine cond_true_rule (b := true) (by kernel_rfl) rfl ?_
         refine seqR ?_
         refine call_rule (some 104) s (Ev.rzero_c) (by kernel_rfl) ?_
         intro v78 I78 w78 le78 h78 s
         replace h3_0 := BoS.mono le78 h3_0
         replace h26_0 := Ev.RT.mono le78 h26_0
         replace h27_0 := Ev.RT.mono le78 h27_0
         replace h33_0 := Ev.RT.mono le78 h33_0
         replace h33_1 := BoS.mono le78 h33_1
         replace hp73 := le78 _ _ hp73
         obtain ⟨k78, rfl, h78_0⟩ := h78
         refine oKD _ [] 2 [] 0 (fun φ79 => [(5, .int .i64 6), (4, pB k78)]) (fun φ79 => []) s (fun φ79 => by kernel_rfl) (by kernel_rfl) ?_
         intro φ79 w79 s
         refine wp_ret ?_
         refine ret_rule (C := []) _ [] (.tuple #[pB k78, .int .i64 6]) [] [] s trivial (by kernel_rfl) ?_
         replace s := s.drop (List.Sublist.append (List.Sublist.cons₂ _ List.Sublist.slnil) (List.Sublist.refl []))
         have e9 : idD g last B = ⟨Ev.T.zero, 6, D3 + D33, E33⟩ := by unfold idD hvG hR hL badT; simp [-List.drop_drop, Nat.add_assoc, hlast, kindZ, h3_1, h3_2, h3_3, h3_4, h33_2, h33_3, of_decide_eq_true hc6, of_decide_eq_false hc8, Decidable.not_not.1 (of_decide_eq_false hc21), of_decide_eq_false hc23, of_decide_eq_true hc31, Decidable.not_not.1 (of_decide_eq_false hc36), Decidable.not_not.1 (of_decide_eq_false hc40), of_decide_eq_true hc75, of_decide_eq_true hc31]
         exact ⟨_, _, _, rfl, s, ⟨_, rfl, rfl, _, Ev.T.zero, _, _, _, _, _, _, _, rfl, rfl, h78_0, h33_1, e9, (by simp only [← List.drop_drop, h3_4, h33_3])⟩⟩
        ·
         rw [hc75]
         obtain ⟨pl80, pr80, hp80⟩ := Ev.RT.peek h27_0
         refine ops_rule (C := [(k27, .cells #[.int .i64 (Ev.kindT Ev.T.zero), .pointer pl80, .pointer pr80] 77)]) _ [] 10 [.c 0] 0 (fun φ80 => [(85, .bool (((Ev.kindT Ev.T.zero : Nat) : Int) == ((0 : Nat) : Int))), (84, .bool (((Ev.kindT Ev.T.zero : Nat) : Int) == ((0 : Nat) : Int))), (83, .int .i64 (Ev.kindT Ev.T.zero)), (82, pB k27), (81, pB k27), (80, pB k27), (79, .bool false), (78, .bool false), (77, undef), (76, undef)]) (fun φ80 => [(y, .cells #[.slice a33 n33 c33, .int .i64 E33] 40)]) (fun φ80 => [k27]) s ⟨hp80, trivial⟩ (fun φ80 => by kernel_rfl) ?_
         intro φ80 w80 s
         rw [nat_eql (a := (Ev.kindT Ev.T.zero)) (b := 0)]
         rcases Bool.eq_false_or_eq_true (decide ((Ev.kindT Ev.T.zero) = 0)) with hc82 | hc82
         ·
          rw [hc82]
          refine oK _ [] 5 [] 0 (fun φ83 => [(90, .bool (((V3 : Nat) : Int) != ((2 : Nat) : Int))), (89, .bool (((V3 : Nat) : Int) != ((2 : Nat) : Int))), (88, .bool (((V3 : Nat) : Int) != ((2 : Nat) : Int))), (87, .bool (((V3 : Nat) : Int) != ((2 : Nat) : Int))), (86, .int .u64 V3)]) (fun φ83 => []) s (fun φ83 => by kernel_rfl) ?_
          intro φ83 w83 s
          rw [nat_neq (a := V3) (b := 2)]
          rw [hc40]
          refine ops_rule (C := [(k33, .cells #[.int .i64 (Ev.kindT T33), .pointer pl73, .pointer pr73] 77)]) _ [] 6 [.c 0] 0 (fun φ84 => [(96, .bool (((Ev.kindT T33 : Nat) : Int) == ((1 : Nat) : Int))), (95, .bool (((Ev.kindT T33 : Nat) : Int) == ((1 : Nat) : Int))), (94, .int .i64 (Ev.kindT T33)), (93, pB k33), (92, pB k33), (91, pB k33)]) (fun φ84 => [(y, .cells #[.slice a33 n33 c33, .int .i64 E33] 40)]) (fun φ84 => [k33]) s ⟨hp73, trivial⟩ (fun φ84 => by kernel_rfl) ?_
          intro φ84 w84 s
          rw [nat_eql (a := (Ev.kindT T33)) (b := 1)]
          rcases Bool.eq_false_or_eq_true (decide ((Ev.kindT T33) = 1)) with hc85 | hc85
          ·
           rw [hc85]
           refine ops_rule (C := [(k27, .cells #[.int .i64 (Ev.kindT Ev.T.zero), .pointer pl80, .pointer pr80] 77)]) _ [] 7 [.c 0] 0 (fun φ86 => [(103, .bool (((Ev.kindT Ev.T.zero : Nat) : Int) == ((1 : Nat) : Int))), (102, .bool (((Ev.kindT Ev.T.zero : Nat) : Int) == ((1 : Nat) : Int))), (101, .bool (((Ev.kindT Ev.T.zero : Nat) : Int) == ((1 : Nat) : Int))), (100, .int .i64 (Ev.kindT Ev.T.zero)), (99, pB k27), (98, pB k27), (97, pB k27)]) (fun φ86 => [(y, .cells #[.slice a33 n33 c33, .int .i64 E33] 40)]) (fun φ86 => [k27]) s ⟨hp80, trivial⟩ (fun φ86 => by kernel_rfl) ?_
           intro φ86 w86 s
           rw [nat_eql (a := (Ev.kindT Ev.T.zero)) (b := 1)]
           refine ops_done (by kernel_rfl) ?_
           rcases Bool.eq_false_or_eq_true (decide ((Ev.kindT Ev.T.zero) = 1)) with hc87 | hc87
           ·
            exact absurd (show False from (by have q1 := of_decide_eq_true hc87; have q2 := of_decide_eq_true hc82; omega)) id
           ·
            rw [hc87]
            refine cond_false_rule (b := false) (by kernel_rfl) rfl ?_
            refine wp_skip ?_
            refine seqR ?_
            refine oAD _ [] 6 [] 1 (fun φ88 => [(5, .int .i64 0), (4, pB (φ88 0)), (108, pB (φ88 0)), (107, .agg #[.int .i64 2, pB k33, pB k27]), (106, pB k27), (105, pB k33)]) (fun φ88 => [(y, .cells #[.slice a33 n33 c33, .int .i64 E33] 40), (φ88 0, .cells #[.int .i64 2, pB k33, pB k27] 77)]) (fun φ88 => []) s (fun φ88 => by kernel_rfl) (by kernel_rfl) ?_
            intro φ88 w88 s
            refine wp_ret ?_
            refine ret_rule (C := []) _ [] (.tuple #[pB (φ88 0), .int .i64 0]) [] [] s trivial (by kernel_rfl) ?_
            replace s := s.drop (List.Sublist.append (List.Sublist.cons₂ _ (List.Sublist.cons₂ _ List.Sublist.slnil)) (List.Sublist.refl []))
            obtain ⟨I89, le89, hk89, s⟩ := s.freezeAt 1 (φ88 0) (.cells #[.int .i64 2, .pointer (some ⟨k33, 0, none⟩), .pointer (some ⟨k27, 0, none⟩)] 77) [(y, .cells #[.slice a33 n33 c33, .int .i64 ((E33 : Nat) : Int)] 40)] (by kernel_rfl) (by kernel_rfl)
            replace h3_0 := BoS.mono le89 h3_0
            replace h26_0 := Ev.RT.mono le89 h26_0
            replace h27_0 := Ev.RT.mono le89 h27_0
            replace h33_0 := Ev.RT.mono le89 h33_0
            replace h33_1 := BoS.mono le89 h33_1
            replace hp73 := le89 _ _ hp73
            replace hp80 := le89 _ _ hp80
            have e9 : idD g last B = ⟨Ev.T.node T33 Ev.T.zero, 0, D3 + D33, E33⟩ := by unfold idD hvG hR hL badT; simp [-List.drop_drop, Nat.add_assoc, hlast, kindZ, h3_1, h3_2, h3_3, h3_4, h33_2, h33_3, of_decide_eq_true hc6, of_decide_eq_false hc8, Decidable.not_not.1 (of_decide_eq_false hc21), of_decide_eq_false hc23, of_decide_eq_true hc31, Decidable.not_not.1 (of_decide_eq_false hc36), Decidable.not_not.1 (of_decide_eq_false hc40), of_decide_eq_false hc75, of_decide_eq_true hc82, Decidable.not_not.1 (of_decide_eq_false hc40), of_decide_eq_true hc85, of_decide_eq_false hc87]
            exact ⟨_, _, _, rfl, s, ⟨_, rfl, rfl, _, Ev.T.node T33 Ev.T.zero, _, _, _, _, _, _, _, rfl, rfl, ⟨_, _, hk89, h33_0, h27_0⟩, h33_1, e9, (by simp only [← List.drop_drop, h3_4, h33_3])⟩⟩
          ·
           rw [hc85]
           refine oKD _ [] 7 [] 0 (fun φ90 => [(103, .bool false), (102, .bool false), (101, undef), (100, undef), (99, undef), (98, undef), (97, undef)]) (fun φ90 => []) s (fun φ90 => by kernel_rfl) (by kernel_rfl) ?_
           intro φ90 w90 s
           refine cond_false_rule (b := false) (by kernel_rfl) rfl ?_
           refine wp_skip ?_
           refine seqR ?_
           refine oAD _ [] 6 [] 1 (fun φ91 => [(5, .int .i64 0), (4, pB (φ91 0)), (108, pB (φ91 0)), (107, .agg #[.int .i64 2, pB k33, pB k27]), (106, pB k27), (105, pB k33)]) (fun φ91 => [(y, .cells #[.slice a33 n33 c33, .int .i64 E33] 40), (φ91 0, .cells #[.int .i64 2, pB k33, pB k27] 77)]) (fun φ91 => []) s (fun φ91 => by kernel_rfl) (by kernel_rfl) ?_
           intro φ91 w91 s
           refine wp_ret ?_
           refine ret_rule (C := []) _ [] (.tuple #[pB (φ91 0), .int .i64 0]) [] [] s trivial (by kernel_rfl) ?_
           replace s := s.drop (List.Sublist.append (List.Sublist.cons₂ _ (List.Sublist.cons₂ _ List.Sublist.slnil)) (List.Sublist.refl []))
           obtain ⟨I92, le92, hk92, s⟩ := s.freezeAt 1 (φ91 0) (.cells #[.int .i64 2, .pointer (some ⟨k33, 0, none⟩), .pointer (some ⟨k27, 0, none⟩)] 77) [(y, .cells #[.slice a33 n33 c33, .int .i64 ((E33 : Nat) : Int)] 40)] (by kernel_rfl) (by kernel_rfl)
           replace h3_0 := BoS.mono le92 h3_0
           replace h26_0 := Ev.RT.mono le92 h26_0
           replace h27_0 := Ev.RT.mono le92 h27_0
           replace h33_0 := Ev.RT.mono le92 h33_0
           replace h33_1 := BoS.mono le92 h33_1
           replace hp73 := le92 _ _ hp73
           replace hp80 := le92 _ _ hp80
           have e9 : idD g last B = ⟨Ev.T.node T33 Ev.T.zero, 0, D3 + D33, E33⟩ := by unfold idD hvG hR hL badT; simp [-List.drop_drop, Nat.add_assoc, hlast, kindZ, h3_1, h3_2, h3_3, h3_4, h33_2, h33_3, of_decide_eq_true hc6, of_decide_eq_false hc8, Decidable.not_not.1 (of_decide_eq_false hc21), of_decide_eq_false hc23, of_decide_eq_true hc31, Decidable.not_not.1 (of_decide_eq_false hc36), Decidable.not_not.1 (of_decide_eq_false hc40), of_decide_eq_false hc75, of_decide_eq_true hc82, Decidable.not_not.1 (of_decide_eq_false hc40), of_decide_eq_false hc85]
           exact ⟨_, _, _, rfl, s, ⟨_, rfl, rfl, _, Ev.T.node T33 Ev.T.zero, _, _, _, _, _, _, _, rfl, rfl, ⟨_, _, hk92, h33_0, h27_0⟩, h33_1, e9, (by simp only [← List.drop_drop, h3_4, h33_3])⟩⟩
         ·
          rw [hc82]
          refine ops_rule (C := [(k33, .cells #[.int .i64 (Ev.kindT T33), .pointer pl73, .pointer pr73] 77)]) _ [] 11 [.c 0] 0 (fun φ93 => [(96, .bool (((Ev.kindT T33 : Nat) : Int) == ((1 : Nat) : Int))), (95, .bool (((Ev.kindT T33 : Nat) : Int) == ((1 : Nat) : Int))), (94, .int .i64 (Ev.kindT T33)), (93, pB k33), (92, pB k33), (91, pB k33), (90, .bool false), (89, .bool false), (88, .bool false), (87, undef), (86, undef)]) (fun φ93 => [(y, .cells #[.slice a33 n33 c33, .int .i64 E33] 40)]) (fun φ93 => [k33]) s ⟨hp73, trivial⟩ (fun φ93 => by kernel_rfl) ?_
          intro φ93 w93 s
          rw [nat_eql (a := (Ev.kindT T33)) (b := 1)]
          rcases Bool.eq_false_or_eq_true (decide ((Ev.kindT T33) = 1)) with hc94 | hc94
          ·
           rw [hc94]
           refine ops_rule (C := [(k27, .cells #[.int .i64 (Ev.kindT Ev.T.zero), .pointer pl80, .pointer pr80] 77)]) _ [] 7 [.c 0] 0 (fun φ95 => [(103, .bool (((Ev.kindT Ev.T.zero : Nat) : Int) == ((1 : Nat) : Int))), (102, .bool (((Ev.kindT Ev.T.zero : Nat) : Int) == ((1 : Nat) : Int))), (101, .bool (((Ev.kindT Ev.T.zero : Nat) : Int) == ((1 : Nat) : Int))), (100, .int .i64 (Ev.kindT Ev.T.zero)), (99, pB k27), (98, pB k27), (97, pB k27)]) (fun φ95 => [(y, .cells #[.slice a33 n33 c33, .int .i64 E33] 40)]) (fun φ95 => [k27]) s ⟨hp80, trivial⟩ (fun φ95 => by kernel_rfl) ?_
           intro φ95 w95 s
           rw [nat_eql (a := (Ev.kindT Ev.T.zero)) (b := 1)]
           refine ops_done (by kernel_rfl) ?_
           rcases Bool.eq_false_or_eq_true (decide ((Ev.kindT Ev.T.zero) = 1)) with hc96 | hc96
           ·
            rw [hc96]
            refine cond_true_rule (b := true) (by kernel_rfl) rfl ?_
            refine seqR ?_
            refine call_rule (some 104) s (Ev.rzero_c) (by kernel_rfl) ?_
            intro v97 I97 w97 le97 h97 s
            replace h3_0 := BoS.mono le97 h3_0
            replace h26_0 := Ev.RT.mono le97 h26_0
            replace h27_0 := Ev.RT.mono le97 h27_0
            replace h33_0 := Ev.RT.mono le97 h33_0
            replace h33_1 := BoS.mono le97 h33_1
            obtain ⟨k97, rfl, h97_0⟩ := h97
            refine oKD _ [] 2 [] 0 (fun φ98 => [(5, .int .i64 6), (4, pB k97)]) (fun φ98 => []) s (fun φ98 => by kernel_rfl) (by kernel_rfl) ?_
            intro φ98 w98 s
            refine wp_ret ?_
            refine ret_rule (C := []) _ [] (.tuple #[pB k97, .int .i64 6]) [] [] s trivial (by kernel_rfl) ?_
            replace s := s.drop (List.Sublist.append (List.Sublist.cons₂ _ List.Sublist.slnil) (List.Sublist.refl []))
            have e9 : idD g last B = ⟨Ev.T.zero, 6, D3 + D33, E33⟩ := by unfold idD hvG hR hL badT; simp [-List.drop_drop, Nat.add_assoc, hlast, kindZ, h3_1, h3_2, h3_3, h3_4, h33_2, h33_3, of_decide_eq_true hc6, of_decide_eq_false hc8, Decidable.not_not.1 (of_decide_eq_false hc21), of_decide_eq_false hc23, of_decide_eq_true hc31, Decidable.not_not.1 (of_decide_eq_false hc36), Decidable.not_not.1 (of_decide_eq_false hc40), of_decide_eq_false hc75, of_decide_eq_false hc82, of_decide_eq_true hc94, of_decide_eq_true hc96]
            exact ⟨_, _, _, rfl, s, ⟨_, rfl, rfl, _, Ev.T.zero, _, _, _, _, _, _, _, rfl, rfl, h97_0, h33_1, e9, (by simp only [← List.drop_drop, h3_4, h33_3])⟩⟩
           ·
            rw [hc96]
            refine cond_false_rule (b := false) (by kernel_rfl) rfl ?_
            refine wp_skip ?_
            refine seqR ?_
            refine oAD _ [] 6 [] 1 (fun φ99 => [(5, .int .i64 0), (4, pB (φ99 0)), (108, pB (φ99 0)), (107, .agg #[.int .i64 2, pB k33, pB k27]), (106, pB k27), (105, pB k33)]) (fun φ99 => [(y, .cells #[.slice a33 n33 c33, .int .i64 E33] 40), (φ99 0, .cells #[.int .i64 2, pB k33, pB k27] 77)]) (fun φ99 => []) s (fun φ99 => by kernel_rfl) (by kernel_rfl) ?_
            intro φ99 w99 s
            refine wp_ret ?_
            refine ret_rule (C := []) _ [] (.tuple #[pB (φ99 0), .int .i64 0]) [] [] s trivial (by kernel_rfl) ?_
            replace s := s.drop (List.Sublist.append (List.Sublist.cons₂ _ (List.Sublist.cons₂ _ List.Sublist.slnil)) (List.Sublist.refl []))
            obtain ⟨I100, le100, hk100, s⟩ := s.freezeAt 1 (φ99 0) (.cells #[.int .i64 2, .pointer (some ⟨k33, 0, none⟩), .pointer (some ⟨k27, 0, none⟩)] 77) [(y, .cells #[.slice a33 n33 c33, .int .i64 ((E33 : Nat) : Int)] 40)] (by kernel_rfl) (by kernel_rfl)
            replace h3_0 := BoS.mono le100 h3_0
            replace h26_0 := Ev.RT.mono le100 h26_0
            replace h27_0 := Ev.RT.mono le100 h27_0
            replace h33_0 := Ev.RT.mono le100 h33_0
            replace h33_1 := BoS.mono le100 h33_1
            have e9 : idD g last B = ⟨Ev.T.node T33 Ev.T.zero, 0, D3 + D33, E33⟩ := by unfold idD hvG hR hL badT; simp [-List.drop_drop, Nat.add_assoc, hlast, kindZ, h3_1, h3_2, h3_3, h3_4, h33_2, h33_3, of_decide_eq_true hc6, of_decide_eq_false hc8, Decidable.not_not.1 (of_decide_eq_false hc21), of_decide_eq_false hc23, of_decide_eq_true hc31, Decidable.not_not.1 (of_decide_eq_false hc36), Decidable.not_not.1 (of_decide_eq_false hc40), of_decide_eq_false hc75, of_decide_eq_false hc82, of_decide_eq_true hc94, of_decide_eq_false hc96]
            exact ⟨_, _, _, rfl, s, ⟨_, rfl, rfl, _, Ev.T.node T33 Ev.T.zero, _, _, _, _, _, _, _, rfl, rfl, ⟨_, _, hk100, h33_0, h27_0⟩, h33_1, e9, (by simp only [← List.drop_drop, h3_4, h33_3])⟩⟩
          ·
           rw [hc94]
           refine oKD _ [] 7 [] 0 (fun φ101 => [(103, .bool false), (102, .bool false), (101, undef), (100, undef), (99, undef), (98, undef), (97, undef)]) (fun φ101 => []) s (fun φ101 => by kernel_rfl) (by kernel_rfl) ?_
           intro φ101 w101 s
           refine cond_false_rule (b := false) (by kernel_rfl) rfl ?_
           refine wp_skip ?_
           refine seqR ?_
           refine oAD _ [] 6 [] 1 (fun φ102 => [(5, .int .i64 0), (4, pB (φ102 0)), (108, pB (φ102 0)), (107, .agg #[.int .i64 2, pB k33, pB k27]), (106, pB k27), (105, pB k33)]) (fun φ102 => [(y, .cells #[.slice a33 n33 c33, .int .i64 E33] 40), (φ102 0, .cells #[.int .i64 2, pB k33, pB k27] 77)]) (fun φ102 => []) s (fun φ102 => by kernel_rfl) (by kernel_rfl) ?_
           intro φ102 w102 s
           refine wp_ret ?_
           refine ret_rule (C := []) _ [] (.tuple #[pB (φ102 0), .int .i64 0]) [] [] s trivial (by kernel_rfl) ?_
           replace s := s.drop (List.Sublist.append (List.Sublist.cons₂ _ (List.Sublist.cons₂ _ List.Sublist.slnil)) (List.Sublist.refl []))
           obtain ⟨I103, le103, hk103, s⟩ := s.freezeAt 1 (φ102 0) (.cells #[.int .i64 2, .pointer (some ⟨k33, 0, none⟩), .pointer (some ⟨k27, 0, none⟩)] 77) [(y, .cells #[.slice a33 n33 c33, .int .i64 ((E33 : Nat) : Int)] 40)] (by kernel_rfl) (by kernel_rfl)
           replace h3_0 := BoS.mono le103 h3_0
           replace h26_0 := Ev.RT.mono le103 h26_0
           replace h27_0 := Ev.RT.mono le103 h27_0
           replace h33_0 := Ev.RT.mono le103 h33_0
           replace h33_1 := BoS.mono le103 h33_1
           have e9 : idD g last B = ⟨Ev.T.node T33 Ev.T.zero, 0, D3 + D33, E33⟩ := by unfold idD hvG hR hL badT; simp [-List.drop_drop, Nat.add_assoc, hlast, kindZ, h3_1, h3_2, h3_3, h3_4, h33_2, h33_3, of_decide_eq_true hc6, of_decide_eq_false hc8, Decidable.not_not.1 (of_decide_eq_false hc21), of_decide_eq_false hc23, of_decide_eq_true hc31, Decidable.not_not.1 (of_decide_eq_false hc36), Decidable.not_not.1 (of_decide_eq_false hc40), of_decide_eq_false hc75, of_decide_eq_false hc82, of_decide_eq_false hc94]
           exact ⟨_, _, _, rfl, s, ⟨_, rfl, rfl, _, Ev.T.node T33 Ev.T.zero, _, _, _, _, _, _, _, rfl, rfl, ⟨_, _, hk103, h33_0, h27_0⟩, h33_1, e9, (by simp only [← List.drop_drop, h3_4, h33_3])⟩⟩
     ·
      rw [hc31]
      refine cond_false_rule (b := false) (by kernel_rfl) rfl ?_
      refine wp_skip ?_
      refine wp_seq ?_
      refine seqR ?_
      refine oK _ [] 2 [] 0 (fun φ104 => [(58, .bool (((V3 : Nat) : Int) != ((2 : Nat) : Int))), (57, .int .u64 V3)]) (fun φ104 => []) s (fun φ104 => by kernel_rfl) ?_
      intro φ104 w104 s
      rw [nat_neq (a := V3) (b := 2)]
      refine ops_done (by kernel_rfl) ?_
      rcases Bool.eq_false_or_eq_true (decide (V3 ≠ 2)) with hc105 | hc105
      ·
       rw [hc105]
       refine cond_true_rule (b := true) (by kernel_rfl) rfl ?_
       refine seqR ?_
       refine oK _ [] 3 [] 0 (fun φ106 => [(62, .int .i64 (IntKind.wrap .i64 (((deep : Nat) : Int) + ((1 : Nat) : Int)))), (61, .int .i64 deep), (60, pB y)]) (fun φ106 => []) s (fun φ106 => by kernel_rfl) ?_
       intro φ106 w106 s
       rw [nat_addI (a := deep) (b := 1) (by  have hq0 := of_decide_eq_true hc6; have hq1 := of_decide_eq_false hc8; have hq2 := of_decide_eq_false hc21; have hq3 := of_decide_eq_false hc23; have hq4 := of_decide_eq_false hc31; have hq5 := of_decide_eq_true hc105; omega)]
       refine callB_rule (b := (y, .cells #[.slice a3 n3 c3, .int .i64 E3] 40)) (F := []) (Hr := []) (some 63) 0 s (by kernel_rfl) (by kernel_rfl) ((ih (of_decide_eq_false hc23)) h3_0 (dlB h3_4 hn9) (of_decide_eq_true hc6)) (by kernel_rfl) ?_
       rintro v107 I107 w107 b107 le107 - h107 s
       replace h3_0 := BoS.mono le107 h3_0
       replace h26_0 := Ev.RT.mono le107 h26_0
       obtain ⟨k107, T107, R107, E107, D107, B107, a107, n107, c107, rfl, rfl, h107_0, h107_1, h107_2, h107_3⟩ := h107
       refine oKD _ [] 5 [] 0 (fun φ108 => [(10, .int .i64 R107), (9, pB k107), (65, .int .i64 R107), (64, pB k107), (59, .tuple #[pB k107, .int .i64 R107])]) (fun φ108 => []) s (fun φ108 => by kernel_rfl) (by kernel_rfl) ?_
       intro φ108 w108 s
       refine seqR ?_
       refine oK _ [] 2 [] 0 (fun φ109 => [(67, .bool (((R107 : Nat) : Int) != ((0 : Nat) : Int))), (66, .int .i64 R107)]) (fun φ109 => []) s (fun φ109 => by kernel_rfl) ?_
       intro φ109 w109 s
       rw [nat_neq (a := R107) (b := 0)]
       refine ops_done (by kernel_rfl) ?_
       rcases Bool.eq_false_or_eq_true (decide (R107 ≠ 0)) with hc110 | hc110
       ·
        rw [hc110]
        refine cond_true_rule (b := true) (by kernel_rfl) rfl ?_
        refine seqR ?_
        refine call_rule (some 68) s (Ev.rzero_c) (by kernel_rfl) ?_
        intro v111 I111 w111 le111 h111 s
        replace h3_0 := BoS.mono le111 h3_0
        replace h26_0 := Ev.RT.mono le111 h26_0
        replace h107_0 := Ev.RT.mono le111 h107_0
        replace h107_1 := BoS.mono le111 h107_1
        obtain ⟨k111, rfl, h111_0⟩ := h111
        refine oKD _ [] 3 [] 0 (fun φ112 => [(5, .int .i64 R107), (4, pB k111), (69, .int .i64 R107)]) (fun φ112 => []) s (fun φ112 => by kernel_rfl) (by kernel_rfl) ?_
        intro φ112 w112 s
        refine wp_ret ?_
        refine ret_rule (C := []) _ [] (.tuple #[pB k111, .int .i64 R107]) [] [] s trivial (by kernel_rfl) ?_
        replace s := s.drop (List.Sublist.append (List.Sublist.cons₂ _ List.Sublist.slnil) (List.Sublist.refl []))
        have e9 : idD g last B = ⟨Ev.T.zero, R107, D3 + D107, E107⟩ := by unfold idD hvG hR hL badT; simp [-List.drop_drop, Nat.add_assoc, hlast, kindZ, h3_1, h3_2, h3_3, h3_4, h107_2, h107_3, of_decide_eq_true hc6, of_decide_eq_false hc8, Decidable.not_not.1 (of_decide_eq_false hc21), of_decide_eq_false hc23, Decidable.not_not.1 (of_decide_eq_false hc31), of_decide_eq_true hc105, of_decide_eq_true hc110]
        exact ⟨_, _, _, rfl, s, ⟨_, rfl, rfl, _, Ev.T.zero, _, _, _, _, _, _, _, rfl, rfl, h111_0, h107_1, e9, (by simp only [← List.drop_drop, h3_4, h107_3])⟩⟩
       ·
        rw [hc110]
        refine cond_false_rule (b := false) (by kernel_rfl) rfl ?_
        refine wp_skip ?_
        refine wp_seq ?_
        refine seqR ?_
        obtain ⟨pl113, pr113, hp113⟩ := Ev.RT.peek h26_0
        refine ops_rule (C := [(k26, .cells #[.int .i64 (Ev.kindT Ev.T.zero), .pointer pl113, .pointer pr113] 77)]) _ [] 6 [.c 0] 0 (fun φ113 => [(75, .bool (((Ev.kindT Ev.T.zero : Nat) : Int) == ((0 : Nat) : Int))), (74, .bool (((Ev.kindT Ev.T.zero : Nat) : Int) == ((0 : Nat) : Int))), (73, .int .i64 (Ev.kindT Ev.T.zero)), (72, pB k26), (71, pB k26), (70, pB k26)]) (fun φ113 => [(y, .cells #[.slice a107 n107 c107, .int .i64 E107] 40)]) (fun φ113 => [k26]) s ⟨hp113, trivial⟩ (fun φ113 => by kernel_rfl) ?_
        intro φ113 w113 s
        rw [nat_eql (a := (Ev.kindT Ev.T.zero)) (b := 0)]
        rcases Bool.eq_false_or_eq_true (decide ((Ev.kindT Ev.T.zero) = 0)) with hc115 | hc115
        ·
         rw [hc115]
         refine oK _ [] 4 [] 0 (fun φ116 => [(79, .bool (((V3 : Nat) : Int) != ((1 : Nat) : Int))), (78, .bool (((V3 : Nat) : Int) != ((1 : Nat) : Int))), (77, .bool (((V3 : Nat) : Int) != ((1 : Nat) : Int))), (76, .int .u64 V3)]) (fun φ116 => []) s (fun φ116 => by kernel_rfl) ?_
         intro φ116 w116 s
         rw [nat_neq (a := V3) (b := 1)]
         rw [hc31]
         obtain ⟨pl117, pr117, hp117⟩ := Ev.RT.peek h107_0
         refine ops_rule (C := [(k107, .cells #[.int .i64 (Ev.kindT T107), .pointer pl117, .pointer pr117] 77)]) _ [] 6 [.c 0] 0 (fun φ117 => [(85, .bool (((Ev.kindT T107 : Nat) : Int) == ((0 : Nat) : Int))), (84, .bool (((Ev.kindT T107 : Nat) : Int) == ((0 : Nat) : Int))), (83, .int .i64 (Ev.kindT T107)), (82, pB k107), (81, pB k107), (80, pB k107)]) (fun φ117 => [(y, .cells #[.slice a107 n107 c107, .int .i64 E107] 40)]) (fun φ117 => [k107]) s ⟨hp117, trivial⟩ (fun φ117 => by kernel_rfl) ?_
         intro φ117 w117 s
         rw [nat_eql (a := (Ev.kindT T107)) (b := 0)]
         rcases Bool.eq_false_or_eq_true (decide ((Ev.kindT T107) = 0)) with hc119 | hc119
         ·
          rw [hc119]
          refine oK _ [] 5 [] 0 (fun φ120 => [(90, .bool (((V3 : Nat) : Int) != ((2 : Nat) : Int))), (89, .bool (((V3 : Nat) : Int) != ((2 : Nat) : Int))), (88, .bool (((V3 : Nat) : Int) != ((2 : Nat) : Int))), (87, .bool (((V3 : Nat) : Int) != ((2 : Nat) : Int))), (86, .int .u64 V3)]) (fun φ120 => []) s (fun φ120 => by kernel_rfl) ?_
          intro φ120 w120 s
          rw [nat_neq (a := V3) (b := 2)]
          rw [hc105]
          refine oKD _ [] 13 [] 0 (fun φ121 => [(103, .bool true), (102, undef), (101, undef), (100, undef), (99, undef), (98, undef), (97, undef), (96, undef), (95, undef), (94, undef), (93, undef), (92, undef), (91, undef)]) (fun φ121 => []) s (fun φ121 => by kernel_rfl) (by kernel_rfl) ?_
          intro φ121 w121 s
          refine cond_true_rule (b := true) (by kernel_rfl) rfl ?_
          refine seqR ?_
          refine call_rule (some 104) s (Ev.rzero_c) (by kernel_rfl) ?_
          intro v122 I122 w122 le122 h122 s
          replace h3_0 := BoS.mono le122 h3_0
          replace h26_0 := Ev.RT.mono le122 h26_0
          replace h107_0 := Ev.RT.mono le122 h107_0
          replace h107_1 := BoS.mono le122 h107_1
          replace hp113 := le122 _ _ hp113
          obtain ⟨k122, rfl, h122_0⟩ := h122
          refine oKD _ [] 2 [] 0 (fun φ123 => [(5, .int .i64 6), (4, pB k122)]) (fun φ123 => []) s (fun φ123 => by kernel_rfl) (by kernel_rfl) ?_
          intro φ123 w123 s
          refine wp_ret ?_
          refine ret_rule (C := []) _ [] (.tuple #[pB k122, .int .i64 6]) [] [] s trivial (by kernel_rfl) ?_
          replace s := s.drop (List.Sublist.append (List.Sublist.cons₂ _ List.Sublist.slnil) (List.Sublist.refl []))
          have e9 : idD g last B = ⟨Ev.T.zero, 6, D3 + D107, E107⟩ := by unfold idD hvG hR hL badT; simp [-List.drop_drop, Nat.add_assoc, hlast, kindZ, h3_1, h3_2, h3_3, h3_4, h107_2, h107_3, of_decide_eq_true hc6, of_decide_eq_false hc8, Decidable.not_not.1 (of_decide_eq_false hc21), of_decide_eq_false hc23, Decidable.not_not.1 (of_decide_eq_false hc31), of_decide_eq_true hc105, Decidable.not_not.1 (of_decide_eq_false hc110), of_decide_eq_true hc115, Decidable.not_not.1 (of_decide_eq_false hc31), of_decide_eq_true hc119, of_decide_eq_true hc105]
          exact ⟨_, _, _, rfl, s, ⟨_, rfl, rfl, _, Ev.T.zero, _, _, _, _, _, _, _, rfl, rfl, h122_0, h107_1, e9, (by simp only [← List.drop_drop, h3_4, h107_3])⟩⟩
         ·
          rw [hc119]
          refine ops_rule (C := [(k26, .cells #[.int .i64 (Ev.kindT Ev.T.zero), .pointer pl113, .pointer pr113] 77)]) _ [] 11 [.c 0] 0 (fun φ124 => [(96, .bool (((Ev.kindT Ev.T.zero : Nat) : Int) == ((1 : Nat) : Int))), (95, .bool (((Ev.kindT Ev.T.zero : Nat) : Int) == ((1 : Nat) : Int))), (94, .int .i64 (Ev.kindT Ev.T.zero)), (93, pB k26), (92, pB k26), (91, pB k26), (90, .bool false), (89, .bool false), (88, .bool false), (87, undef), (86, undef)]) (fun φ124 => [(y, .cells #[.slice a107 n107 c107, .int .i64 E107] 40)]) (fun φ124 => [k26]) s ⟨hp113, trivial⟩ (fun φ124 => by kernel_rfl) ?_
          intro φ124 w124 s
          rw [nat_eql (a := (Ev.kindT Ev.T.zero)) (b := 1)]
          rcases Bool.eq_false_or_eq_true (decide ((Ev.kindT Ev.T.zero) = 1)) with hc125 | hc125
          ·
           exact absurd (show False from (by have q1 := of_decide_eq_true hc125; have q2 := of_decide_eq_true hc115; omega)) id
          ·
           rw [hc125]
           refine oKD _ [] 7 [] 0 (fun φ126 => [(103, .bool false), (102, .bool false), (101, undef), (100, undef), (99, undef), (98, undef), (97, undef)]) (fun φ126 => []) s (fun φ126 => by kernel_rfl) (by kernel_rfl) ?_
           intro φ126 w126 s
           refine cond_false_rule (b := false) (by kernel_rfl) rfl ?_
           refine wp_skip ?_
           refine seqR ?_
           refine oAD _ [] 6 [] 1 (fun φ127 => [(5, .int .i64 0), (4, pB (φ127 0)), (108, pB (φ127 0)), (107, .agg #[.int .i64 2, pB k26, pB k107]), (106, pB k107), (105, pB k26)]) (fun φ127 => [(y, .cells #[.slice a107 n107 c107, .int .i64 E107] 40), (φ127 0, .cells #[.int .i64 2, pB k26, pB k107] 77)]) (fun φ127 => []) s (fun φ127 => by kernel_rfl) (by kernel_rfl) ?_
           intro φ127 w127 s
           refine wp_ret ?_
           refine ret_rule (C := []) _ [] (.tuple #[pB (φ127 0), .int .i64 0]) [] [] s trivial (by kernel_rfl) ?_
           replace s := s.drop (List.Sublist.append (List.Sublist.cons₂ _ (List.Sublist.cons₂ _ List.Sublist.slnil)) (List.Sublist.refl []))
           obtain ⟨I128, le128, hk128, s⟩ := s.freezeAt 1 (φ127 0) (.cells #[.int .i64 2, .pointer (some ⟨k26, 0, none⟩), .pointer (some ⟨k107, 0, none⟩)] 77) [(y, .cells #[.slice a107 n107 c107, .int .i64 ((E107 : Nat) : Int)] 40)] (by kernel_rfl) (by kernel_rfl)
           replace h3_0 := BoS.mono le128 h3_0
           replace h26_0 := Ev.RT.mono le128 h26_0
           replace h107_0 := Ev.RT.mono le128 h107_0
           replace h107_1 := BoS.mono le128 h107_1
           replace hp113 := le128 _ _ hp113
           have e9 : idD g last B = ⟨Ev.T.node Ev.T.zero T107, 0, D3 + D107, E107⟩ := by unfold idD hvG hR hL badT; simp [-List.drop_drop, Nat.add_assoc, hlast, kindZ, h3_1, h3_2, h3_3, h3_4, h107_2, h107_3, of_decide_eq_true hc6, of_decide_eq_false hc8, Decidable.not_not.1 (of_decide_eq_false hc21), of_decide_eq_false hc23, Decidable.not_not.1 (of_decide_eq_false hc31), of_decide_eq_true hc105, Decidable.not_not.1 (of_decide_eq_false hc110), of_decide_eq_true hc115, Decidable.not_not.1 (of_decide_eq_false hc31), of_decide_eq_false hc119, of_decide_eq_false hc125]
           exact ⟨_, _, _, rfl, s, ⟨_, rfl, rfl, _, Ev.T.node Ev.T.zero T107, _, _, _, _, _, _, _, rfl, rfl, ⟨_, _, hk128, h26_0, h107_0⟩, h107_1, e9, (by simp only [← List.drop_drop, h3_4, h107_3])⟩⟩
        ·
         rw [hc115]
         obtain ⟨pl129, pr129, hp129⟩ := Ev.RT.peek h107_0
         refine ops_rule (C := [(k107, .cells #[.int .i64 (Ev.kindT T107), .pointer pl129, .pointer pr129] 77)]) _ [] 10 [.c 0] 0 (fun φ129 => [(85, .bool (((Ev.kindT T107 : Nat) : Int) == ((0 : Nat) : Int))), (84, .bool (((Ev.kindT T107 : Nat) : Int) == ((0 : Nat) : Int))), (83, .int .i64 (Ev.kindT T107)), (82, pB k107), (81, pB k107), (80, pB k107), (79, .bool false), (78, .bool false), (77, undef), (76, undef)]) (fun φ129 => [(y, .cells #[.slice a107 n107 c107, .int .i64 E107] 40)]) (fun φ129 => [k107]) s ⟨hp129, trivial⟩ (fun φ129 => by kernel_rfl) ?_
         intro φ129 w129 s
         rw [nat_eql (a := (Ev.kindT T107)) (b := 0)]
         rcases Bool.eq_false_or_eq_true (decide ((Ev.kindT T107) = 0)) with hc131 | hc131
         ·
          rw [hc131]
          refine oK _ [] 5 [] 0 (fun φ132 => [(90, .bool (((V3 : Nat) : Int) != ((2 : Nat) : Int))), (89, .bool (((V3 : Nat) : Int) != ((2 : Nat) : Int))), (88, .bool (((V3 : Nat) : Int) != ((2 : Nat) : Int))), (87, .bool (((V3 : Nat) : Int) != ((2 : Nat) : Int))), (86, .int .u64 V3)]) (fun φ132 => []) s (fun φ132 => by kernel_rfl) ?_
          intro φ132 w132 s
          rw [nat_neq (a := V3) (b := 2)]
          rw [hc105]
          refine oKD _ [] 13 [] 0 (fun φ133 => [(103, .bool true), (102, undef), (101, undef), (100, undef), (99, undef), (98, undef), (97, undef), (96, undef), (95, undef), (94, undef), (93, undef), (92, undef), (91, undef)]) (fun φ133 => []) s (fun φ133 => by kernel_rfl) (by kernel_rfl) ?_
          intro φ133 w133 s
          refine cond_true_rule (b := true) (by kernel_rfl) rfl ?_
          refine seqR ?_
          refine call_rule (some 104) s (Ev.rzero_c) (by kernel_rfl) ?_
          intro v134 I134 w134 le134 h134 s
          replace h3_0 := BoS.mono le134 h3_0
          replace h26_0 := Ev.RT.mono le134 h26_0
          replace h107_0 := Ev.RT.mono le134 h107_0
          replace h107_1 := BoS.mono le134 h107_1
          replace hp113 := le134 _ _ hp113
          replace hp129 := le134 _ _ hp129
          obtain ⟨k134, rfl, h134_0⟩ := h134
          refine oKD _ [] 2 [] 0 (fun φ135 => [(5, .int .i64 6), (4, pB k134)]) (fun φ135 => []) s (fun φ135 => by kernel_rfl) (by kernel_rfl) ?_
          intro φ135 w135 s
          refine wp_ret ?_
          refine ret_rule (C := []) _ [] (.tuple #[pB k134, .int .i64 6]) [] [] s trivial (by kernel_rfl) ?_
          replace s := s.drop (List.Sublist.append (List.Sublist.cons₂ _ List.Sublist.slnil) (List.Sublist.refl []))
          have e9 : idD g last B = ⟨Ev.T.zero, 6, D3 + D107, E107⟩ := by unfold idD hvG hR hL badT; simp [-List.drop_drop, Nat.add_assoc, hlast, kindZ, h3_1, h3_2, h3_3, h3_4, h107_2, h107_3, of_decide_eq_true hc6, of_decide_eq_false hc8, Decidable.not_not.1 (of_decide_eq_false hc21), of_decide_eq_false hc23, Decidable.not_not.1 (of_decide_eq_false hc31), of_decide_eq_true hc105, Decidable.not_not.1 (of_decide_eq_false hc110), of_decide_eq_false hc115, of_decide_eq_true hc131, of_decide_eq_true hc105]
          exact ⟨_, _, _, rfl, s, ⟨_, rfl, rfl, _, Ev.T.zero, _, _, _, _, _, _, _, rfl, rfl, h134_0, h107_1, e9, (by simp only [← List.drop_drop, h3_4, h107_3])⟩⟩
         ·
          rw [hc131]
          refine ops_rule (C := [(k26, .cells #[.int .i64 (Ev.kindT Ev.T.zero), .pointer pl113, .pointer pr113] 77)]) _ [] 11 [.c 0] 0 (fun φ136 => [(96, .bool (((Ev.kindT Ev.T.zero : Nat) : Int) == ((1 : Nat) : Int))), (95, .bool (((Ev.kindT Ev.T.zero : Nat) : Int) == ((1 : Nat) : Int))), (94, .int .i64 (Ev.kindT Ev.T.zero)), (93, pB k26), (92, pB k26), (91, pB k26), (90, .bool false), (89, .bool false), (88, .bool false), (87, undef), (86, undef)]) (fun φ136 => [(y, .cells #[.slice a107 n107 c107, .int .i64 E107] 40)]) (fun φ136 => [k26]) s ⟨hp113, trivial⟩ (fun φ136 => by kernel_rfl) ?_
          intro φ136 w136 s
          rw [nat_eql (a := (Ev.kindT Ev.T.zero)) (b := 1)]
          rcases Bool.eq_false_or_eq_true (decide ((Ev.kindT Ev.T.zero) = 1)) with hc137 | hc137
          ·
           rw [hc137]
           refine ops_rule (C := [(k107, .cells #[.int .i64 (Ev.kindT T107), .pointer pl129, .pointer pr129] 77)]) _ [] 7 [.c 0] 0 (fun φ138 => [(103, .bool (((Ev.kindT T107 : Nat) : Int) == ((1 : Nat) : Int))), (102, .bool (((Ev.kindT T107 : Nat) : Int) == ((1 : Nat) : Int))), (101, .bool (((Ev.kindT T107 : Nat) : Int) == ((1 : Nat) : Int))), (100, .int .i64 (Ev.kindT T107)), (99, pB k107), (98, pB k107), (97, pB k107)]) (fun φ138 => [(y, .cells #[.slice a107 n107 c107, .int .i64 E107] 40)]) (fun φ138 => [k107]) s ⟨hp129, trivial⟩ (fun φ138 => by kernel_rfl) ?_
           intro φ138 w138 s
           rw [nat_eql (a := (Ev.kindT T107)) (b := 1)]
           refine ops_done (by kernel_rfl) ?_
           rcases Bool.eq_false_or_eq_true (decide ((Ev.kindT T107) = 1)) with hc139 | hc139
           ·
            rw [hc139]
            refine cond_true_rule (b := true) (by kernel_rfl) rfl ?_
            refine seqR ?_
            refine call_rule (some 104) s (Ev.rzero_c) (by kernel_rfl) ?_
            intro v140 I140 w140 le140 h140 s
            replace h3_0 := BoS.mono le140 h3_0
            replace h26_0 := Ev.RT.mono le140 h26_0
            replace h107_0 := Ev.RT.mono le140 h107_0
            replace h107_1 := BoS.mono le140 h107_1
            obtain ⟨k140, rfl, h140_0⟩ := h140
            refine oKD _ [] 2 [] 0 (fun φ141 => [(5, .int .i64 6), (4, pB k140)]) (fun φ141 => []) s (fun φ141 => by kernel_rfl) (by kernel_rfl) ?_
            intro φ141 w141 s
            refine wp_ret ?_
            refine ret_rule (C := []) _ [] (.tuple #[pB k140, .int .i64 6]) [] [] s trivial (by kernel_rfl) ?_
            replace s := s.drop (List.Sublist.append (List.Sublist.cons₂ _ List.Sublist.slnil) (List.Sublist.refl []))
            have e9 : idD g last B = ⟨Ev.T.zero, 6, D3 + D107, E107⟩ := by unfold idD hvG hR hL badT; simp [-List.drop_drop, Nat.add_assoc, hlast, kindZ, h3_1, h3_2, h3_3, h3_4, h107_2, h107_3, of_decide_eq_true hc6, of_decide_eq_false hc8, Decidable.not_not.1 (of_decide_eq_false hc21), of_decide_eq_false hc23, Decidable.not_not.1 (of_decide_eq_false hc31), of_decide_eq_true hc105, Decidable.not_not.1 (of_decide_eq_false hc110), of_decide_eq_false hc115, of_decide_eq_false hc131, of_decide_eq_true hc137, of_decide_eq_true hc139]
            exact ⟨_, _, _, rfl, s, ⟨_, rfl, rfl, _, Ev.T.zero, _, _, _, _, _, _, _, rfl, rfl, h140_0, h107_1, e9, (by simp only [← List.drop_drop, h3_4, h107_3])⟩⟩
           ·
            rw [hc139]
            refine cond_false_rule (b := false) (by kernel_rfl) rfl ?_
            refine wp_skip ?_
            refine seqR ?_
            refine oAD _ [] 6 [] 1 (fun φ142 => [(5, .int .i64 0), (4, pB (φ142 0)), (108, pB (φ142 0)), (107, .agg #[.int .i64 2, pB k26, pB k107]), (106, pB k107), (105, pB k26)]) (fun φ142 => [(y, .cells #[.slice a107 n107 c107, .int .i64 E107] 40), (φ142 0, .cells #[.int .i64 2, pB k26, pB k107] 77)]) (fun φ142 => []) s (fun φ142 => by kernel_rfl) (by kernel_rfl) ?_
            intro φ142 w142 s
            refine wp_ret ?_
            refine ret_rule (C := []) _ [] (.tuple #[pB (φ142 0), .int .i64 0]) [] [] s trivial (by kernel_rfl) ?_
            replace s := s.drop (List.Sublist.append (List.Sublist.cons₂ _ (List.Sublist.cons₂ _ List.Sublist.slnil)) (List.Sublist.refl []))
            obtain ⟨I143, le143, hk143, s⟩ := s.freezeAt 1 (φ142 0) (.cells #[.int .i64 2, .pointer (some ⟨k26, 0, none⟩), .pointer (some ⟨k107, 0, none⟩)] 77) [(y, .cells #[.slice a107 n107 c107, .int .i64 ((E107 : Nat) : Int)] 40)] (by kernel_rfl) (by kernel_rfl)
            replace h3_0 := BoS.mono le143 h3_0
            replace h26_0 := Ev.RT.mono le143 h26_0
            replace h107_0 := Ev.RT.mono le143 h107_0
            replace h107_1 := BoS.mono le143 h107_1
            have e9 : idD g last B = ⟨Ev.T.node Ev.T.zero T107, 0, D3 + D107, E107⟩ := by unfold idD hvG hR hL badT; simp [-List.drop_drop, Nat.add_assoc, hlast, kindZ, h3_1, h3_2, h3_3, h3_4, h107_2, h107_3, of_decide_eq_true hc6, of_decide_eq_false hc8, Decidable.not_not.1 (of_decide_eq_false hc21), of_decide_eq_false hc23, Decidable.not_not.1 (of_decide_eq_false hc31), of_decide_eq_true hc105, Decidable.not_not.1 (of_decide_eq_false hc110), of_decide_eq_false hc115, of_decide_eq_false hc131, of_decide_eq_true hc137, of_decide_eq_false hc139]
            exact ⟨_, _, _, rfl, s, ⟨_, rfl, rfl, _, Ev.T.node Ev.T.zero T107, _, _, _, _, _, _, _, rfl, rfl, ⟨_, _, hk143, h26_0, h107_0⟩, h107_1, e9, (by simp only [← List.drop_drop, h3_4, h107_3])⟩⟩
          ·
           rw [hc137]
           refine oKD _ [] 7 [] 0 (fun φ144 => [(103, .bool false), (102, .bool false), (101, undef), (100, undef), (99, undef), (98, undef), (97, undef)]) (fun φ144 => []) s (fun φ144 => by kernel_rfl) (by kernel_rfl) ?_
           intro φ144 w144 s
           refine cond_false_rule (b := false) (by kernel_rfl) rfl ?_
           refine wp_skip ?_
           refine seqR ?_
           refine oAD _ [] 6 [] 1 (fun φ145 => [(5, .int .i64 0), (4, pB (φ145 0)), (108, pB (φ145 0)), (107, .agg #[.int .i64 2, pB k26, pB k107]), (106, pB k107), (105, pB k26)]) (fun φ145 => [(y, .cells #[.slice a107 n107 c107, .int .i64 E107] 40), (φ145 0, .cells #[.int .i64 2, pB k26, pB k107] 77)]) (fun φ145 => []) s (fun φ145 => by kernel_rfl) (by kernel_rfl) ?_
           intro φ145 w145 s
           refine wp_ret ?_
           refine ret_rule (C := []) _ [] (.tuple #[pB (φ145 0), .int .i64 0]) [] [] s trivial (by kernel_rfl) ?_
           replace s := s.drop (List.Sublist.append (List.Sublist.cons₂ _ (List.Sublist.cons₂ _ List.Sublist.slnil)) (List.Sublist.refl []))
           obtain ⟨I146, le146, hk146, s⟩ := s.freezeAt 1 (φ145 0) (.cells #[.int .i64 2, .pointer (some ⟨k26, 0, none⟩), .pointer (some ⟨k107, 0, none⟩)] 77) [(y, .cells #[.slice a107 n107 c107, .int .i64 ((E107 : Nat) : Int)] 40)] (by kernel_rfl) (by kernel_rfl)
           replace h3_0 := BoS.mono le146 h3_0
           replace h26_0 := Ev.RT.mono le146 h26_0
           replace h107_0 := Ev.RT.mono le146 h107_0
           replace h107_1 := BoS.mono le146 h107_1
           have e9 : idD g last B = ⟨Ev.T.node Ev.T.zero T107, 0, D3 + D107, E107⟩ := by unfold idD hvG hR hL badT; simp [-List.drop_drop, Nat.add_assoc, hlast, kindZ, h3_1, h3_2, h3_3, h3_4, h107_2, h107_3, of_decide_eq_true hc6, of_decide_eq_false hc8, Decidable.not_not.1 (of_decide_eq_false hc21), of_decide_eq_false hc23, Decidable.not_not.1 (of_decide_eq_false hc31), of_decide_eq_true hc105, Decidable.not_not.1 (of_decide_eq_false hc110), of_decide_eq_false hc115, of_decide_eq_false hc131, of_decide_eq_false hc137]
           exact ⟨_, _, _, rfl, s, ⟨_, rfl, rfl, _, Ev.T.node Ev.T.zero T107, _, _, _, _, _, _, _, rfl, rfl, ⟨_, _, hk146, h26_0, h107_0⟩, h107_1, e9, (by simp only [← List.drop_drop, h3_4, h107_3])⟩⟩
      ·
       exact absurd (show False from (by have q1 := of_decide_eq_false hc105; have q2 := of_decide_eq_false hc31; omega)) id
 ·
  rw [hc6]
  refine oKD _ [] 3 [] 0 (fun φ147 => [(21, .bool false), (20, undef), (19, undef)]) (fun φ147 => []) s (fun φ147 => by kernel_rfl) (by kernel_rfl) ?_
  intro φ147 w147 s
  refine cond_false_rule (b := false) (by kernel_rfl) rfl ?_
  refine wp_skip ?_
  refine wp_seq ?_
  refine seqR ?_
  refine oK _ [] 5 [.o 0] 0 (fun φ148 => [(37, .bool (((E3 : Nat) : Int) != ((0 : Nat) : Int))), (36, .int .i64 E3), (35, .pointer (some ⟨y, 1, none⟩)), (34, pB y), (33, pB y)]) (fun φ148 => [y]) s (fun φ148 => by kernel_rfl) ?_
  intro φ148 w148 s
  rw [nat_neq (a := E3) (b := 0)]
  refine ops_done (by kernel_rfl) ?_
  rcases Bool.eq_false_or_eq_true (decide (E3 ≠ 0)) with hc149 | hc149
  ·
   rw [hc149]
   refine cond_true_rule (b := true) (by kernel_rfl) rfl ?_
   refine seqR ?_
   refine call_rule (some 38) s (Ev.rzero_c) (by kernel_rfl) ?_
   intro v150 I150 w150 le150 h150 s
   replace h3_0 := BoS.mono le150 h3_0
   obtain ⟨k150, rfl, h150_0⟩ := h150
   refine oKD _ [] 2 [] 0 (fun φ151 => [(5, .int .i64 6), (4, pB k150)]) (fun φ151 => []) s (fun φ151 => by kernel_rfl) (by kernel_rfl) ?_
   intro φ151 w151 s
   refine wp_ret ?_
   refine ret_rule (C := []) _ [] (.tuple #[pB k150, .int .i64 6]) [] [] s trivial (by kernel_rfl) ?_
   replace s := s.drop (List.Sublist.append (List.Sublist.cons₂ _ List.Sublist.slnil) (List.Sublist.refl []))
   have e9 : idD g last B = ⟨Ev.T.zero, 6, D3, E3⟩ := by unfold idD hvG hR hL badT; simp [-List.drop_drop, Nat.add_assoc, hlast, kindZ, h3_1, h3_2, h3_3, h3_4, of_decide_eq_false hc6, of_decide_eq_true hc149]
   exact ⟨_, _, _, rfl, s, ⟨_, rfl, rfl, _, Ev.T.zero, _, _, _, _, _, _, _, rfl, rfl, h150_0, h3_0, e9, (by simp only [← List.drop_drop, h3_4])⟩⟩
  ·
   exact absurd (show _ from (by have q1 := of_decide_eq_false hc149; have q2 := of_decide_eq_false hc6; simp only [ne_eq, Decidable.not_not] at q1 q2; first | exact q1 q2 | exact q2 q1)) id

theorem refGID_c : ∀ (f : Nat) {I : IM} {B : List Bool} {a : Option Addr} {n c y e : Nat} (_ : BoS I B (.slice a n c)) (_ : B.length ≤ 1000000) (_ : e = 0) {deep : Nat} (_ : deep + f = 16), FunM Tryd.prog 12 #[.pointer (some ⟨y, 0, none⟩), .int .i64 ((deep : Nat) : Int)] I [(y, .cells #[.slice a n c, .int .i64 ((e : Nat) : Int)] 40)] (fun v J H' => ∃ b' : OB, H' = [b'] ∧ b'.1 = y ∧ ∃ (k : Nat) (T : Ev.T) (R E D : Nat) (B' : List Bool) (a' : Option Addr) (n' c' : Nat), v = .tuple #[.pointer (some ⟨k, 0, none⟩), .int .i64 ((R : Nat) : Int)] ∧ b' = (y, .cells #[.slice a' n' c', .int .i64 ((E : Nat) : Int)] 40) ∧ Ev.RT J T k ∧ BoS J B' (.slice a' n' c') ∧ idG f B = ⟨T, R, D, E⟩ ∧ B.drop D = B')
  | 0, _, B, _, _, _, y, _, hb, hn9, he, deep, hd => by
    have h := refID_step (y := y) (deep := deep) (last := true) (g := fun _ => ⟨.zero, 0, 0, 0⟩) hb hn9 he okZ (by omega) (decide_eq_true (by omega)).symm (fun q => absurd (show deep = 16 by omega) q)
    rw [← idN_D (f := 0) (fun _ => Nat.zero_le _) (by decide)] at h
    exact h
  | f + 1, _, B, _, _, _, y, _, hb, hn9, he, deep, hd => by
    have h := refID_step (y := y) (deep := deep) (last := false) (g := idG f) hb hn9 he (idG_ok f) (by omega) (decide_eq_false (by omega)).symm (fun _ {J} {a} {n} {c} {y} {e} {B} a1 a2 a3 => refGID_c f a1 a2 a3 (by omega))
    rw [← idN_D (f := f) (idG_deep f) (by omega)] at h
    exact h

end Go.Proofs.YtgmigcmhnmmdkaaDoor
/- The document's reading of events tells the same. -/
set_option linter.all false
namespace Go.Proofs.YtgmigcmhnmmdkaaDoor

def GdE (f : Nat) (g : List Bool → Rd Ev.E) : Prop := ∀ B, (g B).t.depth ≤ f ∧ (g B).t.nf
theorem lf_gd (f n : Nat) : (Ev.E.leaf n).depth ≤ f ∧ (Ev.E.leaf n).nf := ⟨Nat.zero_le _, trivial⟩
theorem hL_gd {f : Nat} {g : List Bool → Rd Ev.E} (h : GdE f g) (a : Bool) (B : List Bool) : (hL g (.leaf 0) a B).t.depth ≤ f ∧ (hL g (.leaf 0) a B).t.nf := by
  unfold hL; split
  · exact h B
  · exact lf_gd _ _
theorem hR_gd {f : Nat} {g : List Bool → Rd Ev.E} (h : GdE f g) (b : Bool) (L : Rd Ev.E) (B : List Bool) : (hR g (.leaf 0) b L B).t.depth ≤ f ∧ (hR g (.leaf 0) b L B).t.nf := by
  unfold hR; split
  · exact h _
  · exact lf_gd _ _
theorem hv_gd {f : Nat} {g : List Bool → Rd Ev.E} (h : GdE f g) (a b : Bool) (B : List Bool) : ((hvG g (.leaf 0) a b B).l.depth ≤ f ∧ (hvG g (.leaf 0) a b B).l.nf) ∧ (hvG g (.leaf 0) a b B).r.depth ≤ f ∧ (hvG g (.leaf 0) a b B).r.nf := ⟨hL_gd h a B, hR_gd h b _ B⟩
theorem nodeR_gd {f n : Nat} {l r : Ev.E} (hl : l.depth ≤ f ∧ l.nf) (hr : r.depth ≤ f ∧ r.nf) : (Ev.nodeR n l r).1.depth ≤ f + 1 ∧ (Ev.nodeR n l r).1.nf := by
  unfold Ev.nodeR
  split
  · exact lf_gd _ _
  · split
    · exact lf_gd _ _
    · split
      · exact lf_gd _ _
      · refine ⟨Nat.le_trans (Ev.E.mk_depth _ _ _) (by omega), Ev.E.nf_mk hl.2 hr.2⟩
theorem evN_gd {f : Nat} {g : List Bool → Rd Ev.E} (h : GdE f g) (last : Bool) : GdE (f + 1) (evN g last) := fun B => by
  unfold evN
  split
  · exact lf_gd _ _
  · split
    · split <;> exact lf_gd _ _
    · split
      · exact lf_gd _ _
      · show (ndG g _).t.depth ≤ _ ∧ (ndG g _).t.nf
        unfold ndG
        split
        · exact lf_gd _ _
        · split
          · exact lf_gd _ _
          · split
            · exact lf_gd _ _
            · split
              · have q := hv_gd h (decide ((hdG (B.drop (gD 0 B 1))).k ≠ 0)) (decide ((hdG (B.drop (gD 0 B 1))).k ≠ 1)) ((B.drop (gD 0 B 1)).drop (hdG (B.drop (gD 0 B 1))).d)
                exact nodeR_gd q.1 q.2
              · exact lf_gd _ _
theorem evG_gd : ∀ f, GdE f (evG f)
  | 0 => fun B => by
    show (evN (fun _ => ⟨.leaf 0, 0, 0, 0⟩) true B).t.depth ≤ 0 ∧ (evN (fun _ => ⟨.leaf 0, 0, 0, 0⟩) true B).t.nf
    unfold evN
    split
    · exact lf_gd _ _
    · split
      · split <;> exact lf_gd _ _
      · rw [if_pos rfl]; exact lf_gd _ _
  | f + 1 => evN_gd (evG_gd f) false
theorem hd_k (B : List Bool) : (hdG B).k < 3 ∧ (hdG B).n ≤ 1048576 := by
  have hF : ∀ {k d : Nat} {C : Rd Nat}, k < 3 → C.t ≤ 1048576 → (hdF k d C).k < 3 ∧ (hdF k d C).n ≤ 1048576 := fun {k d C} h h2 => by
    unfold hdF; split
    · split <;> exact ⟨h, h2⟩
    · exact ⟨h, h2⟩
  unfold hdG; split
  · exact ⟨by show 0 < 3; decide, Nat.zero_le _⟩
  · split
    · rename_i q; have := gV_lt 0 B 2; exact ⟨by show gV 0 B 2 < 3; omega, Nat.zero_le _⟩
    · split
      · refine hF ?_ (cn_le _ _)
        have := gV_lt (gE 0 (B.drop (gD 0 B 2)) 1) ((B.drop (gD 0 B 2)).drop (gD 0 (B.drop (gD 0 B 2)) 1)) 1
        omega
      · exact hF (by decide) (cn_le _ _)
def badE (l r : Ev.E) (a b : Bool) : Bool := (a && decide (l.top = 0)) || ((b && decide (r.top = 0)) || ((decide (0 < l.base) && decide (0 < r.base)) || (l.isLeaf && (r.isLeaf && decide (l.base = r.base)))))
theorem leaf_top {e : Ev.E} (h : e.isLeaf = true) : e.top = e.base := by cases e <;> simp_all [Ev.E.isLeaf, Ev.E.top, Ev.E.base]
theorem badE_iff {l r : Ev.E} {k : Nat} (hk : k < 3) (h0 : k = 0 → l = .leaf 0) (h1 : k = 1 → r = .leaf 0) : (kindE l r = k ∧ inF l r = true) ↔ badE l r (decide (k ≠ 0)) (decide (k ≠ 1)) = false := by
  have bl := Ev.E.base_le l
  have br := Ev.E.base_le r
  have ll : l.isLeaf = true → l.top = l.base := leaf_top
  have lr : r.isLeaf = true → r.top = r.base := leaf_top
  have c : k = 0 ∨ k = 1 ∨ k = 2 := by omega
  rcases c with rfl | rfl | rfl
  · have := h0 rfl; subst this
    have e1 : (Ev.E.leaf 0).top = 0 := rfl
    have e2 : (Ev.E.leaf 0).base = 0 := rfl
    have e3 : (Ev.E.leaf 0).isLeaf = true := rfl
    unfold kindE inF badE
    rw [e1, e2, e3]
    cases hR : r.isLeaf
    · simp; omega
    · have := lr hR; simp; omega
  · have := h1 rfl; subst this
    have e1 : (Ev.E.leaf 0).top = 0 := rfl
    have e2 : (Ev.E.leaf 0).base = 0 := rfl
    have e3 : (Ev.E.leaf 0).isLeaf = true := rfl
    unfold kindE inF badE
    rw [e1, e2, e3]
    cases hL : l.isLeaf
    · by_cases z : l.top = 0 <;> simp [z] <;> omega
    · have := ll hL; by_cases z : l.top = 0 <;> simp [z] <;> omega
  · unfold kindE inF badE
    cases hL : l.isLeaf <;> cases hR : r.isLeaf
    · by_cases z : l.top = 0 <;> by_cases y : r.top = 0 <;> simp [z, y] <;> omega
    · have := lr hR; by_cases z : l.top = 0 <;> by_cases y : r.top = 0 <;> simp [z, y] <;> omega
    · have := ll hL; by_cases z : l.top = 0 <;> by_cases y : r.top = 0 <;> simp [z, y] <;> omega
    · have := lr hR; have := ll hL; by_cases z : l.top = 0 <;> by_cases y : r.top = 0 <;> simp [z, y] <;> omega
theorem badE_mk {l r : Ev.E} {n : Nat} {a b : Bool} (h : badE l r a b = false) : Ev.E.mk n l r = .node n l r := by
  rw [Ev.E.mk_iff]
  unfold badE at h
  simp only [Bool.or_eq_false_iff, Bool.and_eq_false_iff, decide_eq_false_iff_not] at h
  obtain ⟨-, -, h3, h4⟩ := h
  refine ⟨fun q => ?_, by omega⟩
  rw [q.1, q.2.1] at h4
  simp [q.2.2] at h4
noncomputable def ndD (g : List Bool → Rd Ev.E) (B : List Bool) : Rd Ev.E :=
  if (hdG B).er ≠ 0 then ⟨.leaf 0, (hdG B).er, (hdG B).d, (hdG B).e⟩
  else if (hvG g (.leaf 0) (decide ((hdG B).k ≠ 0)) (decide ((hdG B).k ≠ 1)) (B.drop (hdG B).d)).er ≠ 0 then ⟨.leaf 0, (hvG g (.leaf 0) (decide ((hdG B).k ≠ 0)) (decide ((hdG B).k ≠ 1)) (B.drop (hdG B).d)).er, (hdG B).d + (hvG g (.leaf 0) (decide ((hdG B).k ≠ 0)) (decide ((hdG B).k ≠ 1)) (B.drop (hdG B).d)).d, (hvG g (.leaf 0) (decide ((hdG B).k ≠ 0)) (decide ((hdG B).k ≠ 1)) (B.drop (hdG B).d)).e⟩
  else if badE (hvG g (.leaf 0) (decide ((hdG B).k ≠ 0)) (decide ((hdG B).k ≠ 1)) (B.drop (hdG B).d)).l (hvG g (.leaf 0) (decide ((hdG B).k ≠ 0)) (decide ((hdG B).k ≠ 1)) (B.drop (hdG B).d)).r (decide ((hdG B).k ≠ 0)) (decide ((hdG B).k ≠ 1)) = true then ⟨.leaf 0, 6, (hdG B).d + (hvG g (.leaf 0) (decide ((hdG B).k ≠ 0)) (decide ((hdG B).k ≠ 1)) (B.drop (hdG B).d)).d, (hvG g (.leaf 0) (decide ((hdG B).k ≠ 0)) (decide ((hdG B).k ≠ 1)) (B.drop (hdG B).d)).e⟩
  else if 1048576 < (hdG B).n + max (hvG g (.leaf 0) (decide ((hdG B).k ≠ 0)) (decide ((hdG B).k ≠ 1)) (B.drop (hdG B).d)).l.top (hvG g (.leaf 0) (decide ((hdG B).k ≠ 0)) (decide ((hdG B).k ≠ 1)) (B.drop (hdG B).d)).r.top then ⟨.leaf 0, 4, (hdG B).d + (hvG g (.leaf 0) (decide ((hdG B).k ≠ 0)) (decide ((hdG B).k ≠ 1)) (B.drop (hdG B).d)).d, (hvG g (.leaf 0) (decide ((hdG B).k ≠ 0)) (decide ((hdG B).k ≠ 1)) (B.drop (hdG B).d)).e⟩
  else ⟨.node (hdG B).n (hvG g (.leaf 0) (decide ((hdG B).k ≠ 0)) (decide ((hdG B).k ≠ 1)) (B.drop (hdG B).d)).l (hvG g (.leaf 0) (decide ((hdG B).k ≠ 0)) (decide ((hdG B).k ≠ 1)) (B.drop (hdG B).d)).r, 0, (hdG B).d + (hvG g (.leaf 0) (decide ((hdG B).k ≠ 0)) (decide ((hdG B).k ≠ 1)) (B.drop (hdG B).d)).d, (hvG g (.leaf 0) (decide ((hdG B).k ≠ 0)) (decide ((hdG B).k ≠ 1)) (B.drop (hdG B).d)).e⟩
theorem ndG_D {g : List Bool → Rd Ev.E} {f : Nat} (h : GdE f g) (hf : f ≤ 15) (B : List Bool) : ndG g B = ndD g B := by
  unfold ndG ndD
  split
  · rfl
  · split
    · rfl
    · have q := hv_gd h (decide ((hdG B).k ≠ 0)) (decide ((hdG B).k ≠ 1)) (B.drop (hdG B).d)
      have e0 : (hdG B).k = 0 → (hvG g (.leaf 0) (decide ((hdG B).k ≠ 0)) (decide ((hdG B).k ≠ 1)) (B.drop (hdG B).d)).l = .leaf 0 := fun z => by rw [z]; rfl
      have e1 : (hdG B).k = 1 → (hvG g (.leaf 0) (decide ((hdG B).k ≠ 0)) (decide ((hdG B).k ≠ 1)) (B.drop (hdG B).d)).r = .leaf 0 := fun z => by
        rw [z]; unfold hvG hR; simp
      have hn := hd_k B
      have b := badE_iff hn.1 e0 e1
      generalize hvG g (.leaf 0) (decide ((hdG B).k ≠ 0)) (decide ((hdG B).k ≠ 1)) (B.drop (hdG B).d) = V at *
      by_cases z : badE V.l V.r (decide ((hdG B).k ≠ 0)) (decide ((hdG B).k ≠ 1)) = true
      · rw [if_pos z]
        by_cases y : kindE V.l V.r ≠ (hdG B).k
        · rw [if_pos y]
        · rw [if_neg y]
          have : ¬ inF V.l V.r = true := fun w => by
            have := b.1 ⟨Decidable.not_not.1 y, w⟩
            rw [z] at this; cases this
          rw [if_neg this]
      · have z' : badE V.l V.r (decide ((hdG B).k ≠ 0)) (decide ((hdG B).k ≠ 1)) = false := by simpa using z
        obtain ⟨y1, y2⟩ := b.2 z'
        rw [if_neg (fun w => w y1), if_pos y2, if_neg z]
        have hm : Ev.E.mk (hdG B).n V.l V.r = .node (hdG B).n V.l V.r := badE_mk z'
        unfold Ev.nodeR
        rw [if_neg (by omega), if_neg (by omega), hm]
        by_cases t : 1048576 < (hdG B).n + max V.l.top V.r.top
        · rw [if_pos t, if_pos t]
        · rw [if_neg t, if_neg t]
theorem gE_of_gV {B : List Bool} {k : Nat} (h : gV 0 B k ≠ 0) : gE 0 B k = 0 := by
  unfold gV at h; unfold gE
  split at h
  · rename_i q; rw [if_neg (fun z => by have := z.2; have := q.2; omega)]
  · exact absurd rfl h
noncomputable def evD (g : List Bool → Rd Ev.E) (last : Bool) (B : List Bool) : Rd Ev.E :=
  if gE 0 B 1 ≠ 0 then ⟨.leaf 0, 6, gD 0 B 1, gE 0 B 1⟩
  else if gV 0 B 1 = 1 then
    (if (cnG 0 (B.drop (gD 0 B 1))).er ≠ 0 then ⟨.leaf 0, (cnG 0 (B.drop (gD 0 B 1))).er, gD 0 B 1 + (cnG 0 (B.drop (gD 0 B 1))).d, (cnG 0 (B.drop (gD 0 B 1))).e⟩ else ⟨.leaf (cnG 0 (B.drop (gD 0 B 1))).t, 0, gD 0 B 1 + (cnG 0 (B.drop (gD 0 B 1))).d, (cnG 0 (B.drop (gD 0 B 1))).e⟩)
  else if last = true then ⟨.leaf 0, 3, gD 0 B 1, gE 0 B 1⟩
  else ⟨(ndD g (B.drop (gD 0 B 1))).t, (ndD g (B.drop (gD 0 B 1))).er, gD 0 B 1 + (ndD g (B.drop (gD 0 B 1))).d, (ndD g (B.drop (gD 0 B 1))).e⟩
theorem evN_D {g : List Bool → Rd Ev.E} {f : Nat} (h : GdE f g) (hf : f ≤ 15) (last : Bool) (B : List Bool) : evN g last B = evD g last B := by
  unfold evN evD; rw [ndG_D h hf]
/-- what stands behind the head of a node: the halves, and whether they may be -/
noncomputable def tlD (g : List Bool → Rd Ev.E) (L R : Bool) (n : Nat) (B : List Bool) : Rd Ev.E :=
  if (hvG g (.leaf 0) L R B).er ≠ 0 then ⟨.leaf 0, (hvG g (.leaf 0) L R B).er, (hvG g (.leaf 0) L R B).d, (hvG g (.leaf 0) L R B).e⟩
  else if badE (hvG g (.leaf 0) L R B).l (hvG g (.leaf 0) L R B).r L R = true then ⟨.leaf 0, 6, (hvG g (.leaf 0) L R B).d, (hvG g (.leaf 0) L R B).e⟩
  else if 1048576 < n + max (hvG g (.leaf 0) L R B).l.top (hvG g (.leaf 0) L R B).r.top then ⟨.leaf 0, 4, (hvG g (.leaf 0) L R B).d, (hvG g (.leaf 0) L R B).e⟩
  else ⟨.node n (hvG g (.leaf 0) L R B).l (hvG g (.leaf 0) L R B).r, 0, (hvG g (.leaf 0) L R B).d, (hvG g (.leaf 0) L R B).e⟩
theorem tlD_at {g : List Bool → Rd Ev.E} {L R : Bool} {n er2 d2 e2 : Nat} {l r : Ev.E} {B : List Bool} (hv : hvG g (.leaf 0) L R B = ⟨l, r, er2, d2, e2⟩) :
    tlD g L R n B = (if er2 ≠ 0 then ⟨.leaf 0, er2, d2, e2⟩ else if badE l r L R = true then ⟨.leaf 0, 6, d2, e2⟩ else if 1048576 < n + max l.top r.top then ⟨.leaf 0, 4, d2, e2⟩ else ⟨.node n l r, 0, d2, e2⟩) := by
  unfold tlD; simp only [hv]
theorem ndD_tl {g : List Bool → Rd Ev.E} {B B2 : List Bool} {k n d e : Nat} {L R : Bool} {T : Ev.E} {r D E : Nat} (hh : hdG B = ⟨k, n, 0, d, e⟩) (hL : L = decide (k ≠ 0)) (hR : R = decide (k ≠ 1)) (hB : B.drop d = B2) (h : tlD g L R n B2 = ⟨T, r, D, E⟩) : ndD g B = ⟨T, r, d + D, E⟩ := by
  subst hL; subst hR; subst hB
  unfold tlD at h
  unfold ndD
  simp only [hh]
  rw [if_neg (fun q => q rfl)]
  generalize hvG g (.leaf 0) (decide (k ≠ 0)) (decide (k ≠ 1)) (B.drop d) = V at *
  split
  · rename_i q; rw [if_pos q] at h; cases h; rfl
  · rename_i q; rw [if_neg q] at h
    split
    · rename_i q2; rw [if_pos q2] at h; cases h; rfl
    · rename_i q2; rw [if_neg q2] at h
      split
      · rename_i q3; rw [if_pos q3] at h; cases h; rfl
      · rename_i q3; rw [if_neg q3] at h; cases h; rfl
theorem ndD_no {g : List Bool → Rd Ev.E} {B : List Bool} {k n er d e : Nat} (hh : hdG B = ⟨k, n, er, d, e⟩) (h : er ≠ 0) : ndD g B = ⟨.leaf 0, er, d, e⟩ := by
  unfold ndD
  simp only [hh]
  rw [if_pos h]
end Go.Proofs.YtgmigcmhnmmdkaaDoor
/- Parts of how the document reads events. -/
set_option linter.all false
set_option maxRecDepth 100000
namespace Go.Proofs.YtgmigcmhnmmdkaaDoor
open Go.RowKit Go.Sep
attribute [local irreducible] Go.wpList Go.Code.wp

theorem RE.peekL {I : IM} {e : Ev.E} {k : Nat} (h : Ev.RE I e k) : ∃ pl pr, (pl = none ↔ e.isLeaf = true) ∧ I k = some (.cells #[.int .u64 ((e.base : Nat) : Int), .pointer pl, .pointer pr] 85) := by
  cases e with
  | leaf n => exact ⟨none, none, ⟨fun _ => rfl, fun _ => rfl⟩, h⟩
  | node n l r =>
    obtain ⟨kl, kr, h, _, _⟩ := h
    exact ⟨some ⟨kl, 0, none⟩, some ⟨kr, 0, none⟩, ⟨fun q => (by cases q), fun q => (by simp [Ev.E.isLeaf] at q)⟩, h⟩
theorem run_nilE {w : World} {pl : Option Addr} {b : Bool} (h : pl = none ↔ b = true) : (binOp .eql 47 (.pointer pl) (.pointer none)).run Tryd.prog w = .ok (.bool b) w := by
  cases b with
  | true => rw [h.2 rfl]; kernel_rfl
  | false =>
    cases pl with
    | none => exact absurd (h.1 rfl) (by decide)
    | some p => obtain ⟨b, o, s⟩ := p; cases s <;> rfl
theorem nd_topZ {n : Nat} {l r : Ev.E} (h : (Ev.E.node n l r).nf) : (Ev.E.node n l r).top ≠ 0 := by
  have := nd_top h; omega

set_option maxHeartbeats 400000 in
theorem refZero_c {I : IM} {e : Ev.E} {k : Nat} (h : Ev.RE I e k) (hn : e.nf) : Fun Tryd.prog 44 #[.pointer (some ⟨k, 0, none⟩)] I (fun v J => v = .bool (decide (e.top = 0))) := by
 cases e with
 | leaf n =>
  refine enter_rule 15 [(0, pB k)] Tryd.func44 rfl (by kernel_rfl) ?_
  intro w s
  refine seqR ?_
  refine oKD [] [] 1 [] 0 (fun φ1 => [(2, .bool false)]) (fun φ1 => []) s (fun φ1 => by kernel_rfl) (by kernel_rfl) ?_
  intro φ1 w1 s
  refine seqR ?_
  refine ops_rule (C := [(k, .cells #[.int .u64 n, .pointer none, .pointer none] 85)]) [] [] 13 [.c 0, .c 0] 0 (fun φ2 => [(2, .bool (((n : Nat) : Int) == ((0 : Nat) : Int))), (14, .bool (((n : Nat) : Int) == ((0 : Nat) : Int))), (13, .bool (((n : Nat) : Int) == ((0 : Nat) : Int))), (12, .int .u64 n), (11, pB k), (10, pB k), (9, pB k), (8, .bool true), (7, .bool true), (6, .pointer none), (5, .pointer (some ⟨k, 1, none⟩)), (4, pB k), (3, pB k)]) (fun φ2 => []) (fun φ2 => [k, k]) s ⟨h, trivial⟩ (fun φ2 => by kernel_rfl) ?_
  intro φ2 w2 s
  rw [nat_eql (a := n) (b := 0)]
  refine ops_done (by kernel_rfl) ?_
  refine wp_ret ?_
  refine ret_rule (C := []) [] [] (.bool (decide (n = 0))) [] [] s trivial (by kernel_rfl) ?_
  exact ⟨_, _, _, rfl, s, rfl⟩
 | node n l r =>
  obtain ⟨kl, kr, hk, hl, hr⟩ := h
  refine enter_rule 15 [(0, pB k)] Tryd.func44 rfl (by kernel_rfl) ?_
  intro w s
  refine seqR ?_
  refine oKD [] [] 1 [] 0 (fun φ1 => [(2, .bool false)]) (fun φ1 => []) s (fun φ1 => by kernel_rfl) (by kernel_rfl) ?_
  intro φ1 w1 s
  refine seqR ?_
  refine ops_rule (C := [(k, .cells #[.int .u64 n, pB kl, pB kr] 85)]) [] [] 13 [.c 0] 0 (fun φ2 => [(2, .bool false), (14, .bool false), (13, undef), (12, undef), (11, undef), (10, undef), (9, undef), (8, .bool false), (7, .bool false), (6, pB kl), (5, .pointer (some ⟨k, 1, none⟩)), (4, pB k), (3, pB k)]) (fun φ2 => []) (fun φ2 => [k]) s ⟨hk, trivial⟩ (fun φ2 => by kernel_rfl) ?_
  intro φ2 w2 s
  refine ops_done (by kernel_rfl) ?_
  refine wp_ret ?_
  refine ret_rule (C := []) [] [] (.bool false) [] [] s trivial (by kernel_rfl) ?_
  exact ⟨_, _, _, rfl, s, (congrArg Value.bool (decide_eq_false (nd_topZ hn)).symm)⟩

set_option maxHeartbeats 2000000 in
theorem rmax_step {I : IM} {e : Ev.E} {k : Nat} (h : Ev.RE I e k) (ht : e.top < 18446744073709551616) (ih : ∀ n l r, e = .node n l r → (∀ {J : IM} {k : Nat}, Ev.RE J l k → l.top < 18446744073709551616 → Fun Tryd.prog 45 #[.pointer (some ⟨k, 0, none⟩)] J (fun v J => v = .int .u64 ((l.top : Nat) : Int))) ∧ (∀ {J : IM} {k : Nat}, Ev.RE J r k → r.top < 18446744073709551616 → Fun Tryd.prog 45 #[.pointer (some ⟨k, 0, none⟩)] J (fun v J => v = .int .u64 ((r.top : Nat) : Int)))) : Fun Tryd.prog 45 #[.pointer (some ⟨k, 0, none⟩)] I (fun v J => v = .int .u64 ((e.top : Nat) : Int)) := by
 cases e with
 | leaf n =>
  refine enter_rule 39 [(0, pB k)] Tryd.func45 rfl (by kernel_rfl) ?_
  intro w s
  refine seqR ?_
  refine oKD [] [] 1 [] 0 (fun φ1 => [(2, .int .u64 0)]) (fun φ1 => []) s (fun φ1 => by kernel_rfl) (by kernel_rfl) ?_
  intro φ1 w1 s
  refine wp_seq ?_
  refine seqR ?_
  refine ops_rule (C := [(k, .cells #[.int .u64 n, .pointer none, .pointer none] 85)]) [] [] 5 [.c 0] 0 (fun φ2 => [(9, .bool true), (8, .pointer none), (7, .pointer (some ⟨k, 1, none⟩)), (6, pB k), (5, pB k)]) (fun φ2 => []) (fun φ2 => [k]) s ⟨h, trivial⟩ (fun φ2 => by kernel_rfl) ?_
  intro φ2 w2 s
  refine ops_done (by kernel_rfl) ?_
  refine cond_true_rule (b := true) (by kernel_rfl) rfl ?_
  refine seqR ?_
  refine ops_rule (C := [(k, .cells #[.int .u64 n, .pointer none, .pointer none] 85)]) [] [] 5 [.c 0] 0 (fun φ3 => [(2, .int .u64 n), (13, .int .u64 n), (12, pB k), (11, pB k), (10, pB k)]) (fun φ3 => []) (fun φ3 => [k]) s ⟨h, trivial⟩ (fun φ3 => by kernel_rfl) ?_
  intro φ3 w3 s
  refine ops_done (by kernel_rfl) ?_
  refine wp_ret ?_
  refine ret_rule (C := []) [] [] (.int .u64 n) [] [] s trivial (by kernel_rfl) ?_
  exact ⟨_, _, _, rfl, s, rfl⟩
 | node n l r =>
  obtain ⟨ihl, ihr⟩ := ih n l r rfl
  clear ih
  have hb8 : n + max l.top r.top < 18446744073709551616 := ht
  obtain ⟨kl, kr, hk, hl, hr⟩ := h
  refine enter_rule 39 [(0, pB k)] Tryd.func45 rfl (by kernel_rfl) ?_
  intro w s
  refine seqR ?_
  refine oKD [] [] 1 [] 0 (fun φ1 => [(2, .int .u64 0)]) (fun φ1 => []) s (fun φ1 => by kernel_rfl) (by kernel_rfl) ?_
  intro φ1 w1 s
  refine wp_seq ?_
  refine seqR ?_
  refine ops_rule (C := [(k, .cells #[.int .u64 n, pB kl, pB kr] 85)]) [] [] 5 [.c 0] 0 (fun φ2 => [(9, .bool false), (8, pB kl), (7, .pointer (some ⟨k, 1, none⟩)), (6, pB k), (5, pB k)]) (fun φ2 => []) (fun φ2 => [k]) s ⟨hk, trivial⟩ (fun φ2 => by kernel_rfl) ?_
  intro φ2 w2 s
  refine ops_done (by kernel_rfl) ?_
  refine cond_false_rule (b := false) (by kernel_rfl) rfl ?_
  refine wp_skip ?_
  refine wp_seq ?_
  refine draw_rule (C := [(k, .cells #[.int .u64 n, pB kl, pB kr] 85)]) ⟨(fun φ3 xs3 => [.look 0 [] [], .look 0 [] [], .look 0 [] [], .look 0 [.c 0] [k], .call 45 #[pB kl], .look 0 [] [], .look 0 [] [], .look 0 [] [], .look 0 [.c 0] [k], .call 45 #[pB kr], .look 0 [] [], .look 0 [] []]), (fun φ3 xs3 => [pB k, pB k, .pointer (some ⟨k, 1, none⟩), pB kl, .int .u64 l.top, pB k, pB k, .pointer (some ⟨k, 2, none⟩), pB kr, .int .u64 r.top, .int .u64 l.top, .int .u64 r.top]), (fun φ3 xs3 => [[]]), (fun φ3 xs3 => [[default, default, default, default, default, default, default, default, default, default, default, default]]), [], [1, 1, 1, 1, 3, 1, 1, 1, 1, 3, 1, 1]⟩ (fun j => ([MP.any] : List MP).getD j MP.any) [4, 9] [] [] (fun φ3 xs3 => []) (fun φ3 xs3 => [(14, pB k), (15, pB k), (16, .pointer (some ⟨k, 1, none⟩)), (17, pB kl), (18, .int .u64 l.top), (19, pB k), (20, pB k), (21, .pointer (some ⟨k, 2, none⟩)), (22, pB kr), (23, .int .u64 r.top), (3, .int .u64 l.top), (4, .int .u64 r.top)]) (fun φ3 xs3 => []) s ⟨hk, trivial⟩ (by kernel_rfl) (by kernel_rfl) (fun _ _ => by kernel_rfl) (fun _ _ => by kernel_rfl) ⟨fun _ _ => by kernel_rfl, fun _ _ => by kernel_rfl, fun _ _ => by kernel_rfl, fun _ _ => by kernel_rfl⟩ (fun _ _ _ => by kernel_rfl) (fun _ _ => by kernel_rfl) (fun _ _ => by kernel_rfl) (fun _ _ => by kernel_rfl) (fun _ _ => by kernel_rfl) (fun _ _ => by kernel_rfl) trivial trivial (by kernel_rfl) ⟨?c3_4, ?c3_9, trivial⟩ ?k3
  case c3_4 =>
   refine kcast (A := ∀ (φ3 : Nat → Nat) (xs3 : Xs) (J4_3 : IM), I.Le J4_3 → Fun Tryd.prog 45 #[pB kl] J4_3 (fun v J' => ∃ x : UX, v = .int .u64 l.top ∧ (True))) (by kernel_rfl) ?_
   intro φ3 xs3 J4_3 leJ
   have hl := Ev.RE.mono leJ hl
   exact Fun.mono (ihl hl (by omega)) (fun v J' _ h => ⟨UX.d, h, trivial⟩)
  case c3_9 =>
   refine kcast (A := ∀ (φ3 : Nat → Nat) (xs3 : Xs) (J9_3 : IM), I.Le J9_3 → (True) → Fun Tryd.prog 45 #[pB kr] J9_3 (fun v J' => ∃ x : UX, v = .int .u64 r.top ∧ (True))) (by kernel_rfl) ?_
   intro φ3 xs3 J9_3 leJ
   rintro _
   have hr := Ev.RE.mono leJ hr
   exact Fun.mono (ihr hr (by omega)) (fun v J' _ h => ⟨UX.d, h, trivial⟩)
  case k3 =>
   rintro φ3 xs3 I3 w3 le3 s _ _
   replace hk := le3 _ _ hk
   refine wp_seq ?_
   refine seqR ?_
   refine oK [] [] 3 [] 0 (fun φ4 => [(26, .bool (decide (((l.top : Nat) : Int) > ((r.top : Nat) : Int)))), (25, .int .u64 r.top), (24, .int .u64 l.top)]) (fun φ4 => []) s (fun φ4 => by kernel_rfl) ?_
   intro φ4 w4 s
   rw [nat_gtr (a := l.top) (b := r.top)]
   refine ops_done (by kernel_rfl) ?_
   rcases Bool.eq_false_or_eq_true (decide (r.top < l.top)) with hc5 | hc5
   ·
    rw [hc5]
    refine cond_true_rule (b := true) (by kernel_rfl) rfl ?_
    refine seqR ?_
    refine ops_rule (C := [(k, .cells #[.int .u64 n, pB kl, pB kr] 85)]) [] [] 7 [.c 0] 0 (fun φ6 => [(2, .int .u64 (IntKind.wrap .u64 (((n : Nat) : Int) + ((l.top : Nat) : Int)))), (32, .int .u64 (IntKind.wrap .u64 (((n : Nat) : Int) + ((l.top : Nat) : Int)))), (31, .int .u64 l.top), (30, .int .u64 n), (29, pB k), (28, pB k), (27, pB k)]) (fun φ6 => []) (fun φ6 => [k]) s ⟨hk, trivial⟩ (fun φ6 => by kernel_rfl) ?_
    intro φ6 w6 s
    rw [nat_addU (a := n) (b := l.top) (by have hb9 : n + max l.top r.top < 18446744073709551616 := ht;  have hq0 := of_decide_eq_true hc5; omega)]
    refine ops_done (by kernel_rfl) ?_
    refine wp_ret ?_
    refine ret_rule (C := []) [] [] (.int .u64 ((n + l.top : Nat) : Int)) [] [] s trivial (by kernel_rfl) ?_
    exact ⟨_, _, _, rfl, s, (by have hq0 := of_decide_eq_true hc5; show _ = Value.int .u64 ((n + max l.top r.top : Nat) : Int); congr 3; omega)⟩
   ·
    rw [hc5]
    refine cond_false_rule (b := false) (by kernel_rfl) rfl ?_
    refine wp_skip ?_
    refine seqR ?_
    refine ops_rule (C := [(k, .cells #[.int .u64 n, pB kl, pB kr] 85)]) [] [] 7 [.c 0] 0 (fun φ7 => [(2, .int .u64 (IntKind.wrap .u64 (((n : Nat) : Int) + ((r.top : Nat) : Int)))), (38, .int .u64 (IntKind.wrap .u64 (((n : Nat) : Int) + ((r.top : Nat) : Int)))), (37, .int .u64 r.top), (36, .int .u64 n), (35, pB k), (34, pB k), (33, pB k)]) (fun φ7 => []) (fun φ7 => [k]) s ⟨hk, trivial⟩ (fun φ7 => by kernel_rfl) ?_
    intro φ7 w7 s
    rw [nat_addU (a := n) (b := r.top) (by have hb9 : n + max l.top r.top < 18446744073709551616 := ht;  have hq0 := of_decide_eq_false hc5; omega)]
    refine ops_done (by kernel_rfl) ?_
    refine wp_ret ?_
    refine ret_rule (C := []) [] [] (.int .u64 ((n + r.top : Nat) : Int)) [] [] s trivial (by kernel_rfl) ?_
    exact ⟨_, _, _, rfl, s, (by have hq0 := of_decide_eq_false hc5; show _ = Value.int .u64 ((n + max l.top r.top : Nat) : Int); congr 3; omega)⟩

theorem rmax_c : ∀ (e : Ev.E) {I : IM} {k : Nat}, Ev.RE I e k → e.top < 18446744073709551616 → Fun Tryd.prog 45 #[.pointer (some ⟨k, 0, none⟩)] I (fun v _ => v = .int .u64 ((e.top : Nat) : Int))
  | .leaf n, _, _, h, ht => rmax_step h ht (fun n l r h => by cases h)
  | .node n l r, _, _, h, ht => rmax_step h ht (fun n' l' r' e => by
      cases e
      exact ⟨fun {J} {k} a b => rmax_c l a b, fun {J} {k} a b => rmax_c r a b⟩)
theorem rmaxN_c {I : IM} {n k : Nat} {l r : Ev.E} (h : Ev.RE I (.node n l r) k) (ht : n + max l.top r.top < 18446744073709551616) : Fun Tryd.prog 45 #[.pointer (some ⟨k, 0, none⟩)] I (fun v _ => v = .int .u64 ((n + max l.top r.top : Nat) : Int)) := rmax_c _ h ht

set_option maxHeartbeats 400000 in
theorem rleaf_c {I : IM} {n : Nat} : Fun Tryd.prog 42 #[.int .u64 ((n : Nat) : Int)] I (fun v J => ∃ k, v = .pointer (some ⟨k, 0, none⟩) ∧ Ev.RE J (.leaf n) k) := by
 refine enter_rule 6 [(0, .int .u64 n)] Tryd.func42 rfl (by kernel_rfl) ?_
 intro w s
 refine seqR ?_
 refine oKD [] [] 1 [] 0 (fun φ1 => [(2, .pointer none)]) (fun φ1 => []) s (fun φ1 => by kernel_rfl) (by kernel_rfl) ?_
 intro φ1 w1 s
 refine seqR ?_
 refine oAD [] [] 4 [] 1 (fun φ2 => [(2, pB (φ2 0)), (5, pB (φ2 0)), (4, .agg #[.int .u64 n, .pointer none, .pointer none]), (3, .int .u64 n)]) (fun φ2 => [(φ2 0, .cells #[.int .u64 n, .pointer none, .pointer none] 85)]) (fun φ2 => []) s (fun φ2 => by kernel_rfl) (by kernel_rfl) ?_
 intro φ2 w2 s
 refine wp_ret ?_
 refine ret_rule (C := []) _ [] (pB (φ2 0)) [] [] s trivial (by kernel_rfl) ?_
 obtain ⟨I3, le3, hk3, s⟩ := s.freezeAt 0 (φ2 0) (.cells #[.int .u64 ((n : Nat) : Int), .pointer none, .pointer none] 85) [] (by kernel_rfl) (by kernel_rfl)
 exact ⟨_, _, _, rfl, s, ⟨_, rfl, hk3⟩⟩

theorem refNumV_c {I : IM} {B : List Bool} {a : Option Addr} {n c y e : Nat} (hb : BoS I B (.slice a n c)) (hn9 : B.length ≤ 1000000) : FunM Tryd.prog 80 #[.pointer (some ⟨y, 0, none⟩)] I [(y, .cells #[.slice a n c, .int .i64 ((e : Nat) : Int)] 40)] (fun v J H' => ∃ b' : OB, H' = [b'] ∧ b'.1 = y ∧ ∃ (V E D : Nat) (B' : List Bool) (a' : Option Addr) (n' c' : Nat), v = .int .u64 ((V : Nat) : Int) ∧ b' = (y, .cells #[.slice a' n' c', .int .i64 ((E : Nat) : Int)] 40) ∧ BoS J B' (.slice a' n' c') ∧ bnV B e = V ∧ bnE B e = E ∧ bnD B e = D ∧ B.drop D = B') := by
  refine funM_mono (refNumB_c (y := y) (e := e) hb hn9) (fun v J H' q => ?_)
  obtain ⟨b', h1, h2, a', n', c', h3, h4, h5⟩ := q
  exact ⟨b', h1, h2, _, _, _, _, a', n', c', h3, h4, h5, rfl, rfl, rfl, rfl⟩

set_option maxHeartbeats 2000000 in
theorem refNumber_c {I : IM} {B : List Bool} {a : Option Addr} {n c y e : Nat} (hb : BoS I B (.slice a n c)) (hn9 : B.length ≤ 1000000) : FunM Tryd.prog 43 #[.pointer (some ⟨y, 0, none⟩)] I [(y, .cells #[.slice a n c, .int .i64 ((e : Nat) : Int)] 40)] (fun v J H' => ∃ b' : OB, H' = [b'] ∧ b'.1 = y ∧ ∃ (N R E D : Nat) (B' : List Bool) (a' : Option Addr) (n' c' : Nat), v = .tuple #[.int .u64 ((N : Nat) : Int), .int .i64 ((R : Nat) : Int)] ∧ b' = (y, .cells #[.slice a' n' c', .int .i64 ((E : Nat) : Int)] 40) ∧ BoS J B' (.slice a' n' c') ∧ cnG e B = ⟨N, R, D, E⟩ ∧ B.drop D = B') := by
 obtain ⟨rfl, -⟩ := hb.cap
 refine enterM_rule 15 [(0, pB y)] Tryd.func43 rfl (by kernel_rfl) ?_
 intro w s
 refine seqR ?_
 refine oKD [(y, .cells #[.slice a B.length c, .int .i64 e] 40)] [] 2 [] 0 (fun φ1 => [(3, .int .i64 0), (2, .int .u64 0)]) (fun φ1 => []) s (fun φ1 => by kernel_rfl) (by kernel_rfl) ?_
 intro φ1 w1 s
 refine seqR ?_
 refine oK _ [] 1 [] 0 (fun φ2 => [(5, pB y)]) (fun φ2 => []) s (fun φ2 => by kernel_rfl) ?_
 intro φ2 w2 s
 refine callB_rule (b := (y, .cells #[.slice a B.length c, .int .i64 e] 40)) (F := []) (Hr := []) (some 6) 0 s (by kernel_rfl) (by kernel_rfl) (refNumV_c (y := y) (e := e) hb hn9) (by kernel_rfl) ?_
 rintro v3 I3 w3 b3 le3 - h3 s
 obtain ⟨V3, E3, D3, B3, a3, n3, c3, rfl, rfl, h3_0, h3_1, h3_2, h3_3, h3_4⟩ := h3
 refine oKD _ [] 1 [] 0 (fun φ4 => [(4, .int .u64 V3)]) (fun φ4 => []) s (fun φ4 => by kernel_rfl) (by kernel_rfl) ?_
 intro φ4 w4 s
 refine wp_seq ?_
 refine seqR ?_
 refine oK _ [] 5 [.o 0] 0 (fun φ5 => [(11, .bool (((E3 : Nat) : Int) != ((0 : Nat) : Int))), (10, .int .i64 E3), (9, .pointer (some ⟨y, 1, none⟩)), (8, pB y), (7, pB y)]) (fun φ5 => [y]) s (fun φ5 => by kernel_rfl) ?_
 intro φ5 w5 s
 rw [nat_neq (a := E3) (b := 0)]
 refine ops_done (by kernel_rfl) ?_
 rcases Bool.eq_false_or_eq_true (decide (E3 ≠ 0)) with hc6 | hc6
 ·
  rw [hc6]
  refine cond_true_rule (b := true) (by kernel_rfl) rfl ?_
  refine seqR ?_
  refine oKD _ [] 2 [] 0 (fun φ7 => [(3, .int .i64 6), (2, .int .u64 0)]) (fun φ7 => []) s (fun φ7 => by kernel_rfl) (by kernel_rfl) ?_
  intro φ7 w7 s
  refine wp_ret ?_
  refine ret_rule (C := []) _ [] (.tuple #[.int .u64 0, .int .i64 6]) [] [] s trivial (by kernel_rfl) ?_
  replace s := s.drop (List.Sublist.append (List.Sublist.cons₂ _ List.Sublist.slnil) (List.Sublist.refl []))
  have e9 : cnG e B = ⟨0, 6, D3, E3⟩ := by unfold cnG; simp [h3_1, h3_2, h3_3, h3_4, of_decide_eq_true hc6]
  exact ⟨_, _, _, rfl, s, ⟨_, rfl, rfl, _, _, _, _, _, _, _, _, rfl, rfl, h3_0, e9, (by simp only [← List.drop_drop, h3_4])⟩⟩
 ·
  rw [hc6]
  refine cond_false_rule (b := false) (by kernel_rfl) rfl ?_
  refine wp_skip ?_
  refine wp_seq ?_
  refine seqR ?_
  refine oK _ [] 2 [] 0 (fun φ8 => [(13, .bool (decide (((V3 : Nat) : Int) > ((1048576 : Nat) : Int)))), (12, .int .u64 V3)]) (fun φ8 => []) s (fun φ8 => by kernel_rfl) ?_
  intro φ8 w8 s
  rw [nat_gtr (a := V3) (b := 1048576)]
  refine ops_done (by kernel_rfl) ?_
  rcases Bool.eq_false_or_eq_true (decide (1048576 < V3)) with hc9 | hc9
  ·
   rw [hc9]
   refine cond_true_rule (b := true) (by kernel_rfl) rfl ?_
   refine seqR ?_
   refine oKD _ [] 2 [] 0 (fun φ10 => [(3, .int .i64 4), (2, .int .u64 0)]) (fun φ10 => []) s (fun φ10 => by kernel_rfl) (by kernel_rfl) ?_
   intro φ10 w10 s
   refine wp_ret ?_
   refine ret_rule (C := []) _ [] (.tuple #[.int .u64 0, .int .i64 4]) [] [] s trivial (by kernel_rfl) ?_
   replace s := s.drop (List.Sublist.append (List.Sublist.cons₂ _ List.Sublist.slnil) (List.Sublist.refl []))
   have e9 : cnG e B = ⟨0, 4, D3, E3⟩ := by unfold cnG; simp [h3_1, h3_2, h3_3, h3_4, Decidable.not_not.1 (of_decide_eq_false hc6), of_decide_eq_true hc9]
   exact ⟨_, _, _, rfl, s, ⟨_, rfl, rfl, _, _, _, _, _, _, _, _, rfl, rfl, h3_0, e9, (by simp only [← List.drop_drop, h3_4])⟩⟩
  ·
   rw [hc9]
   refine cond_false_rule (b := false) (by kernel_rfl) rfl ?_
   refine wp_skip ?_
   refine seqR ?_
   refine oKD _ [] 3 [] 0 (fun φ11 => [(3, .int .i64 0), (2, .int .u64 V3), (14, .int .u64 V3)]) (fun φ11 => []) s (fun φ11 => by kernel_rfl) (by kernel_rfl) ?_
   intro φ11 w11 s
   refine wp_ret ?_
   refine ret_rule (C := []) _ [] (.tuple #[.int .u64 V3, .int .i64 0]) [] [] s trivial (by kernel_rfl) ?_
   replace s := s.drop (List.Sublist.append (List.Sublist.cons₂ _ List.Sublist.slnil) (List.Sublist.refl []))
   have e9 : cnG e B = ⟨V3, 0, D3, E3⟩ := by unfold cnG; simp [h3_1, h3_2, h3_3, h3_4, Decidable.not_not.1 (of_decide_eq_false hc6), of_decide_eq_false hc9]
   exact ⟨_, _, _, rfl, s, ⟨_, rfl, rfl, _, _, _, _, _, _, _, _, rfl, rfl, h3_0, e9, (by simp only [← List.drop_drop, h3_4])⟩⟩

theorem refNumber0_c {I : IM} {B : List Bool} {a : Option Addr} {n c y e : Nat} (hb : BoS I B (.slice a n c)) (hn9 : B.length ≤ 1000000) (he : e = 0) : FunM Tryd.prog 43 #[.pointer (some ⟨y, 0, none⟩)] I [(y, .cells #[.slice a n c, .int .i64 ((e : Nat) : Int)] 40)] (fun v J H' => ∃ b' : OB, H' = [b'] ∧ b'.1 = y ∧ ∃ (N R E D : Nat) (B' : List Bool) (a' : Option Addr) (n' c' : Nat), v = .tuple #[.int .u64 ((N : Nat) : Int), .int .i64 ((R : Nat) : Int)] ∧ b' = (y, .cells #[.slice a' n' c', .int .i64 ((E : Nat) : Int)] 40) ∧ BoS J B' (.slice a' n' c') ∧ cnG 0 B = ⟨N, R, D, E⟩ ∧ B.drop D = B') := by subst he; exact refNumber_c hb hn9

end Go.Proofs.YtgmigcmhnmmdkaaDoor
