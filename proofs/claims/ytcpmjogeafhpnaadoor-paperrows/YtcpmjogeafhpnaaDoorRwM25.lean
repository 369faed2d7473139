/- Cards that stand one behind the other are read one by one. -/
import Derived.Test.YtcpmjogeafhpnaaDoorRwM24
import Derived.Test.YtcpmjogeafhpnaaDoorRwS12
import Derived.Test.YtcpmjogeafhpnaaDoorRwM23
set_option linter.all false
set_option maxRecDepth 100000
namespace Go.Proofs.YtcpmjogeafhpnaaDoor
open Go.RowKit Go.Sep
attribute [local irreducible] Go.wpList Go.Code.wp

theorem nm_of {I : IM} (h : Tx.NmT I) : NmT I := by
  obtain ⟨cs, T, fr, h1, h2⟩ := h
  exact ⟨cs, T, fr, h1, h2 1 (by decide)⟩
theorem made_ok {L : List Fe} : okL (madeF L) := fun i hi => by
  have hm : (madeF L).getD i Fe.z ∈ madeF L := getD_mem hi
  have h1 := rt_small (made_rt hm)
  have h2 := made_mem hm
  exact ⟨by omega, by omega, by omega, by omega⟩
theorem card_next {Ls : List (List Fe)} {i : Nat} {t : List UInt8} {R L' : List UInt8} {Fs : List Fe} {E : Nat} (hR : R = allC ((Ls.map madeF).drop i) ++ t) (hi : i < Ls.length) (h : gcP R = (Fs, L', E)) : madeF (Ls.getD i []) = Fs ∧ allC ((Ls.map madeF).drop (i + 1)) ++ t = L' ∧ 0 = E := by
  rw [hR, next_card hi] at h
  have h1 := Prod.mk.inj h
  have h2 := Prod.mk.inj h1.2
  exact ⟨h1.1, h2.1, h2.2⟩
theorem made_getD {Ls : List (List Fe)} {i : Nat} (hi : i < Ls.length) : (Ls.map madeF).getD i [] = madeF (Ls.getD i []) := mad_getD hi
theorem all_end {Ls : List (List Fe)} {i : Nat} {t : List UInt8} {R : List UInt8} (hR : R = allC ((Ls.map madeF).drop i) ++ t) (hi : i = Ls.length) : R = t := by
  rw [hR, List.drop_of_length_le (by rw [List.length_map]; omega)]; rfl
theorem all_len {Ls : List (List Fe)} {n : Nat} (h : Ls.length ≤ n) : (allC (Ls.map madeF)).length ≤ n * 1000 := Nat.le_trans allC_len (Nat.mul_le_mul_right _ h)
theorem rest_len {Ls : List (List Fe)} {i : Nat} {t : UInt8} {R : List UInt8} (hR : R = allC ((Ls.map madeF).drop i) ++ [t]) (h : Ls.length ≤ 5) : R.length ≤ 1000000 := by
  rw [hR, ← List.map_drop, List.length_append]
  have := allC_len (Ls := Ls.drop i)
  have h2 : (Ls.drop i).length ≤ 5 := by rw [List.length_drop]; omega
  simp only [List.length_cons, List.length_nil]; omega
theorem byteT_c {I : IM} {t : UInt8} {a : Option Addr} {c r : Nat} (hl : BSl I [t] (.slice a 1 c)) : FunM Tryd.prog 55 #[.pointer (some ⟨r, 0, none⟩)] I [(r, .cells #[.slice a 1 c, .int .i64 0] 126)] (fun v J H' => ∃ b' : OB, H' = [b'] ∧ b'.1 = r ∧ ∃ (a' : Option Addr) (c' : Nat), v = .int .u8 ((t.toNat : Nat) : Int) ∧ b' = (r, .cells #[.slice a' 0 c', .int .i64 0] 126)) := by
  have h := byteG_c (e := 0) (r := r) hl (show (List.length [t]) ≤ 1000000 by simp)
  obtain ⟨b1, b2, b3⟩ := by_fwd (b := t) (rest := [])
  rw [List.append_nil] at b1 b2 b3
  rw [b1, b2, b3] at h
  exact fun w hw ho => (h w hw ho).mono fun e w' ⟨v, J, H', he, p, b', h1, h2, a', k', c', h3, h4, h5⟩ => by
    obtain ⟨hk, -⟩ := h5.cap
    have hz : k' = 0 := hk
    subst hz
    exact ⟨v, J, H', he, p, b', h1, h2, a', c', h3, h4⟩
theorem run_eqI5 {w : World} {z : Int} : (binOp .eql 5 (.int .u8 z) (.int .u8 z)).run Tryd.prog w = .ok (.bool true) w := by
  have e : (binOp .eql 5 (.int .u8 z) (.int .u8 z)).run Tryd.prog w = .ok (.bool (decide (z = z))) w := by kernel_rfl
  rw [e, decide_eq_true rfl]
theorem perm_a {α : Type} {A B C : List α} : List.Perm (A ++ (B ++ C)) ((A ++ B) ++ C) := by rw [List.append_assoc]
theorem perm_b {α : Type} {A B C : List α} : List.Perm (A ++ (B ++ C)) ((A ++ C) ++ B) := by rw [List.append_assoc]; exact List.Perm.append_left _ List.perm_append_comm
theorem perm_c {α : Type} {A B C : List α} : List.Perm ((A ++ B) ++ C) (A ++ (B ++ C)) := by rw [List.append_assoc]
theorem perm_d {α : Type} {A B C : List α} : List.Perm (B ++ (A ++ C)) (A ++ (B ++ C)) := by rw [← List.append_assoc, ← List.append_assoc]; exact List.Perm.append_right _ List.perm_append_comm
theorem mem_takeD {L : List (List Fe)} {k i : Nat} (hi : i < (L.take k).length) : (L.take k).getD i [] ∈ L := by
  exact List.mem_of_mem_take (List.mem_of_getElem? (getD_someF hi))
theorem take5_len {L : List (List Fe)} : (L.take (min L.length 5)).length = min L.length 5 := by rw [List.length_take]; omega

set_option maxHeartbeats 8000000 in
theorem paperRows_c {I : IM} {L : List (List Fe)} {a0 : Option Addr} {c0 : Nat} (h0 : SFl I L (.slice a0 L.length c0)) (hB : ∀ x ∈ L, x.length ≤ 9223372036854775807) {t : UInt8} (hN : Tx.NmT I) (hT : Tx.U8 I) : Fun Tryd.prog 12 #[.slice a0 L.length c0, .int .u8 ((t.toNat : Nat) : Int)] I (fun v J => v = .bool true) := by
 have h8 := sfl_to (hi := min L.length 5) h0 (by omega)
 refine enter_rule 76 [(0, .slice a0 L.length c0), (1, .int .u8 t.toNat)] Tryd.func12 rfl (by kernel_rfl) ?_
 intro w s
 refine seqR ?_
 refine oKD [] [] 1 [] 0 (fun φ1 => [(4, .bool false)]) (fun φ1 => []) s (fun φ1 => by kernel_rfl) (by kernel_rfl) ?_
 intro φ1 w1 s
 refine wp_seq ?_
 refine seqR ?_
 refine call_rule (some 14) s (awakeP_c (nm_of hN) hT) (by kernel_rfl) ?_
 intro v2 I2 w2 le2 h2 s
 replace h8 := SFl.mono le2 h8
 replace hN := Tx.NmT.mono le2 hN
 replace hT := Tx.U8.mono le2 hT
 obtain rfl := h2
 refine oKD [] [] 1 [] 0 (fun φ3 => [(15, .bool false)]) (fun φ3 => []) s (fun φ3 => by kernel_rfl) (by kernel_rfl) ?_
 intro φ3 w3 s
 refine cond_false_rule (b := false) (by kernel_rfl) rfl ?_
 refine wp_skip ?_
 refine seqR ?_
 refine oK [] [] 4 [] 0 (fun φ4 => [(19, .int .i64 (if ((5 : Nat) : Int) < ((L.length : Nat) : Int) then ((5 : Nat) : Int) else ((L.length : Nat) : Int))), (18, .int .i64 L.length), (17, .slice a0 L.length c0), (16, .slice a0 L.length c0)]) (fun φ4 => []) s (fun φ4 => by kernel_rfl) ?_
 intro φ4 w4 s
 rw [nat_min (a := L.length) (b := 5)]
 refine sem_rule (Instr.sliceAt 83 (.slice a0 L.length c0) none (some (.int .i64 ((min L.length 5 : Nat) : Int))) none) (some 20) (.slice a0 (min L.length 5) c0) (by kernel_rfl) (run_to83 (by have := h0.cap.2; omega)) ?_
 refine oKD [] [] 1 [] 0 (fun φ5 => [(0, .slice a0 (min L.length 5) c0)]) (fun φ5 => []) s (fun φ5 => by kernel_rfl) (by kernel_rfl) ?_
 intro φ5 w5 s
 refine seqR ?_
 refine oKD [] [] 1 [] 0 (fun φ6 => [(5, .slice none 0 0)]) (fun φ6 => []) s (fun φ6 => by kernel_rfl) (by kernel_rfl) ?_
 intro φ6 w6 s
 refine seqR ?_
 refine oKD [] [] 1 [] 0 (fun φ7 => [(6, .slice none 0 0)]) (fun φ7 => []) s (fun φ7 => by kernel_rfl) (by kernel_rfl) ?_
 intro φ7 w7 s
 refine wp_seq ?_
 refine seqR ?_
 refine oKD [] [] 3 [] 0 (fun φ8 => [(23, .int .i64 0), (22, .int .i64 (((min L.length 5) : Nat) : Int)), (21, .slice a0 (min L.length 5) c0)]) (fun φ8 => []) s (fun φ8 => by kernel_rfl) (by kernel_rfl) ?_
 intro φ8 w8 s
 refine wp_block ?_
 have hle9 := IM.Le.refl I2
 refine loop_rule (fun (x : Nat × Value × List OB × Value × List OB × List Value) => [(0, .slice a0 (min L.length 5) c0), (1, .int .u8 t.toNat), (4, .bool false), (21, .slice a0 (min L.length 5) c0), (22, .int .i64 (((min L.length 5) : Nat) : Int)), (23, .int .i64 x.1), (5, x.2.1), (6, x.2.2.2.1)]) (fun (x : Nat × Value × List OB × Value × List OB × List Value) => [] ++ (x.2.2.1 ++ x.2.2.2.2.1)) (fun m (x : Nat × Value × List OB × Value × List OB × List Value) J => IM.Le I2 J ∧ x.1 + m = (min L.length 5) ∧ RowH 5 1 x.2.1 (allC (((L.take (min L.length 5)).take x.1).map madeF)).length ((allC (((L.take (min L.length 5)).take x.1).map madeF)).map bV) x.2.2.1 ∧ RowH 26 1 x.2.2.2.1 x.1 x.2.2.2.2.2 x.2.2.2.2.1 ∧ CSm J (((L.take (min L.length 5)).take x.1).map madeF) x.2.2.2.2.2) ((min L.length 5)) (0, (.slice none 0 0), [], (.slice none 0 0), [], []) s (by kernel_rfl) (List.Sublist.refl _) ⟨IM.Le.refl _, Nat.zero_add _, (RowH.nil 5 1), (RowH.nil 26 1), (csm_nil _)⟩ ?_
 rintro m10 ⟨i10, v10, F10, u10, G10, T10⟩ I10 w10 ev10 s ⟨le10, hi10_0, hi10_1, hi10_2, hi10_3⟩
 try dsimp only at s hi10_0 hi10_1 hi10_2 hi10_3 ⊢
 replace h8 := SFl.mono le10 h8
 replace hN := Tx.NmT.mono le10 hN
 replace hT := Tx.U8.mono le10 hT
 replace hle9 := leMono le10 hle9
 refine seqR ?_
 refine oK [] (F10 ++ G10) 1 [] 0 (fun φ11 => [(24, .bool (decide (((i10 : Nat) : Int) < (((min L.length 5) : Nat) : Int))))]) (fun φ11 => []) s (fun φ11 => by kernel_rfl) ?_
 intro φ11 w11 s
 rw [nat_lss (a := i10) (b := (min L.length 5))]
 refine ops_done (by kernel_rfl) ?_
 refine wp_seq ?_
 rcases Bool.eq_false_or_eq_true (decide (i10 < (min L.length 5))) with hc12 | hc12
 ·
  rw [hc12]
  refine cond_true_rule (b := true) (by kernel_rfl) rfl ?_
  refine wp_skip ?_
  refine wp_seq ?_
  refine wp_block ?_
  refine seqR ?_
  refine sem_rule (Instr.indexAt 83 (.slice a0 (min L.length 5) c0) (.int .i64 i10)) (some 25) (.pointer (pAt a0 i10)) (by kernel_rfl) (sfl_idx83 h8 (by rw [take5_len]; have hq0 := dT9 hc12; have e8 := hi10_0; omega)) ?_
  have hi13 : i10 < (L.take (min L.length 5)).length := by rw [take5_len]; have hq0 := dT9 hc12; have e8 := hi10_0; omega
  obtain ⟨a13, c13, hr13, hb13⟩ := sfl_ld22 s.sub h8 hi13
  refine sem_rule (Instr.loadAt 22 (.pointer (pAt a0 i10))) (some 26) (.slice a13 (List.length ((L.take (min L.length 5)).getD i10 [])) c13) (by kernel_rfl) hr13 ?_
  refine oKD [] (F10 ++ G10) 1 [] 0 (fun φ14 => [(8, .slice a13 (List.length ((L.take (min L.length 5)).getD i10 [])) c13)]) (fun φ14 => []) s (fun φ14 => by kernel_rfl) (by kernel_rfl) ?_
  intro φ14 w14 s
  refine seqR ?_
  refine oK [] (F10 ++ G10) 1 [] 0 (fun φ15 => [(28, .slice a13 (List.length ((L.take (min L.length 5)).getD i10 [])) c13)]) (fun φ15 => []) s (fun φ15 => by kernel_rfl) ?_
  intro φ15 w15 s
  refine call_rule (some 29) s (madeP_c hb13 (hB _ (mem_takeD hi13)) hN hT) (by kernel_rfl) ?_
  intro v16 I16 w16 le16 h16 s
  replace hN := Tx.NmT.mono le16 hN
  replace hT := Tx.U8.mono le16 hT
  replace hle9 := leMono le16 hle9
  replace hi10_3 := CSm.mono le16 hi10_3
  obtain ⟨a16, c16, b16, d16, rfl, h16_0, h16_1⟩ := h16
  refine oAD [] (F10 ++ G10) 6 [.o 0] 1 (fun φ17 => [(10, .slice b16 (List.length (madeF ((L.take (min L.length 5)).getD i10 []))) d16), (9, pB (φ17 0)), (31, .slice b16 (List.length (madeF ((L.take (min L.length 5)).getD i10 []))) d16), (30, .agg #[.slice a16 (List.length (madeF ((L.take (min L.length 5)).getD i10 []))) c16]), (27, .tuple #[.agg #[.slice a16 (List.length (madeF ((L.take (min L.length 5)).getD i10 []))) c16], .slice b16 (List.length (madeF ((L.take (min L.length 5)).getD i10 []))) d16])]) (fun φ17 => [(φ17 0, .cells #[.slice a16 (List.length (madeF ((L.take (min L.length 5)).getD i10 []))) c16] 26)]) (fun φ17 => [(φ17 0)]) s (fun φ17 => by kernel_rfl) (by kernel_rfl) ?_
  intro φ17 w17 s
  refine seqR ?_
  refine oA _ (F10 ++ G10) 3 [.o 0] 1 (fun φ18 => [(34, .slice (some ⟨(φ18 0), 0, none⟩) 1 1), (33, .agg #[.slice a16 (List.length (madeF ((L.take (min L.length 5)).getD i10 []))) c16]), (32, u10)]) (fun φ18 => [(φ17 0, .cells #[.slice a16 (List.length (madeF ((L.take (min L.length 5)).getD i10 []))) c16] 26), (φ18 0, .cells #[.slice a16 (List.length (madeF ((L.take (min L.length 5)).getD i10 []))) c16] 26)]) (fun φ18 => [(φ17 0)]) s (fun φ18 => by kernel_rfl) ?_
  intro φ18 w18 s
  replace s := St.perm (H' := ([((φ17 0), .cells #[.slice a16 (List.length (madeF ((L.take (min L.length 5)).getD i10 []))) c16] 26), ((φ18 0), .cells #[.slice a16 (List.length (madeF ((L.take (min L.length 5)).getD i10 []))) c16] 26)] ++ F10) ++ G10) s perm_a
  refine append_rule (H := ([(φ17 0, .cells #[.slice a16 (List.length (madeF ((L.take (min L.length 5)).getD i10 []))) c16] 26), (φ18 0, .cells #[.slice a16 (List.length (madeF ((L.take (min L.length 5)).getD i10 []))) c16] 26)] ++ F10)) (F := G10) 84 84 26 Tryd.t26 (.agg #[.slice none 0 0]) 1 24 (some 35) s Tryd.underlying84 (by kernel_rfl) (by kernel_rfl) (by kernel_rfl) (by kernel_rfl) (by kernel_rfl) (by decide) hi10_2 (src_own (H := ([(φ17 0, .cells #[.slice a16 (List.length (madeF ((L.take (min L.length 5)).getD i10 []))) c16] 26), (φ18 0, .cells #[.slice a16 (List.length (madeF ((L.take (min L.length 5)).getD i10 []))) c16] 26)] ++ F10)) s 1 (φ18 0) #[.slice a16 (List.length (madeF ((L.take (min L.length 5)).getD i10 []))) c16] 26 84 26 1 1 1 [.slice a16 (List.length (madeF ((L.take (min L.length 5)).getD i10 []))) c16] (by kernel_rfl) Tryd.underlying84 (by kernel_rfl) (by kernel_rfl) (by kernel_rfl)) (by have hq0 := dT9 hc12; have e8 := hi10_0; simp only [maxLen]; omega) (by have hq0 := dT9 hc12; have e8 := hi10_0; omega) (by kernel_rfl) ?_
  intro v19 w19 F19 s h19
  replace s := St.perm (H' := [((φ17 0), .cells #[.slice a16 (List.length (madeF ((L.take (min L.length 5)).getD i10 []))) c16] 26), ((φ18 0), .cells #[.slice a16 (List.length (madeF ((L.take (min L.length 5)).getD i10 []))) c16] 26)] ++ (F10 ++ F19)) s perm_c
  have ht19 := csm_snoc hi10_3 h16_0
  rw [mad_snoc hi13] at ht19
  refine oKD _ (F10 ++ F19) 1 [] 0 (fun φ20 => [(6, v19)]) (fun φ20 => []) s (fun φ20 => by kernel_rfl) (by kernel_rfl) ?_
  intro φ20 w20 s
  replace s := St.perm (H' := ([((φ17 0), .cells #[.slice a16 (List.length (madeF ((L.take (min L.length 5)).getD i10 []))) c16] 26), ((φ18 0), .cells #[.slice a16 (List.length (madeF ((L.take (min L.length 5)).getD i10 []))) c16] 26)] ++ F19) ++ F10) s perm_b
  obtain ⟨J21, le21, hk21, s⟩ := freeze_row (H := [((φ17 0), .cells #[.slice a16 (List.length (madeF ((L.take (min L.length 5)).getD i10 []))) c16] 26), ((φ18 0), .cells #[.slice a16 (List.length (madeF ((L.take (min L.length 5)).getD i10 []))) c16] 26)] ++ F19) (F := F10) s hi10_1
  obtain ⟨a21, c21, hv21, -, hk21⟩ := hk21.open
  subst hv21
  replace hN := Tx.NmT.mono le21 hN
  replace hT := Tx.U8.mono le21 hT
  replace hle9 := leMono le21 hle9
  replace hi10_3 := CSm.mono le21 hi10_3
  replace h16_0 := FSl.mono le21 h16_0
  replace ht19 := CSm.mono le21 ht19
  refine region_rule ?_
  refine oK _ F19 2 [.o 0] 0 (fun φ22 => [(37, .agg #[.slice a16 (List.length (madeF ((L.take (min L.length 5)).getD i10 []))) c16]), (36, .slice a21 (List.length (allC (((L.take (min L.length 5)).take i10).map madeF))) c21)]) (fun φ22 => [(φ17 0)]) s (fun φ22 => by kernel_rfl) ?_
  intro φ22 w22 s
  refine callM_rule (Hi := []) (Hr := [(φ17 0, .cells #[.slice a16 (List.length (madeF ((L.take (min L.length 5)).getD i10 []))) c16] 26), (φ18 0, .cells #[.slice a16 (List.length (madeF ((L.take (min L.length 5)).getD i10 []))) c16] 26)] ++ F19) (some 38) s (putCardM_c hk21 (by have := all_len (Ls := (L.take (min L.length 5)).take i10) (n := 5) (by rw [List.length_take, take5_len]; omega); omega) h16_0 (Nat.le_trans made_len (by decide)) made_ok) (by kernel_rfl) ?_
  intro v23 I23 w23 F23 le23 h23 s
  replace s := St.perm (H' := [((φ17 0), .cells #[.slice a16 (List.length (madeF ((L.take (min L.length 5)).getD i10 []))) c16] 26), ((φ18 0), .cells #[.slice a16 (List.length (madeF ((L.take (min L.length 5)).getD i10 []))) c16] 26)] ++ (F23 ++ F19)) s perm_d
  replace hN := Tx.NmT.mono le23 hN
  replace hT := Tx.U8.mono le23 hT
  replace hle9 := leMono le23 hle9
  replace hi10_3 := CSm.mono le23 hi10_3
  replace ht19 := CSm.mono le23 ht19
  replace h23 := row_eqB (l2 := (allC (((L.take (min L.length 5)).take (i10 + 1)).map madeF))) h23 (by rw [allC_snoc, mad_snoc hi13])
  refine oKD _ (F23 ++ F19) 1 [] 0 (fun φ24 => [(5, v23)]) (fun φ24 => []) s (fun φ24 => by kernel_rfl) (by kernel_rfl) ?_
  intro φ24 w24 s
  refine region_rule ?_
  refine oK _ (F23 ++ F19) 2 [] 0 (fun φ25 => [(23, .int .i64 (IntKind.wrap .i64 (((i10 : Nat) : Int) + ((1 : Nat) : Int)))), (39, .int .i64 (IntKind.wrap .i64 (((i10 : Nat) : Int) + ((1 : Nat) : Int))))]) (fun φ25 => []) s (fun φ25 => by kernel_rfl) ?_
  intro φ25 w25 s
  rw [nat_addI (a := i10) (b := 1) (by have e8 := hi10_0; have hq0 := dT9 hc12; omega)]
  refine ops_done (by kernel_rfl) ?_
  exact ⟨⟨m10 - 1, (i10 + 1, v23, F23, v19, F19, (T10 ++ [.slice a16 (List.length (madeF ((L.take (min L.length 5)).getD i10 []))) c16])), _, _, _, by have hq0 := dT9 hc12; have := hi10_0; omega, rfl, s, (List.Sublist.append (List.Sublist.cons _ (List.Sublist.cons _ List.Sublist.slnil)) (List.Sublist.refl _)), by kernel_rfl, hle9, by have hq0 := dT9 hc12; have := hi10_0; show i10 + 1 + (m10 - 1) = (min L.length 5); omega, h23, h19, ht19⟩⟩
 ·
  rw [hc12]
  refine cond_false_rule (b := false) (by kernel_rfl) rfl ?_
  refine wp_exit ?_
  refine wp_seq ?_
  have ei26 : (L.take (min L.length 5)).take i10 = (L.take (min L.length 5)) := List.take_of_length_le (by rw [take5_len]; have hq0 := dF9 hc12; have := hi10_0; omega)
  replace s := St.perm (H' := ([] ++ F10) ++ G10) s perm_a
  obtain ⟨J26, le26, hk26, s⟩ := freeze_row26 (H := [] ++ F10) (F := G10) s hi10_2 hi10_3
  rw [ei26] at hk26
  have hp26 := hi10_1
  rw [ei26] at hp26
  obtain ⟨a26, c26, hv26, -, hk26⟩ := hk26.open
  subst hv26
  replace hN := Tx.NmT.mono le26 hN
  replace hT := Tx.U8.mono le26 hT
  have hal := all_len (Ls := (L.take (min L.length 5))) (n := 5) (by rw [take5_len]; omega)
  refine region_rule ?_
  refine oA [] F10 3 [] 1 (fun φ27 => [(42, .slice (some ⟨(φ27 0), 0, none⟩) 1 1), (41, .int .u8 t.toNat), (40, v10)]) (fun φ27 => [(φ27 0, .cells #[.int .u8 t.toNat] 5)]) (fun φ27 => []) s (fun φ27 => by kernel_rfl) ?_
  intro φ27 w27 s
  refine append_rule (H := [(φ27 0, .cells #[.int .u8 t.toNat] 5)]) (F := F10) 61 61 5 Tryd.t5 (.int .u8 0) 1 1 (some 43) s Tryd.underlying61 (by kernel_rfl) (by kernel_rfl) (by kernel_rfl) (by kernel_rfl) (by kernel_rfl) (by decide) hp26 (src_own (H := [(φ27 0, .cells #[.int .u8 t.toNat] 5)]) s 0 (φ27 0) #[.int .u8 t.toNat] 5 61 5 1 1 1 [.int .u8 t.toNat] (by kernel_rfl) under34 (by kernel_rfl) (by kernel_rfl) (by kernel_rfl)) (by (try simp only [maxLen, List.length_append, List.length_cons, List.length_nil]); omega) (by (try simp only [maxLen, List.length_append, List.length_cons, List.length_nil]); omega) (by kernel_rfl) ?_
  intro v28 w28 F28 s h28
  replace h28 : RowH 5 1 v28 (((allC ((L.take (min L.length 5)).map madeF)) ++ ([UInt8.ofNat t.toNat] : List UInt8)).length) (((allC ((L.take (min L.length 5)).map madeF)) ++ ([UInt8.ofNat t.toNat] : List UInt8)).map bV) F28 := row_snoc (x := (allC ((L.take (min L.length 5)).map madeF))) (y := ([UInt8.ofNat t.toNat] : List UInt8)) h28 (by simp only [List.map_cons, List.map_nil]; exact cells_bytes1 (by have := UInt8.toNat_lt t; omega))
  have hr29 := row_eqB (l2 := (allC ((L.take (min L.length 5)).map madeF) ++ [t])) h28 (by rw [UInt8.ofNat_toNat])
  obtain ⟨J29, le29, hk29, s⟩ := freeze_row (H := [((φ27 0), .cells #[.int .u8 ((t.toNat : Nat) : Int)] 5)]) (F := F28) s hr29
  obtain ⟨a29, c29, hv29, -, hk29⟩ := hk29.open
  subst hv29
  have hn9 : (List.length (allC ((L.take (min L.length 5)).map madeF) ++ [t])) ≤ 1000000 := by rw [List.length_append]; simp only [List.length_cons, List.length_nil]; omega
  replace hN := Tx.NmT.mono le29 hN
  replace hT := Tx.U8.mono le29 hT
  replace hk26 := SFl.mono le29 hk26
  refine callF_rule (H := [(φ27 0, .cells #[.int .u8 t.toNat] 5)]) (F := []) (some 44) s (newIn_c hk29 hn9) (by kernel_rfl) ?_
  rintro v30 I30 w30 F30 le30 ⟨b30, a30, c30, rfl, rfl, hb30⟩ s
  replace hN := Tx.NmT.mono le30 hN
  replace hT := Tx.U8.mono le30 hT
  replace hk26 := SFl.mono le30 hk26
  refine oKD [(φ27 0, .cells #[.int .u8 t.toNat] 5), (b30, .cells #[.slice a30 (List.length (allC ((L.take (min L.length 5)).map madeF) ++ [t])) c30, .int .i64 0] 126)] [] 1 [] 0 (fun φ31 => [(11, pB b30)]) (fun φ31 => []) s (fun φ31 => by kernel_rfl) (by kernel_rfl) ?_
  intro φ31 w31 s
  refine wp_seq ?_
  refine seqR ?_
  refine oKD _ [] 3 [] 0 (fun φ32 => [(47, .int .i64 0), (46, .int .i64 (((List.length ((L.take (min L.length 5)).map madeF)) : Nat) : Int)), (45, .slice a26 (List.length ((L.take (min L.length 5)).map madeF)) c26)]) (fun φ32 => []) s (fun φ32 => by kernel_rfl) (by kernel_rfl) ?_
  intro φ32 w32 s
  refine wp_block ?_
  replace s := St.drop (H' := [(b30, .cells #[.slice a30 (List.length (allC ((L.take (min L.length 5)).map madeF) ++ [t])) c30, .int .i64 0] 126)]) s (List.Sublist.cons _ (List.Sublist.cons₂ _ List.Sublist.slnil))
  have hle33 := IM.Le.refl I30
  refine loop_rule (fun (x : Nat × List UInt8 × Option Addr × Nat) => [(1, .int .u8 t.toNat), (4, .bool false), (11, pB b30), (45, .slice a26 (List.length ((L.take (min L.length 5)).map madeF)) c26), (46, .int .i64 (((List.length ((L.take (min L.length 5)).map madeF)) : Nat) : Int)), (47, .int .i64 x.1)]) (fun (x : Nat × List UInt8 × Option Addr × Nat) => [(b30, .cells #[.slice x.2.2.1 (List.length x.2.1) x.2.2.2, .int .i64 0] 126)]) (fun m (x : Nat × List UInt8 × Option Addr × Nat) J => IM.Le I30 J ∧ x.1 + m = (List.length ((L.take (min L.length 5)).map madeF)) ∧ BSl J x.2.1 (.slice x.2.2.1 (List.length x.2.1) x.2.2.2) ∧ x.2.1 = allC (((L.take (min L.length 5)).map madeF).drop x.1) ++ [t]) ((List.length ((L.take (min L.length 5)).map madeF))) (0, (allC ((L.take (min L.length 5)).map madeF) ++ [t]), a30, c30) s (by kernel_rfl) (List.Sublist.cons₂ _ List.Sublist.slnil) ⟨IM.Le.refl _, Nat.zero_add _, hb30, rfl⟩ ?_
  rintro m34 ⟨i34, R34, a34, c34⟩ I34 w34 ev34 s ⟨le34, hi34_0, hi34_1, hi34_2⟩
  try dsimp only at s hi34_0 hi34_1 hi34_2 ⊢
  replace hN := Tx.NmT.mono le34 hN
  replace hT := Tx.U8.mono le34 hT
  replace hk26 := SFl.mono le34 hk26
  replace hle33 := leMono le34 hle33
  have hnR := rest_len hi34_2 (by rw [take5_len]; omega)
  refine seqR ?_
  refine oK [(b30, .cells #[.slice a34 (List.length R34) c34, .int .i64 0] 126)] [] 1 [] 0 (fun φ35 => [(48, .bool (decide (((i34 : Nat) : Int) < (((List.length ((L.take (min L.length 5)).map madeF)) : Nat) : Int))))]) (fun φ35 => []) s (fun φ35 => by kernel_rfl) ?_
  intro φ35 w35 s
  rw [nat_lss (a := i34) (b := (List.length ((L.take (min L.length 5)).map madeF)))]
  refine ops_done (by kernel_rfl) ?_
  refine wp_seq ?_
  rcases Bool.eq_false_or_eq_true (decide (i34 < (List.length ((L.take (min L.length 5)).map madeF)))) with hc36 | hc36
  ·
   rw [hc36]
   refine cond_true_rule (b := true) (by kernel_rfl) rfl ?_
   refine wp_skip ?_
   refine wp_seq ?_
   refine wp_block ?_
   refine seqR ?_
   refine sem_rule (Instr.indexAt 84 (.slice a26 (List.length ((L.take (min L.length 5)).map madeF)) c26) (.int .i64 i34)) (some 49) (.pointer (pAt a26 i34)) (by kernel_rfl) (sfl_idx84 hk26 (by rw [List.length_map, take5_len]; have hq0 := dF9 hc12; have hq1 := dT9 hc36; have e8 := hi34_0; rw [List.length_map, take5_len] at e8; omega)) ?_
   have hi37 : i34 < (L.take (min L.length 5)).length := by rw [take5_len]; have hq0 := dF9 hc12; have hq1 := dT9 hc36; have e8 := hi34_0; rw [List.length_map, take5_len] at e8; omega
   obtain ⟨a37, c37, hr37, hb37⟩ := sfl_ld26 s.sub hk26 (by rw [List.length_map]; exact hi37)
   rw [made_getD hi37] at hr37 hb37
   refine sem_rule (Instr.loadAt 26 (.pointer (pAt a26 i34))) (some 50) (.agg #[.slice a37 (List.length (madeF ((L.take (min L.length 5)).getD i34 []))) c37]) (by kernel_rfl) hr37 ?_
   refine oAD _ [] 2 [.o 1] 1 (fun φ38 => [(13, pB (φ38 0))]) (fun φ38 => [(b30, .cells #[.slice a34 (List.length R34) c34, .int .i64 0] 126), (φ38 0, .cells #[.slice a37 (List.length (madeF ((L.take (min L.length 5)).getD i34 []))) c37] 26)]) (fun φ38 => [(φ38 0)]) s (fun φ38 => by kernel_rfl) (by kernel_rfl) ?_
   intro φ38 w38 s
   refine wp_seq ?_
   obtain ⟨I39, le39, hk39, s⟩ := s.freezeAt 1 (φ38 0) (.cells #[.slice a37 (List.length (madeF ((L.take (min L.length 5)).getD i34 []))) c37] 26) [(b30, .cells #[.slice a34 (List.length R34) c34, .int .i64 0] 126)] (by kernel_rfl) (by kernel_rfl)
   replace hN := Tx.NmT.mono le39 hN
   replace hT := Tx.U8.mono le39 hT
   replace hle33 := leMono le39 hle33
   replace hi34_1 := BSl.mono le39 hi34_1
   replace hb37 := FSl.mono le39 hb37
   have hH40 := IM.Le.refl I39
   refine held_begin (n := 10) (SubS I39) (by kernel_rfl) (by kernel_rfl) ?_
   replace s := St.drew s
   refine held_take (fuel := 9) [] [] 0 (pB b30) (some 51) [] (I := I39) trivial (by kernel_rfl) (by kernel_rfl) (by kernel_rfl) (by kernel_rfl) (by kernel_rfl) (fun _ d' _ _ _ h => by cases d' <;> exact h) (by kernel_rfl) (by kernel_rfl) s.sub ?_
   refine held_take (fuel := 8) [(φ38 0, .cells #[.slice a37 (List.length (madeF ((L.take (min L.length 5)).getD i34 []))) c37] 26)] [.c 0] 2 (.agg #[.slice a37 (List.length (madeF ((L.take (min L.length 5)).getD i34 []))) c37]) (some 53) [(φ38 0)] (I := I39) ⟨hk39, trivial⟩ (by kernel_rfl) (by kernel_rfl) (by kernel_rfl) (by kernel_rfl) (by kernel_rfl) (fun _ d' _ _ _ h => by cases d' <;> exact h) (by kernel_rfl) (by kernel_rfl) s.sub ?_
   refine held_one (fuel := 7) 1 (by kernel_rfl) (by kernel_rfl) ?_
   refine callB_rule (b := (b30, .cells #[.slice a34 (List.length R34) c34, .int .i64 0] 126)) (H := [(b30, .cells #[.slice a34 (List.length R34) c34, .int .i64 0] 126)]) (F := []) (Hr := []) (some 52) 0 s (by kernel_rfl) (by kernel_rfl) (getCard_c (r := b30) hi34_1 hnR hN hT) (by kernel_rfl) ?_
   rintro v41 I41 w41 b41 le41 - ⟨Fs41, E41, L41, a41, d41, k41, c41, e41, rfl, rfl, hs41, hg41, hn41, hf41⟩ s
   obtain ⟨rfl, rfl, rfl⟩ := card_next hi34_2 hi37 hg41
   obtain ⟨rfl, -⟩ := hs41.cap
   replace hle33 := leMono le41 hle33
   replace hi34_1 := BSl.mono le41 hi34_1
   replace hb37 := FSl.mono le41 hb37
   replace hH40 := leMono le41 hH40
   refine ops_done (by kernel_rfl) ?_
   refine held_next s hH40 ?_
   refine held_one (fuel := 6) 3 (by kernel_rfl) (by kernel_rfl) ?_
   refine call_rule (some 54) s (sameS_c hf41 hb37 (Nat.le_trans made_len (by decide))) (by kernel_rfl) ?_
   intro v42 I42 w42 le42 h42 s
   replace hle33 := leMono le42 hle33
   replace hi34_1 := BSl.mono le42 hi34_1
   replace hH40 := leMono le42 hH40
   replace hs41 := BSl.mono le42 hs41
   obtain rfl := h42
   refine ops_done (by kernel_rfl) ?_
   refine held_next s hH40 ?_
   refine held_one (fuel := 5) 4 (by kernel_rfl) (by kernel_rfl) ?_
   refine oKD _ [] 1 [] 0 (fun φ43 => [(55, .bool false)]) (fun φ43 => []) s (fun φ43 => by kernel_rfl) (by kernel_rfl) ?_
   intro φ43 w43 s
   refine held_next s hH40 ?_
   refine held_take (fuel := 4) [] [] 5 (.bool false) (some 56) [] (I := I39) trivial (by kernel_rfl) (by kernel_rfl) (by kernel_rfl) (by kernel_rfl) (by kernel_rfl) (fun _ d' _ _ _ h => by cases d' <;> exact h) (by kernel_rfl) (by kernel_rfl) (fun k o hk => s.sub k o (hH40 k o hk)) ?_
   refine held_take (fuel := 3) [] [] 6 (pB b30) (some 57) [] (I := I39) trivial (by kernel_rfl) (by kernel_rfl) (by kernel_rfl) (by kernel_rfl) (by kernel_rfl) (fun _ d' _ _ _ h => by cases d' <;> exact h) (by kernel_rfl) (by kernel_rfl) (fun k o hk => s.sub k o (hH40 k o hk)) ?_
   refine held_one (fuel := 2) 7 (by kernel_rfl) (by kernel_rfl) ?_
   refine callB_rule (b := (b30, .cells #[.slice a41 (List.length (allC (((L.take (min L.length 5)).map madeF).drop (i34 + 1)) ++ [t])) c41, .int .i64 0] 126)) (F := []) (Hr := []) (some 58) 0 s (by kernel_rfl) (by kernel_rfl) (err_c (r := b30) (e := 0) hs41 hn41) (by kernel_rfl) ?_
   rintro v44 I44 w44 b44 le44 - h44 s
   replace hle33 := leMono le44 hle33
   replace hi34_1 := BSl.mono le44 hi34_1
   replace hH40 := leMono le44 hH40
   replace hs41 := BSl.mono le44 hs41
   obtain ⟨rfl, rfl⟩ := h44
   refine ops_done (by kernel_rfl) ?_
   refine held_next s hH40 ?_
   refine held_one (fuel := 1) 8 (by kernel_rfl) (by kernel_rfl) ?_
   refine oKD _ [] 1 [] 0 (fun φ45 => [(59, .bool false)]) (fun φ45 => []) s (fun φ45 => by kernel_rfl) (by kernel_rfl) ?_
   intro φ45 w45 s
   refine held_next s hH40 ?_
   refine held_one (fuel := 0) 9 (by kernel_rfl) (by kernel_rfl) ?_
   refine oKD _ [] 1 [] 0 (fun φ46 => [(60, .bool false)]) (fun φ46 => []) s (fun φ46 => by kernel_rfl) (by kernel_rfl) ?_
   intro φ46 w46 s
   refine held_next s hH40 ?_
   refine Go.wpAnyH_done (by kernel_rfl) ?_ _
   refine cond_false_rule (b := false) (by kernel_rfl) rfl ?_
   refine wp_skip ?_
   refine region_rule ?_
   refine oK _ [] 2 [] 0 (fun φ47 => [(47, .int .i64 (IntKind.wrap .i64 (((i34 : Nat) : Int) + ((1 : Nat) : Int)))), (61, .int .i64 (IntKind.wrap .i64 (((i34 : Nat) : Int) + ((1 : Nat) : Int))))]) (fun φ47 => []) s (fun φ47 => by kernel_rfl) ?_
   intro φ47 w47 s
   rw [nat_addI (a := i34) (b := 1) (by have e8 := hi34_0; rw [List.length_map, take5_len] at e8; have hq0 := dF9 hc12; have hq1 := dT9 hc36; omega)]
   refine ops_done (by kernel_rfl) ?_
   exact ⟨⟨m34 - 1, (i34 + 1, (allC (((L.take (min L.length 5)).map madeF).drop (i34 + 1)) ++ [t]), a41, c41), _, _, _, by have hq0 := dF9 hc12; have hq1 := dT9 hc36; have := hi34_0; omega, rfl, s, (List.Sublist.cons₂ _ List.Sublist.slnil), by kernel_rfl, hle33, by have hq0 := dF9 hc12; have hq1 := dT9 hc36; have := hi34_0; show i34 + 1 + (m34 - 1) = (List.length ((L.take (min L.length 5)).map madeF)); omega, hs41, rfl⟩⟩
  ·
   rw [hc36]
   refine cond_false_rule (b := false) (by kernel_rfl) rfl ?_
   refine wp_exit ?_
   have eR48 := all_end hi34_2 (by rw [take5_len]; have hq0 := dF9 hc12; have hq1 := dF9 hc36; have e8 := hi34_0; rw [List.length_map, take5_len] at e8; have e9 : (List.length ((L.take (min L.length 5)).map madeF)) = (min L.length 5) := (by rw [List.length_map, take5_len]); omega)
   subst eR48
   refine seqR ?_
   refine oK _ [] 1 [] 0 (fun φ49 => [(62, pB b30)]) (fun φ49 => []) s (fun φ49 => by kernel_rfl) ?_
   intro φ49 w49 s
   refine callB_rule (b := (b30, .cells #[.slice a34 1 c34, .int .i64 0] 126)) (F := []) (Hr := []) (some 63) 0 s (by kernel_rfl) (by kernel_rfl) (leftI_c (r := b30) (e := 0) (k := 1)) (by kernel_rfl) ?_
   rintro v50 I50 w50 b50 le50 - h50 s
   replace hi34_1 := BSl.mono le50 hi34_1
   obtain ⟨rfl, rfl⟩ := h50
   refine oK _ [] 3 [] 0 (fun φ51 => [(66, pB b30), (65, .bool true), (64, .bool true)]) (fun φ51 => []) s (fun φ51 => by kernel_rfl) ?_
   intro φ51 w51 s
   refine callB_rule (b := (b30, .cells #[.slice a34 1 c34, .int .i64 0] 126)) (F := []) (Hr := []) (some 67) 0 s (by kernel_rfl) (by kernel_rfl) (byteT_c (r := b30) hi34_1) (by kernel_rfl) ?_
   rintro v52 I52 w52 b52 le52 - h52 s
   obtain ⟨a52, c52, rfl, rfl⟩ := h52
   refine oK _ [] 1 [] 0 (fun φ53 => [(68, .int .u8 t.toNat)]) (fun φ53 => []) s (fun φ53 => by kernel_rfl) ?_
   intro φ53 w53 s
   refine sem_rule (binOp .eql 5 (.int .u8 t.toNat) (.int .u8 t.toNat)) (some 69) (.bool true) (by kernel_rfl) (run_eqI5) ?_
   refine oK _ [] 3 [] 0 (fun φ54 => [(72, pB b30), (71, .bool true), (70, .bool true)]) (fun φ54 => []) s (fun φ54 => by kernel_rfl) ?_
   intro φ54 w54 s
   refine callB_rule (b := (b30, .cells #[.slice a52 0 c52, .int .i64 0] 126)) (F := []) (Hr := []) (some 73) 0 s (by kernel_rfl) (by kernel_rfl) (endI_c (r := b30)) (by kernel_rfl) ?_
   rintro v55 I55 w55 b55 le55 - h55 s
   obtain ⟨rfl, rfl⟩ := h55
   refine oKD _ [] 3 [] 0 (fun φ56 => [(4, .bool true), (75, .bool true), (74, .bool true)]) (fun φ56 => []) s (fun φ56 => by kernel_rfl) (by kernel_rfl) ?_
   intro φ56 w56 s
   refine wp_ret ?_
   refine ret_rule (C := []) _ [] (.bool true) [] [] s trivial (by kernel_rfl) ?_
   exact ⟨_, _, _, rfl, s, rfl⟩

end Go.Proofs.YtcpmjogeafhpnaaDoor
/- Slices of slices of fields that came in. -/
set_option linter.all false
set_option maxRecDepth 100000
namespace Go.Proofs.YtcpmjogeafhpnaaDoor
open Go.Sep
open Go.ChangeShapes Go.WideShapes Go.ChangeAt Go.RowKit
def SIn (I : IM) (L : List (List Fe)) (v : Value) : Prop := SFl I L v ∧ ∀ x ∈ L, x.length ≤ maxLen
theorem sin_open {H : Type} {enc : TypeId × Value → H} {w : World} {fuel : Nat} {a0 : Option Addr} {len0 cap0 : Nat} {x : DataW H × List MemPlace} (hf : DataW.trod enc Tryd.prog w 0 (fun _ => true) true fuel 83 [.slice a0 len0 cap0] = some x) :
    ∃ L, SIn (fun k => w.heap[k]?) L (.slice a0 len0 cap0) := by
  rcases Go.Deep.open_slice1 Tryd.underlying83 (by kernel_rfl) hf with ⟨hcs, _⟩ | ⟨a, len, cap, m, n, V, D, Pl, hcs, _, hl, _, hm, _, hx⟩
  · simp at hcs
    obtain ⟨rfl, rfl, rfl⟩ := hcs
    exact ⟨[], ⟨none, 0, rfl, by simp, fun j y hj => by simp at hj⟩, fun x hx => by simp at hx⟩
  · simp at hcs
    obtain ⟨rfl, rfl, rfl⟩ := hcs
    have hm' : m = cap0 := by simpa using hm
    subst hm'
    have one : ∀ i, i < len0 → ∃ l : List Fe, FSl (fun k => w.heap[k]?) l (V i) ∧ l.length ≤ maxLen := by
      intro i hi
      obtain ⟨_, h2⟩ := hx i (by omega)
      have hv : ∃ a n c, V i = .slice a n c := by
        rcases Go.Deep.open_slice Tryd.underlying22 h2 with ⟨hcs, _⟩ | ⟨a, len, cap, m, n, D, Pl, hcs, _⟩
        · simp at hcs
          exact ⟨_, _, _, hcs⟩
        · simp at hcs
          exact ⟨_, _, _, hcs⟩
      obtain ⟨a1, n1, c1, hv⟩ := hv
      rw [hv] at h2 ⊢
      obtain ⟨L, h, hl⟩ := fin_open h2
      exact ⟨L, h, hl⟩
    obtain ⟨f, hfn⟩ := Go.Deep.choose_lt one
    refine ⟨(List.range len0).map f, ⟨some a, m, by simp, by simpa using hl, fun j y hj => ?_⟩, fun y hy => ?_⟩
    · have hj' : j < len0 := by
        have := (List.getElem?_eq_some_iff.1 hj).1
        simpa using this
      have hy : y = f j := by simpa [hj'] using hj.symm
      subst hy
      obtain ⟨h1, _⟩ := hx j (by omega)
      obtain ⟨b, o, sp⟩ := a
      cases sp with
      | none =>
        have : (⟨b, o, none⟩ : Addr).add j = ⟨b, o + j, none⟩ := addr_addO b o j
        rw [this] at h1
        obtain ⟨cs, T, fr, e1, e2⟩ := cell_block h1
        exact ⟨b, o, cs, T, fr, V j, rfl, e1, e2, (hfn j hj').1⟩
      | some sp =>
        exfalso
        have h0 := (hx 0 (by omega)).1
        unfold World.cell? Addr.add at h0
        rw [if_pos rfl] at h0
        revert h0
        split <;> simp
    · obtain ⟨j, hj, rfl⟩ := List.mem_map.1 hy
      exact (hfn j (by simpa using hj)).2
end Go.Proofs.YtcpmjogeafhpnaaDoor
