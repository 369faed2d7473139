/- Patched by two patches. -/
import Derived.Test.YtcpmjogeafhpnaaDoorCmM25
import Derived.Test.YtcpmjogeafhpnaaDoorRows
import Derived.Test.YtcpmjogeafhpnaaDoorCmM24
import Derived.ProofKit
import Derived.LaidMore
import Derived.OpenShut
import Derived.Lay
import Derived.Stop.Joined
import Derived.Lib.LaidU8T
import Derived.Test.YtcpmjogeafhpnaaDoorCmM16
import Derived.Test.YtcpmjogeafhpnaaDoorCmM22
import Derived.WalkKit
import Derived.Deep.Slices
set_option linter.all false
set_option maxRecDepth 100000
namespace Go.Proofs.YtcpmjogeafhpnaaDoor
open Go.RowKit Go.Sep
attribute [local irreducible] Go.wpList Go.Code.wp

theorem run_neI27 {w : World} {z : Int} : (binOp .neq 27 (.int .i64 z) (.int .i64 z)).run Tryd.prog w = .ok (.bool false) w := by
  have e : (binOp .neq 27 (.int .i64 z) (.int .i64 z)).run Tryd.prog w = .ok (.bool (!(decide (z = z)))) w := by kernel_rfl
  rw [e, decide_eq_true rfl]; rfl
def shFe (x : Fe) : Prop := x.a.length ≤ 60 ∧ x.v.length ≤ 60
theorem fsl_two {I : IM} {k : Nat} {x y : Fe} (h : I k = some (.cells #[.int .i64 x.k, .string ⟨(x.a).toArray⟩, .string ⟨(x.v).toArray⟩, .int .i64 y.k, .string ⟨(y.a).toArray⟩, .string ⟨(y.v).toArray⟩] 39)) : FSl I [x, y] (.slice (some ⟨k, 0, none⟩) 2 2) := by
  refine ⟨some ⟨k, 0, none⟩, 2, rfl, Nat.le_refl _, fun j z hj => ?_⟩
  match j with
  | 0 => simp only [List.getElem?_cons_zero, Option.some.injEq] at hj; subst hj; exact ⟨k, 0, _, 39, (0, 0), rfl, h, rfl, rfl, rfl⟩
  | 1 => simp only [List.getElem?_cons_succ, List.getElem?_cons_zero, Option.some.injEq] at hj; subst hj; exact ⟨k, 0, _, 39, (0, 0), rfl, h, rfl, rfl, rfl⟩
  | j + 2 => simp at hj
theorem few2x_c {I : IM} {x y : Fe} {a0 : Option Addr} {c0 : Nat} (h0 : FSl I [x, y] (.slice a0 2 c0)) : Fun Tryd.prog 14 #[.slice a0 2 c0] I (fun v J => ∃ a c p q, v = .slice a 2 c ∧ FSl J [p, q] (.slice a 2 c) ∧ shFe p ∧ shFe q) :=
  (few_c (L := [x, y]) h0 (by simp)).mono fun v J _ ⟨a, c, hv, hf⟩ => ⟨a, c, cutFe x, cutFe y, hv, hf, few_short (L := [x, y]) _ (by simp [fewF]), few_short (L := [x, y]) _ (by simp [fewF])⟩
/-- without one of them; with another one -/
def mP (X : List Fe) (q : Fe) : List Fe := keepF (qP [q] []) X
def mgE (X : List Fe) (p q : Fe) : Nat := if 8 < (ins (mP X q) p).length then 8 else 0
def mgA (X : List Fe) (p q : Fe) : List Fe := if 8 < (ins (mP X q) p).length then mP X q else ins (mP X q) p
def mgB (X : List Fe) (p q : Fe) : List Fe := if 8 < (ins (mP X q) p).length then X else ins (mP X q) p
theorem keep_none {X : List Fe} : keepF (qP [] []) X = X := by
  unfold keepF
  rw [List.filter_eq_self]
  intro x _
  unfold qP; simp
theorem eRt_one {p : Fe} (h : rtFe p = 0) : eRt [p] = 0 := eRt_of fun x hx => by simp at hx; subst hx; exact h
theorem mg_drop {X : List Fe} {q : Fe} (h8 : X.length ≤ 8) : dcF X [] [q] [] = mP X q ∧ dcE X [] [q] [] = 0 := by
  have hk : (keepF (qP [q] []) X).length ≤ X.length := keep_len
  have e : ¬ 8 < (dcL X [] [q] []).length := by show ¬ 8 < (keepF (qP [q] []) X).length; omega
  have z : ¬ eRt [] ≠ 0 := not_not_intro rfl
  exact ⟨((if_neg z).trans (if_neg e)), (if_neg z).trans (if_neg e)⟩
theorem mg_add {X : List Fe} {p q : Fe} (hp : rtFe p = 0) : dcF (mP X q) [p] [] [] = mgA X p q ∧ dcE (mP X q) [p] [] [] = mgE X p q := by
  have z : ¬ eRt [p] ≠ 0 := not_not_intro (eRt_one hp)
  have e : dcL (mP X q) [p] [] [] = ins (mP X q) p := by
    show ins (keepF (qP [] []) (mP X q)) p = _
    rw [keep_none]
  refine ⟨(if_neg z).trans ?_, (if_neg z).trans ?_⟩
  · rw [e]; rfl
  · rw [e]; rfl
theorem mg_both {X : List Fe} {p q : Fe} (hp : rtFe p = 0) : dcF X [p] [q] [] = mgB X p q ∧ dcE X [p] [q] [] = mgE X p q := by
  have z : ¬ eRt [p] ≠ 0 := not_not_intro (eRt_one hp)
  have e : dcL X [p] [q] [] = ins (mP X q) p := rfl
  refine ⟨(if_neg z).trans ?_, (if_neg z).trans ?_⟩
  · rw [e]; rfl
  · rw [e]; rfl
theorem fold_self : ∀ (A X : List Fe), (∀ x ∈ A, x ∈ X) → A.foldl ins X = X
  | [], _, _ => rfl
  | x :: A, X, h => by
    simp only [List.foldl_cons]
    rw [ins_mem (h x (by simp))]
    exact fold_self A X fun y hy => h y (by simp [hy])
theorem mg_all {X : List Fe} (hr : ∀ x ∈ X, rtFe x = 0) (h8 : X.length ≤ 8) : dcF X X [] [] = X ∧ dcE X X [] [] = 0 := by
  have z : ¬ eRt X ≠ 0 := not_not_intro (eRt_of hr)
  have e : dcL X X [] [] = X := by
    show X.foldl ins (keepF (qP [] []) X) = X
    rw [keep_none]; exact fold_self X X fun _ h => h
  have n : ¬ 8 < (dcL X X [] []).length := by rw [e]; omega
  exact ⟨((if_neg z).trans (if_neg n)).trans e, (if_neg z).trans (if_neg n)⟩
theorem mg_0 {X : List Fe} {p q : Fe} (h : mgE X p q = 0) : mgA X p q = ins (mP X q) p ∧ mgB X p q = ins (mP X q) p := by
  have n : ¬ 8 < (ins (mP X q) p).length := fun g => by
    have : mgE X p q = 8 := if_pos g
    omega
  exact ⟨if_neg n, if_neg n⟩
theorem mg_has {X : List Fe} {p q : Fe} (h : mgE X p q = 0) : p ∈ mgB X p q := by rw [(mg_0 h).2]; exact mem_ins.2 (.inr rfl)
theorem mg_not {X : List Fe} {p q : Fe} (h : mgE X p q = 0) (hne : ¬ p = q) : q ∉ mgB X p q := by
  rw [(mg_0 h).2, mem_ins]
  rintro (r | r)
  · have := (mem_keep.1 r).2
    unfold qP at this
    simp at this
  · exact hne r.symm
theorem mP_len {X : List Fe} {q : Fe} : (mP X q).length ≤ X.length := keep_len
theorem mgA_len {X : List Fe} {p q : Fe} (h : X.length ≤ 8) : (mgA X p q).length ≤ 8 := by
  have := mP_len (X := X) (q := q)
  unfold mgA; split <;> omega
theorem mgB_len {X : List Fe} {p q : Fe} (h : X.length ≤ 8) : (mgB X p q).length ≤ 8 := by
  unfold mgB; split <;> omega
theorem one_short {p : Fe} (h : shFe p) : shortL [p] := short_of fun x hx => by simp at hx; subst hx; exact ⟨Nat.le_trans h.1 (by decide), Nat.le_trans h.2 (by decide)⟩
theorem nil_short : shortL [] := fun i h => by simp at h
theorem dropM_c {I : IM} {L : List Fe} {q : Fe} {a0 aD : Option Addr} {c0 cD : Nat} (h0 : FSl I (madeF L) (.slice a0 (madeF L).length c0)) (hN : Tx.NmT I) (hT : Tx.U8 I) (hD : FSl I [q] (.slice aD 1 cD)) :
    Fun Tryd.prog 30 #[.agg #[.slice a0 (madeF L).length c0], .agg #[.slice none 0 0, .slice aD 1 cD, .slice none 0 0]] I (fun v J => ∃ a c, v = .tuple #[.agg #[.slice a (mP (madeF L) q).length c], .int .i64 0] ∧ FSl J (mP (madeF L) q) (.slice a (mP (madeF L) q).length c)) := by
  have r := patchD_c (A := []) (D := [q]) (K := []) h0 (Nat.le_trans made_len (by decide)) (made_asc L) hN hT (fsl_nil I) hD (isl_nil I) (by decide) (by simp) (by decide) nil_short
  rw [(mg_drop made_len).1, (mg_drop made_len).2] at r; exact r
theorem addM_c {I : IM} {L : List Fe} {p q : Fe} {a0 aA : Option Addr} {c0 cA : Nat} (h0 : FSl I (mP (madeF L) q) (.slice a0 (mP (madeF L) q).length c0)) (hN : Tx.NmT I) (hT : Tx.U8 I) (hA : FSl I [p] (.slice aA 1 cA)) (hp : rtFe p = 0) (hs : shFe p) :
    Fun Tryd.prog 30 #[.agg #[.slice a0 (mP (madeF L) q).length c0], .agg #[.slice aA 1 cA, .slice none 0 0, .slice none 0 0]] I (fun v J => ∃ a c, v = .tuple #[.agg #[.slice a (mgA (madeF L) p q).length c], .int .i64 ((mgE (madeF L) p q : Nat) : Int)] ∧ FSl J (mgA (madeF L) p q) (.slice a (mgA (madeF L) p q).length c)) := by
  have r := patchD_c (A := [p]) (D := []) (K := []) h0 (Nat.le_trans mP_len (Nat.le_trans made_len (by decide))) (asc_keep (made_asc L)) hN hT hA (fsl_nil I) (isl_nil I) (by simp) (by decide) (by decide) (one_short hs)
  rw [(mg_add hp).1, (mg_add hp).2] at r; exact r
theorem bothM_c {I : IM} {L : List Fe} {p q : Fe} {a0 aA aD : Option Addr} {c0 cA cD : Nat} (h0 : FSl I (madeF L) (.slice a0 (madeF L).length c0)) (hN : Tx.NmT I) (hT : Tx.U8 I) (hA : FSl I [p] (.slice aA 1 cA)) (hD : FSl I [q] (.slice aD 1 cD)) (hp : rtFe p = 0) (hs : shFe p) :
    Fun Tryd.prog 30 #[.agg #[.slice a0 (madeF L).length c0], .agg #[.slice aA 1 cA, .slice aD 1 cD, .slice none 0 0]] I (fun v J => ∃ a c, v = .tuple #[.agg #[.slice a (mgB (madeF L) p q).length c], .int .i64 ((mgE (madeF L) p q : Nat) : Int)] ∧ FSl J (mgB (madeF L) p q) (.slice a (mgB (madeF L) p q).length c)) := by
  have r := patchD_c (A := [p]) (D := [q]) (K := []) h0 (Nat.le_trans made_len (by decide)) (made_asc L) hN hT hA hD (isl_nil I) (by simp) (by simp) (by decide) (one_short hs)
  rw [(mg_both hp).1, (mg_both hp).2] at r; exact r
theorem allM_c {I : IM} {L : List Fe} {a0 aA : Option Addr} {c0 cA : Nat} (h0 : FSl I (madeF L) (.slice a0 (madeF L).length c0)) (hN : Tx.NmT I) (hT : Tx.U8 I) (hA : FSl I (madeF L) (.slice aA (madeF L).length cA)) :
    Fun Tryd.prog 30 #[.agg #[.slice a0 (madeF L).length c0], .agg #[.slice aA (madeF L).length cA, .slice none 0 0, .slice none 0 0]] I (fun v J => ∃ a c, v = .tuple #[.agg #[.slice a (madeF L).length c], .int .i64 0] ∧ FSl J (madeF L) (.slice a (madeF L).length c)) := by
  have r := patchD_c (A := madeF L) (D := []) (K := []) h0 (Nat.le_trans made_len (by decide)) (made_asc L) hN hT hA (fsl_nil I) (isl_nil I) (Nat.le_trans made_len (by decide)) (by decide) (by decide) made_short
  rw [(mg_all (fun x hx => made_rt hx) made_len).1, (mg_all (fun x hx => made_rt hx) made_len).2] at r; exact r
theorem sameM_c {I : IM} {L : List Fe} {p q : Fe} {a0 a1 : Option Addr} {c0 c1 : Nat} (h0 : FSl I (mgA (madeF L) p q) (.slice a0 (mgA (madeF L) p q).length c0)) (h1 : FSl I (mgB (madeF L) p q) (.slice a1 (mgB (madeF L) p q).length c1)) (h : mgE (madeF L) p q = 0) : Fun Tryd.prog 28 #[.agg #[.slice a0 (mgA (madeF L) p q).length c0], .agg #[.slice a1 (mgB (madeF L) p q).length c1]] I (fun v J => v = .bool true) :=
  (sameCd_c h0 h1 (Nat.le_trans (mgA_len made_len) (by decide))).mono fun v J _ r => r.trans (congrArg Value.bool (decide_eq_true ((mg_0 h).1.trans (mg_0 h).2.symm)))

theorem contT_c {I : IM} {L : List Fe} {a0 : Option Addr} {c0 : Nat} {x : Fe} (h0 : FSl I L (.slice a0 L.length c0)) (hl : L.length ≤ 1000) (h : x ∈ L) : Fun Tryd.prog 36 #[.slice a0 L.length c0, .agg #[.int .i64 x.k, .string ⟨(x.a).toArray⟩, .string ⟨(x.v).toArray⟩]] I (fun v J => v = .bool true) :=
  (containsX_c h0 hl).mono fun v J _ r => r.trans (congrArg Value.bool (decide_eq_true h))
theorem contF_c {I : IM} {L : List Fe} {a0 : Option Addr} {c0 : Nat} {x : Fe} (h0 : FSl I L (.slice a0 L.length c0)) (hl : L.length ≤ 1000) (h : x ∉ L) : Fun Tryd.prog 36 #[.slice a0 L.length c0, .agg #[.int .i64 x.k, .string ⟨(x.a).toArray⟩, .string ⟨(x.v).toArray⟩]] I (fun v J => v = .bool false) :=
  (containsX_c h0 hl).mono fun v J _ r => r.trans (congrArg Value.bool (decide_eq_false h))

set_option maxHeartbeats 4000000 in
theorem cardMerges_c {I : IM} {L : List Fe} {a0 : Option Addr} {c0 : Nat} (h0 : FSl I L (.slice a0 L.length c0)) (hl : L.length ≤ 9223372036854775807) {xa xb : Fe} (hN : Tx.NmT I) (hT : Tx.U8 I) : Fun Tryd.prog 8 #[.slice a0 L.length c0, .agg #[.int .i64 xa.k, .string ⟨(xa.a).toArray⟩, .string ⟨(xa.v).toArray⟩], .agg #[.int .i64 xb.k, .string ⟨(xb.a).toArray⟩, .string ⟨(xb.v).toArray⟩]] I (fun v J => v = .bool true) := by
  refine enter_rule 126 [(0, .slice a0 L.length c0), (1, .agg #[.int .i64 xa.k, .string ⟨(xa.a).toArray⟩, .string ⟨(xa.v).toArray⟩]), (2, .agg #[.int .i64 xb.k, .string ⟨(xb.a).toArray⟩, .string ⟨(xb.v).toArray⟩])] Tryd.func8 rfl (by kernel_rfl) ?_
  intro w s
  refine wp_seq ?_
  refine region_rule ?_
  refine ops_rule (C := []) [] [] 3 [] 2 (fun φ1 => [(6, .bool false), (5, .pointer (some ⟨(φ1 1), 0, none⟩)), (4, .pointer (some ⟨(φ1 0), 0, none⟩))]) (fun φ1 => [((φ1 0), .cells #[.int .i64 xa.k, .string ⟨(xa.a).toArray⟩, .string ⟨(xa.v).toArray⟩] 39), ((φ1 1), .cells #[.int .i64 xb.k, .string ⟨(xb.a).toArray⟩, .string ⟨(xb.v).toArray⟩] 39)]) (fun φ1 => []) s trivial (fun φ1 => by kernel_rfl) ?_
  intro φ1 w1 s
  refine ops_done (by kernel_rfl) ?_
  refine wp_seq ?_
  refine wp_seq ?_
  refine region_rule ?_
  refine call_rule (some 19) s (awake9_c hN hT) (by kernel_rfl) ?_
  intro v2 I2 w2 le2 h2 s
  replace h0 := FSl.mono le2 h0
  replace hN := Tx.NmT.mono le2 hN
  replace hT := Tx.U8.mono le2 hT
  obtain rfl := h2
  refine ops_rule (C := []) [((φ1 0), .cells #[.int .i64 xa.k, .string ⟨(xa.a).toArray⟩, .string ⟨(xa.v).toArray⟩] 39), ((φ1 1), .cells #[.int .i64 xb.k, .string ⟨(xb.a).toArray⟩, .string ⟨(xb.v).toArray⟩] 39)] [] 1 [] 0 (fun φ3 => [(20, .bool false)]) (fun φ3 => [((φ1 0), .cells #[.int .i64 xa.k, .string ⟨(xa.a).toArray⟩, .string ⟨(xa.v).toArray⟩] 39), ((φ1 1), .cells #[.int .i64 xb.k, .string ⟨(xb.a).toArray⟩, .string ⟨(xb.v).toArray⟩] 39)]) (fun φ3 => []) s trivial (fun φ3 => by kernel_rfl) ?_
  intro φ3 w3 s
  refine ops_done (by kernel_rfl) ?_
  refine cond_false_rule (b := false) (by kernel_rfl) rfl ?_
  refine wp_skip ?_
  refine wp_seq ?_
  refine region_rule ?_
  refine ops_rule (C := []) [((φ1 0), .cells #[.int .i64 xa.k, .string ⟨(xa.a).toArray⟩, .string ⟨(xa.v).toArray⟩] 39), ((φ1 1), .cells #[.int .i64 xb.k, .string ⟨(xb.a).toArray⟩, .string ⟨(xb.v).toArray⟩] 39)] [] 1 [] 0 (fun φ4 => [(22, .slice a0 L.length c0)]) (fun φ4 => [((φ1 0), .cells #[.int .i64 xa.k, .string ⟨(xa.a).toArray⟩, .string ⟨(xa.v).toArray⟩] 39), ((φ1 1), .cells #[.int .i64 xb.k, .string ⟨(xb.a).toArray⟩, .string ⟨(xb.v).toArray⟩] 39)]) (fun φ4 => []) s trivial (fun φ4 => by kernel_rfl) ?_
  intro φ4 w4 s
  refine call_rule (some 23) s (made_c h0 hl hN hT) (by kernel_rfl) ?_
  intro v5 I5 w5 le5 h5 s
  replace h0 := FSl.mono le5 h0
  replace hN := Tx.NmT.mono le5 hN
  replace hT := Tx.U8.mono le5 hT
  obtain ⟨a5, c5, b5, d5, rfl, h5_0, h5_1⟩ := h5
  refine ops_rule (C := []) [((φ1 0), .cells #[.int .i64 xa.k, .string ⟨(xa.a).toArray⟩, .string ⟨(xa.v).toArray⟩] 39), ((φ1 1), .cells #[.int .i64 xb.k, .string ⟨(xb.a).toArray⟩, .string ⟨(xb.v).toArray⟩] 39)] [] 6 [.o 2] 1 (fun φ6 => [(8, .slice b5 (List.length (madeF L)) d5), (7, .pointer (some ⟨(φ6 0), 0, none⟩)), (25, .slice b5 (List.length (madeF L)) d5), (24, .agg #[.slice a5 (List.length (madeF L)) c5]), (21, .tuple #[.agg #[.slice a5 (List.length (madeF L)) c5], .slice b5 (List.length (madeF L)) d5])]) (fun φ6 => [((φ1 0), .cells #[.int .i64 xa.k, .string ⟨(xa.a).toArray⟩, .string ⟨(xa.v).toArray⟩] 39), ((φ1 1), .cells #[.int .i64 xb.k, .string ⟨(xb.a).toArray⟩, .string ⟨(xb.v).toArray⟩] 39), ((φ6 0), .cells #[.slice a5 (List.length (madeF L)) c5] 26)]) (fun φ6 => [(φ6 0)]) s trivial (fun φ6 => by kernel_rfl) ?_
  intro φ6 w6 s
  refine ops_done (by kernel_rfl) ?_
  refine wp_seq ?_
  refine region_rule ?_
  refine ops_rule (C := []) [((φ1 0), .cells #[.int .i64 xa.k, .string ⟨(xa.a).toArray⟩, .string ⟨(xa.v).toArray⟩] 39), ((φ1 1), .cells #[.int .i64 xb.k, .string ⟨(xb.a).toArray⟩, .string ⟨(xb.v).toArray⟩] 39), ((φ6 0), .cells #[.slice a5 (List.length (madeF L)) c5] 26)] [] 3 [.o 0, .o 0, .o 0, .o 1, .o 1, .o 1] 1 (fun φ7 => [(28, .slice (some ⟨(φ7 0), 0, none⟩) 2 2), (27, .agg #[.int .i64 xb.k, .string ⟨(xb.a).toArray⟩, .string ⟨(xb.v).toArray⟩]), (26, .agg #[.int .i64 xa.k, .string ⟨(xa.a).toArray⟩, .string ⟨(xa.v).toArray⟩])]) (fun φ7 => [((φ1 0), .cells #[.int .i64 xa.k, .string ⟨(xa.a).toArray⟩, .string ⟨(xa.v).toArray⟩] 39), ((φ1 1), .cells #[.int .i64 xb.k, .string ⟨(xb.a).toArray⟩, .string ⟨(xb.v).toArray⟩] 39), ((φ6 0), .cells #[.slice a5 (List.length (madeF L)) c5] 26), ((φ7 0), .cells #[.int .i64 xa.k, .string ⟨(xa.a).toArray⟩, .string ⟨(xa.v).toArray⟩, .int .i64 xb.k, .string ⟨(xb.a).toArray⟩, .string ⟨(xb.v).toArray⟩] 39)]) (fun φ7 => [(φ1 0), (φ1 0), (φ1 0), (φ1 1), (φ1 1), (φ1 1)]) s trivial (fun φ7 => by kernel_rfl) ?_
  intro φ7 w7 s
  obtain ⟨I8, le8, hk8, s⟩ := s.freezeAt 3 (φ7 0) (.cells #[.int .i64 xa.k, .string ⟨(xa.a).toArray⟩, .string ⟨(xa.v).toArray⟩, .int .i64 xb.k, .string ⟨(xb.a).toArray⟩, .string ⟨(xb.v).toArray⟩] 39) ([((φ1 0), .cells #[.int .i64 xa.k, .string ⟨(xa.a).toArray⟩, .string ⟨(xa.v).toArray⟩] 39), ((φ1 1), .cells #[.int .i64 xb.k, .string ⟨(xb.a).toArray⟩, .string ⟨(xb.v).toArray⟩] 39), ((φ6 0), .cells #[.slice a5 (List.length (madeF L)) c5] 26)] ++ []) (by kernel_rfl) (by kernel_rfl)
  have hz8 := fsl_two (x := xa) (y := xb) hk8
  replace h0 := FSl.mono le8 h0
  replace hN := Tx.NmT.mono le8 hN
  replace hT := Tx.U8.mono le8 hT
  replace h5_0 := FSl.mono le8 h5_0
  replace h5_1 := FSl.mono le8 h5_1
  refine call_rule (some 29) s (few2x_c hz8) (by kernel_rfl) ?_
  rintro v9 I9 w9 le9 ⟨a9, c9, p, q, rfl, h9, hsp, hsq⟩ s
  replace h0 := FSl.mono le9 h0
  replace hN := Tx.NmT.mono le9 hN
  replace hT := Tx.U8.mono le9 hT
  replace h5_0 := FSl.mono le9 h5_0
  replace h5_1 := FSl.mono le9 h5_1
  refine ops_rule (C := []) [((φ1 0), .cells #[.int .i64 xa.k, .string ⟨(xa.a).toArray⟩, .string ⟨(xa.v).toArray⟩] 39), ((φ1 1), .cells #[.int .i64 xb.k, .string ⟨(xb.a).toArray⟩, .string ⟨(xb.v).toArray⟩] 39), ((φ6 0), .cells #[.slice a5 (List.length (madeF L)) c5] 26)] [] 1 [] 0 (fun φ10 => [(9, .slice a9 2 c9)]) (fun φ10 => [((φ1 0), .cells #[.int .i64 xa.k, .string ⟨(xa.a).toArray⟩, .string ⟨(xa.v).toArray⟩] 39), ((φ1 1), .cells #[.int .i64 xb.k, .string ⟨(xb.a).toArray⟩, .string ⟨(xb.v).toArray⟩] 39), ((φ6 0), .cells #[.slice a5 (List.length (madeF L)) c5] 26)]) (fun φ10 => []) s trivial (fun φ10 => by kernel_rfl) ?_
  intro φ10 w10 s
  refine ops_done (by kernel_rfl) ?_
  refine wp_seq ?_
  refine draw_rule (C := []) ⟨(fun φ11 xs11 => [.look 0 [] [], .ran (Instr.indexAt 22 (.slice a9 2 c9) (.int .i64 ((0 : Nat) : Int))), .ran (Instr.loadAt 39 (.pointer (pAt a9 (0 * 3)))), .look 0 [] [], .ran (Instr.indexAt 22 (.slice a9 2 c9) (.int .i64 ((1 : Nat) : Int))), .ran (Instr.loadAt 39 (.pointer (pAt a9 (1 * 3)))), .store 0 [.o 0, .o 0, .o 0] [(φ1 0), (φ1 0), (φ1 0)], .store 1 [.o 1, .o 1, .o 1] [(φ1 1), (φ1 1), (φ1 1)]]), (fun φ11 xs11 => [.slice a9 2 c9, .pointer (pAt a9 (0 * 3)), .agg #[.int .i64 p.k, .string ⟨(p.a).toArray⟩, .string ⟨(p.v).toArray⟩], .slice a9 2 c9, .pointer (pAt a9 (1 * 3)), .agg #[.int .i64 q.k, .string ⟨(q.a).toArray⟩, .string ⟨(q.v).toArray⟩], undef, undef]), (fun φ11 xs11 => [[((φ1 0), .cells #[.int .i64 xa.k, .string ⟨(xa.a).toArray⟩, .string ⟨(xa.v).toArray⟩] 39), ((φ1 1), .cells #[.int .i64 xb.k, .string ⟨(xb.a).toArray⟩, .string ⟨(xb.v).toArray⟩] 39), ((φ6 0), .cells #[.slice a5 (List.length (madeF L)) c5] 26)], [((φ1 0), .cells #[.int .i64 p.k, .string ⟨(p.a).toArray⟩, .string ⟨(p.v).toArray⟩] 39), ((φ1 1), .cells #[.int .i64 xb.k, .string ⟨(xb.a).toArray⟩, .string ⟨(xb.v).toArray⟩] 39), ((φ6 0), .cells #[.slice a5 (List.length (madeF L)) c5] 26)], [((φ1 0), .cells #[.int .i64 p.k, .string ⟨(p.a).toArray⟩, .string ⟨(p.v).toArray⟩] 39), ((φ1 1), .cells #[.int .i64 q.k, .string ⟨(q.a).toArray⟩, .string ⟨(q.v).toArray⟩] 39), ((φ6 0), .cells #[.slice a5 (List.length (madeF L)) c5] 26)]]), (fun φ11 xs11 => [[default, default, default, default, default, default, default, default], [default, default, default, default, default, default, default, default], [default, default, default, default, default, default, default, default]]), [6, 7], [1, 6, 6, 1, 6, 6, 4, 4]⟩ (fun j => ([MP.any, MP.any, MP.any, MP.any, MP.any, MP.any, MP.any, MP.any] : List MP).getD j MP.any) [] [] [1, 2, 4, 5] (fun φ11 xs11 => [[none, none, none, none, none, none, none, none], [none, none, none, none, none, none, none, none]]) (fun φ11 xs11 => [(30, .slice a9 2 c9), (31, .pointer (pAt a9 (0 * 3))), (32, .agg #[.int .i64 p.k, .string ⟨(p.a).toArray⟩, .string ⟨(p.v).toArray⟩]), (33, .slice a9 2 c9), (34, .pointer (pAt a9 (1 * 3))), (35, .agg #[.int .i64 q.k, .string ⟨(q.a).toArray⟩, .string ⟨(q.v).toArray⟩])]) (fun φ11 xs11 => [((φ1 0), .cells #[.int .i64 p.k, .string ⟨(p.a).toArray⟩, .string ⟨(p.v).toArray⟩] 39), ((φ1 1), .cells #[.int .i64 q.k, .string ⟨(q.a).toArray⟩, .string ⟨(q.v).toArray⟩] 39), ((φ6 0), .cells #[.slice a5 (List.length (madeF L)) c5] 26)]) s trivial (by kernel_rfl) (by kernel_rfl) (fun _ _ => by kernel_rfl) (fun _ _ => by kernel_rfl) ⟨fun _ _ => by kernel_rfl, fun _ _ => by kernel_rfl, fun _ _ => by kernel_rfl, fun _ _ => by kernel_rfl⟩ (fun _ _ _ => by kernel_rfl) (fun _ _ => by kernel_rfl) (fun _ _ => by kernel_rfl) (fun _ _ => by kernel_rfl) (fun _ _ => by kernel_rfl) (fun _ _ => by kernel_rfl) trivial ⟨kcast (A := ∀ (φ11 : Nat → Nat) (xs11 : Xs) (J : IM) (w : World), I9.Le J → J.Sub w → ((Instr.indexAt 22 (.slice a9 2 c9) (.int .i64 ((0 : Nat) : Int))) : Sem Value).run Tryd.prog w = .ok (.pointer (pAt a9 (0 * 3))) w) (by kernel_rfl) (fun φ11 xs11 J w hJ hS => fsl_idx22 (L := [p, q]) (i := 0) (FSl.mono hJ h9) (by simp)), ⟨kcast (A := ∀ (φ11 : Nat → Nat) (xs11 : Xs) (J : IM) (w : World), I9.Le J → J.Sub w → ((Instr.loadAt 39 (.pointer (pAt a9 (0 * 3)))) : Sem Value).run Tryd.prog w = .ok (.agg #[.int .i64 p.k, .string ⟨(p.a).toArray⟩, .string ⟨(p.v).toArray⟩]) w) (by kernel_rfl) (fun φ11 xs11 J w hJ hS => fsl_ld39 (L := [p, q]) (i := 0) hS (FSl.mono hJ h9) (by simp)), ⟨kcast (A := ∀ (φ11 : Nat → Nat) (xs11 : Xs) (J : IM) (w : World), I9.Le J → J.Sub w → ((Instr.indexAt 22 (.slice a9 2 c9) (.int .i64 ((1 : Nat) : Int))) : Sem Value).run Tryd.prog w = .ok (.pointer (pAt a9 (1 * 3))) w) (by kernel_rfl) (fun φ11 xs11 J w hJ hS => fsl_idx22 (L := [p, q]) (i := 1) (FSl.mono hJ h9) (by simp)), ⟨kcast (A := ∀ (φ11 : Nat → Nat) (xs11 : Xs) (J : IM) (w : World), I9.Le J → J.Sub w → ((Instr.loadAt 39 (.pointer (pAt a9 (1 * 3)))) : Sem Value).run Tryd.prog w = .ok (.agg #[.int .i64 q.k, .string ⟨(q.a).toArray⟩, .string ⟨(q.v).toArray⟩]) w) (by kernel_rfl) (fun φ11 xs11 J w hJ hS => fsl_ld39 (L := [p, q]) (i := 1) hS (FSl.mono hJ h9) (by simp)), trivial⟩⟩⟩⟩ (by kernel_rfl) trivial ?k11
  case k11 =>
    rintro φ11 xs11 I11 w11 le11 s 
    replace h0 := FSl.mono le11 h0
    replace hN := Tx.NmT.mono le11 hN
    replace hT := Tx.U8.mono le11 hT
    replace h5_0 := FSl.mono le11 h5_0
    replace h5_1 := FSl.mono le11 h5_1
    replace h9 := FSl.mono le11 h9
    refine wp_seq ?_
    refine wp_seq ?_
    refine region_rule ?_
    refine ops_rule (C := []) [((φ1 0), .cells #[.int .i64 p.k, .string ⟨(p.a).toArray⟩, .string ⟨(p.v).toArray⟩] 39), ((φ1 1), .cells #[.int .i64 q.k, .string ⟨(q.a).toArray⟩, .string ⟨(q.v).toArray⟩] 39), ((φ6 0), .cells #[.slice a5 (List.length (madeF L)) c5] 26)] [] 1 [.o 0, .o 0, .o 0] 0 (fun φ12 => [(36, .agg #[.int .i64 p.k, .string ⟨(p.a).toArray⟩, .string ⟨(p.v).toArray⟩])]) (fun φ12 => [((φ1 0), .cells #[.int .i64 p.k, .string ⟨(p.a).toArray⟩, .string ⟨(p.v).toArray⟩] 39), ((φ1 1), .cells #[.int .i64 q.k, .string ⟨(q.a).toArray⟩, .string ⟨(q.v).toArray⟩] 39), ((φ6 0), .cells #[.slice a5 (List.length (madeF L)) c5] 26)]) (fun φ12 => [(φ1 0), (φ1 0), (φ1 0)]) s trivial (fun φ12 => by kernel_rfl) ?_
    intro φ12 w12 s
    refine call_rule (some 37) s (rightX_c (x := p) hN hT ⟨Nat.le_trans hsp.1 (by decide), Nat.le_trans hsp.2 (by decide)⟩) (by kernel_rfl) ?_
    intro v13 I13 w13 le13 h13 s
    replace h0 := FSl.mono le13 h0
    replace hN := Tx.NmT.mono le13 hN
    replace hT := Tx.U8.mono le13 hT
    replace h5_0 := FSl.mono le13 h5_0
    replace h5_1 := FSl.mono le13 h5_1
    replace h9 := FSl.mono le13 h9
    obtain rfl := h13
    refine ops_rule (C := []) [((φ1 0), .cells #[.int .i64 p.k, .string ⟨(p.a).toArray⟩, .string ⟨(p.v).toArray⟩] 39), ((φ1 1), .cells #[.int .i64 q.k, .string ⟨(q.a).toArray⟩, .string ⟨(q.v).toArray⟩] 39), ((φ6 0), .cells #[.slice a5 (List.length (madeF L)) c5] 26)] [] 2 [] 0 (fun φ14 => [(39, .bool (((rtFe p : Nat) : Int) != ((0 : Nat) : Int))), (38, .bool (((rtFe p : Nat) : Int) != ((0 : Nat) : Int)))]) (fun φ14 => [((φ1 0), .cells #[.int .i64 p.k, .string ⟨(p.a).toArray⟩, .string ⟨(p.v).toArray⟩] 39), ((φ1 1), .cells #[.int .i64 q.k, .string ⟨(q.a).toArray⟩, .string ⟨(q.v).toArray⟩] 39), ((φ6 0), .cells #[.slice a5 (List.length (madeF L)) c5] 26)]) (fun φ14 => []) s trivial (fun φ14 => by kernel_rfl) ?_
    intro φ14 w14 s
    rw [nat_neq (a := (rtFe p)) (b := 0)]
    rcases Bool.eq_false_or_eq_true (decide ((rtFe p) ≠ 0)) with hc15 | hc15
    ·
      rw [hc15]
      refine ops_rule (C := []) [((φ1 0), .cells #[.int .i64 p.k, .string ⟨(p.a).toArray⟩, .string ⟨(p.v).toArray⟩] 39), ((φ1 1), .cells #[.int .i64 q.k, .string ⟨(q.a).toArray⟩, .string ⟨(q.v).toArray⟩] 39), ((φ6 0), .cells #[.slice a5 (List.length (madeF L)) c5] 26)] [] 9 [] 0 (fun φ16 => [(48, .bool true), (47, undef), (46, undef), (45, undef), (44, .bool true), (43, .bool true), (42, undef), (41, undef), (40, undef)]) (fun φ16 => [((φ1 0), .cells #[.int .i64 p.k, .string ⟨(p.a).toArray⟩, .string ⟨(p.v).toArray⟩] 39), ((φ1 1), .cells #[.int .i64 q.k, .string ⟨(q.a).toArray⟩, .string ⟨(q.v).toArray⟩] 39), ((φ6 0), .cells #[.slice a5 (List.length (madeF L)) c5] 26)]) (fun φ16 => []) s trivial (fun φ16 => by kernel_rfl) ?_
      intro φ16 w16 s
      refine ops_done (by kernel_rfl) ?_
      refine cond_true_rule (b := true) (by kernel_rfl) rfl ?_
      refine wp_seq ?_
      refine region_rule ?_
      refine ops_rule (C := []) [((φ1 0), .cells #[.int .i64 p.k, .string ⟨(p.a).toArray⟩, .string ⟨(p.v).toArray⟩] 39), ((φ1 1), .cells #[.int .i64 q.k, .string ⟨(q.a).toArray⟩, .string ⟨(q.v).toArray⟩] 39), ((φ6 0), .cells #[.slice a5 (List.length (madeF L)) c5] 26)] [] 1 [] 0 (fun φ17 => [(6, .bool true)]) (fun φ17 => [((φ1 0), .cells #[.int .i64 p.k, .string ⟨(p.a).toArray⟩, .string ⟨(p.v).toArray⟩] 39), ((φ1 1), .cells #[.int .i64 q.k, .string ⟨(q.a).toArray⟩, .string ⟨(q.v).toArray⟩] 39), ((φ6 0), .cells #[.slice a5 (List.length (madeF L)) c5] 26)]) (fun φ17 => []) s trivial (fun φ17 => by kernel_rfl) ?_
      intro φ17 w17 s
      refine ops_done (by kernel_rfl) ?_
      refine wp_ret ?_
      refine ret_rule (C := []) [((φ1 0), .cells #[.int .i64 p.k, .string ⟨(p.a).toArray⟩, .string ⟨(p.v).toArray⟩] 39), ((φ1 1), .cells #[.int .i64 q.k, .string ⟨(q.a).toArray⟩, .string ⟨(q.v).toArray⟩] 39), ((φ6 0), .cells #[.slice a5 (List.length (madeF L)) c5] 26)] [] (.bool true) [] [] s trivial (by kernel_rfl) ?_
      exact ⟨_, _, _, rfl, s, rfl⟩
    ·
      rw [hc15]
      refine ops_rule (C := []) [((φ1 0), .cells #[.int .i64 p.k, .string ⟨(p.a).toArray⟩, .string ⟨(p.v).toArray⟩] 39), ((φ1 1), .cells #[.int .i64 q.k, .string ⟨(q.a).toArray⟩, .string ⟨(q.v).toArray⟩] 39), ((φ6 0), .cells #[.slice a5 (List.length (madeF L)) c5] 26)] [] 1 [.o 1, .o 1, .o 1] 0 (fun φ18 => [(40, .agg #[.int .i64 q.k, .string ⟨(q.a).toArray⟩, .string ⟨(q.v).toArray⟩])]) (fun φ18 => [((φ1 0), .cells #[.int .i64 p.k, .string ⟨(p.a).toArray⟩, .string ⟨(p.v).toArray⟩] 39), ((φ1 1), .cells #[.int .i64 q.k, .string ⟨(q.a).toArray⟩, .string ⟨(q.v).toArray⟩] 39), ((φ6 0), .cells #[.slice a5 (List.length (madeF L)) c5] 26)]) (fun φ18 => [(φ1 1), (φ1 1), (φ1 1)]) s trivial (fun φ18 => by kernel_rfl) ?_
      intro φ18 w18 s
      refine call_rule (some 41) s (rightX_c (x := q) hN hT ⟨Nat.le_trans hsq.1 (by decide), Nat.le_trans hsq.2 (by decide)⟩) (by kernel_rfl) ?_
      intro v19 I19 w19 le19 h19 s
      replace h0 := FSl.mono le19 h0
      replace hN := Tx.NmT.mono le19 hN
      replace hT := Tx.U8.mono le19 hT
      replace h5_0 := FSl.mono le19 h5_0
      replace h5_1 := FSl.mono le19 h5_1
      replace h9 := FSl.mono le19 h9
      obtain rfl := h19
      refine ops_rule (C := []) [((φ1 0), .cells #[.int .i64 p.k, .string ⟨(p.a).toArray⟩, .string ⟨(p.v).toArray⟩] 39), ((φ1 1), .cells #[.int .i64 q.k, .string ⟨(q.a).toArray⟩, .string ⟨(q.v).toArray⟩] 39), ((φ6 0), .cells #[.slice a5 (List.length (madeF L)) c5] 26)] [] 3 [] 0 (fun φ20 => [(44, .bool (((rtFe q : Nat) : Int) != ((0 : Nat) : Int))), (43, .bool (((rtFe q : Nat) : Int) != ((0 : Nat) : Int))), (42, .bool (((rtFe q : Nat) : Int) != ((0 : Nat) : Int)))]) (fun φ20 => [((φ1 0), .cells #[.int .i64 p.k, .string ⟨(p.a).toArray⟩, .string ⟨(p.v).toArray⟩] 39), ((φ1 1), .cells #[.int .i64 q.k, .string ⟨(q.a).toArray⟩, .string ⟨(q.v).toArray⟩] 39), ((φ6 0), .cells #[.slice a5 (List.length (madeF L)) c5] 26)]) (fun φ20 => []) s trivial (fun φ20 => by kernel_rfl) ?_
      intro φ20 w20 s
      rw [nat_neq (a := (rtFe q)) (b := 0)]
      rcases Bool.eq_false_or_eq_true (decide ((rtFe q) ≠ 0)) with hc21 | hc21
      ·
        rw [hc21]
        refine ops_rule (C := []) [((φ1 0), .cells #[.int .i64 p.k, .string ⟨(p.a).toArray⟩, .string ⟨(p.v).toArray⟩] 39), ((φ1 1), .cells #[.int .i64 q.k, .string ⟨(q.a).toArray⟩, .string ⟨(q.v).toArray⟩] 39), ((φ6 0), .cells #[.slice a5 (List.length (madeF L)) c5] 26)] [] 4 [] 0 (fun φ22 => [(48, .bool true), (47, undef), (46, undef), (45, undef)]) (fun φ22 => [((φ1 0), .cells #[.int .i64 p.k, .string ⟨(p.a).toArray⟩, .string ⟨(p.v).toArray⟩] 39), ((φ1 1), .cells #[.int .i64 q.k, .string ⟨(q.a).toArray⟩, .string ⟨(q.v).toArray⟩] 39), ((φ6 0), .cells #[.slice a5 (List.length (madeF L)) c5] 26)]) (fun φ22 => []) s trivial (fun φ22 => by kernel_rfl) ?_
        intro φ22 w22 s
        refine ops_done (by kernel_rfl) ?_
        refine cond_true_rule (b := true) (by kernel_rfl) rfl ?_
        refine wp_seq ?_
        refine region_rule ?_
        refine ops_rule (C := []) [((φ1 0), .cells #[.int .i64 p.k, .string ⟨(p.a).toArray⟩, .string ⟨(p.v).toArray⟩] 39), ((φ1 1), .cells #[.int .i64 q.k, .string ⟨(q.a).toArray⟩, .string ⟨(q.v).toArray⟩] 39), ((φ6 0), .cells #[.slice a5 (List.length (madeF L)) c5] 26)] [] 1 [] 0 (fun φ23 => [(6, .bool true)]) (fun φ23 => [((φ1 0), .cells #[.int .i64 p.k, .string ⟨(p.a).toArray⟩, .string ⟨(p.v).toArray⟩] 39), ((φ1 1), .cells #[.int .i64 q.k, .string ⟨(q.a).toArray⟩, .string ⟨(q.v).toArray⟩] 39), ((φ6 0), .cells #[.slice a5 (List.length (madeF L)) c5] 26)]) (fun φ23 => []) s trivial (fun φ23 => by kernel_rfl) ?_
        intro φ23 w23 s
        refine ops_done (by kernel_rfl) ?_
        refine wp_ret ?_
        refine ret_rule (C := []) [((φ1 0), .cells #[.int .i64 p.k, .string ⟨(p.a).toArray⟩, .string ⟨(p.v).toArray⟩] 39), ((φ1 1), .cells #[.int .i64 q.k, .string ⟨(q.a).toArray⟩, .string ⟨(q.v).toArray⟩] 39), ((φ6 0), .cells #[.slice a5 (List.length (madeF L)) c5] 26)] [] (.bool true) [] [] s trivial (by kernel_rfl) ?_
        exact ⟨_, _, _, rfl, s, rfl⟩
      ·
        rw [hc21]
        refine ops_rule (C := []) [((φ1 0), .cells #[.int .i64 p.k, .string ⟨(p.a).toArray⟩, .string ⟨(p.v).toArray⟩] 39), ((φ1 1), .cells #[.int .i64 q.k, .string ⟨(q.a).toArray⟩, .string ⟨(q.v).toArray⟩] 39), ((φ6 0), .cells #[.slice a5 (List.length (madeF L)) c5] 26)] [] 2 [.o 0, .o 0, .o 0, .o 1, .o 1, .o 1] 0 (fun φ24 => [(46, .agg #[.int .i64 q.k, .string ⟨(q.a).toArray⟩, .string ⟨(q.v).toArray⟩]), (45, .agg #[.int .i64 p.k, .string ⟨(p.a).toArray⟩, .string ⟨(p.v).toArray⟩])]) (fun φ24 => [((φ1 0), .cells #[.int .i64 p.k, .string ⟨(p.a).toArray⟩, .string ⟨(p.v).toArray⟩] 39), ((φ1 1), .cells #[.int .i64 q.k, .string ⟨(q.a).toArray⟩, .string ⟨(q.v).toArray⟩] 39), ((φ6 0), .cells #[.slice a5 (List.length (madeF L)) c5] 26)]) (fun φ24 => [(φ1 0), (φ1 0), (φ1 0), (φ1 1), (φ1 1), (φ1 1)]) s trivial (fun φ24 => by kernel_rfl) ?_
        intro φ24 w24 s
        refine sem_rule (do eqGuard .eql 39 (.tmp 45) (.tmp 46) (.agg #[.int .i64 p.k, .string ⟨(p.a).toArray⟩, .string ⟨(p.v).toArray⟩]) (.agg #[.int .i64 q.k, .string ⟨(q.a).toArray⟩, .string ⟨(q.v).toArray⟩]); binOp .eql 39 (.agg #[.int .i64 p.k, .string ⟨(p.a).toArray⟩, .string ⟨(p.v).toArray⟩]) (.agg #[.int .i64 q.k, .string ⟨(q.a).toArray⟩, .string ⟨(q.v).toArray⟩])) (some 47) (.bool (decide (p = q))) (by kernel_rfl) (run_eqlG39 (X := p) (Y := q)) ?_
        refine ops_rule (C := []) [((φ1 0), .cells #[.int .i64 p.k, .string ⟨(p.a).toArray⟩, .string ⟨(p.v).toArray⟩] 39), ((φ1 1), .cells #[.int .i64 q.k, .string ⟨(q.a).toArray⟩, .string ⟨(q.v).toArray⟩] 39), ((φ6 0), .cells #[.slice a5 (List.length (madeF L)) c5] 26)] [] 1 [] 0 (fun φ25 => [(48, .bool (decide (p = q)))]) (fun φ25 => [((φ1 0), .cells #[.int .i64 p.k, .string ⟨(p.a).toArray⟩, .string ⟨(p.v).toArray⟩] 39), ((φ1 1), .cells #[.int .i64 q.k, .string ⟨(q.a).toArray⟩, .string ⟨(q.v).toArray⟩] 39), ((φ6 0), .cells #[.slice a5 (List.length (madeF L)) c5] 26)]) (fun φ25 => []) s trivial (fun φ25 => by kernel_rfl) ?_
        intro φ25 w25 s
        refine ops_done (by kernel_rfl) ?_
        rcases Bool.eq_false_or_eq_true (decide (p = q)) with hc26 | hc26
        ·
          rw [hc26]
          refine cond_true_rule (b := true) (by kernel_rfl) rfl ?_
          refine wp_seq ?_
          refine region_rule ?_
          refine ops_rule (C := []) [((φ1 0), .cells #[.int .i64 p.k, .string ⟨(p.a).toArray⟩, .string ⟨(p.v).toArray⟩] 39), ((φ1 1), .cells #[.int .i64 q.k, .string ⟨(q.a).toArray⟩, .string ⟨(q.v).toArray⟩] 39), ((φ6 0), .cells #[.slice a5 (List.length (madeF L)) c5] 26)] [] 1 [] 0 (fun φ27 => [(6, .bool true)]) (fun φ27 => [((φ1 0), .cells #[.int .i64 p.k, .string ⟨(p.a).toArray⟩, .string ⟨(p.v).toArray⟩] 39), ((φ1 1), .cells #[.int .i64 q.k, .string ⟨(q.a).toArray⟩, .string ⟨(q.v).toArray⟩] 39), ((φ6 0), .cells #[.slice a5 (List.length (madeF L)) c5] 26)]) (fun φ27 => []) s trivial (fun φ27 => by kernel_rfl) ?_
          intro φ27 w27 s
          refine ops_done (by kernel_rfl) ?_
          refine wp_ret ?_
          refine ret_rule (C := []) [((φ1 0), .cells #[.int .i64 p.k, .string ⟨(p.a).toArray⟩, .string ⟨(p.v).toArray⟩] 39), ((φ1 1), .cells #[.int .i64 q.k, .string ⟨(q.a).toArray⟩, .string ⟨(q.v).toArray⟩] 39), ((φ6 0), .cells #[.slice a5 (List.length (madeF L)) c5] 26)] [] (.bool true) [] [] s trivial (by kernel_rfl) ?_
          exact ⟨_, _, _, rfl, s, rfl⟩
        ·
          rw [hc26]
          refine cond_false_rule (b := false) (by kernel_rfl) rfl ?_
          refine wp_skip ?_
          refine wp_seq ?_
          refine draw_rule (C := []) ⟨(fun φ28 xs28 => [.look 0 [.o 0, .o 0, .o 0] [(φ1 0), (φ1 0), (φ1 0)], .new, .look 0 [] [], .look 0 [.o 1, .o 1, .o 1] [(φ1 1), (φ1 1), (φ1 1)], .new, .look 0 [] [], .new, .new, .store 0 [.o 4, .o 4, .o 4] [(φ28 6), (φ28 6), (φ28 6)], .store 1 [.o 6, .o 6, .o 6] [(φ28 7), (φ28 7), (φ28 7)]]), (fun φ28 xs28 => [.agg #[.int .i64 p.k, .string ⟨(p.a).toArray⟩, .string ⟨(p.v).toArray⟩], .slice (some ⟨(φ28 1), 0, none⟩) 1 1, .agg #[.slice (some ⟨(φ28 1), 0, none⟩) 1 1, .slice none 0 0, .slice none 0 0], .agg #[.int .i64 q.k, .string ⟨(q.a).toArray⟩, .string ⟨(q.v).toArray⟩], .slice (some ⟨(φ28 4), 0, none⟩) 1 1, .agg #[.slice none 0 0, .slice (some ⟨(φ28 4), 0, none⟩) 1 1, .slice none 0 0], .pointer (some ⟨(φ28 6), 0, none⟩), .pointer (some ⟨(φ28 7), 0, none⟩), undef, undef]), (fun φ28 xs28 => [[((φ1 0), .cells #[.int .i64 p.k, .string ⟨(p.a).toArray⟩, .string ⟨(p.v).toArray⟩] 39), ((φ1 1), .cells #[.int .i64 q.k, .string ⟨(q.a).toArray⟩, .string ⟨(q.v).toArray⟩] 39), ((φ6 0), .cells #[.slice a5 (List.length (madeF L)) c5] 26)], [((φ1 0), .cells #[.int .i64 p.k, .string ⟨(p.a).toArray⟩, .string ⟨(p.v).toArray⟩] 39), ((φ1 1), .cells #[.int .i64 q.k, .string ⟨(q.a).toArray⟩, .string ⟨(q.v).toArray⟩] 39), ((φ6 0), .cells #[.slice a5 (List.length (madeF L)) c5] 26)], [((φ1 0), .cells #[.int .i64 p.k, .string ⟨(p.a).toArray⟩, .string ⟨(p.v).toArray⟩] 39), ((φ1 1), .cells #[.int .i64 q.k, .string ⟨(q.a).toArray⟩, .string ⟨(q.v).toArray⟩] 39), ((φ6 0), .cells #[.slice a5 (List.length (madeF L)) c5] 26)]]), (fun φ28 xs28 => [[default, .cells #[.int .i64 p.k, .string ⟨(p.a).toArray⟩, .string ⟨(p.v).toArray⟩] 39, default, default, .cells #[.int .i64 q.k, .string ⟨(q.a).toArray⟩, .string ⟨(q.v).toArray⟩] 39, default, .cells #[.slice none 0 0, .slice none 0 0, .slice none 0 0] 56, .cells #[.slice none 0 0, .slice none 0 0, .slice none 0 0] 56, default, default], [default, .cells #[.int .i64 p.k, .string ⟨(p.a).toArray⟩, .string ⟨(p.v).toArray⟩] 39, default, default, .cells #[.int .i64 q.k, .string ⟨(q.a).toArray⟩, .string ⟨(q.v).toArray⟩] 39, default, .cells #[.slice (some ⟨(φ28 1), 0, none⟩) 1 1, .slice none 0 0, .slice none 0 0] 56, .cells #[.slice none 0 0, .slice none 0 0, .slice none 0 0] 56, default, default], [default, .cells #[.int .i64 p.k, .string ⟨(p.a).toArray⟩, .string ⟨(p.v).toArray⟩] 39, default, default, .cells #[.int .i64 q.k, .string ⟨(q.a).toArray⟩, .string ⟨(q.v).toArray⟩] 39, default, .cells #[.slice (some ⟨(φ28 1), 0, none⟩) 1 1, .slice none 0 0, .slice none 0 0] 56, .cells #[.slice none 0 0, .slice (some ⟨(φ28 4), 0, none⟩) 1 1, .slice none 0 0] 56, default, default]]), [8, 9], [1, 2, 1, 1, 2, 1, 2, 2, 4, 4]⟩ (fun j => ([MP.any, MP.any, MP.any, MP.any, MP.any, MP.any, MP.any, MP.any, MP.any, MP.any] : List MP).getD j MP.any) [] [] [] (fun φ28 xs28 => [[none, none, none, none, some (.cells #[.int .i64 q.k, .string ⟨(q.a).toArray⟩, .string ⟨(q.v).toArray⟩] 39), none, none, none, none, none], [none, none, none, none, none, none, none, none, none, none]]) (fun φ28 xs28 => [(49, .agg #[.int .i64 p.k, .string ⟨(p.a).toArray⟩, .string ⟨(p.v).toArray⟩]), (50, .slice (some ⟨(φ28 1), 0, none⟩) 1 1), (51, .agg #[.slice (some ⟨(φ28 1), 0, none⟩) 1 1, .slice none 0 0, .slice none 0 0]), (52, .agg #[.int .i64 q.k, .string ⟨(q.a).toArray⟩, .string ⟨(q.v).toArray⟩]), (53, .slice (some ⟨(φ28 4), 0, none⟩) 1 1), (54, .agg #[.slice none 0 0, .slice (some ⟨(φ28 4), 0, none⟩) 1 1, .slice none 0 0]), (10, .pointer (some ⟨(φ28 6), 0, none⟩)), (11, .pointer (some ⟨(φ28 7), 0, none⟩))]) (fun φ28 xs28 => [((φ1 0), .cells #[.int .i64 p.k, .string ⟨(p.a).toArray⟩, .string ⟨(p.v).toArray⟩] 39), ((φ1 1), .cells #[.int .i64 q.k, .string ⟨(q.a).toArray⟩, .string ⟨(q.v).toArray⟩] 39), ((φ6 0), .cells #[.slice a5 (List.length (madeF L)) c5] 26), ((φ28 1), .cells #[.int .i64 p.k, .string ⟨(p.a).toArray⟩, .string ⟨(p.v).toArray⟩] 39), ((φ28 4), .cells #[.int .i64 q.k, .string ⟨(q.a).toArray⟩, .string ⟨(q.v).toArray⟩] 39), ((φ28 6), .cells #[.slice (some ⟨(φ28 1), 0, none⟩) 1 1, .slice none 0 0, .slice none 0 0] 56), ((φ28 7), .cells #[.slice none 0 0, .slice (some ⟨(φ28 4), 0, none⟩) 1 1, .slice none 0 0] 56)]) s trivial (by kernel_rfl) (by kernel_rfl) (fun _ _ => by kernel_rfl) (fun _ _ => by kernel_rfl) ⟨fun _ _ => by kernel_rfl, fun _ _ => by kernel_rfl, fun _ _ => by kernel_rfl, fun _ _ => by kernel_rfl⟩ (fun _ _ _ => by kernel_rfl) (fun _ _ => by kernel_rfl) (fun _ _ => by kernel_rfl) (fun _ _ => by kernel_rfl) (fun _ _ => by kernel_rfl) (fun _ _ => by kernel_rfl) trivial trivial (by kernel_rfl) trivial ?k28
          case k28 =>
            rintro φ28 xs28 I28 w28 le28 s 
            replace h0 := FSl.mono le28 h0
            replace hN := Tx.NmT.mono le28 hN
            replace hT := Tx.U8.mono le28 hT
            replace h5_0 := FSl.mono le28 h5_0
            replace h5_1 := FSl.mono le28 h5_1
            replace h9 := FSl.mono le28 h9
            refine wp_seq ?_
            obtain ⟨I29, le29, hk29, s⟩ := s.freezeAt 3 (φ28 1) (.cells #[.int .i64 p.k, .string ⟨(p.a).toArray⟩, .string ⟨(p.v).toArray⟩] 39) [((φ1 0), .cells #[.int .i64 p.k, .string ⟨(p.a).toArray⟩, .string ⟨(p.v).toArray⟩] 39), ((φ1 1), .cells #[.int .i64 q.k, .string ⟨(q.a).toArray⟩, .string ⟨(q.v).toArray⟩] 39), ((φ6 0), .cells #[.slice a5 (List.length (madeF L)) c5] 26), ((φ28 4), .cells #[.int .i64 q.k, .string ⟨(q.a).toArray⟩, .string ⟨(q.v).toArray⟩] 39), ((φ28 6), .cells #[.slice (some ⟨(φ28 1), 0, none⟩) 1 1, .slice none 0 0, .slice none 0 0] 56), ((φ28 7), .cells #[.slice none 0 0, .slice (some ⟨(φ28 4), 0, none⟩) 1 1, .slice none 0 0] 56)] (by kernel_rfl) (by kernel_rfl)
            replace h0 := FSl.mono le29 h0
            replace hN := Tx.NmT.mono le29 hN
            replace hT := Tx.U8.mono le29 hT
            replace h5_0 := FSl.mono le29 h5_0
            replace h5_1 := FSl.mono le29 h5_1
            replace h9 := FSl.mono le29 h9
            have hz30 := fsl_rbG (z := p.k) (A := p.a) (B := p.v) hk29
            obtain ⟨I31, le31, hk31, s⟩ := s.freezeAt 3 (φ28 4) (.cells #[.int .i64 q.k, .string ⟨(q.a).toArray⟩, .string ⟨(q.v).toArray⟩] 39) [((φ1 0), .cells #[.int .i64 p.k, .string ⟨(p.a).toArray⟩, .string ⟨(p.v).toArray⟩] 39), ((φ1 1), .cells #[.int .i64 q.k, .string ⟨(q.a).toArray⟩, .string ⟨(q.v).toArray⟩] 39), ((φ6 0), .cells #[.slice a5 (List.length (madeF L)) c5] 26), ((φ28 6), .cells #[.slice (some ⟨(φ28 1), 0, none⟩) 1 1, .slice none 0 0, .slice none 0 0] 56), ((φ28 7), .cells #[.slice none 0 0, .slice (some ⟨(φ28 4), 0, none⟩) 1 1, .slice none 0 0] 56)] (by kernel_rfl) (by kernel_rfl)
            replace h0 := FSl.mono le31 h0
            replace hN := Tx.NmT.mono le31 hN
            replace hT := Tx.U8.mono le31 hT
            replace h5_0 := FSl.mono le31 h5_0
            replace h5_1 := FSl.mono le31 h5_1
            replace h9 := FSl.mono le31 h9
            replace hz30 := FSl.mono le31 hz30
            replace hk29 := le31 _ _ hk29
            have hz32 := fsl_rbG (z := q.k) (A := q.a) (B := q.v) hk31
            refine region_rule ?_
            refine ops_rule (C := []) [((φ1 0), .cells #[.int .i64 p.k, .string ⟨(p.a).toArray⟩, .string ⟨(p.v).toArray⟩] 39), ((φ1 1), .cells #[.int .i64 q.k, .string ⟨(q.a).toArray⟩, .string ⟨(q.v).toArray⟩] 39), ((φ6 0), .cells #[.slice a5 (List.length (madeF L)) c5] 26), ((φ28 6), .cells #[.slice (some ⟨(φ28 1), 0, none⟩) 1 1, .slice none 0 0, .slice none 0 0] 56), ((φ28 7), .cells #[.slice none 0 0, .slice (some ⟨(φ28 4), 0, none⟩) 1 1, .slice none 0 0] 56)] [] 2 [.o 2, .o 4, .o 4, .o 4] 0 (fun φ33 => [(57, .agg #[.slice none 0 0, .slice (some ⟨(φ28 4), 0, none⟩) 1 1, .slice none 0 0]), (56, .agg #[.slice a5 (List.length (madeF L)) c5])]) (fun φ33 => [((φ1 0), .cells #[.int .i64 p.k, .string ⟨(p.a).toArray⟩, .string ⟨(p.v).toArray⟩] 39), ((φ1 1), .cells #[.int .i64 q.k, .string ⟨(q.a).toArray⟩, .string ⟨(q.v).toArray⟩] 39), ((φ6 0), .cells #[.slice a5 (List.length (madeF L)) c5] 26), ((φ28 6), .cells #[.slice (some ⟨(φ28 1), 0, none⟩) 1 1, .slice none 0 0, .slice none 0 0] 56), ((φ28 7), .cells #[.slice none 0 0, .slice (some ⟨(φ28 4), 0, none⟩) 1 1, .slice none 0 0] 56)]) (fun φ33 => [(φ6 0), (φ28 7), (φ28 7), (φ28 7)]) s trivial (fun φ33 => by kernel_rfl) ?_
            intro φ33 w33 s
            refine call_rule (some 58) s (dropM_c h5_0 hN hT hz32) (by kernel_rfl) ?_
            intro v34 I34 w34 le34 h34 s
            replace h0 := FSl.mono le34 h0
            replace hN := Tx.NmT.mono le34 hN
            replace hT := Tx.U8.mono le34 hT
            replace h5_0 := FSl.mono le34 h5_0
            replace h5_1 := FSl.mono le34 h5_1
            replace h9 := FSl.mono le34 h9
            replace hz30 := FSl.mono le34 hz30
            replace hz32 := FSl.mono le34 hz32
            replace hk29 := le34 _ _ hk29
            replace hk31 := le34 _ _ hk31
            obtain ⟨a34, c34, rfl, h34_0⟩ := h34
            refine ops_rule (C := []) [((φ1 0), .cells #[.int .i64 p.k, .string ⟨(p.a).toArray⟩, .string ⟨(p.v).toArray⟩] 39), ((φ1 1), .cells #[.int .i64 q.k, .string ⟨(q.a).toArray⟩, .string ⟨(q.v).toArray⟩] 39), ((φ6 0), .cells #[.slice a5 (List.length (madeF L)) c5] 26), ((φ28 6), .cells #[.slice (some ⟨(φ28 1), 0, none⟩) 1 1, .slice none 0 0, .slice none 0 0] 56), ((φ28 7), .cells #[.slice none 0 0, .slice (some ⟨(φ28 4), 0, none⟩) 1 1, .slice none 0 0] 56)] [] 6 [.o 5] 1 (fun φ35 => [(13, .int .i64 0), (12, .pointer (some ⟨(φ35 0), 0, none⟩)), (60, .int .i64 0), (59, .agg #[.slice a34 (List.length (mP (madeF L) q)) c34]), (55, .tuple #[.agg #[.slice a34 (List.length (mP (madeF L) q)) c34], .int .i64 0])]) (fun φ35 => [((φ1 0), .cells #[.int .i64 p.k, .string ⟨(p.a).toArray⟩, .string ⟨(p.v).toArray⟩] 39), ((φ1 1), .cells #[.int .i64 q.k, .string ⟨(q.a).toArray⟩, .string ⟨(q.v).toArray⟩] 39), ((φ6 0), .cells #[.slice a5 (List.length (madeF L)) c5] 26), ((φ28 6), .cells #[.slice (some ⟨(φ28 1), 0, none⟩) 1 1, .slice none 0 0, .slice none 0 0] 56), ((φ28 7), .cells #[.slice none 0 0, .slice (some ⟨(φ28 4), 0, none⟩) 1 1, .slice none 0 0] 56), ((φ35 0), .cells #[.slice a34 (List.length (mP (madeF L) q)) c34] 26)]) (fun φ35 => [(φ35 0)]) s trivial (fun φ35 => by kernel_rfl) ?_
            intro φ35 w35 s
            refine ops_done (by kernel_rfl) ?_
            refine wp_seq ?_
            refine region_rule ?_
            refine ops_rule (C := []) [((φ1 0), .cells #[.int .i64 p.k, .string ⟨(p.a).toArray⟩, .string ⟨(p.v).toArray⟩] 39), ((φ1 1), .cells #[.int .i64 q.k, .string ⟨(q.a).toArray⟩, .string ⟨(q.v).toArray⟩] 39), ((φ6 0), .cells #[.slice a5 (List.length (madeF L)) c5] 26), ((φ28 6), .cells #[.slice (some ⟨(φ28 1), 0, none⟩) 1 1, .slice none 0 0, .slice none 0 0] 56), ((φ28 7), .cells #[.slice none 0 0, .slice (some ⟨(φ28 4), 0, none⟩) 1 1, .slice none 0 0] 56), ((φ35 0), .cells #[.slice a34 (List.length (mP (madeF L) q)) c34] 26)] [] 2 [.o 5, .o 3, .o 3, .o 3] 0 (fun φ36 => [(63, .agg #[.slice (some ⟨(φ28 1), 0, none⟩) 1 1, .slice none 0 0, .slice none 0 0]), (62, .agg #[.slice a34 (List.length (mP (madeF L) q)) c34])]) (fun φ36 => [((φ1 0), .cells #[.int .i64 p.k, .string ⟨(p.a).toArray⟩, .string ⟨(p.v).toArray⟩] 39), ((φ1 1), .cells #[.int .i64 q.k, .string ⟨(q.a).toArray⟩, .string ⟨(q.v).toArray⟩] 39), ((φ6 0), .cells #[.slice a5 (List.length (madeF L)) c5] 26), ((φ28 6), .cells #[.slice (some ⟨(φ28 1), 0, none⟩) 1 1, .slice none 0 0, .slice none 0 0] 56), ((φ28 7), .cells #[.slice none 0 0, .slice (some ⟨(φ28 4), 0, none⟩) 1 1, .slice none 0 0] 56), ((φ35 0), .cells #[.slice a34 (List.length (mP (madeF L) q)) c34] 26)]) (fun φ36 => [(φ35 0), (φ28 6), (φ28 6), (φ28 6)]) s trivial (fun φ36 => by kernel_rfl) ?_
            intro φ36 w36 s
            refine call_rule (some 64) s (addM_c h34_0 hN hT hz30 (rt0 hc15) hsp) (by kernel_rfl) ?_
            intro v37 I37 w37 le37 h37 s
            replace h0 := FSl.mono le37 h0
            replace hN := Tx.NmT.mono le37 hN
            replace hT := Tx.U8.mono le37 hT
            replace h5_0 := FSl.mono le37 h5_0
            replace h5_1 := FSl.mono le37 h5_1
            replace h9 := FSl.mono le37 h9
            replace hz30 := FSl.mono le37 hz30
            replace hz32 := FSl.mono le37 hz32
            replace h34_0 := FSl.mono le37 h34_0
            replace hk29 := le37 _ _ hk29
            replace hk31 := le37 _ _ hk31
            obtain ⟨a37, c37, rfl, h37_0⟩ := h37
            refine ops_rule (C := []) [((φ1 0), .cells #[.int .i64 p.k, .string ⟨(p.a).toArray⟩, .string ⟨(p.v).toArray⟩] 39), ((φ1 1), .cells #[.int .i64 q.k, .string ⟨(q.a).toArray⟩, .string ⟨(q.v).toArray⟩] 39), ((φ6 0), .cells #[.slice a5 (List.length (madeF L)) c5] 26), ((φ28 6), .cells #[.slice (some ⟨(φ28 1), 0, none⟩) 1 1, .slice none 0 0, .slice none 0 0] 56), ((φ28 7), .cells #[.slice none 0 0, .slice (some ⟨(φ28 4), 0, none⟩) 1 1, .slice none 0 0] 56), ((φ35 0), .cells #[.slice a34 (List.length (mP (madeF L) q)) c34] 26)] [] 5 [.o 5] 0 (fun φ38 => [(14, .int .i64 ((mgE (madeF L) p q : Nat) : Int)), (66, .int .i64 ((mgE (madeF L) p q : Nat) : Int)), (65, .agg #[.slice a37 (List.length (mgA (madeF L) p q)) c37]), (61, .tuple #[.agg #[.slice a37 (List.length (mgA (madeF L) p q)) c37], .int .i64 ((mgE (madeF L) p q : Nat) : Int)])]) (fun φ38 => [((φ1 0), .cells #[.int .i64 p.k, .string ⟨(p.a).toArray⟩, .string ⟨(p.v).toArray⟩] 39), ((φ1 1), .cells #[.int .i64 q.k, .string ⟨(q.a).toArray⟩, .string ⟨(q.v).toArray⟩] 39), ((φ6 0), .cells #[.slice a5 (List.length (madeF L)) c5] 26), ((φ28 6), .cells #[.slice (some ⟨(φ28 1), 0, none⟩) 1 1, .slice none 0 0, .slice none 0 0] 56), ((φ28 7), .cells #[.slice none 0 0, .slice (some ⟨(φ28 4), 0, none⟩) 1 1, .slice none 0 0] 56), ((φ35 0), .cells #[.slice a37 (List.length (mgA (madeF L) p q)) c37] 26)]) (fun φ38 => [(φ35 0)]) s trivial (fun φ38 => by kernel_rfl) ?_
            intro φ38 w38 s
            refine ops_done (by kernel_rfl) ?_
            refine wp_seq ?_
            refine region_rule ?_
            refine ops_rule (C := []) [((φ1 0), .cells #[.int .i64 p.k, .string ⟨(p.a).toArray⟩, .string ⟨(p.v).toArray⟩] 39), ((φ1 1), .cells #[.int .i64 q.k, .string ⟨(q.a).toArray⟩, .string ⟨(q.v).toArray⟩] 39), ((φ6 0), .cells #[.slice a5 (List.length (madeF L)) c5] 26), ((φ28 6), .cells #[.slice (some ⟨(φ28 1), 0, none⟩) 1 1, .slice none 0 0, .slice none 0 0] 56), ((φ28 7), .cells #[.slice none 0 0, .slice (some ⟨(φ28 4), 0, none⟩) 1 1, .slice none 0 0] 56), ((φ35 0), .cells #[.slice a37 (List.length (mgA (madeF L) p q)) c37] 26)] [] 6 [.o 2, .o 3, .o 4] 0 (fun φ39 => [(73, .agg #[.slice (some ⟨(φ28 1), 0, none⟩) 1 1, .slice (some ⟨(φ28 4), 0, none⟩) 1 1, .slice none 0 0]), (72, .slice (some ⟨(φ28 4), 0, none⟩) 1 1), (71, .pointer (some ⟨(φ28 7), 1, none⟩)), (70, .slice (some ⟨(φ28 1), 0, none⟩) 1 1), (69, .pointer (some ⟨(φ28 6), 0, none⟩)), (68, .agg #[.slice a5 (List.length (madeF L)) c5])]) (fun φ39 => [((φ1 0), .cells #[.int .i64 p.k, .string ⟨(p.a).toArray⟩, .string ⟨(p.v).toArray⟩] 39), ((φ1 1), .cells #[.int .i64 q.k, .string ⟨(q.a).toArray⟩, .string ⟨(q.v).toArray⟩] 39), ((φ6 0), .cells #[.slice a5 (List.length (madeF L)) c5] 26), ((φ28 6), .cells #[.slice (some ⟨(φ28 1), 0, none⟩) 1 1, .slice none 0 0, .slice none 0 0] 56), ((φ28 7), .cells #[.slice none 0 0, .slice (some ⟨(φ28 4), 0, none⟩) 1 1, .slice none 0 0] 56), ((φ35 0), .cells #[.slice a37 (List.length (mgA (madeF L) p q)) c37] 26)]) (fun φ39 => [(φ6 0), (φ28 6), (φ28 7)]) s trivial (fun φ39 => by kernel_rfl) ?_
            intro φ39 w39 s
            refine call_rule (some 74) s (bothM_c h5_0 hN hT hz30 hz32 (rt0 hc15) hsp) (by kernel_rfl) ?_
            intro v40 I40 w40 le40 h40 s
            replace h0 := FSl.mono le40 h0
            replace hN := Tx.NmT.mono le40 hN
            replace hT := Tx.U8.mono le40 hT
            replace h5_0 := FSl.mono le40 h5_0
            replace h5_1 := FSl.mono le40 h5_1
            replace h9 := FSl.mono le40 h9
            replace hz30 := FSl.mono le40 hz30
            replace hz32 := FSl.mono le40 hz32
            replace h34_0 := FSl.mono le40 h34_0
            replace h37_0 := FSl.mono le40 h37_0
            replace hk29 := le40 _ _ hk29
            replace hk31 := le40 _ _ hk31
            obtain ⟨a40, c40, rfl, h40_0⟩ := h40
            refine ops_rule (C := []) [((φ1 0), .cells #[.int .i64 p.k, .string ⟨(p.a).toArray⟩, .string ⟨(p.v).toArray⟩] 39), ((φ1 1), .cells #[.int .i64 q.k, .string ⟨(q.a).toArray⟩, .string ⟨(q.v).toArray⟩] 39), ((φ6 0), .cells #[.slice a5 (List.length (madeF L)) c5] 26), ((φ28 6), .cells #[.slice (some ⟨(φ28 1), 0, none⟩) 1 1, .slice none 0 0, .slice none 0 0] 56), ((φ28 7), .cells #[.slice none 0 0, .slice (some ⟨(φ28 4), 0, none⟩) 1 1, .slice none 0 0] 56), ((φ35 0), .cells #[.slice a37 (List.length (mgA (madeF L) p q)) c37] 26)] [] 6 [.o 6] 1 (fun φ41 => [(16, .int .i64 ((mgE (madeF L) p q : Nat) : Int)), (15, .pointer (some ⟨(φ41 0), 0, none⟩)), (76, .int .i64 ((mgE (madeF L) p q : Nat) : Int)), (75, .agg #[.slice a40 (List.length (mgB (madeF L) p q)) c40]), (67, .tuple #[.agg #[.slice a40 (List.length (mgB (madeF L) p q)) c40], .int .i64 ((mgE (madeF L) p q : Nat) : Int)])]) (fun φ41 => [((φ1 0), .cells #[.int .i64 p.k, .string ⟨(p.a).toArray⟩, .string ⟨(p.v).toArray⟩] 39), ((φ1 1), .cells #[.int .i64 q.k, .string ⟨(q.a).toArray⟩, .string ⟨(q.v).toArray⟩] 39), ((φ6 0), .cells #[.slice a5 (List.length (madeF L)) c5] 26), ((φ28 6), .cells #[.slice (some ⟨(φ28 1), 0, none⟩) 1 1, .slice none 0 0, .slice none 0 0] 56), ((φ28 7), .cells #[.slice none 0 0, .slice (some ⟨(φ28 4), 0, none⟩) 1 1, .slice none 0 0] 56), ((φ35 0), .cells #[.slice a37 (List.length (mgA (madeF L) p q)) c37] 26), ((φ41 0), .cells #[.slice a40 (List.length (mgB (madeF L) p q)) c40] 26)]) (fun φ41 => [(φ41 0)]) s trivial (fun φ41 => by kernel_rfl) ?_
            intro φ41 w41 s
            refine ops_done (by kernel_rfl) ?_
            refine wp_seq ?_
            refine wp_seq ?_
            refine region_rule ?_
            refine ops_rule (C := []) [((φ1 0), .cells #[.int .i64 p.k, .string ⟨(p.a).toArray⟩, .string ⟨(p.v).toArray⟩] 39), ((φ1 1), .cells #[.int .i64 q.k, .string ⟨(q.a).toArray⟩, .string ⟨(q.v).toArray⟩] 39), ((φ6 0), .cells #[.slice a5 (List.length (madeF L)) c5] 26), ((φ28 6), .cells #[.slice (some ⟨(φ28 1), 0, none⟩) 1 1, .slice none 0 0, .slice none 0 0] 56), ((φ28 7), .cells #[.slice none 0 0, .slice (some ⟨(φ28 4), 0, none⟩) 1 1, .slice none 0 0] 56), ((φ35 0), .cells #[.slice a37 (List.length (mgA (madeF L) p q)) c37] 26), ((φ41 0), .cells #[.slice a40 (List.length (mgB (madeF L) p q)) c40] 26)] [] 5 [] 0 (fun φ42 => [(81, .int .i64 ((mgE (madeF L) p q : Nat) : Int)), (80, .int .i64 ((mgE (madeF L) p q : Nat) : Int)), (79, .bool false), (78, .bool false), (77, .int .i64 0)]) (fun φ42 => [((φ1 0), .cells #[.int .i64 p.k, .string ⟨(p.a).toArray⟩, .string ⟨(p.v).toArray⟩] 39), ((φ1 1), .cells #[.int .i64 q.k, .string ⟨(q.a).toArray⟩, .string ⟨(q.v).toArray⟩] 39), ((φ6 0), .cells #[.slice a5 (List.length (madeF L)) c5] 26), ((φ28 6), .cells #[.slice (some ⟨(φ28 1), 0, none⟩) 1 1, .slice none 0 0, .slice none 0 0] 56), ((φ28 7), .cells #[.slice none 0 0, .slice (some ⟨(φ28 4), 0, none⟩) 1 1, .slice none 0 0] 56), ((φ35 0), .cells #[.slice a37 (List.length (mgA (madeF L) p q)) c37] 26), ((φ41 0), .cells #[.slice a40 (List.length (mgB (madeF L) p q)) c40] 26)]) (fun φ42 => []) s trivial (fun φ42 => by kernel_rfl) ?_
            intro φ42 w42 s
            refine sem_rule (binOp .neq 27 (.int .i64 ((mgE (madeF L) p q : Nat) : Int)) (.int .i64 ((mgE (madeF L) p q : Nat) : Int))) (some 82) (.bool false) (by kernel_rfl) (run_neI27) ?_
            refine ops_rule (C := []) [((φ1 0), .cells #[.int .i64 p.k, .string ⟨(p.a).toArray⟩, .string ⟨(p.v).toArray⟩] 39), ((φ1 1), .cells #[.int .i64 q.k, .string ⟨(q.a).toArray⟩, .string ⟨(q.v).toArray⟩] 39), ((φ6 0), .cells #[.slice a5 (List.length (madeF L)) c5] 26), ((φ28 6), .cells #[.slice (some ⟨(φ28 1), 0, none⟩) 1 1, .slice none 0 0, .slice none 0 0] 56), ((φ28 7), .cells #[.slice none 0 0, .slice (some ⟨(φ28 4), 0, none⟩) 1 1, .slice none 0 0] 56), ((φ35 0), .cells #[.slice a37 (List.length (mgA (madeF L) p q)) c37] 26), ((φ41 0), .cells #[.slice a40 (List.length (mgB (madeF L) p q)) c40] 26)] [] 5 [] 0 (fun φ43 => [(87, .bool (((mgE (madeF L) p q : Nat) : Int) == ((0 : Nat) : Int))), (86, .bool (((mgE (madeF L) p q : Nat) : Int) == ((0 : Nat) : Int))), (85, .int .i64 ((mgE (madeF L) p q : Nat) : Int)), (84, .bool false), (83, .bool false)]) (fun φ43 => [((φ1 0), .cells #[.int .i64 p.k, .string ⟨(p.a).toArray⟩, .string ⟨(p.v).toArray⟩] 39), ((φ1 1), .cells #[.int .i64 q.k, .string ⟨(q.a).toArray⟩, .string ⟨(q.v).toArray⟩] 39), ((φ6 0), .cells #[.slice a5 (List.length (madeF L)) c5] 26), ((φ28 6), .cells #[.slice (some ⟨(φ28 1), 0, none⟩) 1 1, .slice none 0 0, .slice none 0 0] 56), ((φ28 7), .cells #[.slice none 0 0, .slice (some ⟨(φ28 4), 0, none⟩) 1 1, .slice none 0 0] 56), ((φ35 0), .cells #[.slice a37 (List.length (mgA (madeF L) p q)) c37] 26), ((φ41 0), .cells #[.slice a40 (List.length (mgB (madeF L) p q)) c40] 26)]) (fun φ43 => []) s trivial (fun φ43 => by kernel_rfl) ?_
            intro φ43 w43 s
            rw [nat_eql (a := (mgE (madeF L) p q)) (b := 0)]
            rcases Bool.eq_false_or_eq_true (decide ((mgE (madeF L) p q) = 0)) with hc44 | hc44
            ·
              rw [hc44]
              refine ops_rule (C := []) [((φ1 0), .cells #[.int .i64 p.k, .string ⟨(p.a).toArray⟩, .string ⟨(p.v).toArray⟩] 39), ((φ1 1), .cells #[.int .i64 q.k, .string ⟨(q.a).toArray⟩, .string ⟨(q.v).toArray⟩] 39), ((φ6 0), .cells #[.slice a5 (List.length (madeF L)) c5] 26), ((φ28 6), .cells #[.slice (some ⟨(φ28 1), 0, none⟩) 1 1, .slice none 0 0, .slice none 0 0] 56), ((φ28 7), .cells #[.slice none 0 0, .slice (some ⟨(φ28 4), 0, none⟩) 1 1, .slice none 0 0] 56), ((φ35 0), .cells #[.slice a37 (List.length (mgA (madeF L) p q)) c37] 26), ((φ41 0), .cells #[.slice a40 (List.length (mgB (madeF L) p q)) c40] 26)] [] 2 [.o 5, .o 6] 0 (fun φ45 => [(89, .agg #[.slice a40 (List.length (mgB (madeF L) p q)) c40]), (88, .agg #[.slice a37 (List.length (mgA (madeF L) p q)) c37])]) (fun φ45 => [((φ1 0), .cells #[.int .i64 p.k, .string ⟨(p.a).toArray⟩, .string ⟨(p.v).toArray⟩] 39), ((φ1 1), .cells #[.int .i64 q.k, .string ⟨(q.a).toArray⟩, .string ⟨(q.v).toArray⟩] 39), ((φ6 0), .cells #[.slice a5 (List.length (madeF L)) c5] 26), ((φ28 6), .cells #[.slice (some ⟨(φ28 1), 0, none⟩) 1 1, .slice none 0 0, .slice none 0 0] 56), ((φ28 7), .cells #[.slice none 0 0, .slice (some ⟨(φ28 4), 0, none⟩) 1 1, .slice none 0 0] 56), ((φ35 0), .cells #[.slice a37 (List.length (mgA (madeF L) p q)) c37] 26), ((φ41 0), .cells #[.slice a40 (List.length (mgB (madeF L) p q)) c40] 26)]) (fun φ45 => [(φ35 0), (φ41 0)]) s trivial (fun φ45 => by kernel_rfl) ?_
              intro φ45 w45 s
              refine call_rule (some 90) s (sameM_c h37_0 h40_0 (of_decide_eq_true hc44)) (by kernel_rfl) ?_
              intro v46 I46 w46 le46 h46 s
              replace h0 := FSl.mono le46 h0
              replace hN := Tx.NmT.mono le46 hN
              replace hT := Tx.U8.mono le46 hT
              replace h5_0 := FSl.mono le46 h5_0
              replace h5_1 := FSl.mono le46 h5_1
              replace h9 := FSl.mono le46 h9
              replace hz30 := FSl.mono le46 hz30
              replace hz32 := FSl.mono le46 hz32
              replace h34_0 := FSl.mono le46 h34_0
              replace h37_0 := FSl.mono le46 h37_0
              replace h40_0 := FSl.mono le46 h40_0
              replace hk29 := le46 _ _ hk29
              replace hk31 := le46 _ _ hk31
              obtain rfl := h46
              refine ops_rule (C := []) [((φ1 0), .cells #[.int .i64 p.k, .string ⟨(p.a).toArray⟩, .string ⟨(p.v).toArray⟩] 39), ((φ1 1), .cells #[.int .i64 q.k, .string ⟨(q.a).toArray⟩, .string ⟨(q.v).toArray⟩] 39), ((φ6 0), .cells #[.slice a5 (List.length (madeF L)) c5] 26), ((φ28 6), .cells #[.slice (some ⟨(φ28 1), 0, none⟩) 1 1, .slice none 0 0, .slice none 0 0] 56), ((φ28 7), .cells #[.slice none 0 0, .slice (some ⟨(φ28 4), 0, none⟩) 1 1, .slice none 0 0] 56), ((φ35 0), .cells #[.slice a37 (List.length (mgA (madeF L) p q)) c37] 26), ((φ41 0), .cells #[.slice a40 (List.length (mgB (madeF L) p q)) c40] 26)] [] 3 [] 0 (fun φ47 => [(93, .bool false), (92, .bool false), (91, .bool false)]) (fun φ47 => [((φ1 0), .cells #[.int .i64 p.k, .string ⟨(p.a).toArray⟩, .string ⟨(p.v).toArray⟩] 39), ((φ1 1), .cells #[.int .i64 q.k, .string ⟨(q.a).toArray⟩, .string ⟨(q.v).toArray⟩] 39), ((φ6 0), .cells #[.slice a5 (List.length (madeF L)) c5] 26), ((φ28 6), .cells #[.slice (some ⟨(φ28 1), 0, none⟩) 1 1, .slice none 0 0, .slice none 0 0] 56), ((φ28 7), .cells #[.slice none 0 0, .slice (some ⟨(φ28 4), 0, none⟩) 1 1, .slice none 0 0] 56), ((φ35 0), .cells #[.slice a37 (List.length (mgA (madeF L) p q)) c37] 26), ((φ41 0), .cells #[.slice a40 (List.length (mgB (madeF L) p q)) c40] 26)]) (fun φ47 => []) s trivial (fun φ47 => by kernel_rfl) ?_
              intro φ47 w47 s
              refine ops_done (by kernel_rfl) ?_
              refine cond_false_rule (b := false) (by kernel_rfl) rfl ?_
              refine wp_skip ?_
              refine wp_seq ?_
              refine draw_rule (C := []) ⟨(fun φ48 xs48 => [.look 0 [.o 2] [(φ6 0)], .look 0 [.o 2] [(φ6 0)], .call 19 #[.agg #[.slice a5 (List.length (madeF L)) c5]], .look 0 [] [], .call 30 #[.agg #[.slice a5 (List.length (madeF L)) c5], .agg #[.slice ((xs48 2).p 0) (List.length (madeF L)) ((xs48 2).n 0), .slice none 0 0, .slice none 0 0]], .look 0 [] [], .look 0 [] [], .look 0 [] [], .new, .store 0 [.o 7] [(φ48 8)], .look 1 [] []]), (fun φ48 xs48 => [.agg #[.slice a5 (List.length (madeF L)) c5], .agg #[.slice a5 (List.length (madeF L)) c5], .slice ((xs48 2).p 0) (List.length (madeF L)) ((xs48 2).n 0), .agg #[.slice ((xs48 2).p 0) (List.length (madeF L)) ((xs48 2).n 0), .slice none 0 0, .slice none 0 0], .tuple #[.agg #[.slice ((xs48 4).p 0) (List.length (madeF L)) ((xs48 4).n 0)], .int .i64 0], .tuple #[.agg #[.slice ((xs48 4).p 0) (List.length (madeF L)) ((xs48 4).n 0)], .int .i64 0], .agg #[.slice ((xs48 4).p 0) (List.length (madeF L)) ((xs48 4).n 0)], .int .i64 0, .pointer (some ⟨(φ48 8), 0, none⟩), undef, .int .i64 0]), (fun φ48 xs48 => [[((φ1 0), .cells #[.int .i64 p.k, .string ⟨(p.a).toArray⟩, .string ⟨(p.v).toArray⟩] 39), ((φ1 1), .cells #[.int .i64 q.k, .string ⟨(q.a).toArray⟩, .string ⟨(q.v).toArray⟩] 39), ((φ6 0), .cells #[.slice a5 (List.length (madeF L)) c5] 26), ((φ28 6), .cells #[.slice (some ⟨(φ28 1), 0, none⟩) 1 1, .slice none 0 0, .slice none 0 0] 56), ((φ28 7), .cells #[.slice none 0 0, .slice (some ⟨(φ28 4), 0, none⟩) 1 1, .slice none 0 0] 56), ((φ35 0), .cells #[.slice a37 (List.length (mgA (madeF L) p q)) c37] 26), ((φ41 0), .cells #[.slice a40 (List.length (mgB (madeF L) p q)) c40] 26)], [((φ1 0), .cells #[.int .i64 p.k, .string ⟨(p.a).toArray⟩, .string ⟨(p.v).toArray⟩] 39), ((φ1 1), .cells #[.int .i64 q.k, .string ⟨(q.a).toArray⟩, .string ⟨(q.v).toArray⟩] 39), ((φ6 0), .cells #[.slice a5 (List.length (madeF L)) c5] 26), ((φ28 6), .cells #[.slice (some ⟨(φ28 1), 0, none⟩) 1 1, .slice none 0 0, .slice none 0 0] 56), ((φ28 7), .cells #[.slice none 0 0, .slice (some ⟨(φ28 4), 0, none⟩) 1 1, .slice none 0 0] 56), ((φ35 0), .cells #[.slice a37 (List.length (mgA (madeF L) p q)) c37] 26), ((φ41 0), .cells #[.slice a40 (List.length (mgB (madeF L) p q)) c40] 26)]]), (fun φ48 xs48 => [[default, default, default, default, default, default, default, default, .cells #[.slice none 0 0] 26, default, default], [default, default, default, default, default, default, default, default, .cells #[.slice ((xs48 4).p 0) (List.length (madeF L)) ((xs48 4).n 0)] 26, default, default]]), [9], [1, 1, 3, 1, 3, 1, 1, 1, 2, 4, 1]⟩ (fun j => ([MP.any, MP.any, ⟨fun x J => FSl J (madeF L) (.slice (x.p 0) (List.length (madeF L)) (x.n 0)), fun le h => FSl.mono le h⟩, MP.any, ⟨fun x J => FSl J (madeF L) (.slice (x.p 0) (List.length (madeF L)) (x.n 0)), fun le h => FSl.mono le h⟩, MP.any, MP.any, MP.any, MP.any, MP.any, MP.any] : List MP).getD j MP.any) [2, 4] [] [] (fun φ48 xs48 => [[none, none, none, none, none, none, none, none, none, none, none]]) (fun φ48 xs48 => [(95, .agg #[.slice a5 (List.length (madeF L)) c5]), (96, .agg #[.slice a5 (List.length (madeF L)) c5]), (97, .slice ((xs48 2).p 0) (List.length (madeF L)) ((xs48 2).n 0)), (98, .agg #[.slice ((xs48 2).p 0) (List.length (madeF L)) ((xs48 2).n 0), .slice none 0 0, .slice none 0 0]), (99, .tuple #[.agg #[.slice ((xs48 4).p 0) (List.length (madeF L)) ((xs48 4).n 0)], .int .i64 0]), (94, .tuple #[.agg #[.slice ((xs48 4).p 0) (List.length (madeF L)) ((xs48 4).n 0)], .int .i64 0]), (100, .agg #[.slice ((xs48 4).p 0) (List.length (madeF L)) ((xs48 4).n 0)]), (101, .int .i64 0), (17, .pointer (some ⟨(φ48 8), 0, none⟩)), (18, .int .i64 0)]) (fun φ48 xs48 => [((φ1 0), .cells #[.int .i64 p.k, .string ⟨(p.a).toArray⟩, .string ⟨(p.v).toArray⟩] 39), ((φ1 1), .cells #[.int .i64 q.k, .string ⟨(q.a).toArray⟩, .string ⟨(q.v).toArray⟩] 39), ((φ6 0), .cells #[.slice a5 (List.length (madeF L)) c5] 26), ((φ28 6), .cells #[.slice (some ⟨(φ28 1), 0, none⟩) 1 1, .slice none 0 0, .slice none 0 0] 56), ((φ28 7), .cells #[.slice none 0 0, .slice (some ⟨(φ28 4), 0, none⟩) 1 1, .slice none 0 0] 56), ((φ35 0), .cells #[.slice a37 (List.length (mgA (madeF L) p q)) c37] 26), ((φ41 0), .cells #[.slice a40 (List.length (mgB (madeF L) p q)) c40] 26), ((φ48 8), .cells #[.slice ((xs48 4).p 0) (List.length (madeF L)) ((xs48 4).n 0)] 26)]) s trivial (by kernel_rfl) (by kernel_rfl) (fun _ _ => by kernel_rfl) (fun _ _ => by kernel_rfl) ⟨fun _ _ => by kernel_rfl, fun _ _ => by kernel_rfl, fun _ _ => by kernel_rfl, fun _ _ => by kernel_rfl⟩ (fun _ _ _ => by kernel_rfl) (fun _ _ => by kernel_rfl) (fun _ _ => by kernel_rfl) (fun _ _ => by kernel_rfl) (fun _ _ => by kernel_rfl) (fun _ _ => by kernel_rfl) trivial trivial (by kernel_rfl) ⟨?c48_2, ?c48_4, trivial⟩ ?k48
              case c48_2 =>
                refine kcast (A := ∀ (φ48 : Nat → Nat) (xs48 : Xs) (J2_48 : IM), I46.Le J2_48 → Fun Tryd.prog 19 #[.agg #[.slice a5 (List.length (madeF L)) c5]] J2_48 (fun v J' => ∃ x : UX, v = .slice (x.p 0) (List.length (madeF L)) (x.n 0) ∧ (FSl J' (madeF L) (.slice (x.p 0) (List.length (madeF L)) (x.n 0))))) (by kernel_rfl) ?_
                intro φ48 xs48 J2_48 leJ
                have h5_0 := FSl.mono leJ h5_0
                exact Fun.mono (fieldsL_c h5_0 (Nat.le_trans made_len (by decide))) (fun v J' _ ⟨y0, y1, hv, g0⟩ => ⟨{ UX.d with p := fun j => y0, n := fun j => y1 }, hv, g0⟩)
              case c48_4 =>
                refine kcast (A := ∀ (φ48 : Nat → Nat) (xs48 : Xs) (J4_48 : IM), I46.Le J4_48 → (FSl J4_48 (madeF L) (.slice ((xs48 2).p 0) (List.length (madeF L)) ((xs48 2).n 0))) → Fun Tryd.prog 30 #[.agg #[.slice a5 (List.length (madeF L)) c5], .agg #[.slice ((xs48 2).p 0) (List.length (madeF L)) ((xs48 2).n 0), .slice none 0 0, .slice none 0 0]] J4_48 (fun v J' => ∃ x : UX, v = .tuple #[.agg #[.slice (x.p 0) (List.length (madeF L)) (x.n 0)], .int .i64 0] ∧ (FSl J' (madeF L) (.slice (x.p 0) (List.length (madeF L)) (x.n 0))))) (by kernel_rfl) ?_
                intro φ48 xs48 J4_48 leJ
                rintro h48_2_0
                have hN := Tx.NmT.mono leJ hN
                have hT := Tx.U8.mono leJ hT
                have h5_0 := FSl.mono leJ h5_0
                exact Fun.mono (allM_c h5_0 hN hT h48_2_0) (fun v J' _ ⟨y0, y1, hv, g0⟩ => ⟨{ UX.d with p := fun j => y0, n := fun j => y1 }, hv, g0⟩)
              case k48 =>
                rintro φ48 xs48 I48 w48 le48 s h48_2_0 h48_4_0
                replace h0 := FSl.mono le48 h0
                replace hN := Tx.NmT.mono le48 hN
                replace hT := Tx.U8.mono le48 hT
                replace h5_0 := FSl.mono le48 h5_0
                replace h5_1 := FSl.mono le48 h5_1
                replace h9 := FSl.mono le48 h9
                replace hz30 := FSl.mono le48 hz30
                replace hz32 := FSl.mono le48 hz32
                replace h34_0 := FSl.mono le48 h34_0
                replace h37_0 := FSl.mono le48 h37_0
                replace h40_0 := FSl.mono le48 h40_0
                replace hk29 := le48 _ _ hk29
                replace hk31 := le48 _ _ hk31
                refine wp_seq ?_
                rcases Bool.eq_false_or_eq_true (decide ((mgE (madeF L) p q) ≠ 0)) with hc49 | hc49
                ·
                  exact absurd (of_decide_eq_true hc44) (of_decide_eq_true hc49)
                ·
                  refine draw_rule (C := []) ⟨(fun φ50 xs50 => [.look 0 [] [], .look 0 [] [], .look 0 [] [], .look 0 [.o 7] [(φ48 8)], .look 0 [.o 2] [(φ6 0)], .call 28 #[.agg #[.slice ((xs48 4).p 0) (List.length (madeF L)) ((xs48 4).n 0)], .agg #[.slice a5 (List.length (madeF L)) c5]], .look 0 [] [], .look 0 [] [], .look 0 [] [], .sub 0 [] [] (.bool (((mgE (madeF L) p q : Nat) : Int) != ((0 : Nat) : Int))), .look 0 [] [], .look 0 [.o 6] [(φ41 0)], .call 19 #[.agg #[.slice a40 (List.length (mgB (madeF L) p q)) c40]], .look 0 [.o 0, .o 0, .o 0] [(φ1 0), (φ1 0), (φ1 0)], .call 36 #[.slice ((xs50 12).p 0) (List.length (mgB (madeF L) p q)) ((xs50 12).n 0), .agg #[.int .i64 p.k, .string ⟨(p.a).toArray⟩, .string ⟨(p.v).toArray⟩]], .look 0 [] [], .look 0 [.o 6] [(φ41 0)], .call 19 #[.agg #[.slice a40 (List.length (mgB (madeF L) p q)) c40]], .look 0 [.o 1, .o 1, .o 1] [(φ1 1), (φ1 1), (φ1 1)], .call 36 #[.slice ((xs50 17).p 0) (List.length (mgB (madeF L) p q)) ((xs50 17).n 0), .agg #[.int .i64 q.k, .string ⟨(q.a).toArray⟩, .string ⟨(q.v).toArray⟩]], .look 0 [] [], .look 0 [] [], .look 0 [] [], .look 0 [] [], .look 0 [] []]), (fun φ50 xs50 => [.int .i64 0, .bool true, .bool true, .agg #[.slice ((xs48 4).p 0) (List.length (madeF L)) ((xs48 4).n 0)], .agg #[.slice a5 (List.length (madeF L)) c5], .bool true, .bool true, .bool true, .int .i64 ((mgE (madeF L) p q : Nat) : Int), .bool false, .bool false, .agg #[.slice a40 (List.length (mgB (madeF L) p q)) c40], .slice ((xs50 12).p 0) (List.length (mgB (madeF L) p q)) ((xs50 12).n 0), .agg #[.int .i64 p.k, .string ⟨(p.a).toArray⟩, .string ⟨(p.v).toArray⟩], .bool true, .bool true, .agg #[.slice a40 (List.length (mgB (madeF L) p q)) c40], .slice ((xs50 17).p 0) (List.length (mgB (madeF L) p q)) ((xs50 17).n 0), .agg #[.int .i64 q.k, .string ⟨(q.a).toArray⟩, .string ⟨(q.v).toArray⟩], .bool false, .bool true, .bool true, .bool true, .bool true, .bool true]), (fun φ50 xs50 => [[((φ1 0), .cells #[.int .i64 p.k, .string ⟨(p.a).toArray⟩, .string ⟨(p.v).toArray⟩] 39), ((φ1 1), .cells #[.int .i64 q.k, .string ⟨(q.a).toArray⟩, .string ⟨(q.v).toArray⟩] 39), ((φ6 0), .cells #[.slice a5 (List.length (madeF L)) c5] 26), ((φ28 6), .cells #[.slice (some ⟨(φ28 1), 0, none⟩) 1 1, .slice none 0 0, .slice none 0 0] 56), ((φ28 7), .cells #[.slice none 0 0, .slice (some ⟨(φ28 4), 0, none⟩) 1 1, .slice none 0 0] 56), ((φ35 0), .cells #[.slice a37 (List.length (mgA (madeF L) p q)) c37] 26), ((φ41 0), .cells #[.slice a40 (List.length (mgB (madeF L) p q)) c40] 26), ((φ48 8), .cells #[.slice ((xs48 4).p 0) (List.length (madeF L)) ((xs48 4).n 0)] 26)]]), (fun φ50 xs50 => [[default, default, default, default, default, default, default, default, default, default, default, default, default, default, default, default, default, default, default, default, default, default, default, default, default]]), [], [1, 1, 1, 1, 1, 3, 1, 1, 1, 5, 1, 1, 3, 1, 3, 1, 1, 3, 1, 3, 1, 1, 1, 1, 1]⟩ (fun j => ([MP.any, MP.any, MP.any, MP.any, MP.any, MP.any, MP.any, MP.any, MP.any, MP.any, MP.any, MP.any, ⟨fun x J => FSl J (mgB (madeF L) p q) (.slice (x.p 0) (List.length (mgB (madeF L) p q)) (x.n 0)), fun le h => FSl.mono le h⟩, MP.any, MP.any, MP.any, MP.any, ⟨fun x J => FSl J (mgB (madeF L) p q) (.slice (x.p 0) (List.length (mgB (madeF L) p q)) (x.n 0)), fun le h => FSl.mono le h⟩, MP.any, MP.any, MP.any, MP.any, MP.any, MP.any, MP.any] : List MP).getD j MP.any) [5, 12, 14, 17, 19] [9] [] (fun φ50 xs50 => []) (fun φ50 xs50 => [(102, .int .i64 0), (103, .bool true), (104, .bool true), (105, .agg #[.slice ((xs48 4).p 0) (List.length (madeF L)) ((xs48 4).n 0)]), (106, .agg #[.slice a5 (List.length (madeF L)) c5]), (107, .bool true), (108, .bool true), (109, .bool true), (110, .int .i64 ((mgE (madeF L) p q : Nat) : Int)), (111, .bool false), (112, .bool false), (113, .agg #[.slice a40 (List.length (mgB (madeF L) p q)) c40]), (114, .slice ((xs50 12).p 0) (List.length (mgB (madeF L) p q)) ((xs50 12).n 0)), (115, .agg #[.int .i64 p.k, .string ⟨(p.a).toArray⟩, .string ⟨(p.v).toArray⟩]), (116, .bool true), (117, .bool true), (118, .agg #[.slice a40 (List.length (mgB (madeF L) p q)) c40]), (119, .slice ((xs50 17).p 0) (List.length (mgB (madeF L) p q)) ((xs50 17).n 0)), (120, .agg #[.int .i64 q.k, .string ⟨(q.a).toArray⟩, .string ⟨(q.v).toArray⟩]), (121, .bool false), (122, .bool true), (123, .bool true), (124, .bool true), (125, .bool true), (6, .bool true)]) (fun φ50 xs50 => [((φ1 0), .cells #[.int .i64 p.k, .string ⟨(p.a).toArray⟩, .string ⟨(p.v).toArray⟩] 39), ((φ1 1), .cells #[.int .i64 q.k, .string ⟨(q.a).toArray⟩, .string ⟨(q.v).toArray⟩] 39), ((φ6 0), .cells #[.slice a5 (List.length (madeF L)) c5] 26), ((φ28 6), .cells #[.slice (some ⟨(φ28 1), 0, none⟩) 1 1, .slice none 0 0, .slice none 0 0] 56), ((φ28 7), .cells #[.slice none 0 0, .slice (some ⟨(φ28 4), 0, none⟩) 1 1, .slice none 0 0] 56), ((φ35 0), .cells #[.slice a37 (List.length (mgA (madeF L) p q)) c37] 26), ((φ41 0), .cells #[.slice a40 (List.length (mgB (madeF L) p q)) c40] 26), ((φ48 8), .cells #[.slice ((xs48 4).p 0) (List.length (madeF L)) ((xs48 4).n 0)] 26)]) s trivial (by kernel_rfl) (by kernel_rfl) (fun _ _ => by kernel_rfl) (fun _ _ => by kernel_rfl) ⟨fun _ _ => by kernel_rfl, fun _ _ => by kernel_rfl, fun _ _ => by kernel_rfl, fun _ _ => by kernel_rfl⟩ (fun _ _ _ => by kernel_rfl) (fun _ _ => by kernel_rfl) (fun _ _ => by kernel_rfl) (fun _ _ => by kernel_rfl) (fun _ _ => by kernel_rfl) (fun _ _ => by kernel_rfl) ⟨kcast (A := ∀ (φ50 : Nat → Nat) (xs50 : Xs), (.bool (((mgE (madeF L) p q : Nat) : Int) != ((0 : Nat) : Int)) : Value) = .bool false) (by kernel_rfl) (fun φ50 xs50 => congrArg Value.bool ((nat_neq (a := (mgE (madeF L) p q)) (b := 0)).trans (hc49))), trivial⟩ trivial (by kernel_rfl) ⟨?c50_5, ?c50_12, ?c50_14, ?c50_17, ?c50_19, trivial⟩ ?k50
                  case c50_5 =>
                    refine kcast (A := ∀ (φ50 : Nat → Nat) (xs50 : Xs) (J5_50 : IM), I48.Le J5_50 → Fun Tryd.prog 28 #[.agg #[.slice ((xs48 4).p 0) (List.length (madeF L)) ((xs48 4).n 0)], .agg #[.slice a5 (List.length (madeF L)) c5]] J5_50 (fun v J' => ∃ x : UX, v = .bool true ∧ (True))) (by kernel_rfl) ?_
                    intro φ50 xs50 J5_50 leJ
                    have h5_0 := FSl.mono leJ h5_0
                    have h48_4_0 := FSl.mono leJ h48_4_0
                    exact Fun.mono (sameS_c h48_4_0 h5_0 (Nat.le_trans made_len (by decide))) (fun v J' _ h => ⟨UX.d, h, trivial⟩)
                  case c50_12 =>
                    refine kcast (A := ∀ (φ50 : Nat → Nat) (xs50 : Xs) (J12_50 : IM), I48.Le J12_50 → (True) → Fun Tryd.prog 19 #[.agg #[.slice a40 (List.length (mgB (madeF L) p q)) c40]] J12_50 (fun v J' => ∃ x : UX, v = .slice (x.p 0) (List.length (mgB (madeF L) p q)) (x.n 0) ∧ (FSl J' (mgB (madeF L) p q) (.slice (x.p 0) (List.length (mgB (madeF L) p q)) (x.n 0))))) (by kernel_rfl) ?_
                    intro φ50 xs50 J12_50 leJ
                    rintro _
                    have h40_0 := FSl.mono leJ h40_0
                    exact Fun.mono (fieldsL_c h40_0 (Nat.le_trans (mgB_len made_len) (by decide))) (fun v J' _ ⟨y0, y1, hv, g0⟩ => ⟨{ UX.d with p := fun j => y0, n := fun j => y1 }, hv, g0⟩)
                  case c50_14 =>
                    refine kcast (A := ∀ (φ50 : Nat → Nat) (xs50 : Xs) (J14_50 : IM), I48.Le J14_50 → (True) → (FSl J14_50 (mgB (madeF L) p q) (.slice ((xs50 12).p 0) (List.length (mgB (madeF L) p q)) ((xs50 12).n 0))) → Fun Tryd.prog 36 #[.slice ((xs50 12).p 0) (List.length (mgB (madeF L) p q)) ((xs50 12).n 0), .agg #[.int .i64 p.k, .string ⟨(p.a).toArray⟩, .string ⟨(p.v).toArray⟩]] J14_50 (fun v J' => ∃ x : UX, v = .bool true ∧ (True))) (by kernel_rfl) ?_
                    intro φ50 xs50 J14_50 leJ
                    rintro _ h50_12_0
                    exact Fun.mono (contT_c h50_12_0 (Nat.le_trans (mgB_len made_len) (by decide)) (mg_has (of_decide_eq_true hc44))) (fun v J' _ h => ⟨UX.d, h, trivial⟩)
                  case c50_17 =>
                    refine kcast (A := ∀ (φ50 : Nat → Nat) (xs50 : Xs) (J17_50 : IM), I48.Le J17_50 → (True) → (FSl J17_50 (mgB (madeF L) p q) (.slice ((xs50 12).p 0) (List.length (mgB (madeF L) p q)) ((xs50 12).n 0))) → (True) → Fun Tryd.prog 19 #[.agg #[.slice a40 (List.length (mgB (madeF L) p q)) c40]] J17_50 (fun v J' => ∃ x : UX, v = .slice (x.p 0) (List.length (mgB (madeF L) p q)) (x.n 0) ∧ (FSl J' (mgB (madeF L) p q) (.slice (x.p 0) (List.length (mgB (madeF L) p q)) (x.n 0))))) (by kernel_rfl) ?_
                    intro φ50 xs50 J17_50 leJ
                    rintro _ h50_12_0 _
                    have h40_0 := FSl.mono leJ h40_0
                    exact Fun.mono (fieldsL_c h40_0 (Nat.le_trans (mgB_len made_len) (by decide))) (fun v J' _ ⟨y0, y1, hv, g0⟩ => ⟨{ UX.d with p := fun j => y0, n := fun j => y1 }, hv, g0⟩)
                  case c50_19 =>
                    refine kcast (A := ∀ (φ50 : Nat → Nat) (xs50 : Xs) (J19_50 : IM), I48.Le J19_50 → (True) → (FSl J19_50 (mgB (madeF L) p q) (.slice ((xs50 12).p 0) (List.length (mgB (madeF L) p q)) ((xs50 12).n 0))) → (True) → (FSl J19_50 (mgB (madeF L) p q) (.slice ((xs50 17).p 0) (List.length (mgB (madeF L) p q)) ((xs50 17).n 0))) → Fun Tryd.prog 36 #[.slice ((xs50 17).p 0) (List.length (mgB (madeF L) p q)) ((xs50 17).n 0), .agg #[.int .i64 q.k, .string ⟨(q.a).toArray⟩, .string ⟨(q.v).toArray⟩]] J19_50 (fun v J' => ∃ x : UX, v = .bool false ∧ (True))) (by kernel_rfl) ?_
                    intro φ50 xs50 J19_50 leJ
                    rintro _ h50_12_0 _ h50_17_0
                    exact Fun.mono (contF_c h50_17_0 (Nat.le_trans (mgB_len made_len) (by decide)) (mg_not (of_decide_eq_true hc44) (of_decide_eq_false hc26))) (fun v J' _ h => ⟨UX.d, h, trivial⟩)
                  case k50 =>
                    rintro φ50 xs50 I50 w50 le50 s _ h50_12_0 _ h50_17_0 _
                    replace h0 := FSl.mono le50 h0
                    replace hN := Tx.NmT.mono le50 hN
                    replace hT := Tx.U8.mono le50 hT
                    replace h5_0 := FSl.mono le50 h5_0
                    replace h5_1 := FSl.mono le50 h5_1
                    replace h9 := FSl.mono le50 h9
                    replace hz30 := FSl.mono le50 hz30
                    replace hz32 := FSl.mono le50 hz32
                    replace h34_0 := FSl.mono le50 h34_0
                    replace h37_0 := FSl.mono le50 h37_0
                    replace h40_0 := FSl.mono le50 h40_0
                    replace h48_2_0 := FSl.mono le50 h48_2_0
                    replace h48_4_0 := FSl.mono le50 h48_4_0
                    replace hk29 := le50 _ _ hk29
                    replace hk31 := le50 _ _ hk31
                    refine wp_ret ?_
                    refine ret_rule (C := []) [((φ1 0), .cells #[.int .i64 p.k, .string ⟨(p.a).toArray⟩, .string ⟨(p.v).toArray⟩] 39), ((φ1 1), .cells #[.int .i64 q.k, .string ⟨(q.a).toArray⟩, .string ⟨(q.v).toArray⟩] 39), ((φ6 0), .cells #[.slice a5 (List.length (madeF L)) c5] 26), ((φ28 6), .cells #[.slice (some ⟨(φ28 1), 0, none⟩) 1 1, .slice none 0 0, .slice none 0 0] 56), ((φ28 7), .cells #[.slice none 0 0, .slice (some ⟨(φ28 4), 0, none⟩) 1 1, .slice none 0 0] 56), ((φ35 0), .cells #[.slice a37 (List.length (mgA (madeF L) p q)) c37] 26), ((φ41 0), .cells #[.slice a40 (List.length (mgB (madeF L) p q)) c40] 26), ((φ48 8), .cells #[.slice ((xs48 4).p 0) (List.length (madeF L)) ((xs48 4).n 0)] 26)] [] (.bool true) [] [] s trivial (by kernel_rfl) ?_
                    exact ⟨_, _, _, rfl, s, rfl⟩
            ·
              rw [hc44]
              refine ops_rule (C := []) [((φ1 0), .cells #[.int .i64 p.k, .string ⟨(p.a).toArray⟩, .string ⟨(p.v).toArray⟩] 39), ((φ1 1), .cells #[.int .i64 q.k, .string ⟨(q.a).toArray⟩, .string ⟨(q.v).toArray⟩] 39), ((φ6 0), .cells #[.slice a5 (List.length (madeF L)) c5] 26), ((φ28 6), .cells #[.slice (some ⟨(φ28 1), 0, none⟩) 1 1, .slice none 0 0, .slice none 0 0] 56), ((φ28 7), .cells #[.slice none 0 0, .slice (some ⟨(φ28 4), 0, none⟩) 1 1, .slice none 0 0] 56), ((φ35 0), .cells #[.slice a37 (List.length (mgA (madeF L) p q)) c37] 26), ((φ41 0), .cells #[.slice a40 (List.length (mgB (madeF L) p q)) c40] 26)] [] 6 [] 0 (fun φ51 => [(93, .bool false), (92, .bool false), (91, undef), (90, undef), (89, undef), (88, undef)]) (fun φ51 => [((φ1 0), .cells #[.int .i64 p.k, .string ⟨(p.a).toArray⟩, .string ⟨(p.v).toArray⟩] 39), ((φ1 1), .cells #[.int .i64 q.k, .string ⟨(q.a).toArray⟩, .string ⟨(q.v).toArray⟩] 39), ((φ6 0), .cells #[.slice a5 (List.length (madeF L)) c5] 26), ((φ28 6), .cells #[.slice (some ⟨(φ28 1), 0, none⟩) 1 1, .slice none 0 0, .slice none 0 0] 56), ((φ28 7), .cells #[.slice none 0 0, .slice (some ⟨(φ28 4), 0, none⟩) 1 1, .slice none 0 0] 56), ((φ35 0), .cells #[.slice a37 (List.length (mgA (madeF L) p q)) c37] 26), ((φ41 0), .cells #[.slice a40 (List.length (mgB (madeF L) p q)) c40] 26)]) (fun φ51 => []) s trivial (fun φ51 => by kernel_rfl) ?_
              intro φ51 w51 s
              refine ops_done (by kernel_rfl) ?_
              refine cond_false_rule (b := false) (by kernel_rfl) rfl ?_
              refine wp_skip ?_
              refine wp_seq ?_
              refine draw_rule (C := []) ⟨(fun φ52 xs52 => [.look 0 [.o 2] [(φ6 0)], .look 0 [.o 2] [(φ6 0)], .call 19 #[.agg #[.slice a5 (List.length (madeF L)) c5]], .look 0 [] [], .call 30 #[.agg #[.slice a5 (List.length (madeF L)) c5], .agg #[.slice ((xs52 2).p 0) (List.length (madeF L)) ((xs52 2).n 0), .slice none 0 0, .slice none 0 0]], .look 0 [] [], .look 0 [] [], .look 0 [] [], .new, .store 0 [.o 7] [(φ52 8)], .look 1 [] []]), (fun φ52 xs52 => [.agg #[.slice a5 (List.length (madeF L)) c5], .agg #[.slice a5 (List.length (madeF L)) c5], .slice ((xs52 2).p 0) (List.length (madeF L)) ((xs52 2).n 0), .agg #[.slice ((xs52 2).p 0) (List.length (madeF L)) ((xs52 2).n 0), .slice none 0 0, .slice none 0 0], .tuple #[.agg #[.slice ((xs52 4).p 0) (List.length (madeF L)) ((xs52 4).n 0)], .int .i64 0], .tuple #[.agg #[.slice ((xs52 4).p 0) (List.length (madeF L)) ((xs52 4).n 0)], .int .i64 0], .agg #[.slice ((xs52 4).p 0) (List.length (madeF L)) ((xs52 4).n 0)], .int .i64 0, .pointer (some ⟨(φ52 8), 0, none⟩), undef, .int .i64 0]), (fun φ52 xs52 => [[((φ1 0), .cells #[.int .i64 p.k, .string ⟨(p.a).toArray⟩, .string ⟨(p.v).toArray⟩] 39), ((φ1 1), .cells #[.int .i64 q.k, .string ⟨(q.a).toArray⟩, .string ⟨(q.v).toArray⟩] 39), ((φ6 0), .cells #[.slice a5 (List.length (madeF L)) c5] 26), ((φ28 6), .cells #[.slice (some ⟨(φ28 1), 0, none⟩) 1 1, .slice none 0 0, .slice none 0 0] 56), ((φ28 7), .cells #[.slice none 0 0, .slice (some ⟨(φ28 4), 0, none⟩) 1 1, .slice none 0 0] 56), ((φ35 0), .cells #[.slice a37 (List.length (mgA (madeF L) p q)) c37] 26), ((φ41 0), .cells #[.slice a40 (List.length (mgB (madeF L) p q)) c40] 26)], [((φ1 0), .cells #[.int .i64 p.k, .string ⟨(p.a).toArray⟩, .string ⟨(p.v).toArray⟩] 39), ((φ1 1), .cells #[.int .i64 q.k, .string ⟨(q.a).toArray⟩, .string ⟨(q.v).toArray⟩] 39), ((φ6 0), .cells #[.slice a5 (List.length (madeF L)) c5] 26), ((φ28 6), .cells #[.slice (some ⟨(φ28 1), 0, none⟩) 1 1, .slice none 0 0, .slice none 0 0] 56), ((φ28 7), .cells #[.slice none 0 0, .slice (some ⟨(φ28 4), 0, none⟩) 1 1, .slice none 0 0] 56), ((φ35 0), .cells #[.slice a37 (List.length (mgA (madeF L) p q)) c37] 26), ((φ41 0), .cells #[.slice a40 (List.length (mgB (madeF L) p q)) c40] 26)]]), (fun φ52 xs52 => [[default, default, default, default, default, default, default, default, .cells #[.slice none 0 0] 26, default, default], [default, default, default, default, default, default, default, default, .cells #[.slice ((xs52 4).p 0) (List.length (madeF L)) ((xs52 4).n 0)] 26, default, default]]), [9], [1, 1, 3, 1, 3, 1, 1, 1, 2, 4, 1]⟩ (fun j => ([MP.any, MP.any, ⟨fun x J => FSl J (madeF L) (.slice (x.p 0) (List.length (madeF L)) (x.n 0)), fun le h => FSl.mono le h⟩, MP.any, ⟨fun x J => FSl J (madeF L) (.slice (x.p 0) (List.length (madeF L)) (x.n 0)), fun le h => FSl.mono le h⟩, MP.any, MP.any, MP.any, MP.any, MP.any, MP.any] : List MP).getD j MP.any) [2, 4] [] [] (fun φ52 xs52 => [[none, none, none, none, none, none, none, none, none, none, none]]) (fun φ52 xs52 => [(95, .agg #[.slice a5 (List.length (madeF L)) c5]), (96, .agg #[.slice a5 (List.length (madeF L)) c5]), (97, .slice ((xs52 2).p 0) (List.length (madeF L)) ((xs52 2).n 0)), (98, .agg #[.slice ((xs52 2).p 0) (List.length (madeF L)) ((xs52 2).n 0), .slice none 0 0, .slice none 0 0]), (99, .tuple #[.agg #[.slice ((xs52 4).p 0) (List.length (madeF L)) ((xs52 4).n 0)], .int .i64 0]), (94, .tuple #[.agg #[.slice ((xs52 4).p 0) (List.length (madeF L)) ((xs52 4).n 0)], .int .i64 0]), (100, .agg #[.slice ((xs52 4).p 0) (List.length (madeF L)) ((xs52 4).n 0)]), (101, .int .i64 0), (17, .pointer (some ⟨(φ52 8), 0, none⟩)), (18, .int .i64 0)]) (fun φ52 xs52 => [((φ1 0), .cells #[.int .i64 p.k, .string ⟨(p.a).toArray⟩, .string ⟨(p.v).toArray⟩] 39), ((φ1 1), .cells #[.int .i64 q.k, .string ⟨(q.a).toArray⟩, .string ⟨(q.v).toArray⟩] 39), ((φ6 0), .cells #[.slice a5 (List.length (madeF L)) c5] 26), ((φ28 6), .cells #[.slice (some ⟨(φ28 1), 0, none⟩) 1 1, .slice none 0 0, .slice none 0 0] 56), ((φ28 7), .cells #[.slice none 0 0, .slice (some ⟨(φ28 4), 0, none⟩) 1 1, .slice none 0 0] 56), ((φ35 0), .cells #[.slice a37 (List.length (mgA (madeF L) p q)) c37] 26), ((φ41 0), .cells #[.slice a40 (List.length (mgB (madeF L) p q)) c40] 26), ((φ52 8), .cells #[.slice ((xs52 4).p 0) (List.length (madeF L)) ((xs52 4).n 0)] 26)]) s trivial (by kernel_rfl) (by kernel_rfl) (fun _ _ => by kernel_rfl) (fun _ _ => by kernel_rfl) ⟨fun _ _ => by kernel_rfl, fun _ _ => by kernel_rfl, fun _ _ => by kernel_rfl, fun _ _ => by kernel_rfl⟩ (fun _ _ _ => by kernel_rfl) (fun _ _ => by kernel_rfl) (fun _ _ => by kernel_rfl) (fun _ _ => by kernel_rfl) (fun _ _ => by kernel_rfl) (fun _ _ => by kernel_rfl) trivial trivial (by kernel_rfl) ⟨?c52_2, ?c52_4, trivial⟩ ?k52
              case c52_2 =>
                refine kcast (A := ∀ (φ52 : Nat → Nat) (xs52 : Xs) (J2_52 : IM), I40.Le J2_52 → Fun Tryd.prog 19 #[.agg #[.slice a5 (List.length (madeF L)) c5]] J2_52 (fun v J' => ∃ x : UX, v = .slice (x.p 0) (List.length (madeF L)) (x.n 0) ∧ (FSl J' (madeF L) (.slice (x.p 0) (List.length (madeF L)) (x.n 0))))) (by kernel_rfl) ?_
                intro φ52 xs52 J2_52 leJ
                have h5_0 := FSl.mono leJ h5_0
                exact Fun.mono (fieldsL_c h5_0 (Nat.le_trans made_len (by decide))) (fun v J' _ ⟨y0, y1, hv, g0⟩ => ⟨{ UX.d with p := fun j => y0, n := fun j => y1 }, hv, g0⟩)
              case c52_4 =>
                refine kcast (A := ∀ (φ52 : Nat → Nat) (xs52 : Xs) (J4_52 : IM), I40.Le J4_52 → (FSl J4_52 (madeF L) (.slice ((xs52 2).p 0) (List.length (madeF L)) ((xs52 2).n 0))) → Fun Tryd.prog 30 #[.agg #[.slice a5 (List.length (madeF L)) c5], .agg #[.slice ((xs52 2).p 0) (List.length (madeF L)) ((xs52 2).n 0), .slice none 0 0, .slice none 0 0]] J4_52 (fun v J' => ∃ x : UX, v = .tuple #[.agg #[.slice (x.p 0) (List.length (madeF L)) (x.n 0)], .int .i64 0] ∧ (FSl J' (madeF L) (.slice (x.p 0) (List.length (madeF L)) (x.n 0))))) (by kernel_rfl) ?_
                intro φ52 xs52 J4_52 leJ
                rintro h52_2_0
                have hN := Tx.NmT.mono leJ hN
                have hT := Tx.U8.mono leJ hT
                have h5_0 := FSl.mono leJ h5_0
                exact Fun.mono (allM_c h5_0 hN hT h52_2_0) (fun v J' _ ⟨y0, y1, hv, g0⟩ => ⟨{ UX.d with p := fun j => y0, n := fun j => y1 }, hv, g0⟩)
              case k52 =>
                rintro φ52 xs52 I52 w52 le52 s h52_2_0 h52_4_0
                replace h0 := FSl.mono le52 h0
                replace hN := Tx.NmT.mono le52 hN
                replace hT := Tx.U8.mono le52 hT
                replace h5_0 := FSl.mono le52 h5_0
                replace h5_1 := FSl.mono le52 h5_1
                replace h9 := FSl.mono le52 h9
                replace hz30 := FSl.mono le52 hz30
                replace hz32 := FSl.mono le52 hz32
                replace h34_0 := FSl.mono le52 h34_0
                replace h37_0 := FSl.mono le52 h37_0
                replace h40_0 := FSl.mono le52 h40_0
                replace hk29 := le52 _ _ hk29
                replace hk31 := le52 _ _ hk31
                refine wp_seq ?_
                rcases Bool.eq_false_or_eq_true (decide ((mgE (madeF L) p q) ≠ 0)) with hc53 | hc53
                ·
                  refine draw_rule (C := []) ⟨(fun φ54 xs54 => [.look 0 [] [], .look 0 [] [], .look 0 [] [], .look 0 [.o 7] [(φ52 8)], .look 0 [.o 2] [(φ6 0)], .call 28 #[.agg #[.slice ((xs52 4).p 0) (List.length (madeF L)) ((xs52 4).n 0)], .agg #[.slice a5 (List.length (madeF L)) c5]], .look 0 [] [], .look 0 [] [], .look 0 [] [], .sub 0 [] [] (.bool (((mgE (madeF L) p q : Nat) : Int) != ((0 : Nat) : Int))), .look 0 [] [], .skip, .skip, .skip, .skip, .skip, .skip, .skip, .skip, .skip, .skip, .skip, .look 0 [] [], .look 0 [] [], .look 0 [] []]), (fun φ54 xs54 => [.int .i64 0, .bool true, .bool true, .agg #[.slice ((xs52 4).p 0) (List.length (madeF L)) ((xs52 4).n 0)], .agg #[.slice a5 (List.length (madeF L)) c5], .bool true, .bool true, .bool true, .int .i64 ((mgE (madeF L) p q : Nat) : Int), .bool true, .bool true, undef, undef, undef, undef, undef, undef, undef, undef, undef, undef, undef, .bool true, .bool true, .bool true]), (fun φ54 xs54 => [[((φ1 0), .cells #[.int .i64 p.k, .string ⟨(p.a).toArray⟩, .string ⟨(p.v).toArray⟩] 39), ((φ1 1), .cells #[.int .i64 q.k, .string ⟨(q.a).toArray⟩, .string ⟨(q.v).toArray⟩] 39), ((φ6 0), .cells #[.slice a5 (List.length (madeF L)) c5] 26), ((φ28 6), .cells #[.slice (some ⟨(φ28 1), 0, none⟩) 1 1, .slice none 0 0, .slice none 0 0] 56), ((φ28 7), .cells #[.slice none 0 0, .slice (some ⟨(φ28 4), 0, none⟩) 1 1, .slice none 0 0] 56), ((φ35 0), .cells #[.slice a37 (List.length (mgA (madeF L) p q)) c37] 26), ((φ41 0), .cells #[.slice a40 (List.length (mgB (madeF L) p q)) c40] 26), ((φ52 8), .cells #[.slice ((xs52 4).p 0) (List.length (madeF L)) ((xs52 4).n 0)] 26)]]), (fun φ54 xs54 => [[default, default, default, default, default, default, default, default, default, default, default, default, default, default, default, default, default, default, default, default, default, default, default, default, default]]), [], [1, 1, 1, 1, 1, 3, 1, 1, 1, 5, 1, 0, 0, 0, 0, 0, 0, 0, 0, 0, 0, 0, 1, 1, 1]⟩ (fun j => ([MP.any, MP.any, MP.any, MP.any, MP.any, MP.any, MP.any, MP.any, MP.any, MP.any, MP.any, MP.any, MP.any, MP.any, MP.any, MP.any, MP.any, MP.any, MP.any, MP.any, MP.any, MP.any, MP.any, MP.any, MP.any] : List MP).getD j MP.any) [5] [9] [] (fun φ54 xs54 => []) (fun φ54 xs54 => [(102, .int .i64 0), (103, .bool true), (104, .bool true), (105, .agg #[.slice ((xs52 4).p 0) (List.length (madeF L)) ((xs52 4).n 0)]), (106, .agg #[.slice a5 (List.length (madeF L)) c5]), (107, .bool true), (108, .bool true), (109, .bool true), (110, .int .i64 ((mgE (madeF L) p q : Nat) : Int)), (111, .bool true), (112, .bool true), (113, undef), (114, undef), (115, undef), (116, undef), (117, undef), (118, undef), (119, undef), (120, undef), (121, undef), (122, undef), (123, undef), (124, .bool true), (125, .bool true), (6, .bool true)]) (fun φ54 xs54 => [((φ1 0), .cells #[.int .i64 p.k, .string ⟨(p.a).toArray⟩, .string ⟨(p.v).toArray⟩] 39), ((φ1 1), .cells #[.int .i64 q.k, .string ⟨(q.a).toArray⟩, .string ⟨(q.v).toArray⟩] 39), ((φ6 0), .cells #[.slice a5 (List.length (madeF L)) c5] 26), ((φ28 6), .cells #[.slice (some ⟨(φ28 1), 0, none⟩) 1 1, .slice none 0 0, .slice none 0 0] 56), ((φ28 7), .cells #[.slice none 0 0, .slice (some ⟨(φ28 4), 0, none⟩) 1 1, .slice none 0 0] 56), ((φ35 0), .cells #[.slice a37 (List.length (mgA (madeF L) p q)) c37] 26), ((φ41 0), .cells #[.slice a40 (List.length (mgB (madeF L) p q)) c40] 26), ((φ52 8), .cells #[.slice ((xs52 4).p 0) (List.length (madeF L)) ((xs52 4).n 0)] 26)]) s trivial (by kernel_rfl) (by kernel_rfl) (fun _ _ => by kernel_rfl) (fun _ _ => by kernel_rfl) ⟨fun _ _ => by kernel_rfl, fun _ _ => by kernel_rfl, fun _ _ => by kernel_rfl, fun _ _ => by kernel_rfl⟩ (fun _ _ _ => by kernel_rfl) (fun _ _ => by kernel_rfl) (fun _ _ => by kernel_rfl) (fun _ _ => by kernel_rfl) (fun _ _ => by kernel_rfl) (fun _ _ => by kernel_rfl) ⟨kcast (A := ∀ (φ54 : Nat → Nat) (xs54 : Xs), (.bool (((mgE (madeF L) p q : Nat) : Int) != ((0 : Nat) : Int)) : Value) = .bool true) (by kernel_rfl) (fun φ54 xs54 => congrArg Value.bool ((nat_neq (a := (mgE (madeF L) p q)) (b := 0)).trans (hc53))), trivial⟩ trivial (by kernel_rfl) ⟨?c54_5, trivial⟩ ?k54
                  case c54_5 =>
                    refine kcast (A := ∀ (φ54 : Nat → Nat) (xs54 : Xs) (J5_54 : IM), I52.Le J5_54 → Fun Tryd.prog 28 #[.agg #[.slice ((xs52 4).p 0) (List.length (madeF L)) ((xs52 4).n 0)], .agg #[.slice a5 (List.length (madeF L)) c5]] J5_54 (fun v J' => ∃ x : UX, v = .bool true ∧ (True))) (by kernel_rfl) ?_
                    intro φ54 xs54 J5_54 leJ
                    have h5_0 := FSl.mono leJ h5_0
                    have h52_4_0 := FSl.mono leJ h52_4_0
                    exact Fun.mono (sameS_c h52_4_0 h5_0 (Nat.le_trans made_len (by decide))) (fun v J' _ h => ⟨UX.d, h, trivial⟩)
                  case k54 =>
                    rintro φ54 xs54 I54 w54 le54 s _
                    replace h0 := FSl.mono le54 h0
                    replace hN := Tx.NmT.mono le54 hN
                    replace hT := Tx.U8.mono le54 hT
                    replace h5_0 := FSl.mono le54 h5_0
                    replace h5_1 := FSl.mono le54 h5_1
                    replace h9 := FSl.mono le54 h9
                    replace hz30 := FSl.mono le54 hz30
                    replace hz32 := FSl.mono le54 hz32
                    replace h34_0 := FSl.mono le54 h34_0
                    replace h37_0 := FSl.mono le54 h37_0
                    replace h40_0 := FSl.mono le54 h40_0
                    replace h52_2_0 := FSl.mono le54 h52_2_0
                    replace h52_4_0 := FSl.mono le54 h52_4_0
                    replace hk29 := le54 _ _ hk29
                    replace hk31 := le54 _ _ hk31
                    refine wp_ret ?_
                    refine ret_rule (C := []) [((φ1 0), .cells #[.int .i64 p.k, .string ⟨(p.a).toArray⟩, .string ⟨(p.v).toArray⟩] 39), ((φ1 1), .cells #[.int .i64 q.k, .string ⟨(q.a).toArray⟩, .string ⟨(q.v).toArray⟩] 39), ((φ6 0), .cells #[.slice a5 (List.length (madeF L)) c5] 26), ((φ28 6), .cells #[.slice (some ⟨(φ28 1), 0, none⟩) 1 1, .slice none 0 0, .slice none 0 0] 56), ((φ28 7), .cells #[.slice none 0 0, .slice (some ⟨(φ28 4), 0, none⟩) 1 1, .slice none 0 0] 56), ((φ35 0), .cells #[.slice a37 (List.length (mgA (madeF L) p q)) c37] 26), ((φ41 0), .cells #[.slice a40 (List.length (mgB (madeF L) p q)) c40] 26), ((φ52 8), .cells #[.slice ((xs52 4).p 0) (List.length (madeF L)) ((xs52 4).n 0)] 26)] [] (.bool true) [] [] s trivial (by kernel_rfl) ?_
                    exact ⟨_, _, _, rfl, s, rfl⟩
                ·
                  exact absurd (of_decide_eq_false hc53) (not_not_intro (of_decide_eq_false hc44))

end Go.Proofs.YtcpmjogeafhpnaaDoor
/- What the laid variables give. -/
set_option linter.all false
set_option maxRecDepth 100000
namespace Go.Proofs.YtcpmjogeafhpnaaDoor
open Go.RowKit Go.Sep Go.Lib
theorem ownKnob_none : ownKnob Tryd.prog.godebug = none := by kernel_rfl
abbrev laidT : List (String × DataW Unit) := Rows.cardMakesRow.laid
theorem tabs_of_laid {W : World} (h : laidMetH Tryd.prog laidT W) : Lib.Utf8Tabs 1 2 W := by
  rw [MakeChecks.laidMetH_plain _ _ _ (by kernel_rfl)] at h
  have h4 := Lib.laidMet.reads h (.head _)
  have h3 := Lib.laidMet.reads h (.tail _ (.tail _ (.head _)))
  exact utf8Tabs_of_readsT (ρ := Tryd.lays196_ren) (U8Types.of196 Tryd.lays196) ⟨by kernel_rfl, by kernel_rfl, by kernel_rfl, by kernel_rfl, by kernel_rfl, by kernel_rfl, by kernel_rfl⟩ (kcast (by kernel_rfl) h3) (kcast (by kernel_rfl) h4)
theorem block_of {W : World} {b o : Nat} {v : Value} (h : W.cell? ⟨b, o, none⟩ = some v) : ∃ cs T fr, W.heap[b]? = some (.cells cs T fr) ∧ cs[o]? = some v := by
  unfold World.cell? at h
  cases hb : W.heap[b]? with
  | none => simp [hb] at h
  | some ob =>
    cases ob <;> simp [hb] at h
    exact ⟨_, _, _, rfl, h⟩
theorem nm_of_laid {W : World} (h : laidMetH Tryd.prog laidT W) : Tx.NmT (fun k => W.heap[k]?) := by
  rw [MakeChecks.laidMetH_plain _ _ _ (by kernel_rfl)] at h
  obtain ⟨g, t, cs, fuel, p, hg, hty, hvar, hd⟩ := Lib.laidMet.reads h (.tail _ (.head _))
  obtain rfl := Option.some.inj ((show Tryd.prog.globalNamed "kinfolk/card.names" = some 0 by kernel_rfl).symm.trans hg)
  obtain rfl := Option.some.inj ((show (Tryd.prog.globals[0]?).map (·.type) = some 98 by kernel_rfl).symm.trans hty)
  have one : ∀ i, i < 7 → W.cell? ⟨0, i, none⟩ = some (.string ⟨(Tx.nmL.getD i []).toArray⟩) := fun i hi => by
    obtain ⟨fuel', d, q, hdi, he⟩ := array_elem (show Tryd.prog.underlying 98 = some (.array 7 9) by kernel_rfl) hd i hi
    have hdl : d = DataW.lit (.string (Tx.nmL.getD i [])) := by
      have : i = 0 ∨ i = 1 ∨ i = 2 ∨ i = 3 ∨ i = 4 ∨ i = 5 ∨ i = 6 := by omega
      rcases this with rfl | rfl | rfl | rfl | rfl | rfl | rfl <;> exact (Option.some.inj hdi).symm
    subst hdl
    obtain ⟨s, hc, hx, -⟩ := DataW.trod_string Tryd.underlying9 he
    have hs : s = ⟨(Tx.nmL.getD i []).toArray⟩ := by
      have h1 := congrArg Prod.fst hx
      simp only [DataW.lit.injEq, Lit.string.injEq] at h1
      obtain ⟨⟨l⟩⟩ := s
      simp only at h1
      exact congrArg ByteArray.mk (congrArg Array.mk h1.symm)
    rw [show Tryd.prog.cellsOf 9 = 1 by kernel_rfl] at hc
    have e0 := congrArg (·[0]?) hc
    simp only [List.getElem?_take, List.getElem?_drop] at e0
    have h2 := World.var?_cell hg hvar i
    rw [← Array.getElem?_toList] at h2
    rw [← hs]
    exact h2.trans (by simpa using e0)
  obtain ⟨cs', T, fr, e1, -⟩ := block_of (one 0 (by decide))
  refine ⟨cs', T, fr, e1, fun i hi => ?_⟩
  obtain ⟨cs2, T2, fr2, f1, f2⟩ := block_of (one i hi)
  rw [e1] at f1
  cases f1
  exact f2
theorem cell_up {W w : World} (hw : IM.Sub (fun k => W.heap[k]?) w) {a : Addr} {v : Value} (h : W.cell? a = some v) : w.cell? a = some v := by
  unfold World.cell? at h ⊢
  cases e : W.heap[a.block]? with
  | none => rw [e] at h; cases h
  | some o => rw [hw _ _ e]; rw [e] at h; exact h
theorem u8_of_laid {W : World} (h : laidMetH Tryd.prog laidT W) : Tx.U8 (fun k => W.heap[k]?) := fun w hw =>
  have t := tabs_of_laid h
  ⟨fun c hc => cell_up hw (t.1 c hc), fun i hi => ⟨cell_up hw (t.2 i hi).1, cell_up hw (t.2 i hi).2⟩⟩
theorem met_wit (os : Os) (args : Array Value) : laidMetH Tryd.prog laidT ((World.laidAll Tryd.prog os laidT).forCall (fun _ _ => 0) ⟨#[], args, []⟩).memory := by
  rw [MakeChecks.laidMetH_plain _ _ _ (by kernel_rfl)]; exact laidMet_laidAll _ (by kernel_rfl) (by kernel_rfl)
end Go.Proofs.YtcpmjogeafhpnaaDoor
/- A slice of bytes that came in, as the contracts want it. -/
set_option linter.all false
namespace Go.Proofs.YtcpmjogeafhpnaaDoor
open Go.RowKit Go.Sep

theorem cell_block {w : World} {b o : Nat} {v : Value} (h : w.cell? ⟨b, o, none⟩ = some v) : ∃ cs T fr, w.heap[b]? = some (.cells cs T fr) ∧ cs[o]? = some v := by
  unfold World.cell? at h
  cases hb : w.heap[b]? with
  | none => simp [hb] at h
  | some ob =>
    cases ob <;> simp [hb] at h
    exact ⟨_, _, _, rfl, h⟩
end Go.Proofs.YtcpmjogeafhpnaaDoor
/- Slices of fields that came in. -/
set_option linter.all false
set_option maxRecDepth 100000
namespace Go.Proofs.YtcpmjogeafhpnaaDoor
open Go.Sep
open Go.ChangeShapes Go.WideShapes Go.ChangeAt Go.RowKit
structure FX where
  k : Int
  a : List UInt8
  v : List UInt8
def FX.d : FX := ⟨0, [], []⟩
instance : Inhabited FX := ⟨FX.d⟩
def FXl (I : IM) (L : List FX) (v : Value) : Prop := ∃ a cap, v = .slice a L.length cap ∧ L.length ≤ cap ∧ ∀ (j : Nat) (x : FX), L[j]? = some x → (-9223372036854775808 ≤ x.k ∧ x.k < 9223372036854775808 ∧ x.a.length ≤ maxLen ∧ x.v.length ≤ maxLen) ∧ ∃ (b o : Nat) (cs : Array Value) (T : TypeId) (fr : Nat × Nat), a = some ⟨b, o, none⟩ ∧ I b = some (.cells cs T fr) ∧ cs[o + j * 3]? = some (.int .i64 x.k) ∧ cs[o + j * 3 + 1]? = some (.string ⟨x.a.toArray⟩) ∧ cs[o + j * 3 + 2]? = some (.string ⟨x.v.toArray⟩)
theorem FXl.mono {I J : IM} (le : I.Le J) {L : List FX} {v : Value} (h : FXl I L v) : FXl J L v := by
  obtain ⟨a, cap, hv, hc, hr⟩ := h
  refine ⟨a, cap, hv, hc, fun j x hj => ?_⟩
  obtain ⟨hx, b, o, cs, T, fr, h1, h2, h3, h4, h5⟩ := hr j x hj
  exact ⟨hx, b, o, cs, T, fr, h1, le _ _ h2, h3, h4, h5⟩
theorem FXl.cap {I : IM} {L : List FX} {a : Option Addr} {n c : Nat} (h : FXl I L (.slice a n c)) : n = L.length ∧ L.length ≤ c := by
  obtain ⟨a', c', hv, hc, _⟩ := h
  cases hv; exact ⟨rfl, hc⟩
theorem fXl_nil (I : IM) : FXl I [] (.slice none 0 0) := ⟨none, 0, rfl, Nat.le_refl _, fun j x h => by simp at h⟩
theorem fXl_cells {cs : List Value} (h : cs.length = 3) : ∃ v0 v1 v2, cs = [v0, v1, v2] := by
  match cs, h with
  | [v0, v1, v2], _ => exact ⟨v0, v1, v2, rfl⟩
theorem fXl_open {H : Type} {enc : TypeId × Value → H} {w : World} {fuel : Nat} {a0 : Option Addr} {len0 cap0 : Nat} {x : DataW H × List MemPlace} (hf : DataW.trod enc Tryd.prog w 0 (fun _ => true) true fuel 22 [.slice a0 len0 cap0] = some x) :
    ∃ L, FXl (fun k => w.heap[k]?) L (.slice a0 len0 cap0) ∧ L.length ≤ maxLen := by
  rcases Go.Deep.open_slice Tryd.underlying22 hf with ⟨hcs, _⟩ | ⟨a, len, cap, m, n, D, Pl, hcs, _, hl, hml, hm, _, hx⟩
  · simp at hcs
    obtain ⟨rfl, rfl, rfl⟩ := hcs
    exact ⟨[], fXl_nil _, Nat.zero_le _⟩
  · simp at hcs
    obtain ⟨rfl, rfl, rfl⟩ := hcs
    have hm' : m = cap0 := by simpa using hm
    subst hm'
    have ce : Tryd.prog.cellsOf 39 = 3 := by kernel_rfl
    have c3 : Tryd.prog.cellsOf 3 = 1 := by kernel_rfl
    have c9 : Tryd.prog.cellsOf 9 = 1 := by kernel_rfl
    have one : ∀ i, i < len0 → ∃ y : FX, (-9223372036854775808 ≤ y.k ∧ y.k < 9223372036854775808 ∧ y.a.length ≤ maxLen ∧ y.v.length ≤ maxLen) ∧ w.cell? (a.add (i * 3)) = some (.int .i64 y.k) ∧ w.cell? (a.add (i * 3 + 1)) = some (.string ⟨y.a.toArray⟩) ∧ w.cell? (a.add (i * 3 + 2)) = some (.string ⟨y.v.toArray⟩) := by
      intro i hi
      obtain ⟨cs', h1, h2⟩ := hx i (by omega)
      rw [ce] at h1
      obtain ⟨_, hlen, hcell⟩ := World.cells?_some h1
      obtain ⟨xs, n', _, _, _, hxl, hfs⟩ := DataW.trod_struct Tryd.underlying39 h2
      obtain ⟨v0, v1, v2, rfl⟩ := fXl_cells hlen
      have hxl' : xs.length = 3 := hxl
      have hx0 : 0 < xs.length := by omega
      have t0 := hfs 0 _ rfl
      rw [List.getElem?_eq_getElem hx0] at t0
      simp [c3] at t0
      obtain ⟨y0, e0, _, b0⟩ := DataW.trod_int Tryd.underlying3 t0
      simp at e0
      subst e0
      have hx1 : 1 < xs.length := by omega
      have t1 := hfs 1 _ rfl
      rw [List.getElem?_eq_getElem hx1] at t1
      simp [c9] at t1
      obtain ⟨y1, e1, _, b1⟩ := DataW.trod_string Tryd.underlying9 t1
      simp at e1
      subst e1
      have hx2 : 2 < xs.length := by omega
      have t2 := hfs 2 _ rfl
      rw [List.getElem?_eq_getElem hx2] at t2
      simp [c9] at t2
      obtain ⟨y2, e2, _, b2⟩ := DataW.trod_string Tryd.underlying9 t2
      simp at e2
      subst e2
      have d0 : -9223372036854775808 ≤ y0 ∧ y0 < 9223372036854775808 := by
        have := b0; simp [Lit.wf, IntKind.min, IntKind.max, IntKind.signed, IntKind.bits] at this; omega
      have g0 := hcell 0 (by omega)
      have g1 := hcell 1 (by omega)
      have g2 := hcell 2 (by omega)
      rw [Go.Deep.add_add] at g0 g1 g2
      exact ⟨⟨y0, y1.data.toList, y2.data.toList⟩, ⟨d0.1, d0.2, b1, b2⟩, (by simpa using g0), (by simpa using g1), (by simpa using g2)⟩
    obtain ⟨f, hfn⟩ := Go.Deep.choose_lt one
    refine ⟨(List.range len0).map f, ⟨some a, m, by simp, by simpa using hl, fun j y hj => ?_⟩, by simp; omega⟩
    have hj' : j < len0 := by
      have := (List.getElem?_eq_some_iff.1 hj).1
      simpa using this
    have hy : y = f j := by simpa [hj'] using hj.symm
    subst hy
    obtain ⟨hb, h0, h1, h2⟩ := hfn j hj'
    obtain ⟨b, o, sp⟩ := a
    cases sp with
    | none =>
      rw [addr_addO b o (j * 3)] at h0
      obtain ⟨cs0, T0, fr0, e0, k0⟩ := cell_block h0
      rw [addr_addO b o (j * 3 + 1)] at h1
      obtain ⟨cs1, T1, fr1, e1, k1⟩ := cell_block h1
      rw [addr_addO b o (j * 3 + 2)] at h2
      obtain ⟨cs2, T2, fr2, e2, k2⟩ := cell_block h2
      rw [e0] at e1
      cases e1
      rw [e0] at e2
      cases e2
      exact ⟨hb, b, o, cs0, T0, fr0, rfl, e0, k0, (by rw [Nat.add_assoc]; exact k1), (by rw [Nat.add_assoc]; exact k2)⟩
    | some sp =>
      exfalso
      obtain ⟨_, h0, _⟩ := hfn 0 (by omega)
      unfold World.cell? Addr.add at h0
      rw [if_pos (by rfl)] at h0
      revert h0
      split <;> simp
def toFe (x : FX) : Fe := ⟨x.k, x.a, x.v⟩
theorem fxl_fsl {I : IM} {L : List FX} {v : Value} (h : FXl I L v) : FSl I (L.map toFe) v := by
  obtain ⟨a, cap, hv, hc, hr⟩ := h
  refine ⟨a, cap, by rw [List.length_map]; exact hv, by rw [List.length_map]; exact hc, fun j x hj => ?_⟩
  rw [List.getElem?_map] at hj
  cases hq : L[j]? with
  | none => rw [hq] at hj; cases hj
  | some y =>
    rw [hq] at hj
    simp only [Option.map_some, Option.some.injEq] at hj
    subst hj
    obtain ⟨_, b, o, cs, T, fr, h1, h2, h3, h4, h5⟩ := hr j y hq
    exact ⟨b, o, cs, T, fr, h1, h2, h3, h4, h5⟩
/-- fields that came in -/
def FIn (I : IM) (L : List Fe) (v : Value) : Prop := FSl I L v ∧ L.length ≤ maxLen
theorem fin_open {H : Type} {enc : TypeId × Value → H} {w : World} {fuel : Nat} {a0 : Option Addr} {len0 cap0 : Nat} {x : DataW H × List MemPlace} (hf : DataW.trod enc Tryd.prog w 0 (fun _ => true) true fuel 22 [.slice a0 len0 cap0] = some x) :
    ∃ L, FIn (fun k => w.heap[k]?) L (.slice a0 len0 cap0) := by
  obtain ⟨L, h, hl⟩ := fXl_open hf
  exact ⟨L.map toFe, fxl_fsl h, by rw [List.length_map]; exact hl⟩
end Go.Proofs.YtcpmjogeafhpnaaDoor
/- A field that came in. -/
set_option linter.all false
set_option maxRecDepth 100000
namespace Go.Proofs.YtcpmjogeafhpnaaDoor
open Go.Sep
open Go.ChangeShapes Go.WideShapes Go.ChangeAt Go.RowKit
theorem fe_open {H : Type} {enc : TypeId × Value → H} {w : World} {fuel : Nat} {cs : Array Value} {x : DataW H × List MemPlace} (hf : DataW.trod enc Tryd.prog w 0 (fun _ => true) true fuel 39 ((Value.agg cs).cells.toList) = some x) (hs : cs.size = Tryd.prog.cellsOf 39) :
    ∃ y : Fe, cs = #[.int .i64 y.k, .string ⟨(y.a).toArray⟩, .string ⟨(y.v).toArray⟩] := by
  have c3 : Tryd.prog.cellsOf 3 = 1 := by kernel_rfl
  have c9 : Tryd.prog.cellsOf 9 = 1 := by kernel_rfl
  have hlen : cs.toList.length = 3 := by rw [Array.length_toList, hs]; kernel_rfl
  have h2 : DataW.trod enc Tryd.prog w 0 (fun _ => true) true fuel 39 cs.toList = some x := by simpa [Value.cells] using hf
  obtain ⟨xs, n', _, _, _, hxl, hfs⟩ := DataW.trod_struct Tryd.underlying39 h2
  obtain ⟨v0, v1, v2, hv⟩ := fXl_cells hlen
  have hcs : cs = #[v0, v1, v2] := by rw [← Array.toArray_toList (xs := cs), hv]
  rw [hv] at hfs
  have hxl' : xs.length = 3 := hxl
  have hx0 : 0 < xs.length := by omega
  have t0 := hfs 0 _ rfl
  rw [List.getElem?_eq_getElem hx0] at t0
  simp [c3] at t0
  obtain ⟨y0, e0, _, b0⟩ := DataW.trod_int Tryd.underlying3 t0
  simp at e0
  subst e0
  have hx1 : 1 < xs.length := by omega
  have t1 := hfs 1 _ rfl
  rw [List.getElem?_eq_getElem hx1] at t1
  simp [c9] at t1
  obtain ⟨y1, e1, _, b1⟩ := DataW.trod_string Tryd.underlying9 t1
  simp at e1
  subst e1
  have hx2 : 2 < xs.length := by omega
  have t2 := hfs 2 _ rfl
  rw [List.getElem?_eq_getElem hx2] at t2
  simp [c9] at t2
  obtain ⟨y2, e2, _, b2⟩ := DataW.trod_string Tryd.underlying9 t2
  simp at e2
  subst e2
  exact ⟨⟨y0, y1.data.toList, y2.data.toList⟩, hcs⟩
end Go.Proofs.YtcpmjogeafhpnaaDoor
