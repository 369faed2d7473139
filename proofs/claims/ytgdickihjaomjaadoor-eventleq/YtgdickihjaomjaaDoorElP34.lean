/- A tree of heights; each tree has the document's one form. -/
import Derived.Test.YtgdickihjaomjaaDoorElP32
set_option linter.all false
set_option maxRecDepth 100000
namespace Go.Proofs.YtgdickihjaomjaaDoor
open Go.RowKit Go.Sep
attribute [local irreducible] Go.wpList Go.Code.wp
theorem nat_quoI {a b : Nat} (h : a < 9223372036854775808) : IntKind.wrap .i64 (Int.tdiv (a : Int) (b : Int)) = ((a / b : Nat) : Int) := by
  have e : Int.tdiv (a : Int) (b : Int) = ((a / b : Nat) : Int) := rfl
  have : a / b ≤ a := Nat.div_le_self a b
  rw [e]
  generalize a / b = q at this
  exact nat_wrapI (by omega)
theorem addr_addO (b o k : Nat) : (⟨b, o, none⟩ : Addr).add k = ⟨b, o + k, none⟩ := by unfold Addr.add; split <;> simp_all
theorem run_idx37O {w : World} {b o c : Nat} : (Instr.indexAt 37 (.slice (some ⟨b, o, none⟩) 1 c) (.int .i64 0)).run Tryd.prog w = .ok (.pointer (some ⟨b, o, none⟩)) w := by
  simp [Instr.indexAt, asIntOf, run_underlying under37, size24, addr_addO]
theorem run_to37 {w : World} {a : Option Addr} {n h cap : Nat} (h1 : h ≤ cap) : (Instr.sliceAt 37 (.slice a n cap) none (some (.int .i64 ((h : Nat) : Int))) none).run Tryd.prog w = .ok (.slice a h cap) w := by
  have hb : (Instr.sliceBound (.int .i64 ((h : Nat) : Int)) cap .sliceAcap).run Tryd.prog w = .ok h w := run_bound h1
  simp [Instr.sliceAt, Instr.slice, run_underlying under37, Instr.sliceBounds, hb, size24]
  intro _
  exact map_add_zero a
theorem run_from37 {w : World} {b o n lo cap : Nat} (h1 : lo ≤ n) (h3 : lo < cap) : (Instr.sliceAt 37 (.slice (some ⟨b, o, none⟩) n cap) (some (.int .i64 ((lo : Nat) : Int))) none none).run Tryd.prog w = .ok (.slice (some ⟨b, o + lo, none⟩) (n - lo) (cap - lo)) w := by
  have hb : (Instr.sliceBound (.int .i64 ((lo : Nat) : Int)) n .sliceB).run Tryd.prog w = .ok lo w := run_bound h1
  simp [Instr.sliceAt, Instr.slice, run_underlying under37, Instr.sliceBounds, hb, size24, addr_addO]
  intro h; omega
def ofA (f : Nat → Nat) : Nat → Nat → E
  | 0, o => .leaf (f o)
  | d + 1, o => E.mk 0 (ofA f d o) (ofA f d (o + 2 ^ d))
theorem ofA_nf (f : Nat → Nat) : ∀ (d o : Nat), (ofA f d o).nf
  | 0, o => trivial
  | d + 1, o => E.nf_mk (ofA_nf f d o) (ofA_nf f d (o + 2 ^ d))
theorem ofA_top {f : Nat → Nat} {B : Nat} (h : ∀ j, f j ≤ B) : ∀ (d o : Nat), (ofA f d o).top ≤ B
  | 0, o => h o
  | d + 1, o => by
    have h1 := ofA_top h d o
    have h2 := ofA_top h d (o + 2 ^ d)
    show (E.mk 0 (ofA f d o) (ofA f d (o + 2 ^ d))).top ≤ B
    rw [E.mk_top_eq]; omega
theorem mk_halves {e : E} (h : e.nf) : E.mk 0 (E.up e.base e.left) (E.up e.base e.right) = e := by
  cases e with
  | leaf n =>
    show E.mk 0 (.leaf (0 + n)) (.leaf (0 + n)) = .leaf n
    unfold E.mk
    rw [if_pos ⟨rfl, rfl, rfl⟩]
    show E.leaf (0 + (0 + n)) = .leaf n
    rw [Nat.zero_add, Nat.zero_add]
  | node n l r =>
    obtain ⟨h1, h2⟩ := E.mk_iff.1 h.2.2
    show E.mk 0 (E.up n l) (E.up n r) = .node n l r
    unfold E.mk
    rw [if_neg (by rw [E.up_leaf, E.up_leaf, E.up_base, E.up_base]; intro q; exact h1 ⟨q.1, q.2.1, by omega⟩)]
    have hm : min (E.up n l).base (E.up n r).base = n := by rw [E.up_base, E.up_base]; omega
    rw [hm, E.dn_up, E.dn_up, Nat.zero_add]
theorem ofA_eq : ∀ (d : Nat) (e : E) (f : Nat → Nat) (o : Nat), e.nf → e.depth ≤ d → (∀ j, j < 2 ^ d → f (o + j) = hAt d e j) → ofA f d o = e
  | 0, .leaf n, f, o, hn, hd, h => congrArg E.leaf (h 0 (by decide))
  | 0, .node n l r, f, o, hn, hd, h => by
    have : 1 + max l.depth r.depth ≤ 0 := hd
    omega
  | d + 1, e, f, o, hn, hd, h => by
    have hp := two_succ d
    have hl := ofA_eq d (E.up e.base e.left) f o (E.up_nf (E.half_nf hn).1) (E.half_depth e d hd).1 (fun j hj => by
      rw [h j (by omega)]
      show (if j < 2 ^ d then _ else _) = _
      rw [if_pos hj])
    have hr := ofA_eq d (E.up e.base e.right) f (o + 2 ^ d) (E.up_nf (E.half_nf hn).2) (E.half_depth e d hd).2 (fun j hj => by
      rw [Nat.add_assoc, h (2 ^ d + j) (by omega)]
      show (if 2 ^ d + j < 2 ^ d then _ else _) = _
      rw [if_neg (by omega), Nat.add_sub_cancel_left])
    show E.mk 0 (ofA f d o) (ofA f d (o + 2 ^ d)) = e
    rw [hl, hr]; exact mk_halves hn
theorem cU_get {L : List Nat} {o x : Nat} (h : L[o]? = some x) : (L.map cU)[o]? = some (.int .u64 ((x : Nat) : Int)) := by
  rw [List.getElem?_map, h]; rfl
theorem fun_of_row2 {f : FuncId} {args : Array Value} {I : IM} {e : TypeId} {n : Nat} {xs : List Value} (hn : 0 < n) (h : FunM Tryd.prog f args I [] (fun v J F => RowH e 1 v n xs F)) :
    Fun Tryd.prog f args I (fun v J => ∃ b c, v = .slice (some ⟨b, 0, none⟩) n c ∧ n ≤ c ∧ VS J e xs b) := by
  intro w hw
  refine (h w hw (Owns.nil I w)).mono ?_
  rintro en w' ⟨v, I', H', he, s, hr⟩
  have hl := hr.1
  rcases hr.2 with ⟨_, h0, _⟩ | ⟨g, cap, cur, hv, hF, hnc, hcm, hcs, htake⟩
  · omega
  · subst hF
    refine ⟨v, I'.add g (.cells cur e), [], he, s.freeze, g, cap, hv, hnc, cur, IM.add_self _ _ _, ?_⟩
    rw [hl]; exact htake
theorem heightsN_c {I : IM} {x : E} {k d : Nat} (hd : d ≤ 10) (h : RE I x k) (ht : x.top < 18446744073709551616) : Fun Tryd.prog 22 #[.pointer (some ⟨k, 0, none⟩), .int .i64 ((d : Nat) : Int)] I (fun v J => ∃ b c, v = .slice (some ⟨b, 0, none⟩) (2 ^ d) c ∧ 2 ^ d ≤ c ∧ VS J 24 ((hL d x).map cU) b) :=
  fun_of_row2 (n := 2 ^ d) (Nat.two_pow_pos _) (heights_c d hd h ht)

set_option maxHeartbeats 1000000 in
theorem of0_c {I : IM} {L : List Nat} {f : Nat → Nat} {b o cap : Nat} (hv : VS I 24 (L.map cU) b) (hx : L[o]? = some (f o)) : Fun Tryd.prog 21 #[.slice (some ⟨b, o, none⟩) 1 cap] I (fun v J => ∃ k, v = .pointer (some ⟨k, 0, none⟩) ∧ RE J (E.leaf (f o)) k) := by
  refine enter_rule 23 [(0, .slice (some ⟨b, o, none⟩) 1 cap)] Tryd.func21 rfl (by kernel_rfl) ?_
  intro w s
  refine wp_seq ?_
  refine region_rule ?_
  refine ops_rule (C := []) [] [] 1 [] 0 (fun φ1 => [(2, .pointer none)]) (fun φ1 => []) (fun φ1 => []) s trivial (fun φ1 => by kernel_rfl) ?_
  intro φ1 w1 s
  refine ops_done (by kernel_rfl) ?_
  refine wp_seq ?_
  refine wp_seq ?_
  refine region_rule ?_
  refine ops_rule (C := []) [] [] 3 [] 0 (fun φ2 => [(5, .bool true), (4, .int .i64 1), (3, .slice (some ⟨b, o, none⟩) 1 cap)]) (fun φ2 => []) (fun φ2 => []) s trivial (fun φ2 => by kernel_rfl) ?_
  intro φ2 w2 s
  refine ops_done (by kernel_rfl) ?_
  refine cond_true_rule (b := true) (by kernel_rfl) rfl ?_
  refine wp_seq ?_
  refine region_rule ?_
  refine ops_rule (C := []) [] [] 1 [] 0 (fun φ3 => [(6, .slice (some ⟨b, o, none⟩) 1 cap)]) (fun φ3 => []) (fun φ3 => []) s trivial (fun φ3 => by kernel_rfl) ?_
  intro φ3 w3 s
  refine sem_rule (Instr.indexAt 37 (.slice (some ⟨b, o, none⟩) 1 cap) (.int .i64 0)) (some 7) (.pointer (some ⟨b, o, none⟩)) (by kernel_rfl) (run_idx37O) ?_
  refine sem_rule (Instr.loadAt 24 (.pointer (some ⟨b, o, none⟩))) (some 8) (.int .u64 ((f o : Nat) : Int)) (by kernel_rfl) (run_load24 s.sub hv (cU_get hx)) ?_
  refine call_rule (some 9) s (rleaf_c (n := f o)) (by kernel_rfl) ?_
  intro v4 I4 w4 le4 h4 s
  replace hv := VS.mono le4 hv
  obtain ⟨k4, rfl, h4_0⟩ := h4
  refine ops_rule (C := []) [] [] 1 [] 0 (fun φ5 => [(2, .pointer (some ⟨k4, 0, none⟩))]) (fun φ5 => []) (fun φ5 => []) s trivial (fun φ5 => by kernel_rfl) ?_
  intro φ5 w5 s
  refine ops_done (by kernel_rfl) ?_
  refine wp_ret ?_
  refine ret_rule (C := []) [] [] (.pointer (some ⟨k4, 0, none⟩)) [] [] s trivial (by kernel_rfl) ?_
  exact ⟨_, _, _, rfl, s, ⟨_, rfl, h4_0⟩⟩

set_option maxHeartbeats 1000000 in
theorem ofS_c {I : IM} {L : List Nat} {f : Nat → Nat} {b o cap N P d : Nat} (hN : N = P + P) (hcap : N ≤ cap) (hs : N ≤ 1000000) (hP : 1 ≤ P) (hbd : 0 + max (ofA f d o).top (ofA f d (o + P)).top < 18446744073709551616) (hv : VS I 24 (L.map cU) b) (ih1 : ∀ {J : IM}, VS J 24 (L.map cU) b → Fun Tryd.prog 21 #[.slice (some ⟨b, o, none⟩) (N / 2) (cap)] J (fun v J => ∃ k, v = .pointer (some ⟨k, 0, none⟩) ∧ RE J (ofA f d o) k)) (ih2 : ∀ {J : IM}, VS J 24 (L.map cU) b → Fun Tryd.prog 21 #[.slice (some ⟨b, o + N / 2, none⟩) (N - N / 2) (cap - N / 2)] J (fun v J => ∃ k, v = .pointer (some ⟨k, 0, none⟩) ∧ RE J (ofA f d (o + P)) k)) : Fun Tryd.prog 21 #[.slice (some ⟨b, o, none⟩) N cap] I (fun v J => ∃ k, v = .pointer (some ⟨k, 0, none⟩) ∧ RE J (E.mk 0 (ofA f d o) (ofA f d (o + P))) k) := by
  refine enter_rule 23 [(0, .slice (some ⟨b, o, none⟩) N cap)] Tryd.func21 rfl (by kernel_rfl) ?_
  intro w s
  refine wp_seq ?_
  refine region_rule ?_
  refine ops_rule (C := []) [] [] 1 [] 0 (fun φ1 => [(2, .pointer none)]) (fun φ1 => []) (fun φ1 => []) s trivial (fun φ1 => by kernel_rfl) ?_
  intro φ1 w1 s
  refine ops_done (by kernel_rfl) ?_
  refine wp_seq ?_
  refine wp_seq ?_
  refine region_rule ?_
  refine ops_rule (C := []) [] [] 3 [] 0 (fun φ2 => [(5, .bool (((N : Nat) : Int) == ((1 : Nat) : Int))), (4, .int .i64 ((N : Nat) : Int)), (3, .slice (some ⟨b, o, none⟩) N cap)]) (fun φ2 => []) (fun φ2 => []) s trivial (fun φ2 => by kernel_rfl) ?_
  intro φ2 w2 s
  rw [nat_eql (a := N) (b := 1)]
  refine ops_done (by kernel_rfl) ?_
  rcases Bool.eq_false_or_eq_true (decide (N = 1)) with hc3 | hc3
  ·
    exact absurd (of_decide_eq_true hc3) (by omega)
  ·
    rw [hc3]
    refine cond_false_rule (b := false) (by kernel_rfl) rfl ?_
    refine wp_skip ?_
    refine wp_seq ?_
    refine draw_rule (C := []) ⟨(fun φ4 xs4 => [.look 0 [] [], .look 0 [] [], .look 0 [] [], .sub 0 [] [] (.int .i64 (IntKind.wrap .i64 (Int.tdiv ((N : Nat) : Int) ((2 : Nat) : Int)))), .ran (Instr.sliceAt 37 (.slice (some ⟨b, o, none⟩) N cap) none (some (.int .i64 ((N / 2 : Nat) : Int))) none), .call 21 #[.slice (some ⟨b, o, none⟩) (N / 2) cap], .look 0 [] [], .look 0 [] [], .look 0 [] [], .sub 0 [] [] (.int .i64 (IntKind.wrap .i64 (Int.tdiv ((N : Nat) : Int) ((2 : Nat) : Int)))), .ran (Instr.sliceAt 37 (.slice (some ⟨b, o, none⟩) N cap) (some (.int .i64 ((N / 2 : Nat) : Int))) none none), .call 21 #[.slice (some ⟨b, o + N / 2, none⟩) (N - N / 2) (cap - N / 2)], .call 19 #[.int .u64 0, .pointer (some ⟨(xs4 5).n 0, 0, none⟩), .pointer (some ⟨(xs4 11).n 0, 0, none⟩)], .look 0 [] []]), (fun φ4 xs4 => [.slice (some ⟨b, o, none⟩) N cap, .slice (some ⟨b, o, none⟩) N cap, .int .i64 ((N : Nat) : Int), .int .i64 ((N / 2 : Nat) : Int), .slice (some ⟨b, o, none⟩) (N / 2) cap, .pointer (some ⟨(xs4 5).n 0, 0, none⟩), .slice (some ⟨b, o, none⟩) N cap, .slice (some ⟨b, o, none⟩) N cap, .int .i64 ((N : Nat) : Int), .int .i64 ((N / 2 : Nat) : Int), .slice (some ⟨b, o + N / 2, none⟩) (N - N / 2) (cap - N / 2), .pointer (some ⟨(xs4 11).n 0, 0, none⟩), .pointer (some ⟨(xs4 12).n 0, 0, none⟩), .pointer (some ⟨(xs4 12).n 0, 0, none⟩)]), (fun φ4 xs4 => [[]]), (fun φ4 xs4 => [[default, default, default, default, default, default, default, default, default, default, default, default, default, default]]), [], [1, 1, 1, 5, 6, 3, 1, 1, 1, 5, 6, 3, 3, 1]⟩ (fun j => ([MP.any, MP.any, MP.any, MP.any, MP.any, ⟨fun x J => RE J (ofA f d o) (x.n 0), fun le h => RE.mono le h⟩, MP.any, MP.any, MP.any, MP.any, MP.any, ⟨fun x J => RE J (ofA f d (o + P)) (x.n 0), fun le h => RE.mono le h⟩, ⟨fun x J => RE J (E.mk 0 (ofA f d o) (ofA f d (o + P))) (x.n 0), fun le h => RE.mono le h⟩, MP.any] : List MP).getD j MP.any) [5, 11, 12] [3, 9] [4, 10] (fun φ4 xs4 => []) (fun φ4 xs4 => [(10, .slice (some ⟨b, o, none⟩) N cap), (11, .slice (some ⟨b, o, none⟩) N cap), (12, .int .i64 ((N : Nat) : Int)), (13, .int .i64 ((N / 2 : Nat) : Int)), (14, .slice (some ⟨b, o, none⟩) (N / 2) cap), (15, .pointer (some ⟨(xs4 5).n 0, 0, none⟩)), (16, .slice (some ⟨b, o, none⟩) N cap), (17, .slice (some ⟨b, o, none⟩) N cap), (18, .int .i64 ((N : Nat) : Int)), (19, .int .i64 ((N / 2 : Nat) : Int)), (20, .slice (some ⟨b, o + N / 2, none⟩) (N - N / 2) (cap - N / 2)), (21, .pointer (some ⟨(xs4 11).n 0, 0, none⟩)), (22, .pointer (some ⟨(xs4 12).n 0, 0, none⟩)), (2, .pointer (some ⟨(xs4 12).n 0, 0, none⟩))]) (fun φ4 xs4 => []) s trivial (by kernel_rfl) (by kernel_rfl) (fun _ _ => by kernel_rfl) (fun _ _ => by kernel_rfl) ⟨fun _ _ => by kernel_rfl, fun _ _ => by kernel_rfl, fun _ _ => by kernel_rfl, fun _ _ => by kernel_rfl⟩ (fun _ _ _ => by kernel_rfl) (fun _ _ => by kernel_rfl) (fun _ _ => by kernel_rfl) (fun _ _ => by kernel_rfl) (fun _ _ => by kernel_rfl) (fun _ _ => by kernel_rfl) ⟨kcast (A := ∀ (φ4 : Nat → Nat) (xs4 : Xs), (.int .i64 (IntKind.wrap .i64 (Int.tdiv ((N : Nat) : Int) ((2 : Nat) : Int))) : Value) = .int .i64 ((N / 2 : Nat) : Int)) (by kernel_rfl) (fun φ4 xs4 => congrArg (Value.int .i64) ((nat_quoI (a := N) (b := 2) (by omega)))), ⟨kcast (A := ∀ (φ4 : Nat → Nat) (xs4 : Xs), (.int .i64 (IntKind.wrap .i64 (Int.tdiv ((N : Nat) : Int) ((2 : Nat) : Int))) : Value) = .int .i64 ((N / 2 : Nat) : Int)) (by kernel_rfl) (fun φ4 xs4 => congrArg (Value.int .i64) ((nat_quoI (a := N) (b := 2) (by omega)))), trivial⟩⟩ ⟨kcast (A := ∀ (φ4 : Nat → Nat) (xs4 : Xs) (J : IM) (w : World), I.Le J → J.Sub w → ((Instr.sliceAt 37 (.slice (some ⟨b, o, none⟩) N cap) none (some (.int .i64 ((N / 2 : Nat) : Int))) none) : Sem Value).run Tryd.prog w = .ok (.slice (some ⟨b, o, none⟩) (N / 2) cap) w) (by kernel_rfl) (fun φ4 xs4 J w hJ hS => run_to37 (by omega)), ⟨kcast (A := ∀ (φ4 : Nat → Nat) (xs4 : Xs) (J : IM) (w : World), I.Le J → J.Sub w → ((Instr.sliceAt 37 (.slice (some ⟨b, o, none⟩) N cap) (some (.int .i64 ((N / 2 : Nat) : Int))) none none) : Sem Value).run Tryd.prog w = .ok (.slice (some ⟨b, o + N / 2, none⟩) (N - N / 2) (cap - N / 2)) w) (by kernel_rfl) (fun φ4 xs4 J w hJ hS => run_from37 (by omega) (by omega)), trivial⟩⟩ (by kernel_rfl) ⟨?c4_5, ?c4_11, ?c4_12, trivial⟩ ?k4
    case c4_5 =>
      refine kcast (A := ∀ (φ4 : Nat → Nat) (xs4 : Xs) (J5_4 : IM), I.Le J5_4 → Fun Tryd.prog 21 #[.slice (some ⟨b, o, none⟩) (N / 2) cap] J5_4 (fun v J' => ∃ x : UX, v = .pointer (some ⟨x.n 0, 0, none⟩) ∧ (RE J' (ofA f d o) (x.n 0)))) (by kernel_rfl) ?_
      intro φ4 xs4 J5_4 leJ
      have hv := VS.mono leJ hv
      exact Fun.mono (ih1 hv) (fun v J' _ ⟨y0, hv, g0⟩ => ⟨{ UX.d with n := fun j => y0 }, hv, g0⟩)
    case c4_11 =>
      refine kcast (A := ∀ (φ4 : Nat → Nat) (xs4 : Xs) (J11_4 : IM), I.Le J11_4 → (RE J11_4 (ofA f d o) ((xs4 5).n 0)) → Fun Tryd.prog 21 #[.slice (some ⟨b, o + N / 2, none⟩) (N - N / 2) (cap - N / 2)] J11_4 (fun v J' => ∃ x : UX, v = .pointer (some ⟨x.n 0, 0, none⟩) ∧ (RE J' (ofA f d (o + P)) (x.n 0)))) (by kernel_rfl) ?_
      intro φ4 xs4 J11_4 leJ
      rintro h4_5_0
      have hv := VS.mono leJ hv
      exact Fun.mono (ih2 hv) (fun v J' _ ⟨y0, hv, g0⟩ => ⟨{ UX.d with n := fun j => y0 }, hv, g0⟩)
    case c4_12 =>
      refine kcast (A := ∀ (φ4 : Nat → Nat) (xs4 : Xs) (J12_4 : IM), I.Le J12_4 → (RE J12_4 (ofA f d o) ((xs4 5).n 0)) → (RE J12_4 (ofA f d (o + P)) ((xs4 11).n 0)) → Fun Tryd.prog 19 #[.int .u64 0, .pointer (some ⟨(xs4 5).n 0, 0, none⟩), .pointer (some ⟨(xs4 11).n 0, 0, none⟩)] J12_4 (fun v J' => ∃ x : UX, v = .pointer (some ⟨x.n 0, 0, none⟩) ∧ (RE J' (E.mk 0 (ofA f d o) (ofA f d (o + P))) (x.n 0)))) (by kernel_rfl) ?_
      intro φ4 xs4 J12_4 leJ
      rintro h4_5_0 h4_11_0
      exact Fun.mono (rnode_c (n := 0) h4_5_0 h4_11_0 (ofA_nf _ _ _) (ofA_nf _ _ _) hbd) (fun v J' _ ⟨y0, hv, g0⟩ => ⟨{ UX.d with n := fun j => y0 }, hv, g0⟩)
    case k4 =>
      rintro φ4 xs4 I4 w4 le4 s h4_5_0 h4_11_0 h4_12_0
      replace hv := VS.mono le4 hv
      refine wp_ret ?_
      refine ret_rule (C := []) [] [] (.pointer (some ⟨(xs4 12).n 0, 0, none⟩)) [] [] s trivial (by kernel_rfl) ?_
      exact ⟨_, _, _, rfl, s, ⟨_, rfl, h4_12_0⟩⟩

theorem of_c {L : List Nat} {f : Nat → Nat} {b : Nat} (hf : ∀ j, j < L.length → L[j]? = some (f j)) (hB : ∀ j, f j ≤ 1000000) : ∀ (d : Nat) {I : IM} {o cap : Nat}, d ≤ 10 → o + 2 ^ d ≤ L.length → 2 ^ d ≤ cap → VS I 24 (L.map cU) b → Fun Tryd.prog 21 #[.slice (some ⟨b, o, none⟩) (2 ^ d) cap] I (fun v J => ∃ k, v = .pointer (some ⟨k, 0, none⟩) ∧ RE J (ofA f d o) k)
  | 0, I, o, cap, hd, ho, hc, hv => by
    have ho1 : o + 1 ≤ L.length := ho
    exact of0_c hv (hf o (by omega))
  | d + 1, I, o, cap, hd, ho, hc, hv => by
    have hp := two_succ d
    have h1 : 1 ≤ 2 ^ d := Nat.two_pow_pos _
    have h2 : 2 ^ d ≤ 2 ^ 10 := Nat.pow_le_pow_right (by decide) (by omega)
    have h3 : (2 : Nat) ^ 10 = 1024 := by decide
    have t1 := ofA_top hB d o
    have t2 := ofA_top hB d (o + 2 ^ d)
    have e1 : 2 ^ (d + 1) / 2 = 2 ^ d := by omega
    have e2 : 2 ^ (d + 1) - 2 ^ (d + 1) / 2 = 2 ^ d := by omega
    refine ofS_c (N := 2 ^ (d + 1)) (P := 2 ^ d) hp hc (by omega) h1 (by omega) hv (fun {J} hv => ?_) (fun {J} hv => ?_)
    · rw [e1]; exact of_c hf hB d (by omega) (by omega) (by omega) hv
    · rw [e2, e1]; exact of_c hf hB d (by omega) (by omega) (by omega) hv
theorem ofH_c {I : IM} {z : E} {b c D : Nat} (hz : z.nf) (hd : z.depth ≤ D) (hD : D ≤ 10) (ht : z.top ≤ 1000000) (hc : 2 ^ D ≤ c) (hv : VS I 24 ((hL D z).map cU) b) : Fun Tryd.prog 21 #[.slice (some ⟨b, 0, none⟩) (2 ^ D) c] I (fun v J => ∃ k, v = .pointer (some ⟨k, 0, none⟩) ∧ RE J z k) := by
  have hlen := hL_len D z
  have h := of_c (L := hL D z) (f := hAt D z) (b := b) (fun j hj => hL_get D z j (by omega)) (fun j => Nat.le_trans (hAt_le D z j) ht) D (o := 0) hD (by omega) hc hv
  rw [ofA_eq D z (hAt D z) 0 hz hd (fun j _ => by rw [Nat.zero_add])] at h
  exact h

end Go.Proofs.YtgdickihjaomjaaDoor
