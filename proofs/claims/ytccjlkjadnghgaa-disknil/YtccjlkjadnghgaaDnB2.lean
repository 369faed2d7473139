/- Numbers of 8 and 32 bits; slices of literals; a marked block. -/
import Derived.Test.YtccjlkjadnghgaaDnC1
set_option linter.all false
set_option maxRecDepth 100000
namespace Go.Proofs.Ytccjlkjadnghgaa
open Go.RowKit Go.Sep

theorem bsl_lit {I : IM} {b n : Nat} {cs : Array Value} {T : TypeId} {fr : Nat × Nat} {l : List UInt8} (h : I b = some (.cells cs T fr)) (hc : cs.toList = l.map bV) (hn : n = l.length) : BSl I l (.slice (some ⟨b, 0, none⟩) n n) := by
  subst hn
  refine ⟨_, _, rfl, Nat.le_refl _, fun j x hj => ⟨b, 0, cs, T, fr, rfl, h, ?_⟩⟩
  have : cs.toList[j]? = some (bV x) := by rw [hc, List.getElem?_map, hj]; rfl
  rw [Nat.zero_add]
  have h2 : cs[j]? = some (bV x) := by simpa using this
  exact h2
theorem under5 : Try.prog.underlying 5 = some (.int .u8) := by kernel_rfl
theorem mark_own {w0 : World} {I0 : IM} {m : List Nat} {I : IM} {w : World} {H F : List OB} (s : St w0 I0 m I w (H ++ F)) {q b n c : Nat} {cs : Array Value} (hq : H[q]? = some (b, .cells cs 5)) :
    ∃ w' fr, (convert 29 29 (.slice (some ⟨b, 0, none⟩) n c)).run Try.prog w = .ok (.slice (some ⟨b, 0, none⟩) n c) w' ∧ St w0 I0 m I w' (H.set q (b, .cells cs 5 fr) ++ F) := by
  have hb : w.heap[b]? = some (.cells cs 5 (0, 0)) := s.own (b, _) (by simp [List.mem_of_getElem? hq])
  have hi : q < H.length := (List.getElem?_eq_some_iff.1 hq).1
  have hHF : (H ++ F)[q]? = some (b, .cells cs 5) := by rw [List.getElem?_append_left hi]; exact hq
  have hsh : w.shape? b = some (5, cs.size) := by unfold World.shape?; rw [hb]
  refine ⟨w.freeze ⟨b, cs.size, none⟩ 1, (cs.size, cs.size + 1), ?_, ?_⟩
  · simp [convert, run_underlying under34, run_underlying under5, markStringish, shape, freeze, Sem.run, hsh]
  · have := St.set (w' := w.freeze ⟨b, cs.size, none⟩ 1) (o' := .cells cs 5 (cs.size, cs.size + 1)) s hHF rfl rfl rfl (by simp [World.freeze]) (by
      simp [World.freeze, Array.getElem?_modify, hb]) (fun z hz => by
      simp [World.freeze, Array.getElem?_modify]
      intro h; exact absurd h.symm hz)
    rw [List.set_append_left _ _ hi] at this
    exact this
theorem run_eqnil {w : World} {a : Option Addr} {n c : Nat} : (binOp .eql 29 (.slice a n c) (.slice none 0 0)).run Try.prog w = .ok (.bool a.isNone) w := by
  cases a <;> kernel_rfl
def rounds_step {P : Program} {c : Code} {Q : Exit → Act → World → Prop} {n : Nat} {a : Act} {w : World} (h : c.wp P (Exit.then (Code.rounds P c Q n) Q) a w) : Code.rounds P c Q (n + 1) a w := by
  rw [Go.rounds_succ]; exact h
theorem leMono {A I J : IM} (le : I.Le J) (h : A.Le I) : A.Le J := h.trans le
end Go.Proofs.Ytccjlkjadnghgaa

