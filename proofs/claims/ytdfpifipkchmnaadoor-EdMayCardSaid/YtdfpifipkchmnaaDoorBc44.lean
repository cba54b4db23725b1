/- Proved here: texts joined: EdAll. -/
import Derived.Test.YtdfpifipkchmnaaDoorBc20
import Derived.Test.YtdfpifipkchmnaaDoorBc38
import Derived.Test.YtdfpifipkchmnaaDoorBc43
import Derived.Deep.LoopGhost
import Derived.Deep.QuietTactic
/- Proved here: the landed editor's loop over its commands. -/
namespace Go.Proofs.YtdfpifipkchmnaaDoor
open Go.RowKit
set_option linter.unusedVariables false
set_option maxRecDepth 100000

theorem cut_few {pre : Tx} {l : List Nat} (hp : ∀ c ∈ pre, comB c = true) (h : cutN pre = some l) : ∀ x ∈ l, x < 1000000000 := by
  unfold cutN at h
  split at h
  · simp only [Option.some.injEq] at h
    subst h
    simp
  · split at h
    · rename_i h1 h2
      simp only [Option.some.injEq] at h
      subst h
      intro x hx
      obtain ⟨p, hm, rfl⟩ := List.mem_map.1 hx
      exact (mayN_small (part_figs hp hm) (List.all_eq_true.1 h2 p hm)).1
    · cases h
/-- What cut makes of a line. -/
theorem cut_any (E : Nat) (s : Tx) (hs : s.length ≤ 800000) :
    (∃ pre name l, s = pre ++ name ++ [10] ∧ (∀ c ∈ pre, comB c = true) ∧ (∀ c, name.head? = some c → comB c = false) ∧ cutN pre = some l ∧ (∀ x ∈ l, x < 1000000000) ∧ name.length ≤ 800000 ∧ ∀ (rd : Int) (w : World), w.cell? ⟨E, 1, none⟩ = some (.int .i64 rd) → E < w.heap.size → Calls Tryd.prog 21 #[.pointer (some ⟨E, 0, none⟩), .string (str s)] w fun e w' => CutO w w' e name l) ∨
    ((∀ (len at_ : Nat) (rest file : Txs) (saved : Bool), stepE len at_ s rest file saved = .inl (2, at_ + 1)) ∧ ∀ (rd : Int) (w : World), w.cell? ⟨E, 1, none⟩ = some (.int .i64 rd) → E < w.heap.size → Calls Tryd.prog 21 #[.pointer (some ⟨E, 0, none⟩), .string (str s)] w fun e w' => e = .panicked (WR rd 2) ∧ Below w.heap.size w w') := by
  by_cases h10 : s.getLast? = some 10
  · obtain ⟨t, rfl⟩ : ∃ t, s = t ++ [10] := by
      rcases List.eq_nil_or_concat s with rfl | ⟨t, x, rfl⟩
      · cases h10
      · exact ⟨t, by simpa using h10⟩
    obtain ⟨pre, name, rfl, hp, hn, -, -⟩ := com_cut t
    have hlen : (pre ++ name).length ≤ 800000 := by rw [List.length_append] at hs; omega
    have hnl : name.length ≤ 800000 := by rw [List.length_append] at hlen; omega
    by_cases hne : pre = []
    · subst hne
      exact .inl ⟨[], name, [], rfl, hp, hn, rfl, by simp, hnl, fun rd w hE hEl => cut_bare E rd name w (by omega) hE hEl hn⟩
    · cases hc : cutN pre with
      | none =>
        refine .inr ⟨fun len at_ rest file saved => ?_, fun rd w hE hEl => (cut_nums E rd pre name w (by omega) hE hEl hp hn hne).mono ?_⟩
        · rw [step_same hp hn]
          unfold stepL
          rw [hc]
        · rintro e w' (⟨l, h1, h2⟩ | ⟨h1, h2, h3⟩)
          · rw [hc] at h1; cases h1
          · exact ⟨h2, h3⟩
      | some l =>
        refine .inl ⟨pre, name, l, rfl, hp, hn, hc, cut_few hp hc, hnl, fun rd w hE hEl => (cut_nums E rd pre name w (by omega) hE hEl hp hn hne).mono ?_⟩
        rintro e w' (⟨l2, h1, h2⟩ | ⟨h1, h2, h3⟩)
        · rw [hc] at h1; cases h1; exact h2
        · rw [hc] at h1; cases h1
  · exact .inr ⟨fun len at_ rest file saved => stepE_no h10, fun rd w hE hEl => cut_no E rd s w (by omega) hE hEl h10⟩

/-- A map's block is what it was. -/
theorem map_keep {P : Program} {k : TypeId} {R : Value → Option (DataW Unit × List MemPlace)} {w w' : World} {b n : Nat} {D : DataW Unit} (h : w.ownsMap P k R b n D) (hk : MapsK w w') : w'.ownsMap P k R b n D := by
  obtain ⟨es, clock, hb, r⟩ := h
  exact ⟨es, clock, hk b es clock hb, r⟩

/-- What all tells. -/
def AllO (B0 E : Nat) (S : Slc) (script : Txs) (w w' : World) (e : Ending) : (Nat × Nat) ⊕ (Txs × Bool) → Prop
  | .inl (err, line) => EdWrong B0 w w' e line err
  | .inr (f, sv) => ∃ fv rd ov, e = .returned (.tuple #[]) ∧ EdI B0 w' E S fv script rd f sv ov ∧ Below B0 w w'
/-- Where all stands. -/
structure AllI (B0 E : Nat) (S : Slc) (script : Txs) (b : Nat) (w wr : World) (X : (Nat × Nat) ⊕ (Txs × Bool)) (fv : Value) (a : Nat) (f : Txs) (sv ov : Bool) : Prop where
  ed : EdI B0 wr E S fv script (a : Int) f sv ov
  le : a ≤ script.length
  more : ov = false → runE script.length a (script.drop a) f sv = X
  fin : ov = true → X = .inr (f, sv)
  size : f.length ≤ 1000 + a ∧ ∀ t ∈ f, t.length ≤ 10000
  map : wr.ownsMap Tryd.prog 9 cmdR b 6 cmdMap
  below : Below B0 w wr
theorem AllI.up {B0 E : Nat} {S : Slc} {script : Txs} {b : Nat} {w wr w2 : World} {X : (Nat × Nat) ⊕ (Txs × Bool)} {fv : Value} {a : Nat} {f : Txs} {sv ov : Bool} (h : AllI B0 E S script b w wr X fv a f sv ov) (hb : Below wr.heap.size wr w2) : AllI B0 E S script b w w2 X fv a f sv ov :=
  ⟨h.ed.up hb, h.le, h.more, h.fin, h.size, map_keep h.map (.of_below hb), h.below.trans (hb.mono h.ed.leB)⟩
section
variable {B0 E : Nat} {S : Slc} {script : Txs} {b : Nat} {w wr V : World} {X : (Nat × Nat) ⊕ (Txs × Bool)} {fv : Value} {a : Nat} {f : Txs} {sv : Bool} {s : Tx}
/-- The line is read. -/
theorem AllI.read (h : AllI B0 E S script b w wr X fv a f sv false) (hb : Below wr.heap.size wr V) : EdI B0 (V.setCell ⟨E, 1, none⟩ (.int .i64 ((a : Int) + 1))) E S fv script ((a + 1 : Nat) : Int) f sv false ∧ Below B0 w (V.setCell ⟨E, 1, none⟩ (.int .i64 ((a : Int) + 1))) ∧ (V.setCell ⟨E, 1, none⟩ (.int .i64 ((a : Int) + 1))).ownsMap Tryd.prog 9 cmdR b 6 cmdMap := by
  have h2 := h.up hb
  have h3 := h2.ed.setRd ((a : Int) + 1)
  refine ⟨?_, h2.below.setCell (p := ⟨E, 1, none⟩) h.ed.low _, map_keep h2.map (h2.ed.setK 1 _)⟩
  rw [show ((a + 1 : Nat) : Int) = (a : Int) + 1 by omega]
  exact h3
/-- A line that is wrong. -/
theorem AllI.bad (h : AllI B0 E S script b w wr X fv a f sv false) (hs : script[a]? = some s) {err line : Nat} (hst : stepE script.length a s (script.drop (a + 1)) f sv = .inl (err, line)) : X = .inl (err, line) := by
  have hX := h.more rfl
  rw [drop_at hs, run_bad1 hst] at hX
  exact hX.symm
/-- A command that was done. -/
theorem AllI.next {w3 w4 : World} {e : Ending} {what : UInt8} {f' : Txs} {sv' : Bool} {k : Nat} (h : AllI B0 E S script b w wr X fv a f sv false) (hsm : ∀ t ∈ script, t.length ≤ 10000) (hs : script[a]? = some s) (hst : stepE script.length a s (script.drop (a + 1)) f sv = .inr (f', sv', k)) (h113 : what = 113 → (f', sv', k) = (f, sv, (script.drop (a + 1)).length))
    (hc : CmdW B0 E S script w3 w4 e (a + 1) what (.inr (f', sv', k))) (hb : Below B0 w w3) (hm : w3.ownsMap Tryd.prog 9 cmdR b 6 cmdMap) :
    e = .returned (.tuple #[]) ∧ ∃ fv' a' f' sv' ov', (a < a' ∧ a' ≤ script.length) ∧ AllI B0 E S script b w w4 X fv' a' f' sv' ov' := by
  have hlt := (List.getElem?_eq_some_iff.1 hs).1
  have hX := h.more rfl
  have hk := step_k hst
  have hup := step_up (X := 10000) h.size.2 (fun t ht => hsm t (List.mem_of_mem_drop ht)) hst
  rw [drop_at hs, run_go1 hst, List.drop_drop] at hX
  rw [List.length_drop] at hk
  by_cases h1 : what = 113
  · have h3 := h113 h1
    simp only [Prod.mk.injEq] at h3
    obtain ⟨rfl, rfl, h4⟩ := h3
    have hc2 : EdLeft B0 E S script w3 w4 e ((a + 1 : Nat) : Int) f' sv' true := by
      have : (if what = 113 then EdLeft B0 E S script w3 w4 e ((a + 1 : Nat) : Int) f' sv' true else EdLeft B0 E S script w3 w4 e ((a + 1 + k : Nat) : Int) f' sv' false) := hc
      rwa [if_pos h1] at this
    obtain ⟨fv', rfl, g1, g2, g3⟩ := hc2
    rw [List.drop_of_length_le (by rw [h4, List.length_drop]; omega), run_nil] at hX
    exact ⟨rfl, fv', a + 1, f', sv', true, ⟨by omega, by omega⟩, g1, by omega, fun h0 => (by cases h0), fun _ => hX.symm, ⟨by have := h.size.1; omega, h.size.2⟩, map_keep hm g3, hb.trans g2⟩
  · have hc2 : EdLeft B0 E S script w3 w4 e ((a + 1 + k : Nat) : Int) f' sv' false := by
      have : (if what = 113 then EdLeft B0 E S script w3 w4 e ((a + 1 : Nat) : Int) f' sv' true else EdLeft B0 E S script w3 w4 e ((a + 1 + k : Nat) : Int) f' sv' false) := hc
      rwa [if_neg h1] at this
    obtain ⟨fv', rfl, g1, g2, g3⟩ := hc2
    exact ⟨rfl, fv', a + 1 + k, f', sv', false, ⟨by omega, by omega⟩, g1, by omega, fun _ => hX, fun h0 => (by cases h0), ⟨by have := h.size.1; have := hup.1; omega, hup.2⟩, map_keep hm g3, hb.trans g2⟩
end
theorem what_of {name : Tx} (h : nameW name ≠ 0) : nameW name = 97 ∨ nameW name = 99 ∨ nameW name = 100 ∨ nameW name = 115 ∨ nameW name = 119 ∨ nameW name = 113 := by
  rcases nameW_cases name with ⟨_, h⟩ | ⟨_, h⟩ | ⟨_, h⟩ | ⟨_, h⟩ | ⟨_, h⟩ | ⟨_, h⟩ | ⟨_, _, _, _, _, _, h0⟩
  · exact .inl h
  · exact .inr (.inl h)
  · exact .inr (.inr (.inl h))
  · exact .inr (.inr (.inr (.inl h)))
  · exact .inr (.inr (.inr (.inr (.inl h))))
  · exact .inr (.inr (.inr (.inr (.inr h))))
  · exact absurd h0 h
theorem ent_cmd {what : UInt8} (hw : what = 97 ∨ what = 99 ∨ what = 100 ∨ what = 115 ∨ what = 119 ∨ what = 113) : ∀ args w, (callFunc (cmdF what) args).run Tryd.prog w = .ok (.enter (cmdF what) args) w := by
  rcases hw with rfl | rfl | rfl | rfl | rfl | rfl
  · exact enters_of (f := 25) Tryd.func25 (by kernel_rfl) rfl
  · exact enters_of (f := 26) Tryd.func26 (by kernel_rfl) rfl
  · exact enters_of (f := 27) Tryd.func27 (by kernel_rfl) rfl
  · exact enters_of (f := 28) Tryd.func28 (by kernel_rfl) rfl
  · exact enters_of (f := 29) Tryd.func29 (by kernel_rfl) rfl
  · exact enters_of (f := 30) Tryd.func30 (by kernel_rfl) rfl
end Go.Proofs.YtdfpifipkchmnaaDoor
