/- Proved here: the contracts of the landed flags' map of deeds: what byFlag makes, what Known and Does read of it. -/
import Derived.Test.YtlmdihocogalaaaFlKind
import Derived.Test.YtlmdihocogalaaaConFlags
import Derived.Maps.OwnSet
namespace Go.Proofs.Ytlmdihocogalaaa
open Go.RowKit
set_option linter.unusedVariables false
set_option maxRecDepth 100000

/-- Five numbers, read as data. -/
def deedsR (v : Value) : Option (DataW Unit × List MemPlace) :=
  match v with
  | .agg a => match a.toList with
    | [.int .i64 x0, .int .i64 x1, .int .i64 x2, .int .i64 x3, .int .i64 x4] => some (.agg [.lit (.int .i64 x0), .lit (.int .i64 x1), .lit (.int .i64 x2), .lit (.int .i64 x3), .lit (.int .i64 x4)], [])
    | _ => none
  | _ => none
def deedV (x2 x4 : Int) : Value := .agg #[.int .i64 0, .int .i64 0, .int .i64 x2, .int .i64 0, .int .i64 x4]
def deedD (x2 x4 : Int) : DataW Unit := .agg [.lit (.int .i64 0), .lit (.int .i64 0), .lit (.int .i64 x2), .lit (.int .i64 0), .lit (.int .i64 x4)]
theorem deedsR_mk (x2 x4 : Int) : deedsR (deedV x2 x4) = some (deedD x2 x4, []) := rfl
theorem deedsR_inv {v : Value} {ps : List MemPlace} {x2 x4 : Int} (h : deedsR v = some (deedD x2 x4, ps)) : v = deedV x2 x4 := by
  unfold deedsR at h
  split at h
  · rename_i a
    split at h
    · rename_i y0 y1 y2 y3 y4 h2
      simp only [deedD, Option.some.injEq, Prod.mk.injEq, DataW.agg.injEq, List.cons.injEq, DataW.lit.injEq, Lit.int.injEq, true_and, and_true] at h
      obtain ⟨⟨e0, e1, e2, e3, e4⟩, -⟩ := h
      unfold deedV
      congr 1
      apply Array.toList_inj.1
      rw [h2, e0, e1, e2, e3, e4]
    · cases h
  · cases h

/-- What byFlag has. -/
def deedMap : DataW Unit := ((((((DataW.map []).put (.int .u8 101) (deedD 1 1)).put (.int .u8 120) (deedD 0 1)).put (.int .u8 51) (deedD 1 0)).put (.int .u8 69) (deedD 1 2)).put (.int .u8 88) (deedD 0 2)).put (.int .u8 65) (deedD 1 3)
theorem deedMap_at (c : UInt8) : deedMap.atKey (.int .u8 (c.toNat : Int)) (deedD 0 0) = deedD (doesF c 2 : Nat) (doesF c 4 : Nat) := by
  cases h : knownB c with
  | true => rcases known_eq c h with rfl | rfl | rfl | rfl | rfl | rfl <;> rfl
  | false =>
    obtain ⟨h1, h2, h3, h4, h5, h6⟩ := known_not h
    simp only [beq_eq_false_iff_ne, ne_eq] at h1 h2 h3 h4 h5 h6
    have g : ∀ d : Int, ¬ (c.toNat : Int) = d → Lit.int .u8 (c.toNat : Int) ≠ Lit.int .u8 d := fun d hd e => hd (by injection e)
    rw [does_unknown h, does_unknown h]
    unfold deedMap
    rw [Maps.atKey_put_other (g _ h6), Maps.atKey_put_other (g _ h5), Maps.atKey_put_other (g _ h4), Maps.atKey_put_other (g _ h3), Maps.atKey_put_other (g _ h2), Maps.atKey_put_other (g _ h1)]
    rfl
theorem deedMap_has (c : UInt8) : Maps.has deedMap (.int .u8 (c.toNat : Int)) = knownB c := by
  cases h : knownB c with
  | true => rcases known_eq c h with rfl | rfl | rfl | rfl | rfl | rfl <;> rfl
  | false =>
    obtain ⟨h1, h2, h3, h4, h5, h6⟩ := known_not h
    simp only [beq_eq_false_iff_ne, ne_eq] at h1 h2 h3 h4 h5 h6
    have g : ∀ d : Int, ¬ (c.toNat : Int) = d → Lit.int .u8 (c.toNat : Int) ≠ Lit.int .u8 d := fun d hd e => hd (by injection e)
    unfold deedMap
    rw [Maps.has_put_other (g _ h6), Maps.has_put_other (g _ h5), Maps.has_put_other (g _ h4), Maps.has_put_other (g _ h3), Maps.has_put_other (g _ h2), Maps.has_put_other (g _ h1)]
    rfl

theorem lawU8 : Maps.Keyed Try.prog 5 := Maps.int_keyed Try.underlying5
theorem zeroDeeds (w : World) : (zeroValue 37).run Try.prog w = .ok (deedV 0 0) w := by kernel_rfl
theorem keyU8 (c : UInt8) : keyOf Try.prog 5 (.int .u8 (c.toNat : Int)) = some (.int .u8 (c.toNat : Int)) := Maps.keyOf_int_mk Try.underlying5 (by
  have := c.toNat_lt
  rw [Lit.wf, Bool.and_eq_true]
  exact ⟨decide_eq_true (show (0 : Int) ≤ (c.toNat : Int) by omega), decide_eq_true (show (c.toNat : Int) ≤ 255 by omega)⟩)

/-- A key is laid into a map that is being made. -/
theorem wpList_insert_own {H : Type} {P : Program} (w : World) {ops : Array Oper} {rest : List Oper} {o : Oper} {a : Act} {Q : Exit → Act → World → Prop}
    (hg : o.guard = none) (m x v : Operand) (t : TypeId) (hop : o.op = Op.insert t m x v)
    (k e : TypeId) (K : Maps.Keyed P k) (ht : P.underlying t = some (.map k e)) (R : Value → Option (DataW H × List MemPlace)) (b n : Nat) (D : DataW H)
    (hm : a.eval m = .map (some b)) (hown : w.ownsMap P k R b n D) (hn : n < maxLen) (key val : Value) (kl : Lit) (hx : a.eval x = key) (hv : a.eval v = val) (hkey : keyOf P k key = some kl)
    (d : DataW H) (ps : List MemPlace) (hval : R val = some (d, ps))
    (hK : ∀ w', w'.ownsMap P k R b (n + 1) (D.put kl d) → w.grownBy w' (some b) → wpList P ops Q rest (a.put o.dst undef) w') :
    wpList P ops Q (o :: rest) a w := by
  refine wpList_plain hg fun K' hK' => ?_
  obtain ⟨w', hrun, r1, r2⟩ := hown.update K ht hn hkey hval
  unfold Oper.wp
  simp [execOp, hop, hm, hx, hv, hrun, Result.andThen]
  exact hK' _ _ (hK w' r1 r2)

/-- What byFlag tells: a map of the call's own. -/
def DeedsOut (w w' : World) (e : Ending) : Prop := ∃ b, e = .returned (.map (some b)) ∧ w'.ownsMap Try.prog 5 deedsR b 6 deedMap ∧ Below w.heap.size w w'

set_option maxHeartbeats 2000000 in
theorem byFlag_any (w : World) : Calls Try.prog 22 #[] w fun e w' => DeedsOut w w' e := by
  have hmm := @run_makeMap Try.prog
  have m0 := Lib.hid (World.ownsMap_made w Try.prog 5 deedsR)
  have hB0 := Lib.hid (below_alloc (Below.refl w.heap.size w) (.map #[] 0))
  have tok1 := trivial
  go_enter Try.func22, Try.ntmps22
  go_wp2_with (first
    | (have _t := tok1; refine wpList_insert_own _ rfl _ _ _ 39 rfl 5 37 lawU8 Try.underlying39 deedsR w.heap.size 0 _ rfl m0.out (by unfold maxLen; omega) _ _ (.int .u8 101) rfl rfl (keyU8 101) (deedD 1 1) [] (deedsR_mk 1 1) ?_; intro w1 m1 g1; have hB1 := Lib.hid (hB0.out.grown g1 hB0.out.size (by intro g e; injection e with e; omega)); have tok2 := trivial; clear tok1 g1)
    | (have _t := tok2; refine wpList_insert_own _ rfl _ _ _ 39 rfl 5 37 lawU8 Try.underlying39 deedsR w.heap.size 1 _ rfl m1 (by unfold maxLen; omega) _ _ (.int .u8 120) rfl rfl (keyU8 120) (deedD 0 1) [] (deedsR_mk 0 1) ?_; intro w2 m2 g2; have hB2 := Lib.hid (hB1.out.grown g2 hB1.out.size (by intro g e; injection e with e; omega)); have tok3 := trivial; clear tok2 g2 m1)
    | (have _t := tok3; refine wpList_insert_own _ rfl _ _ _ 39 rfl 5 37 lawU8 Try.underlying39 deedsR w.heap.size 2 _ rfl m2 (by unfold maxLen; omega) _ _ (.int .u8 51) rfl rfl (keyU8 51) (deedD 1 0) [] (deedsR_mk 1 0) ?_; intro w3 m3 g3; have hB3 := Lib.hid (hB2.out.grown g3 hB2.out.size (by intro g e; injection e with e; omega)); have tok4 := trivial; clear tok3 g3 m2)
    | (have _t := tok4; refine wpList_insert_own _ rfl _ _ _ 39 rfl 5 37 lawU8 Try.underlying39 deedsR w.heap.size 3 _ rfl m3 (by unfold maxLen; omega) _ _ (.int .u8 69) rfl rfl (keyU8 69) (deedD 1 2) [] (deedsR_mk 1 2) ?_; intro w4 m4 g4; have hB4 := Lib.hid (hB3.out.grown g4 hB3.out.size (by intro g e; injection e with e; omega)); have tok5 := trivial; clear tok4 g4 m3)
    | (have _t := tok5; refine wpList_insert_own _ rfl _ _ _ 39 rfl 5 37 lawU8 Try.underlying39 deedsR w.heap.size 4 _ rfl m4 (by unfold maxLen; omega) _ _ (.int .u8 88) rfl rfl (keyU8 88) (deedD 0 2) [] (deedsR_mk 0 2) ?_; intro w5 m5 g5; have hB5 := Lib.hid (hB4.out.grown g5 hB4.out.size (by intro g e; injection e with e; omega)); have tok6 := trivial; clear tok5 g5 m4)
    | (have _t := tok6; refine wpList_insert_own _ rfl _ _ _ 39 rfl 5 37 lawU8 Try.underlying39 deedsR w.heap.size 5 _ rfl m5 (by unfold maxLen; omega) _ _ (.int .u8 65) rfl rfl (keyU8 65) (deedD 1 3) [] (deedsR_mk 1 3) ?_; intro w6 m6 g6; have hB6 := Lib.hid (hB5.out.grown g6 hB5.out.size (by intro g e; injection e with e; omega)); have tok7 := trivial; clear tok6 g6 m5))
  go_ret
  exact ⟨_, rfl, m6, hB6.out⟩
end Go.Proofs.Ytlmdihocogalaaa
