/- Proved here: texts joined: EdMap, EdDisp, EdNm. -/
import Derived.Test.YtdfpifipkchmnaaGreatDoorBa14
import Derived.Test.YtdfpifipkchmnaaGreatDoorBa17
import Derived.Test.YtdfpifipkchmnaaGreatDoorBa26
import Derived.Test.YtdfpifipkchmnaaGreatDoorBa35
import Derived.Test.YtdfpifipkchmnaaGreatDoorBa36
import Derived.Maps.OwnSet
import Derived.Test.YtdfpifipkchmnaaGreatDoorShelf
import Derived.Shelf.Strings.SlTrimAscii
import Derived.Lib.AtoiErrMem
import Derived.Deep.DeepCutAuto
/- Proved here: the landed editor's commands, by their names. -/
namespace Go.Proofs.YtdfpifipkchmnaaGreatDoor
open Go.RowKit Go.Maps Go.WideMaps
set_option linter.unusedVariables false
set_option maxRecDepth 100000

/-- A function, read as data. -/
def cmdR (v : Value) : Option (DataW Unit × List MemPlace) :=
  match v with
  | .func (.func n) ts fs => if ts.size = 0 ∧ fs.size = 0 then some (.lit (.int .i64 (n : Int)), []) else none
  | .nilFunc => some (.lit .nil, [])
  | _ => none
def cmdV (n : Nat) : Value := .func (.func n) #[] #[]
def cmdD (n : Nat) : DataW Unit := .lit (.int .i64 (n : Int))
theorem cmdR_mk (n : Nat) : cmdR (cmdV n) = some (cmdD n, []) := rfl
theorem cmdR_inv {v : Value} {ps : List MemPlace} {n : Nat} (h : cmdR v = some (cmdD n, ps)) : v = cmdV n := by
  unfold cmdR at h
  split at h
  · rename_i m ts fs
    split at h
    · rename_i h2
      simp only [cmdD, Option.some.injEq, Prod.mk.injEq, DataW.lit.injEq, Lit.int.injEq, true_and] at h
      have e : m = n := Int.ofNat.inj h.1
      subst e
      unfold cmdV
      rw [Array.eq_empty_of_size_eq_zero h2.1, Array.eq_empty_of_size_eq_zero h2.2]
    · cases h
  · simp [cmdD] at h
  · cases h
/-- A command's function. -/
def cmdF (what : UInt8) : Nat := if what = 97 then 44 else if what = 99 then 45 else if what = 100 then 46 else if what = 115 then 47 else if what = 119 then 48 else 49
/-- What commands has. -/
def cmdMap : DataW Unit := ((((((DataW.map []).put (.string [97]) (cmdD 44)).put (.string [99]) (cmdD 45)).put (.string [100]) (cmdD 46)).put (.string subN) (cmdD 47)).put (.string [119]) (cmdD 48)).put (.string [113]) (cmdD 49)
theorem cmdMap_at (name : Tx) : (nameW name ≠ 0 → cmdMap.atKey (.string name) (.lit .nil) = cmdD (cmdF (nameW name))) ∧ Maps.has cmdMap (.string name) = (nameW name != 0) := by
  rcases nameW_cases name with ⟨rfl, h⟩ | ⟨rfl, h⟩ | ⟨rfl, h⟩ | ⟨rfl, h⟩ | ⟨rfl, h⟩ | ⟨rfl, h⟩ | ⟨h1, h2, h3, h4, h5, h6, h⟩
  · exact ⟨fun _ => rfl, rfl⟩
  · exact ⟨fun _ => rfl, rfl⟩
  · exact ⟨fun _ => rfl, rfl⟩
  · exact ⟨fun _ => rfl, rfl⟩
  · exact ⟨fun _ => rfl, rfl⟩
  · exact ⟨fun _ => rfl, rfl⟩
  · rw [h]
    have g : ∀ d : Tx, ¬ name = d → Lit.string name ≠ Lit.string d := fun d hd e => hd (by injection e)
    refine ⟨fun h0 => absurd rfl h0, ?_⟩
    unfold cmdMap
    rw [Maps.has_put_other (g _ h6), Maps.has_put_other (g _ h5), Maps.has_put_other (g _ h4), Maps.has_put_other (g _ h3), Maps.has_put_other (g _ h2), Maps.has_put_other (g _ h1)]
    rfl
theorem lawS : Maps.Keyed Tryz.prog 9 := Maps.string_keyed Tryz.underlying9
theorem keyS {s : Tx} (h : s.length ≤ maxLen) : keyOf Tryz.prog 9 (.string (str s)) = some (.string s) := by
  have := keyOf_string_mk (P := Tryz.prog) (k := 9) Tryz.underlying9 (s := str s) (by rw [str_size]; exact h)
  rwa [str_data] at this
theorem zeroC (w : World) : (zeroValue 64).run Tryz.prog w = .ok .nilFunc w := by kernel_rfl
/-- A name, looked up. -/
theorem cmd_look {w : World} {b n : Nat} (h : w.ownsMap Tryz.prog 9 cmdR b n cmdMap) {name : Tx} (hn : name.length ≤ maxLen) :
    ∃ v, (Instr.lookup 58 (.map (some b)) (.string (str name)) true).run Tryz.prog w = .ok (.tuple #[v, .bool (nameW name != 0)]) w ∧ (nameW name ≠ 0 → v = cmdV (cmdF (nameW name))) := by
  obtain ⟨v, ps, h1, h2⟩ := h.look_ok lawS Tryz.underlying58 (zeroC w) (zd := .lit .nil) (zp := []) rfl (keyS hn)
  rw [(cmdMap_at name).2] at h1
  exact ⟨v, h1, fun h0 => cmdR_inv (ps := ps) (by rw [h2, (cmdMap_at name).1 h0])⟩
/-- A key is laid into a map that is being made. -/
theorem wpList_insert_own {H : Type} {P : Program} (w : World) {ops : Array Oper} {rest : List Oper} {o : Oper} {a : Act} {Q : Exit → Act → World → Prop}
    (hg : o.guard = none) (m x v : Operand) (t : TypeId) (hop : o.op = Op.insert t m x v)
    (k e : TypeId) (K : Maps.Keyed P k) (ht : P.underlying t = some (.map k e)) (R : Value → Option (DataW H × List MemPlace)) (b n : Nat) (D : DataW H)
    (hm : a.eval m = .map (some b)) (hown : w.ownsMap P k R b n D) (hn : n < maxLen) (key val : Value) (kl : Lit) (hx : a.eval x = key) (hv : a.eval v = val) (hkey : keyOf P k key = some kl)
    (d : DataW H) (ps : List MemPlace) (hval : R val = some (d, ps))
    (hK : ∀ w', w'.ownsMap P k R b (n + 1) (D.put kl d) → w.grownBy w' (some b) → wpList P ops Q rest (a.put o.dst undef) w') :
    wpList P ops Q (o :: rest) a w := by
  refine wpList_plain hg fun K' hK' => ?_
  obtain ⟨w', hrun, r1, r2⟩ := hown.update K ht hn hkey hval
  unfold Oper.wp
  simp [execOp, hop, hm, hx, hv, hrun, Result.andThen]
  exact hK' _ _ (hK w' r1 r2)
/-- What commands tells: a map of the call's own. -/
def CmdsOut (w w' : World) (e : Ending) : Prop := ∃ b, e = .returned (.map (some b)) ∧ w'.ownsMap Tryz.prog 9 cmdR b 6 cmdMap ∧ w.heap.size ≤ b ∧ Below w.heap.size w w'

set_option maxHeartbeats 2000000 in
theorem commands_any (w : World) : Calls Tryz.prog 34 #[] w fun e w' => CmdsOut w w' e := by
  have hmm := @run_makeMap Tryz.prog
  have m0 := Lib.hid (World.ownsMap_made w Tryz.prog 9 cmdR)
  have hB0 := Lib.hid (below_alloc (Below.refl w.heap.size w) (.map #[] 0))
  have tok1 := trivial
  go_enter Tryz.func34, Tryz.ntmps34
  go_wp2_with (first
    | (have _t := tok1; refine wpList_insert_own _ rfl _ _ _ 58 rfl 9 64 lawS Tryz.underlying58 cmdR w.heap.size 0 _ rfl m0.out (by unfold maxLen; omega) _ _ (.string [97]) rfl rfl (keyS (s := [97]) (by decide)) (cmdD 44) [] (cmdR_mk 44) ?_; intro w1 m1 g1; have hB1 := Lib.hid (hB0.out.grown g1 hB0.out.size (by intro g e; injection e with e; omega)); have tok2 := trivial; clear tok1 g1)
    | (have _t := tok2; refine wpList_insert_own _ rfl _ _ _ 58 rfl 9 64 lawS Tryz.underlying58 cmdR w.heap.size 1 _ rfl m1 (by unfold maxLen; omega) _ _ (.string [99]) rfl rfl (keyS (s := [99]) (by decide)) (cmdD 45) [] (cmdR_mk 45) ?_; intro w2 m2 g2; have hB2 := Lib.hid (hB1.out.grown g2 hB1.out.size (by intro g e; injection e with e; omega)); have tok3 := trivial; clear tok2 g2 m1)
    | (have _t := tok3; refine wpList_insert_own _ rfl _ _ _ 58 rfl 9 64 lawS Tryz.underlying58 cmdR w.heap.size 2 _ rfl m2 (by unfold maxLen; omega) _ _ (.string [100]) rfl rfl (keyS (s := [100]) (by decide)) (cmdD 46) [] (cmdR_mk 46) ?_; intro w3 m3 g3; have hB3 := Lib.hid (hB2.out.grown g3 hB2.out.size (by intro g e; injection e with e; omega)); have tok4 := trivial; clear tok3 g3 m2)
    | (have _t := tok4; refine wpList_insert_own _ rfl _ _ _ 58 rfl 9 64 lawS Tryz.underlying58 cmdR w.heap.size 3 _ rfl m3 (by unfold maxLen; omega) _ _ (.string subN) rfl rfl (keyS (s := subN) (by decide)) (cmdD 47) [] (cmdR_mk 47) ?_; intro w4 m4 g4; have hB4 := Lib.hid (hB3.out.grown g4 hB3.out.size (by intro g e; injection e with e; omega)); have tok5 := trivial; clear tok4 g4 m3)
    | (have _t := tok5; refine wpList_insert_own _ rfl _ _ _ 58 rfl 9 64 lawS Tryz.underlying58 cmdR w.heap.size 4 _ rfl m4 (by unfold maxLen; omega) _ _ (.string [119]) rfl rfl (keyS (s := [119]) (by decide)) (cmdD 48) [] (cmdR_mk 48) ?_; intro w5 m5 g5; have hB5 := Lib.hid (hB4.out.grown g5 hB4.out.size (by intro g e; injection e with e; omega)); have tok6 := trivial; clear tok5 g5 m4)
    | (have _t := tok6; refine wpList_insert_own _ rfl _ _ _ 58 rfl 9 64 lawS Tryz.underlying58 cmdR w.heap.size 5 _ rfl m5 (by unfold maxLen; omega) _ _ (.string [113]) rfl rfl (keyS (s := [113]) (by decide)) (cmdD 49) [] (cmdR_mk 49) ?_; intro w6 m6 g6; have hB6 := Lib.hid (hB5.out.grown g6 hB5.out.size (by intro g e; injection e with e; omega)); have tok7 := trivial; clear tok6 g6 m5))
  go_ret
  exact ⟨_, rfl, m6, Nat.le_refl _, hB6.out⟩
end Go.Proofs.YtdfpifipkchmnaaGreatDoor
/- Proved here: a command of the landed editor, whichever it is. -/
namespace Go.Proofs.YtdfpifipkchmnaaGreatDoor
open Go.RowKit
set_option linter.unusedVariables false
set_option maxRecDepth 100000

/-- What a command does whose numbers are read. -/
def stepW (len at_ : Nat) (what : UInt8) (l : List Nat) (rest file : Txs) (saved : Bool) : StE :=
  if numsB what l.length = false then .inl (2, at_ + 1)
  else if what = 113 then .inr (file, saved, rest.length)
  else if what = 119 then .inr (file, true, 0)
  else doE len at_ rest file (l.headD 0 : Nat) (l.getLastD 0 : Nat) what
theorem stepL_W {len at_ : Nat} {pre name : Tx} {rest file : Txs} {saved : Bool} {l : List Nat} (h : cutN pre = some l) (h0 : nameW name ≠ 0) : stepL len at_ pre name rest file saved = stepW len at_ (nameW name) l rest file saved := by
  unfold stepL stepW
  rw [h]
  dsimp only
  cases hb : numsB (nameW name) l.length
  · rw [if_pos (.inr rfl), if_pos rfl]
  · rw [if_neg (by rintro (h | h); exact h0 h; cases h), if_neg (c := true = false) (by decide)]
/-- What is told of a command, whichever it is. -/
def CmdW (B0 E : Nat) (S : Slc) (script : Txs) (w w' : World) (e : Ending) (r : Nat) (what : UInt8) : StE → Prop
  | .inl (err, line) => EdWrong B0 w w' e line err
  | .inr (f, sv, k) => if what = 113 then EdLeft B0 E S script w w' e (r : Int) f sv true else EdLeft B0 E S script w w' e ((r + k : Nat) : Int) f sv false
section
variable {B0 E a c : Nat} {w : World} {As : Option Addr} {ns cs : Nat} {fv : Value} {script file : Txs} {sv : Bool} {A : Option Addr} {l : List Nat} {what : UInt8}
theorem cmdW_of {S : Slc} {w' : World} {e : Ending} {r : Nat} {x y : StE} (h : CmdO B0 E S script w w' e r x) (hne : what ≠ 113) (hxy : x = y) : CmdW B0 E S script w w' e r what y := by
  subst hxy
  cases x with
  | inl p => exact h
  | inr p =>
    obtain ⟨f, sv, k⟩ := p
    show (if what = 113 then _ else _)
    rw [if_neg hne]
    exact h
theorem two_of (h : l.length = 1 ∨ l.length = 2) : TwoN l l.length (l.headD 0) (l.getLastD 0) := by
  match l, h with
  | [x], _ => exact .inl ⟨rfl, rfl, rfl⟩
  | [x, y], _ => exact .inr ⟨rfl, rfl⟩
theorem two_lt (h : l.length = 1 ∨ l.length = 2) (h9 : ∀ x ∈ l, x < 1000000000) : l.headD 0 < 1000000000 ∧ l.getLastD 0 < 1000000000 := by
  match l, h with
  | [x], _ => exact ⟨h9 x (by simp), h9 x (by simp)⟩
  | [x, y], _ => exact ⟨h9 x (by simp), h9 y (by simp)⟩
theorem step_form {len at_ : Nat} {rest : Txs} (h : numsB what l.length = false) : stepW len at_ what l rest file sv = .inl (2, at_ + 1) := if_pos h
theorem step_do {len at_ : Nat} {rest : Txs} (h : numsB what l.length = true) (h1 : what ≠ 113) (h2 : what ≠ 119) : stepW len at_ what l rest file sv = doE len at_ rest file (l.headD 0 : Nat) (l.getLastD 0 : Nat) what := by
  unfold stepW
  rw [if_neg (by rw [h]; decide), if_neg h1, if_neg h2]
theorem do_range {len at_ f t : Nat} {rest : Txs} (h1 : what ≠ 97) (hbad : ¬ (0 < f ∧ f ≤ t ∧ t ≤ file.length)) : doE len at_ rest file (f : Int) (t : Int) what = .inl (3, at_ + 1) := by
  unfold doE leastE
  rw [if_neg h1, if_pos (by omega)]
theorem do_ok {len at_ f t : Nat} {rest : Txs} (h1 : what ≠ 97) (hok : 0 < f ∧ f ≤ t ∧ t ≤ file.length) : doE len at_ rest file (f : Int) (t : Int) what = if what = 99 then insE len at_ (f - 1) t rest file else if what = 100 then .inr (layE file (f - 1) t [], false, 0) else if dottedB (partE file f t) = false then .inl (7, at_ + 1) else .inr (layE file (f - 1) t (stripD (partE file f t)), false, 0) := by
  unfold doE leastE
  rw [if_neg h1, if_neg (by omega), if_neg h1, show ((f : Int) - 1).toNat = f - 1 by omega, show ((t : Int)).toNat = t by omega]

/-- A command, done. -/
theorem disp_any (h : EdI B0 w E (As, ns, cs) fv script ((a + 1 : Nat) : Int) file sv false) (hs : smallD script) (hfs : smallD file) (hr : a + 1 ≤ script.length) (h9 : ∀ x ∈ l, x < 1000000000) (hA : Nums w w.heap.size A l.length (l.map fun x : Nat => (x : Int))) (hw : what = 97 ∨ what = 99 ∨ what = 100 ∨ what = 115 ∨ what = 119 ∨ what = 113) :
    Calls Tryz.prog (cmdF what) #[.pointer (some ⟨E, 0, none⟩), .slice A l.length c] w fun e w' => CmdW B0 E (As, ns, cs) script w w' e (a + 1) what (stepW script.length a what l (script.drop (a + 1)) file sv) := by
  have hfl : file.length ≤ 500000 := by have := hfs.1; omega
  rcases hw with rfl | rfl | rfl | rfl | rfl | rfl
  · show Calls Tryz.prog 44 _ _ _
    by_cases hn : l.length = 1
    · obtain ⟨k, rfl⟩ := List.length_eq_one_iff.1 hn
      rw [step_do (by rfl) (by decide) (by decide)]
      have e : ∀ len, doE len a (script.drop (a + 1)) file (([k] : List Nat).headD 0 : Nat) (([k] : List Nat).getLastD 0 : Nat) 97 = if file.length < k then .inl (3, a + 1) else insE len a k k (script.drop (a + 1)) file := by
        intro len
        show doE len a (script.drop (a + 1)) file (k : Int) (k : Int) 97 = _
        unfold doE leastE
        rw [if_pos rfl]
        by_cases hk : file.length < k
        · rw [if_pos hk, if_pos (by omega)]
        · rw [if_neg hk, if_neg (by omega), if_pos rfl, show ((k : Int)).toNat = k by omega]
      rw [e]
      by_cases hk : file.length < k
      · rw [if_pos hk]
        exact add_range h hA hk (h9 k (by simp))
      · rw [if_neg hk]
        exact (add_ins h hs hr hfl hA (by omega)).mono fun e w' h => cmdW_of h (by decide) rfl
    · rw [step_form (by show decide (l.length = 1) = false; exact decide_eq_false hn)]
      exact add_count h hn
  · show Calls Tryz.prog 45 _ _ _
    by_cases hn : l.length = 1 ∨ l.length = 2
    · rw [step_do (by show decide (l.length = 1 ∨ l.length = 2) = true; exact decide_eq_true hn) (by decide) (by decide)]
      obtain ⟨hf, ht⟩ := two_lt hn h9
      by_cases hok : 0 < l.headD 0 ∧ l.headD 0 ≤ l.getLastD 0 ∧ l.getLastD 0 ≤ file.length
      · rw [do_ok (by decide) hok, if_pos rfl]
        exact (change_ok h hs hr hfl hA (two_of hn) hf ht hok).mono fun e w' h => cmdW_of h (by decide) rfl
      · rw [do_range (by decide) hok]
        exact change_range h hA (two_of hn) hf ht hok
    · rw [step_form (by show decide (l.length = 1 ∨ l.length = 2) = false; exact decide_eq_false hn)]
      exact change_form h hA (fun e => hn (.inl e)) (fun e => hn (.inr e))
  · show Calls Tryz.prog 46 _ _ _
    by_cases hn : l.length = 1 ∨ l.length = 2
    · rw [step_do (by show decide (l.length = 1 ∨ l.length = 2) = true; exact decide_eq_true hn) (by decide) (by decide)]
      obtain ⟨hf, ht⟩ := two_lt hn h9
      by_cases hok : 0 < l.headD 0 ∧ l.headD 0 ≤ l.getLastD 0 ∧ l.getLastD 0 ≤ file.length
      · rw [do_ok (by decide) hok, if_neg (by decide), if_pos rfl]
        exact (drop_ok h hfl hA (two_of hn) hf ht hok).mono fun e w' h => h
      · rw [do_range (by decide) hok]
        exact drop_range h hA (two_of hn) hf ht hok
    · rw [step_form (by show decide (l.length = 1 ∨ l.length = 2) = false; exact decide_eq_false hn)]
      exact drop_form h hA (fun e => hn (.inl e)) (fun e => hn (.inr e))
  · show Calls Tryz.prog 47 _ _ _
    by_cases hn : l.length = 1 ∨ l.length = 2
    · rw [step_do (by show decide (l.length = 1 ∨ l.length = 2) = true; exact decide_eq_true hn) (by decide) (by decide)]
      obtain ⟨hf, ht⟩ := two_lt hn h9
      by_cases hok : 0 < l.headD 0 ∧ l.headD 0 ≤ l.getLastD 0 ∧ l.getLastD 0 ≤ file.length
      · rw [do_ok (by decide) hok, if_neg (by decide), if_neg (by decide)]
        exact (strip_ok h hfs hA (two_of hn) hf ht hok).mono fun e w' h => cmdW_of h (by decide) rfl
      · rw [do_range (by decide) hok]
        exact strip_range h hA (two_of hn) hf ht hok
    · rw [step_form (by show decide (l.length = 1 ∨ l.length = 2) = false; exact decide_eq_false hn)]
      exact strip_form h hA (fun e => hn (.inl e)) (fun e => hn (.inr e))
  · show Calls Tryz.prog 48 _ _ _
    by_cases hn : l.length = 0
    · have e : stepW script.length a 119 l (script.drop (a + 1)) file sv = .inr (file, true, 0) := by
        unfold stepW
        rw [if_neg (by show ¬ decide (l.length = 0) = false; rw [decide_eq_true hn]; decide), if_neg (by decide), if_pos rfl]
      rw [e, hn]
      exact write_ok h
    · rw [step_form (by show decide (l.length = 0) = false; exact decide_eq_false hn)]
      exact write_bad h hn
  · show Calls Tryz.prog 49 _ _ _
    by_cases hn : l.length = 0
    · have e : stepW script.length a 113 l (script.drop (a + 1)) file sv = .inr (file, sv, (script.drop (a + 1)).length) := by
        unfold stepW
        rw [if_neg (by show ¬ decide (l.length = 0) = false; rw [decide_eq_true hn]; decide), if_pos rfl]
      rw [e, hn]
      exact quit_ok h
    · rw [step_form (by show decide (l.length = 0) = false; exact decide_eq_false hn)]
      exact quit_bad h hn
end
end Go.Proofs.YtdfpifipkchmnaaGreatDoor
/- Proved here: the landed mayBeNumber; what the landed cut asks of the library: CutSuffix, TrimLeft, Atoi. -/
namespace Go.Proofs.YtdfpifipkchmnaaGreatDoor
open Go.RowKit
set_option linter.unusedVariables false
set_option maxRecDepth 100000

theorem sufT_any (s : Tx) (w : World) (hs : s.length ≤ 1000000) : Calls Tryz.prog 50 #[.string (str s), .string ⟨#[10]⟩] w fun e w' =>
    e = .returned (.tuple #[.string (str (if s.getLast? = some 10 then s.dropLast else s)), .bool (decide (s.getLast? = some 10))]) ∧ w' = w := by
  refine (Tryz.strings_CutSuffix (str s) ⟨#[10]⟩ w (by rw [str_size]; omega)).mono ?_
  rintro e w' ⟨rfl, rfl⟩
  have hb : Lib.hasSuffix (str s).data.toList [10] = decide (s.getLast? = some 10) := by
    rw [str_data, Lib.hasSuffix, Bool.eq_iff_iff, decide_eq_true_eq, List.isSuffixOf_iff_suffix]
    constructor
    · rintro ⟨t, rfl⟩
      simp
    · intro h
      obtain ⟨t, rfl⟩ := List.getLast?_eq_some_iff.1 h
      exact ⟨t, rfl⟩
  refine ⟨?_, rfl⟩
  show Ending.returned (.tuple #[.string ⟨(Lib.trimSuffix (str s).data.toList [10]).toArray⟩, .bool (Lib.hasSuffix (str s).data.toList [10])]) = _
  unfold Lib.trimSuffix
  rw [hb, str_data]
  congr 4
  simp only [decide_eq_true_eq]
  unfold str
  congr 2
  split
  · rw [List.dropLast_eq_take]
    rfl
  · rfl
theorem trimT_any (t : Tx) (w : World) : Calls Tryz.prog 51 #[.string (str t), .string ⟨#[48, 49, 50, 51, 52, 53, 54, 55, 56, 57, 44]⟩] w fun e w' =>
    e = .returned (.string (str (t.dropWhile comB))) ∧ Below w.heap.size w w' := by
  refine (Any.strings_TrimLeft_laid Tryz.lays161 (by kernel_rfl) (str t) ⟨#[48, 49, 50, 51, 52, 53, 54, 55, 56, 57, 44]⟩ w (by decide) (ascii_of_all (by decide))).mono ?_
  rintro e w' ⟨rfl, hb⟩
  refine ⟨?_, hb⟩
  have hc : (fun c : UInt8 => ([48, 49, 50, 51, 52, 53, 54, 55, 56, 57, 44] : List UInt8).contains c) = comB := by
    funext c
    have : ∀ n : Fin 256, ([48, 49, 50, 51, 52, 53, 54, 55, 56, 57, 44] : List UInt8).contains (UInt8.ofNat n.val) = comB (UInt8.ofNat n.val) := by decide
    have h := this ⟨c.toNat, c.toNat_lt⟩
    rwa [show UInt8.ofNat c.toNat = c from by simp] at h
  show Ending.returned (.string ⟨(Lib.trimLeftS (str t).data.toList [48, 49, 50, 51, 52, 53, 54, 55, 56, 57, 44]).toArray⟩) = _
  unfold Lib.trimLeftS
  rw [hc, str_data]
  rfl
theorem atoiT_any (t : Tx) (w : World) (h : t.all figB = true) (hm : mayN t = true) : Calls Tryz.prog 54 #[.string (str t)] w fun e w' =>
    e = .returned (.tuple #[.int .i64 ((numV t : Nat) : Int), .nilIface]) ∧ Below w.heap.size w w' := by
  obtain ⟨h1, h2, h3⟩ := mayN_small h hm
  refine (Tryz.strconv_Atoi (str t) ((numV t : Nat) : Int) (by rw [str_size]; omega) (by rw [str_data]; exact atoi_num h h2) w).mono ?_
  rintro e w' ⟨rfl, s, rfl⟩
  exact ⟨rfl, Lib.bytesWorld_below _ _ _⟩

set_option maxHeartbeats 1000000 in
theorem mayNum_any (s : Tx) (w : World) (hs : s.length ≤ 1000000) : Calls Tryz.prog 53 #[.string (str s)] w fun e w' => e = .returned (.bool (mayN s)) ∧ w' = w := by
  obtain ⟨r, hr⟩ : ∃ r, mayN s = r := ⟨_, rfl⟩
  rw [hr]
  have hrh := Lib.hid hr
  clear hr
  by_cases h1 : s = [48]
  · subst h1
    have e1 : ((str [48]).toList == [48]) = true := by rw [Lib.toList_data, str_data]; rfl
    obtain ⟨S, hS⟩ : ∃ S, str [48] = S := ⟨_, rfl⟩
    rw [hS] at e1 ⊢
    clear hS
    go_enter Tryz.func53, Tryz.ntmps53
    go_wp2
    go_ret
    exact ⟨ret_bool hrh.out, rfl⟩
  · have e1 : ((str s).toList == [48]) = false := by rw [Lib.toList_data, str_data, beq_eq_false_iff_ne]; exact h1
    cases s with
    | nil =>
      have e2 : ((str []).toList != []) = false := by rw [Lib.toList_data, str_data]; rfl
      have e3 : (str []).toList.isEmpty = true := by rw [Lib.toList_data, str_data]; rfl
      obtain ⟨S, hS⟩ : ∃ S, str [] = S := ⟨_, rfl⟩
      rw [hS] at e1 e2 e3 ⊢
      clear hS
      go_enter Tryz.func53, Tryz.ntmps53
      go_wp2
      go_ret
      exact ⟨ret_bool hrh.out, rfl⟩
    | cons c t =>
      have e2 : ((str (c :: t)).toList != []) = true := by rw [Lib.toList_data, str_data]; rfl
      have e3 : (str (c :: t)).toList.isEmpty = false := by rw [Lib.toList_data, str_data]; rfl
      have hz : (str (c :: t)).size = t.length + 1 := by rw [str_size]; rfl
      have hpos : 0 < (str (c :: t)).size := by omega
      have hget : (str (c :: t))[0] = c := rfl
      by_cases h2 : t.length + 1 ≤ 9
      · have e4 : (((str (c :: t)).size : Int) ≤ 9) := by rw [hz]; omega
        have e4d : decide (((str (c :: t)).size : Int) ≤ 9) = true := by simpa using e4
        have hres : Hid (r = (c != 48)) := Lib.hid (by
          rw [← hrh.out]
          unfold mayN
          rw [decide_eq_false h1, Bool.false_or, decide_eq_true (show (c :: t) ≠ [] by simp), decide_eq_true (show (c :: t).length ≤ 9 from h2), List.head?_cons]
          rw [Bool.eq_iff_iff]
          simp)
        have hnn : (((str (c :: t))[0].toNat : Int) != 48) = (c != 48) := by
          rw [hget]
          have := byte_is (c := c) (n := 48) (by omega)
          rw [bne, bne]
          rw [show ((48 : Nat) : Int) = 48 from rfl] at this
          rw [this]
          rfl
        clear hz hget h1 hrh hs
        generalize str (c :: t) = S at e1 e2 e3 hpos hnn e4 e4d ⊢
        go_enter Tryz.func53, Tryz.ntmps53
        go_wp2
        go_ret
        exact ⟨ret_bool (by rw [hres.out]), rfl⟩
      · have e4 : ¬ (((str (c :: t)).size : Int) ≤ 9) := by rw [hz]; omega
        have e4d : decide (((str (c :: t)).size : Int) ≤ 9) = false := by simpa using e4
        have hres : Hid (r = false) := Lib.hid (by
          rw [← hrh.out]
          unfold mayN
          rw [decide_eq_false h1, decide_eq_false (show ¬ (c :: t).length ≤ 9 from h2), Bool.false_or, Bool.and_false, Bool.false_and])
        clear hz hget h1 hrh hs
        generalize str (c :: t) = S at e1 e2 e3 hpos e4 e4d ⊢
        go_enter Tryz.func53, Tryz.ntmps53
        go_wp2
        go_ret
        exact ⟨ret_bool hres.out.symm, rfl⟩
end Go.Proofs.YtdfpifipkchmnaaGreatDoor
