/- Proved here: texts joined: MgMrg, ConNormal, MgLen, MgFw, FoldAwk, ConFold, ConClean, ConChoose, FoldOk. -/
import Derived.Test.YtoephlkfejcadaaGreatBf07
import Derived.Test.YtoephlkfejcadaaGreatBf08
import Derived.Test.YtoephlkfejcadaaGreatBf09
import Derived.Test.YtoephlkfejcadaaGreatBf16
import Derived.Test.YtoephlkfejcadaaGreatBf19
import Derived.Deep.DeepCutAuto
import Derived.Outline
/- Proved here: the contract of the document's own answer of layer 8: Merge. -/
namespace Go.Proofs.YtoephlkfejcadaaGreat
open Go.RowKit
set_option linter.unusedVariables false

theorem parts_small {base : Txs} {sides : List Txs} (h : smallR base sides) (c : Ck) : (∀ d ∈ cutB c base :: cutsP c sides, d.length ≤ 90) ∧ ∀ d ∈ cutB c base :: cutsP c sides, ∀ s ∈ d, s.length ≤ 1000 := by
  have key : ∀ d ∈ cutB c base :: cutsP c sides, ∃ l ∈ base :: sides, d.length ≤ l.length ∧ ∀ s ∈ d, s ∈ l := fun d hd => by
    rcases List.mem_cons.1 hd with rfl | hd
    · exact ⟨base, List.mem_cons_self .., cutL_le _ _ _, fun s hs => cutL_mem hs⟩
    · obtain ⟨k, hk⟩ := List.mem_iff_getElem?.1 hd
      unfold cutsP at hk
      rw [List.getElem?_zipWith] at hk
      cases h1 : c.2.2[k]? with
      | none => rw [h1] at hk; simp at hk
      | some sp =>
        cases h2 : sides[k]? with
        | none => rw [h1, h2] at hk; simp at hk
        | some l =>
          rw [h1, h2] at hk
          simp at hk
          subst hk
          exact ⟨l, List.mem_cons_of_mem _ (List.mem_of_getElem? h2), cutL_le _ _ _, fun s hs => cutL_mem hs⟩
  refine ⟨fun d hd => ?_, fun d hd s hs => ?_⟩
  · obtain ⟨l, h1, h2, _⟩ := key d hd
    exact Nat.le_trans h2 (h.2 l h1).1
  · obtain ⟨l, h1, _, h3⟩ := key d hd
    exact (h.2 l h1).2 s (h3 s hs)
theorem piece_len {base : Txs} {ps : List Txs} (fav : Int) (un : Bool) (h : ∀ d ∈ base :: ps, d.length ≤ 90) (hn : ps.length ≤ 100) : (pieceD base ps fav un).2.1.length ≤ 9000 := by
  have hd : ∀ d ∈ diffs base ps, d.length ≤ 90 := fun d hd => h d (List.mem_cons_of_mem _ (mem_diffs.1 hd).1)
  have hdl := diffs_len base ps
  unfold pieceD
  cases hds : diffs base ps with
  | nil => have := h base (List.mem_cons_self ..); simp only [tPc]; omega
  | cons d l =>
    rw [hds] at hd hdl
    cases l with
    | nil => have := hd d (List.mem_cons_self ..); simp only [tPc]; omega
    | cons e l =>
      dsimp only
      split
      · rename_i hf
        obtain ⟨k, hk⟩ : ∃ k, (fav - 1).toNat = k := ⟨_, rfl⟩
        rw [hk]
        simp only [tPc]
        cases hp : ps[k]? with
        | none => simp
        | some x => have := h x (List.mem_cons_of_mem _ (List.mem_of_getElem? hp)); simp; omega
      · split
        · simp only [tPc]
          rw [union_len]
          have key : ∀ ds : List Txs, (∀ d ∈ ds, d.length ≤ 90) → ds.flatten.length ≤ ds.length * 90 := by
            intro ds
            induction ds with
            | nil => simp
            | cons d ds ih =>
              intro h
              have := ih fun e he => h e (List.mem_cons_of_mem _ he)
              have := h d (List.mem_cons_self ..)
              rw [List.flatten_cons, List.length_append, List.length_cons]
              omega
          have := key _ hd
          omega
        · simp [cPc]
end Go.Proofs.YtoephlkfejcadaaGreat
/- What the statements ask of pick.Normal. -/
namespace Go.Proofs.YtoephlkfejcadaaGreat
open Go.RowKit
set_option linter.unusedVariables false

/-- Conflicts that aren't too long. -/
def smallN (ps : List Pc) : Prop := ∀ p ∈ ps, p.2.2.2.length ≤ 1000 ∧ ∀ d ∈ p.2.2.1 :: p.2.2.2, d.length ≤ 1000000
theorem smallN_text (t : Txs) : (tPc t).2.2.2.length ≤ 1000 ∧ ∀ d ∈ (tPc t).2.2.1 :: (tPc t).2.2.2, d.length ≤ 1000000 :=
  ⟨by simp [tPc], fun d hd => by simp [tPc] at hd; subst hd; simp⟩
theorem smallN_join (t : Txs) : ∀ {r : List Pc}, smallN r → smallN (joinT t r)
  | [], h => by
    show smallN (if t = [] then [] else [tPc t])
    by_cases e : t = []
    · rw [if_pos e]; exact h
    · rw [if_neg e]
      intro p hp
      rw [List.mem_singleton.1 hp]
      exact smallN_text t
  | (false, x, b, s) :: r, h => by
    intro p hp
    rcases List.mem_cons.1 hp with rfl | hp
    · exact h (false, x, b, s) (List.mem_cons_self ..)
    · exact h _ (List.mem_cons_of_mem _ hp)
  | (true, x, b, s) :: r, h => by
    show smallN (if t = [] then (true, x, b, s) :: r else tPc t :: (true, x, b, s) :: r)
    by_cases e : t = []
    · rw [if_pos e]; exact h
    · rw [if_neg e]
      intro p hp
      rcases List.mem_cons.1 hp with rfl | hp
      · exact smallN_text t
      · exact h _ hp
theorem smallN_normal : ∀ {ps : List Pc}, smallN ps → smallN (normal ps)
  | [], h => h
  | (true, x, b, s) :: l, h => by
    intro p hp
    rcases List.mem_cons.1 hp with rfl | hp
    · exact h (true, x, b, s) (List.mem_cons_self ..)
    · exact smallN_normal (fun q hq => h q (List.mem_cons_of_mem _ hq)) p hp
  | (false, t, b, s) :: l, h => smallN_join t (smallN_normal fun q hq => h q (List.mem_cons_of_mem _ hq))

theorem sumT_join (t : Txs) : ∀ r : List Pc, sumT (joinT t r) = t.length + sumT r
  | [] => by unfold joinT; by_cases h : t = [] <;> simp [h, sumT, tPc]
  | (false, x, b, s) :: r => by simp [joinT, sumT]; omega
  | (true, x, b, s) :: r => by unfold joinT; by_cases h : t = [] <;> simp [h, sumT, tPc]
theorem sumT_normal : ∀ ps : List Pc, sumT (normal ps) ≤ sumT ps
  | [] => by simp [normal]
  | (true, t, b, s) :: l => by
    have := sumT_normal l
    rw [normal, sumT_cons, sumT_cons]
    show ([] : Txs).length + _ ≤ _
    simp
    omega
  | (false, t, b, s) :: l => by
    have := sumT_normal l
    rw [normal, sumT_join, sumT_cons]
    show _ ≤ t.length + _
    omega

theorem len_join (t : Txs) : ∀ r : List Pc, (joinT t r).length ≤ r.length + 1
  | [] => by unfold joinT; by_cases h : t = [] <;> simp [h]
  | (false, x, b, s) :: r => by simp [joinT]
  | (true, x, b, s) :: r => by unfold joinT; by_cases h : t = [] <;> simp [h]
theorem len_normal : ∀ ps : List Pc, (normal ps).length ≤ ps.length
  | [] => Nat.le_refl _
  | (true, x, b, s) :: l => by
    have := len_normal l
    simp [normal]
    omega
  | (false, x, b, s) :: l => by
    have h1 := len_normal l
    have h2 := len_join x (normal l)
    simp only [normal, List.length_cons]
    omega
theorem sumT_mem {ps : List Pc} {p : Pc} (h : p ∈ ps) : p.2.1.length ≤ sumT ps := by
  induction ps with
  | nil => simp at h
  | cons q ps ih =>
    rw [sumT_cons]
    rcases List.mem_cons.1 h with rfl | h
    · omega
    · have := ih h
      omega
theorem sumT_take (ps : List Pc) (i : Nat) : sumT (ps.take i) ≤ sumT ps := by
  induction ps generalizing i with
  | nil => simp
  | cons p ps ih =>
    cases i with
    | zero => simp [sumT]
    | succ i =>
      rw [List.take_succ_cons, sumT_cons, sumT_cons]
      have := ih i
      omega

/-- The contract of pick.Normal. -/
def PickNormalOk : Prop := ∀ (A : Option Addr) (n c : Nat) (vs : List PcV) (ps : List Pc) (w : World), n ≤ c → c ≤ maxLen → n ≤ 10000 → sumT ps ≤ 1000000 → smallN ps → Pcs w w.heap.size A n vs ps →
    Calls Tryz.prog 32 #[.slice A n c] w fun e w' => PcsOut w w' e (normal ps)
end Go.Proofs.YtoephlkfejcadaaGreat
/- Proved here, without conditions on the program: a merge of few lines is neither many pieces nor long. -/
namespace Go.Proofs.YtoephlkfejcadaaGreat
open Go.RowKit
set_option linter.unusedVariables false

theorem chosen_le {p : Pc} {z : Int} {M : Nat} (h1 : p.2.1.length ≤ M) (h2 : ∀ d ∈ p.2.2.2, d.length ≤ M) : (chosen z p).length ≤ M := by
  unfold chosen
  split
  · split
    · cases hx : p.2.2.2[(z - 1).toNat]? with
      | none => simp
      | some x => simpa using h2 x (List.mem_of_getElem? hx)
    · simp
  · exact h1
theorem piece_sides (b : Txs) (ps : List Txs) (fav : Int) (un : Bool) : ∀ d ∈ (pieceD b ps fav un).2.2.2, d ∈ ps := by
  unfold pieceD
  cases diffs b ps with
  | nil => intro d hd; simp [tPc] at hd
  | cons x l =>
    cases l with
    | nil => intro d hd; simp [tPc] at hd
    | cons y l =>
      dsimp only
      split
      · intro d hd; simp [tPc] at hd
      · split
        · intro d hd; simp [tPc] at hd
        · intro d hd; exact hd
theorem pcOf_le {base : Txs} {sides : List Txs} {ms : List (List Int)} {cs : List Ck} (h : Laid base sides ms cs) (hs : smallR base sides) {c : Ck} (hc : c ∈ cs) (fav : Int) (un : Bool) (z : Int) : (chosen z (pcOf base sides fav un c)).length ≤ 9000 := by
  rw [h.pc hc]
  obtain ⟨p1, p2⟩ := parts_small hs c
  refine chosen_le (piece_len fav un p1 (by rw [cutsP_len h hc]; exact hs.1)) fun d hd => ?_
  exact Nat.le_trans (p1 d (List.mem_cons_of_mem _ (piece_sides _ _ _ _ d hd))) (by decide)
theorem merge_len {base : Txs} {sides : List Txs} {ms : List (List Int)} {cs : List Ck} (h : Laid base sides ms cs) (hs : smallR base sides) (hb : base.length ≤ 16) (fav : Int) (un : Bool) : (mergeD base sides fav un cs).length ≤ 100 ∧ ∀ z, (choose (mergeD base sides fav un cs) z).length ≤ 1000000 := by
  have hcl := cov_few h.cut.1
  rw [if_neg (by simp)] at hcl
  have hcs : cs.length ≤ 33 := by omega
  refine ⟨?_, fun z => ?_⟩
  · have := len_normal (cs.map (pcOf base sides fav un))
    rw [List.length_map] at this
    unfold mergeD
    omega
  · unfold mergeD
    rw [choose_normal, choose_map]
    have key : ∀ l : List Ck, (∀ c ∈ l, c ∈ cs) → (l.flatMap fun c => chosen z (pcOf base sides fav un c)).length ≤ l.length * 9000 := by
      intro l
      induction l with
      | nil => simp
      | cons c l ih =>
        intro hl
        have h1 := ih fun e he => hl e (List.mem_cons_of_mem _ he)
        have h2 := pcOf_le h hs (hl c (List.mem_cons_self ..)) fav un z
        rw [List.flatMap_cons, List.length_append, List.length_cons]
        omega
    have := key cs fun c h => h
    omega

/-- A merge that may be: its chunks. -/
theorem merge_of {base : Txs} {sides : List Txs} (hw : wrongN base sides = 0) {fav : Int} {un : Bool} {er : Int} {ps : List Pc} (hf : 0 ≤ fav ∧ fav ≤ sides.length ∧ (fav = 0 ∨ un = false)) (h : MergesTo base sides fav un er ps) : er = 0 ∧ ∃ ms cs, MsOf base sides ms ∧ Laid base sides ms cs ∧ ps = mergeD base sides fav un cs := by
  have he : er = 0 := by
    rw [h.1]
    unfold errM
    rw [if_neg (by rw [hw]; simp), if_neg]
    rintro (h1 | h1 | ⟨h1, h2⟩)
    · omega
    · omega
    · rcases hf.2.2 with h3 | h3
      · exact h1 h3
      · rw [h3] at h2; cases h2
  obtain ⟨ms, cs, a, b, c⟩ := h.2.2 he
  exact ⟨he, ms, cs, a, a.laid b, c⟩
end Go.Proofs.YtoephlkfejcadaaGreat
/- Proved here, without conditions: few lines are neither many nor long. -/
namespace Go.Proofs.YtoephlkfejcadaaGreat
open Go.RowKit
set_option linter.unusedVariables false

theorem fewM_M {base : Txs} {sides : List Txs} (h : fewM base sides = true) : smallM base sides := by
  obtain ⟨h1, h2, h3, h4⟩ := fewM_small h
  refine ⟨by omega, fun d hd => ?_⟩
  rcases List.mem_cons.1 hd with rfl | hd
  · exact ⟨by omega, fun s hs => by have := h3 s hs; omega⟩
  · exact ⟨by have := (h4 d hd).1; omega, fun s hs => by have := (h4 d hd).2 s hs; omega⟩
theorem fewM_R {base : Txs} {sides : List Txs} (h : fewM base sides = true) : smallR base sides := by
  obtain ⟨h1, h2, h3, h4⟩ := fewM_small h
  refine ⟨by omega, fun d hd => ?_⟩
  rcases List.mem_cons.1 hd with rfl | hd
  · exact ⟨by omega, fun s hs => by have := h3 s hs; omega⟩
  · exact ⟨by have := (h4 d hd).1; omega, fun s hs => by have := (h4 d hd).2 s hs; omega⟩
end Go.Proofs.YtoephlkfejcadaaGreat
/- Proved here, without conditions: what the merges of layer 9's own example come to; few lines stay few. -/
namespace Go.Proofs.YtoephlkfejcadaaGreat
open Go.RowKit
set_option linter.unusedVariables false

def awA : Txs := [lnA]
theorem aw_mt1 (d : Txs) (l L : List Int) (h1 : ∀ x ∈ awA, ∀ y ∈ d, awF x = awF y → x = y) (hL : d.map awF = L) (h2 : l = mt [97] L 0) : MtOf awA d l := ⟨awF, h1, by rw [hL, show awA.map awF = [97] by decide]; exact h2⟩
theorem aw_ms1 (d e : Txs) (l k : List Int) (h1 : MtOf awA d l) (h2 : MtOf awA e k) : MsOf awA [d, e] [l, k] := by
  refine ⟨rfl, fun s m f a b => ?_⟩
  match s, a, b with
  | 0, a, b => simp at a b; subst a; subst b; exact h1
  | 1, a, b => simp at a b; subst a; subst b; exact h2
  | s + 2, a, b => simp at a
theorem aw_b : MtOf awA [lnB] [-1] := aw_mt1 _ _ [98] (by decide) (by decide) (by simp [mt, lcsL])
theorem aw_c : MtOf awA [lnC] [-1] := aw_mt1 _ _ [99] (by decide) (by decide) (by simp [mt, lcsL])
theorem aw_a : MtOf awA [lnA] [0] := aw_mt1 _ _ [97] (by decide) (by decide) (by simp [mt])
theorem aw_of {s : Txs} {k : List Int} (hs : MtOf awA s k) {ps : List Pc} (he : errM awA [[lnB], s] 0 false = 0) (hc : IsCut awA.length (szs [[lnB], s]) [[-1], k] [(false, (0, 1), [(0, 1), (0, 1)])]) (hp : ps = mergeD awA [[lnB], s] 0 false [(false, (0, 1), [(0, 1), (0, 1)])]) : MergesTo awA [[lnB], s] 0 false 0 ps :=
  ⟨he.symm, fun h => absurd rfl h, fun _ => ⟨_, _, aw_ms1 _ _ _ _ aw_b hs, hc, hp⟩⟩
theorem aw_ba : MergesTo awA [[lnB], [lnA]] 0 false 0 [tPc [lnB]] := aw_of aw_a (by decide) (cutB_is (by decide)) (by decide)
theorem aw_bb : MergesTo awA [[lnB], [lnB]] 0 false 0 [tPc [lnB]] := aw_of aw_b (by decide) (cutB_is (by decide)) (by decide)
theorem aw_bc : MergesTo awA [[lnB], [lnC]] 0 false 0 [cPc [lnA] [[lnB], [lnC]]] := aw_of aw_c (by decide) (cutB_is (by decide)) (by decide)
def awO : List Txs := [[lnB], [lnA], [lnC]]
def awP : List Txs := [[lnB], [lnA], [lnB]]
theorem oct_one {er n : Int} {ps : List Pc} (h : OctsTo awA awO er n ps) : er = 0 ∧ n = 2 ∧ ps = [cPc [lnA] [[lnB], [lnC]]] := by
  have h2 : OctsTo awA awO 0 2 [cPc [lnA] [[lnB], [lnC]]] := by
    unfold OctsTo
    rw [if_neg (by decide)]
    exact ⟨[lnB], [[lnA], [lnC]], rfl, Folds.goes aw_ba (by decide) (Folds.stop aw_bc (by decide))⟩
  exact h.one h2
theorem oct_two {er n : Int} {ps : List Pc} (h : OctsTo awA awP er n ps) : er = 0 ∧ n = 3 ∧ ps = [tPc [lnB]] := by
  have h2 : OctsTo awA awP 0 3 [tPc [lnB]] := by
    unfold OctsTo
    rw [if_neg (by decide)]
    exact ⟨[lnB], [[lnA], [lnB]], rfl, Folds.goes aw_ba (by decide) (Folds.goes aw_bb (by decide) (Folds.done [lnB] 3))⟩
  exact h.one h2

/-- Few lines that may be, none of them long. -/
def FewG (base text : Txs) (rest : List Txs) : Prop := FewF base text rest ∧ ∀ d ∈ base :: text :: rest, ∀ s ∈ d, s.length ≤ 100
section
variable {base text s : Txs} {rest sides : List Txs} {er : Int} {ps : List Pc}
theorem FewG.start (h : fewM base (s :: rest) = true) (hw : wrongN base (s :: rest) = 0) : FewG base s rest := by
  obtain ⟨h1, h2, h3, h4⟩ := fewM_small h
  obtain ⟨-, -, w3, w4, -, -⟩ := wrong_none hw
  have hs := h4 s (List.mem_cons_self ..)
  rw [List.length_cons] at h1
  refine ⟨⟨w3, w4 s (List.mem_cons_self ..), h2, by omega, fun d hd => ⟨w4 d (List.mem_cons_of_mem _ hd), (h4 d (List.mem_cons_of_mem _ hd)).1⟩⟩, fun d hd => ?_⟩
  rcases List.mem_cons.1 hd with rfl | hd
  · exact h3
  · exact (h4 d hd).2
theorem FewG.small (h : FewG base text (s :: rest)) : smallR base [text, s] := by
  obtain ⟨⟨h1, h2, h3, h4, h5⟩, h6⟩ := h
  rw [List.length_cons] at h4
  refine ⟨by simp, fun d hd => ?_⟩
  simp only [List.mem_cons, List.not_mem_nil, or_false] at hd
  rcases hd with rfl | rfl | rfl
  · exact ⟨by omega, fun x hx => Nat.le_trans (h6 _ (by simp) x hx) (by decide)⟩
  · exact ⟨by omega, fun x hx => Nat.le_trans (h6 _ (by simp) x hx) (by decide)⟩
  · exact ⟨by have := (h5 d (by simp)).2; omega, fun x hx => Nat.le_trans (h6 _ (by simp) x hx) (by decide)⟩
theorem FewG.sm (h : FewG base text (s :: rest)) : smallM base [text, s] := ⟨h.small.1, fun d hd => ⟨Nat.le_trans (h.small.2 d hd).1 (by decide), (h.small.2 d hd).2⟩⟩
theorem FewG.step (h : FewG base text (s :: rest)) (hm : MergesTo base [text, s] 0 false er ps) :
    er = 0 ∧ (cleanB ps = true → FewG base (choose ps 0) rest ∧ ps = normal [tPc (choose ps 0)]) := by
  obtain ⟨h1, h2⟩ := h.1.step hm
  refine ⟨h1, fun hc => ?_⟩
  obtain ⟨a, b, c⟩ := h2 hc
  refine ⟨⟨a, fun d hd => ?_⟩, c⟩
  rcases List.mem_cons.1 hd with rfl | hd
  · exact h.2 _ (by simp)
  · rcases List.mem_cons.1 hd with rfl | hd
    · intro x hx
      rcases b x hx with e | e
      · exact h.2 text (by simp) x e
      · exact h.2 s (by simp) x e
    · exact h.2 d (by simp [hd])
/-- A merge of two: not many pieces, not long. -/
theorem FewG.len (h : FewG base text (s :: rest)) (hm : MergesTo base [text, s] 0 false er ps) : ps.length ≤ 100 ∧ ∀ z, (choose ps z).length ≤ 1000000 := by
  have hs := h.small
  obtain ⟨⟨h1, h2, h3, h4, h5⟩, h6⟩ := h
  rw [List.length_cons] at h4
  have h7 := h5 s (List.mem_cons_self ..)
  obtain ⟨he, ms, cs, hM, hL, e⟩ := two_of (two_right h1 h2 h7.1 (by omega) (by omega) (by omega)) hm
  rw [e]
  exact merge_len hL hs h3 0 false
theorem text_len (h : FewG base text rest) : sumT [tPc text] ≤ 96 ∧ text.length ≤ 96 := by
  have := h.1.2.2.2.1
  refine ⟨?_, by omega⟩
  show (List.map (fun p : Pc => p.2.1.length) [tPc text]).sum ≤ 96
  simp [tPc]
  omega
theorem text_one (t : Txs) : (normal [tPc t]).length ≤ 1 := len_normal [tPc t]
theorem Folds.size {n k : Int} {qs : List Pc} (h : Folds base text rest n er k qs) (hf : FewG base text rest) : qs.length ≤ 100 ∧ ∀ z, (choose qs z).length ≤ 1000000 := by
  induction h with
  | done text n =>
    refine ⟨Nat.le_trans (text_one text) (by decide), fun z => ?_⟩
    rw [choose_text]
    have := (text_len hf).2
    omega
  | bad hm he => exact ⟨by simp, fun z => by simp [choose]⟩
  | stop hm hc => exact hf.len hm
  | goes hm hc hr ih => exact ih ((hf.step hm).2 hc).1
/-- What Octopus tells of few lines. -/
theorem octs_size {k : Int} (h : fewM base sides = true) (ho : OctsTo base sides er k ps) : ps.length ≤ 100 ∧ ∀ z, (choose ps z).length ≤ 1000000 := by
  unfold OctsTo at ho
  split at ho
  · obtain ⟨-, -, rfl⟩ := ho
    exact ⟨by simp, fun z => by simp [choose]⟩
  · rename_i hw
    obtain ⟨s, rest, rfl, hF⟩ := ho
    exact hF.size (FewG.start h (by omega))
/-- What Octopus tells of few lines that may be. -/
theorem octs_few {k : Int} (h : fewM base sides = true) (hw : wrongN base sides = 0) (ho : OctsTo base sides er k ps) :
    er = 0 ∧ 1 ≤ k ∧ k ≤ sides.length ∧ (k = sides.length ↔ cleanB ps = true) ∧ (cleanB ps = true → mayB (choose ps 0) = true ∧ ps = normal [tPc (choose ps 0)]) := by
  unfold OctsTo at ho
  rw [if_neg (by rw [hw]; simp)] at ho
  obtain ⟨s, rest, rfl, hF⟩ := ho
  obtain ⟨a, b, c, d, e⟩ := hF.few (FewG.start h hw).1
  rw [List.length_cons]
  refine ⟨a, b, by omega, ?_, fun hc => ⟨(e hc).1, (e hc).2.2⟩⟩
  rw [← d]
  constructor <;> intro e <;> omega
theorem Folds.bytes {n k : Int} {qs : List Pc} (h : Folds base text rest n er k qs) (hf : FewG base text rest) (hc : cleanB qs = true) : ∀ s ∈ choose qs 0, s.length ≤ 100 := by
  induction h with
  | done text n => rw [choose_text]; exact hf.2 text (by simp)
  | bad hm he => intro s hs; simp [choose] at hs
  | stop hm hc2 => rw [hc2] at hc; cases hc
  | goes hm hc2 hr ih => exact ih ((hf.step hm).2 hc2).1 hc
/-- The text that is told is of lines that aren't long. -/
theorem octs_bytes {k : Int} (h : fewM base sides = true) (hw : wrongN base sides = 0) (ho : OctsTo base sides er k ps) (hc : cleanB ps = true) (z : Int) : ∀ s ∈ choose ps z, s.length ≤ maxLen := by
  unfold OctsTo at ho
  rw [if_neg (by rw [hw]; simp)] at ho
  obtain ⟨s, rest, rfl, hF⟩ := ho
  rw [choose_clean hc z 0]
  intro x hx
  exact Nat.le_trans (hF.bytes (FewG.start h hw) hc x hx) (by decide)
end
end Go.Proofs.YtoephlkfejcadaaGreat
/- What the statements ask of package fold; a merge of two texts in a block of two slices. -/
namespace Go.Proofs.YtoephlkfejcadaaGreat
open Go.RowKit
set_option linter.unusedVariables false

/-- Pieces that Octopus tells, and how many sides were merged, or an error. -/
def OctOut (w w' : World) (e : Ending) (base : Txs) (sides : List Txs) : Prop := ∃ er k A n c vs ps, e = .returned (.tuple #[.slice A n c, .int .i64 k, .int .i64 er]) ∧ n ≤ c ∧ c ≤ maxLen ∧ Pcs w' w'.heap.size A n vs ps ∧ OctsTo base sides er k ps ∧ Below w.heap.size w w'
/-- The contract of fold.Octopus. -/
def FoldOctOk : Prop := ∀ (A0 : Option Addr) (n0 c0 : Nat) (base : Txs) (A : Option Addr) (n c : Nat) (rows : List Slc) (sides : List Txs) (w : World), n ≤ c → c ≤ maxLen → fewM base sides = true → TxR w w.heap.size (A0, n0, c0) base → RowsT w w.heap.size A n rows sides →
    Calls Tryz.prog 9 #[.slice A0 n0 c0, .slice A n c] w fun e w' => OctOut w w' e base sides

/-- A merge of two, that has no error. -/
def TwoOut (w w' : World) (e : Ending) (base t s : Txs) : Prop := ∃ A n c vs ps, e = .returned (.tuple #[.slice A n c, .int .i64 0]) ∧ (n ≤ c ∧ c ≤ maxLen ∧ n ≤ 10000 ∧ (∀ z, (choose ps z).length ≤ 1000000) ∧ Pcs w' w'.heap.size A n vs ps) ∧ MergesTo base [t, s] 0 false 0 ps ∧ Below w.heap.size w w'
theorem two_out {w w' : World} {e : Ending} {base t s : Txs} {rest : List Txs} (hf : FewG base t (s :: rest)) (h : MergeOut w w' e base [t, s] 0 false) : TwoOut w w' e base t s := by
  obtain ⟨er, A, n, c, vs, ps, rfl, h1, h2, h3, h4, h5⟩ := h
  obtain ⟨rfl, -⟩ := hf.step h4
  obtain ⟨q1, q2⟩ := hf.len h4
  exact ⟨A, n, c, vs, ps, rfl, ⟨h1, h2, by have := h3.len; omega, q2, h3⟩, h4, h5⟩
/-- Two slices of texts in a block of their own. -/
theorem two_rows {wo W : World} {g : Nat} {r1 r2 : Slc} {t s : Txs} (hb : Below wo.heap.size wo W) (hg : W.heap[g]? = some (.cells #[slcV r1, slcV r2] 22 (0, 0))) (h1 : TxR wo wo.heap.size r1 t) (h2 : TxR wo wo.heap.size r2 s) : RowsT W W.heap.size (some ⟨g, 0, none⟩) 2 [r1, r2] [t, s] :=
  rowsT_of hg rfl rfl rfl fun k r ss a b => by
    match k, a, b with
    | 0, a, b => simp at a b; subst a; subst b; exact h1.up hb
    | 1, a, b => simp at a b; subst a; subst b; exact h2.up hb
    | k + 2, a, b => simp at a
/-- A merge of two by whatever keeps the contract of merge.Merge for them. -/
theorem two_call {f : FuncId} (H : ∀ (A0 : Option Addr) (n0 c0 : Nat) (base : Txs) (A : Option Addr) (n c : Nat) (rows : List Slc) (sides : List Txs) (w : World), n ≤ c → c ≤ maxLen → smallR base sides → TxR w w.heap.size (A0, n0, c0) base → RowsT w w.heap.size A n rows sides → Calls Tryz.prog f #[.slice A0 n0 c0, .slice A n c, .agg #[.int .i64 0, .bool false]] w fun e w' => MergeOut w w' e base sides 0 false)
    {A0 A1 A2 : Option Addr} {n0 c0 n1 c1 n2 c2 g : Nat} {base t s : Txs} {rest : List Txs} {wo W : World} (hf : FewG base t (s :: rest)) (h0 : TxR wo wo.heap.size (A0, n0, c0) base) (h1 : TxR wo wo.heap.size (A1, n1, c1) t) (h2 : TxR wo wo.heap.size (A2, n2, c2) s)
    (hb : Below wo.heap.size wo W) (hg : W.heap[g]? = some (.cells #[.slice A1 n1 c1, .slice A2 n2 c2] 22 (0, 0))) :
    Calls Tryz.prog f #[.slice A0 n0 c0, .slice (some ⟨g, 0, none⟩) 2 2, .agg #[.int .i64 0, .bool false]] W fun e w' => TwoOut W w' e base t s :=
  (H A0 n0 c0 base _ 2 2 [(A1, n1, c1), (A2, n2, c2)] [t, s] W (Nat.le_refl _) (by decide) hf.small (h0.up hb) (two_rows (r1 := (A1, n1, c1)) (r2 := (A2, n2, c2)) hb hg h1 h2)).mono fun e w' h => two_out hf h
end Go.Proofs.YtoephlkfejcadaaGreat
/- What the statements ask of pick.Clean. -/
namespace Go.Proofs.YtoephlkfejcadaaGreat
open Go.RowKit
set_option linter.unusedVariables false

/-- The contract of pick.Clean. -/
def PickCleanOk : Prop := ∀ (A : Option Addr) (n c : Nat) (vs : List PcV) (ps : List Pc) (w : World), n ≤ c → c ≤ maxLen → n ≤ 10000 → Pcs w w.heap.size A n vs ps →
    Calls Tryz.prog 14 #[.slice A n c] w fun e w' => e = .returned (.bool (cleanB ps)) ∧ Below w.heap.size w w'
end Go.Proofs.YtoephlkfejcadaaGreat
/- What the statements ask of pick.Choose. -/
namespace Go.Proofs.YtoephlkfejcadaaGreat
open Go.RowKit
set_option linter.unusedVariables false

/-- The contract of pick.Choose. -/
def PickChooseOk : Prop := ∀ (A : Option Addr) (n c : Nat) (vs : List PcV) (ps : List Pc) (z : Int) (w : World), n ≤ c → c ≤ maxLen → n ≤ 10000 → inR64 z → (choose ps z).length ≤ 1000000 → Pcs w w.heap.size A n vs ps →
    Calls Tryz.prog 16 #[.slice A n c, .int .i64 z] w fun e w' => TxsOut w w' e (choose ps z)
end Go.Proofs.YtoephlkfejcadaaGreat
/- Proved here: what the statements of layer 9 ask of packages fold, merge and pick, together; the statements' own example comes to true. -/
namespace Go.Proofs.YtoephlkfejcadaaGreat
open Go.RowKit
set_option linter.unusedVariables false
set_option maxRecDepth 100000

/-- The contract of package fold (and of what the statements call of packages merge and pick). -/
structure FoldOk : Prop where
  oct_ok : FoldOctOk
  merge_ok : MergeMergeOk
  choose_ok : PickChooseOk
  clean_ok : PickCleanOk

/-- Three slices of texts in a block of their own. -/
theorem three_rows {W : World} {g : Nat} {r1 r2 r3 : Slc} {t s u : Txs} (hg : W.heap[g]? = some (.cells #[slcV r1, slcV r2, slcV r3] 22 (0, 0))) (h1 : TxR W W.heap.size r1 t) (h2 : TxR W W.heap.size r2 s) (h3 : TxR W W.heap.size r3 u) : RowsT W W.heap.size (some ⟨g, 0, none⟩) 3 [r1, r2, r3] [t, s, u] :=
  rowsT_of hg rfl rfl rfl fun k r ss a b => by
    match k, a, b with
    | 0, a, b => simp at a b; subst a; subst b; exact h1
    | 1, a, b => simp at a b; subst a; subst b; exact h2
    | 2, a, b => simp at a b; subst a; subst b; exact h3
    | k + 3, a, b => simp at a
theorem two_blocks (w : World) (o1 o2 : Obj) : ((w.alloc o1).alloc o2).heap[w.heap.size]? = some o1 ∧ ((w.alloc o1).alloc o2).heap[w.heap.size + 1]? = some o2 ∧ Below w.heap.size w ((w.alloc o1).alloc o2) := by
  refine ⟨?_, ?_, ((Below.refl _ w).alloc (Nat.le_refl _) _).alloc (by simp) _⟩
  · rw [push_at, if_neg (by simp), push_at, if_pos rfl]
  · rw [push_at, push_size, if_pos rfl]

section
variable (H : FoldOk)
include H

set_option maxHeartbeats 1000000 in
theorem fa_callO (a b : Nat) (W : World) (ha : TxR W W.heap.size (some ⟨a, 0, none⟩, 1, 1) awA) (hb : TxR W W.heap.size (some ⟨b, 0, none⟩, 1, 1) [lnB]) :
    Calls Tryz.prog 9 #[.slice (some ⟨a, 0, none⟩) 1 1, .slice (some ⟨W.heap.size + 1, 0, none⟩) 3 3]
      ((W.alloc (.cells #[.string ⟨#[99, 10]⟩] 9)).alloc (.cells #[.slice (some ⟨b, 0, none⟩) 1 1, .slice (some ⟨a, 0, none⟩) 1 1, .slice (some ⟨W.heap.size, 0, none⟩) 1 1] 22))
      fun e w' => ∃ A c vs, e = .returned (.tuple #[.slice A 1 c, .int .i64 2, .int .i64 0]) ∧ Pcs w' w'.heap.size A 1 vs [cPc [lnA] [[lnB], [lnC]]] ∧ Below W.heap.size W w' := by
  obtain ⟨W2, hW2⟩ : ∃ W2, W2 = ((W.alloc (.cells #[.string ⟨#[99, 10]⟩] 9)).alloc (.cells #[.slice (some ⟨b, 0, none⟩) 1 1, .slice (some ⟨a, 0, none⟩) 1 1, .slice (some ⟨W.heap.size, 0, none⟩) 1 1] 22)) := ⟨_, rfl⟩
  obtain ⟨a0, a1, hB⟩ := two_blocks W (.cells #[.string ⟨#[99, 10]⟩] 9) (.cells #[.slice (some ⟨b, 0, none⟩) 1 1, .slice (some ⟨a, 0, none⟩) 1 1, .slice (some ⟨W.heap.size, 0, none⟩) 1 1] 22)
  rw [← hW2] at a0 a1 hB ⊢
  have hc : TxR W2 W2.heap.size (some ⟨W.heap.size, 0, none⟩, 1, 1) [lnC] := txr_of a0 rfl rfl (by decide)
  refine (H.oct_ok _ 1 1 awA _ 3 3 _ awO W2 (Nat.le_refl _) (by decide) (by decide) (ha.up hB) (three_rows (r1 := (some ⟨b, 0, none⟩, 1, 1)) (r2 := (some ⟨a, 0, none⟩, 1, 1)) (r3 := (some ⟨W.heap.size, 0, none⟩, 1, 1)) a1 (hb.up hB) (ha.up hB) hc)).mono ?_
  rintro e w' ⟨er, k, A1, n1, c1, vs, ps, rfl, h1, h2, hP, hO, hb1⟩
  obtain ⟨rfl, rfl, rfl⟩ := oct_one hO
  have hn : n1 = 1 := by have := hP.len; simpa using this.symm
  subst hn
  exact ⟨A1, c1, vs, rfl, hP, hB.trans (hb1.mono hB.size)⟩
set_option maxHeartbeats 1000000 in
theorem fa_callP (a b : Nat) (W : World) (ha : TxR W W.heap.size (some ⟨a, 0, none⟩, 1, 1) awA) (hb : TxR W W.heap.size (some ⟨b, 0, none⟩, 1, 1) [lnB]) :
    Calls Tryz.prog 9 #[.slice (some ⟨a, 0, none⟩) 1 1, .slice (some ⟨W.heap.size, 0, none⟩) 3 3]
      (W.alloc (.cells #[.slice (some ⟨b, 0, none⟩) 1 1, .slice (some ⟨a, 0, none⟩) 1 1, .slice (some ⟨b, 0, none⟩) 1 1] 22))
      fun e w' => ∃ A c vs, e = .returned (.tuple #[.slice A 1 c, .int .i64 3, .int .i64 0]) ∧ Pcs w' w'.heap.size A 1 vs [tPc [lnB]] ∧ Below W.heap.size W w' := by
  have a1 := Go.Deep.blk_alloc_new W (.cells #[.slice (some ⟨b, 0, none⟩) 1 1, .slice (some ⟨a, 0, none⟩) 1 1, .slice (some ⟨b, 0, none⟩) 1 1] 22)
  have hB := (Below.refl _ W).alloc (Nat.le_refl _) (.cells #[.slice (some ⟨b, 0, none⟩) 1 1, .slice (some ⟨a, 0, none⟩) 1 1, .slice (some ⟨b, 0, none⟩) 1 1] 22)
  obtain ⟨W2, hW2⟩ : ∃ W2, W2 = W.alloc (.cells #[.slice (some ⟨b, 0, none⟩) 1 1, .slice (some ⟨a, 0, none⟩) 1 1, .slice (some ⟨b, 0, none⟩) 1 1] 22) := ⟨_, rfl⟩
  rw [← hW2] at a1 hB ⊢
  refine (H.oct_ok _ 1 1 awA _ 3 3 _ awP W2 (Nat.le_refl _) (by decide) (by decide) (ha.up hB) (three_rows (r1 := (some ⟨b, 0, none⟩, 1, 1)) (r2 := (some ⟨a, 0, none⟩, 1, 1)) (r3 := (some ⟨b, 0, none⟩, 1, 1)) a1 (hb.up hB) (ha.up hB) (hb.up hB))).mono ?_
  rintro e w' ⟨er, k, A1, n1, c1, vs, ps, rfl, h1, h2, hP, hO, hb1⟩
  obtain ⟨rfl, rfl, rfl⟩ := oct_two hO
  have hn : n1 = 1 := by have := hP.len; simpa using this.symm
  subst hn
  exact ⟨A1, c1, vs, rfl, hP, hB.trans (hb1.mono hB.size)⟩

set_option maxHeartbeats 4000000 in
theorem fAwake_any (w : World) : Calls Tryz.prog 7 #[] w fun e w' => e = .returned (.bool true) ∧ Below w.heap.size w w' := by
  obtain ⟨W1, hW1⟩ : ∃ W1, W1 = ((w.alloc (.cells #[.string ⟨#[97, 10]⟩] 9)).alloc (.cells #[.string ⟨#[98, 10]⟩] 9)) := ⟨_, rfl⟩
  obtain ⟨a0, a1, hb0⟩ := two_blocks w (.cells #[.string ⟨#[97, 10]⟩] 9) (.cells #[.string ⟨#[98, 10]⟩] 9)
  rw [← hW1] at a0 a1 hb0
  have hA : Hid (TxR W1 W1.heap.size (some ⟨w.heap.size, 0, none⟩, 1, 1) awA) := Lib.hid (txr_of a0 rfl rfl (by decide))
  have hB : Hid (TxR W1 W1.heap.size (some ⟨w.heap.size + 1, 0, none⟩, 1, 1) [lnB]) := Lib.hid (txr_of a1 rfl rfl (by decide))
  have hC1 := Lib.hid (fa_callO H w.heap.size (w.heap.size + 1) W1 hA.out hB.out)
  have hC2 := Lib.hid (fun (V : World) (hV : Below W1.heap.size W1 V) => fa_callP H w.heap.size (w.heap.size + 1) V (hA.out.up hV) (hB.out.up hV))
  have hb0h := Lib.hid hb0
  have hW1h := Lib.hid hW1
  have tok1 := trivial
  clear hW1 a0 a1 hb0
  go_enter Tryz.func7, Tryz.ntmps7
  go_upto_region 3 with fail
  rw [← hW1h.out]
  go_upto_region 5 with (first
    | (go_at_call 9; have _t := tok1; refine hC1.out.mono ?_; rintro e w1 ⟨A1, c1, vs1, rfl, hP1, hb1⟩; have hP1h := Lib.hid hP1; have hB1 := Lib.hid hb1; clear tok1 hP1 hb1)
    | (go_at_call 9; refine (hC2.out _ hB1.out).mono ?_; rintro e w2 ⟨A2, c2, vs2, rfl, hP2, hb2⟩; have hP2h := Lib.hid hP2; have hB2 := Lib.hid (hB1.out.trans (hb2.mono hB1.out.size)); have hP1k := Lib.hid (hP1h.out.up hb2); clear hP2 hb2 hP1h))
  obtain ⟨b, o, cf, At, nt, ct, Ab, nb, cb, As, ns, cs, t, bs, ss, rfl, hb, hv, hp, q1, q2, q3, q4, -⟩ := hP1k.out.at_ (k := 0) (by omega)
  simp [cPc] at hp
  obtain ⟨rfl, rfl, rfl, rfl⟩ := hp
  obtain ⟨b2, o2, cf2, At2, nt2, ct2, Ab2, nb2, cb2, As2, ns2, cs2, t2, bs2, ss2, rfl, hb2, hv2, hp2, r1, r2, r3, r4, ⟨k1, k2, k3⟩, -, -⟩ := hP2h.out.at_ (k := 0) (by omega)
  simp [tPc] at hp2
  obtain ⟨rfl, rfl, rfl, rfl⟩ := hp2
  dsimp only at k3
  have hnt2 : nt2 = 1 := by have := k3.len; simpa using this.symm
  subst hnt2
  obtain ⟨bx, ox, sx, rfl, hbx, hsx, hcx⟩ := k3.at_ (k := 0) (by omega)
  have hsx' : sx = lnB := by simpa using hsx.symm
  subst hsx'
  have hcy : w2.cell? ⟨bx, ox, none⟩ = some (.string ⟨#[98, 10]⟩) := hcx
  clear hcx
  simp only [Nat.zero_mul, Nat.add_zero] at q1 q2 q3 q4 r1 r2 r3 r4
  have hfin := Lib.hid (hb0h.out.trans (hB2.out.mono hb0h.out.size))
  clear k1 k2 k3 hsx hv hv2 hP1k hP2h q2 q3 q4 r1 r3 r4
  go_wp2
  go_ret
  exact ⟨rfl, hfin.out⟩
end
end Go.Proofs.YtoephlkfejcadaaGreat
