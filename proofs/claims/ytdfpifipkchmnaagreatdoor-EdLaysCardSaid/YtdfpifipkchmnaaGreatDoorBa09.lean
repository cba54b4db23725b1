/- Proved here: texts joined: MergeMay. -/
import Derived.Test.YtdfpifipkchmnaaGreatDoorBa08
/- Proved here, without conditions: plain facts on merges: what is chosen is lines that may be. -/
namespace Go.Proofs.YtdfpifipkchmnaaGreatDoor
set_option linter.unusedVariables false

theorem may_cons (s : Tx) (r : Txs) : mayB (s :: r) = (!s.isEmpty && !decide (fe s < s.length) && (r.isEmpty || endedB s) && mayB r) := rfl
theorem may_append : ∀ a b : Txs, mayB (a ++ b) = (mayB a && mayB b && (b.isEmpty || !openB a))
  | [], b => by simp [mayB, openB]
  | [s], b => by
    simp only [List.singleton_append, mayB, List.isEmpty_nil, Bool.true_or, Bool.and_true, openB, List.getLast?_singleton, Bool.not_not]
    cases (!s.isEmpty && !decide (fe s < s.length)) <;> cases b.isEmpty <;> cases endedB s <;> cases mayB b <;> rfl
  | s :: t :: r, b => by
    have ih := may_append (t :: r) b
    have ho : openB (s :: t :: r) = openB (t :: r) := open_cons s (by simp)
    rw [ho, List.cons_append, may_cons s (t :: r ++ b), may_cons s (t :: r), ih]
    simp only [List.cons_append, List.isEmpty_cons, Bool.false_or]
    cases (!s.isEmpty && !decide (fe s < s.length)) <;> cases endedB s <;> simp
theorem open_append (a b : Txs) : openB (a ++ b) = if b = [] then openB a else openB b := by
  by_cases h : b = []
  · subst h
    simp
  · rw [if_neg h]
    unfold openB
    rw [List.getLast?_append]
    cases hb : b.getLast? with
    | none => exact absurd (List.getLast?_eq_none_iff.1 hb) h
    | some t => rfl
theorem may_left {a b : Txs} (h : mayB (a ++ b) = true) : mayB a = true := by
  rw [may_append] at h
  simp only [Bool.and_eq_true] at h
  exact h.1.1
theorem may_right {a b : Txs} (h : mayB (a ++ b) = true) : mayB b = true := by
  rw [may_append] at h
  simp only [Bool.and_eq_true] at h
  exact h.1.2
theorem cutL_split {d : Txs} {f t : Int} (h0 : 0 ≤ f) (h1 : f ≤ t) : d = d.take f.toNat ++ (cutL d f t ++ d.drop t.toNat) := by
  rw [← cutL_drop h0 h1, List.take_append_drop]
theorem may_cut {d : Txs} {f t : Int} (h0 : 0 ≤ f) (h1 : f ≤ t) (h : mayB d = true) : mayB (cutL d f t) = true := by
  rw [cutL_split (d := d) h0 h1] at h
  exact may_left (may_right h)
/-- An open part ends with its list. -/
theorem open_cut {d : Txs} {f t : Int} (h0 : 0 ≤ f) (h1 : f ≤ t) (h2 : t ≤ d.length) (h : mayB d = true) (ho : openB (cutL d f t) = true) : t = d.length := by
  rw [cutL_split (d := d) h0 h1] at h
  have h3 := may_right h
  rw [may_append, ho] at h3
  simp only [Bool.not_true, Bool.or_false, Bool.and_eq_true, List.isEmpty_iff, List.drop_eq_nil_iff] at h3
  omega

/-- All but the last one. -/
def ButLast (P : Ck → Prop) : List Ck → Prop
  | [] => True
  | [c] => True
  | c :: e :: r => P c ∧ ButLast P (e :: r)
theorem ButLast.imp {P Q : Ck → Prop} : ∀ {cs : List Ck}, (∀ c ∈ cs, P c → Q c) → ButLast P cs → ButLast Q cs
  | [], _, _ => trivial
  | [c], _, _ => trivial
  | c :: e :: r, h, hb => ⟨h c (List.mem_cons_self ..) hb.1, ButLast.imp (fun d hd => h d (List.mem_cons_of_mem _ hd)) hb.2⟩
theorem ButLast.map {P : Ck → Prop} {g : Ck → Ck} : ∀ {cs : List Ck}, ButLast P (cs.map g) → ButLast (fun c => P (g c)) cs
  | [], _ => trivial
  | [c], _ => trivial
  | c :: e :: r, h => ⟨h.1, ButLast.map (cs := e :: r) h.2⟩
theorem may_flat {f : Ck → Txs} : ∀ {cs : List Ck}, (∀ c ∈ cs, mayB (f c) = true) → ButLast (fun c => openB (f c) = false) cs → mayB (cs.flatMap f) = true
  | [], _, _ => rfl
  | [c], h, _ => by simpa using h c (List.mem_cons_self ..)
  | c :: e :: r, h, hb => by
    have ih := may_flat (cs := e :: r) (fun d hd => h d (List.mem_cons_of_mem _ hd)) hb.2
    rw [List.flatMap_cons, may_append, h c (List.mem_cons_self ..), ih, hb.1]
    simp

/-- What stands ahead of another chunk is ended: each side's part; the base is one of the sides. -/
theorem ended_parts {m : Int} {sides : List Txs} {sb : Nat} (hmay : ∀ d ∈ sides, mayB d = true) : ∀ {cs : List Ck} {prev : Option Bool} {b : Int} {a : List Int}, Cov m (szs sides) cs prev b a → (∀ v ∈ a, 0 ≤ v) →
    (∀ c ∈ cs, c.2.2[sb]? = some c.2.1) → sb < sides.length → (∀ c ∈ cs, c.1 = true → ∀ (s s' : Nat) (d d' : Txs), sides[s]? = some d → sides[s']? = some d' → cutS c s d = cutS c s' d') →
    ButLast (fun c => ∀ (s : Nat) (d : Txs), sides[s]? = some d → openB (cutS c s d) = false) cs
  | [], _, _, _, _, _, _, _, _ => trivial
  | [c], _, _, _, _, _, _, _, _ => trivial
  | c :: e :: r, prev, b, a, h, ha, hsb, hlt, hst => by
    have hends : ∀ v ∈ ends c, 0 ≤ v := by
      intro v hv
      obtain ⟨s, hs⟩ := List.mem_iff_getElem?.1 hv
      obtain ⟨sp, hsp, rfl⟩ := ends_at hs
      obtain ⟨u, hu⟩ := at_of h.1.len hsp
      have := h.1.side s sp u hsp hu
      have := ha u (List.mem_of_getElem? hu)
      omega
    refine ⟨?_, ended_parts hmay (cs := e :: r) h.2 hends (fun d hd => hsb d (List.mem_cons_of_mem _ hd)) hlt (fun d hd => hst d (List.mem_cons_of_mem _ hd))⟩
    have hlen : c.2.2.length = (szs sides).length := by
      have := (Cov.le h.2).2.1
      rwa [ends_len] at this
    have hsl : (szs sides).length = sides.length := by simp [szs]
    -- where an open part ends, the next chunk has nothing of that side
    have key : ∀ (s : Nat) (d : Txs), sides[s]? = some d → openB (cutS c s d) = true → ∃ sq : Sp, e.2.2[s]? = some sq ∧ sq.1 = sq.2 := by
      intro s d hd ho
      have hs := (List.getElem?_eq_some_iff.1 hd).1
      have hsp : c.2.2[s]? = some (c.2.2[s]'(by omega)) := List.getElem?_eq_getElem _
      obtain ⟨sp, hsp'⟩ : ∃ sp, c.2.2[s]'(by omega) = sp := ⟨_, rfl⟩
      rw [hsp'] at hsp
      obtain ⟨k1, k2, k3, _⟩ := cov_sides h ha c (List.mem_cons_self ..) s sp _ hsp (szs_at hd)
      unfold cutS at ho
      rw [hsp] at ho
      have hend := open_cut k1 k2 k3 (hmay d (List.mem_of_getElem? hd)) ho
      have hv : (ends c)[s]? = some sp.2 := by unfold ends; rw [List.getElem?_map, hsp]; rfl
      obtain ⟨sq, hsq⟩ := sp_of h.2.1.len hv
      obtain ⟨q1, q2, _⟩ := h.2.1.side s sq sp.2 hsq hv
      obtain ⟨_, _, q3, _⟩ := cov_sides h ha e (List.mem_cons_of_mem _ (List.mem_cons_self ..)) s sq _ hsq (szs_at hd)
      exact ⟨sq, hsq, by omega⟩
    intro s d hd
    cases ho : openB (cutS c s d) with
    | false => rfl
    | true =>
      exfalso
      obtain ⟨sq, hsq, hee⟩ := key s d hd ho
      cases he : e.1 with
      | true =>
        obtain ⟨v, hv⟩ := at_of h.2.1.len hsq
        have h1 := (h.2.1.side s sq v hsq hv).2.2 he
        have h2 := h.2.1.one he
        have h3 := h.2.1.base
        omega
      | false =>
        have hc : c.1 = true := by
          have := h.2.1.alt
          rw [he] at this
          cases hc : c.1 with
          | true => rfl
          | false => rw [hc] at this; exact absurd rfl this
        have hall : ∀ (s' : Nat) (d' : Txs), sides[s']? = some d' → ∃ sq : Sp, e.2.2[s']? = some sq ∧ sq.1 = sq.2 := by
          intro s' d' hd'
          refine key s' d' hd' ?_
          rw [← hst c (List.mem_cons_self ..) hc s s' d d' hd hd']
          exact ho
        have hfull := h.2.1.full
        have hel : e.2.2.length = sides.length := by rw [h.2.1.len, ends_len, hlen, hsl]
        unfold emptyB at hfull
        simp only [Bool.not_eq_false', Bool.or_eq_true, decide_eq_true_eq, List.any_eq_true] at hfull
        rcases hfull with hf | ⟨sp, hm, hf⟩
        · obtain ⟨sq', h1, h2⟩ := hall sb _ (List.getElem?_eq_getElem hlt)
          rw [hsb e (List.mem_cons_of_mem _ (List.mem_cons_self ..))] at h1
          injection h1 with h1
          subst h1
          omega
        · obtain ⟨s', hs'⟩ := List.mem_iff_getElem?.1 hm
          have hlt' : s' < sides.length := by have := (List.getElem?_eq_some_iff.1 hs').1; omega
          obtain ⟨sq', h1, h2⟩ := hall s' _ (List.getElem?_eq_getElem hlt')
          rw [hs'] at h1
          injection h1 with h1
          subst h1
          omega

section
variable {base : Txs} {sides : List Txs} {ms : List (List Int)} {cs : List Ck} {c : Ck}
theorem cutS_addB_side (h : c.2.2.length = sides.length) {s : Nat} (hs : s < sides.length) (d : Txs) : cutS (addB c) s d = cutS c s d := by
  unfold cutS addB
  dsimp only
  rw [List.getElem?_append_left (by omega)]
theorem cutS_addB_base (h : c.2.2.length = sides.length) (d : Txs) : cutS (addB c) sides.length d = cutB c d := by
  unfold cutS addB cutB
  dsimp only
  rw [List.getElem?_append_right (by omega), h, Nat.sub_self]
  rfl
/-- Ahead of another chunk all parts are ended. -/
theorem Laid.ended (h : Laid base sides ms cs) (hb : mayB base = true) (hmay : ∀ d ∈ sides, mayB d = true) : ButLast (fun c => ∀ p ∈ cutB c base :: cutsP c sides, openB p = false) cs := by
  have hX := cut_base (by rw [h.len]; simp [szs]) h.cut
  have hz : szs sides ++ [(base.length : Int)] = szs (sides ++ [base]) := by simp [szs]
  rw [hz] at hX
  have hlast : (sides ++ [base])[sides.length]? = some base := by simp
  have hE := ended_parts (sb := sides.length) (sides := sides ++ [base]) (by
    intro d hd
    rcases List.mem_append.1 hd with hd | hd
    · exact hmay d hd
    · rw [List.mem_singleton.1 hd]; exact hb) hX.1 zeros (by
    intro c hc
    obtain ⟨c0, hc0, rfl⟩ := List.mem_map.1 hc
    have := (h.lies hc0).2.2.2
    unfold addB
    dsimp only
    rw [List.getElem?_append_right (by omega), this, Nat.sub_self]
    rfl) (by simp) (by
    intro c hc hst s s' d d' hd hd'
    obtain ⟨c0, hc0, rfl⟩ := List.mem_map.1 hc
    have hl := (h.lies hc0).2.2.2
    have all : ∀ (s : Nat) (d : Txs), (sides ++ [base])[s]? = some d → cutS (addB c0) s d = cutB c0 base := by
      intro s d hd
      rcases Nat.lt_or_ge s sides.length with hs | hs
      · rw [List.getElem?_append_left hs] at hd
        rw [cutS_addB_side hl hs]
        exact h.stable hc0 hst hd
      · have hs0 : s = sides.length := by have := (List.getElem?_eq_some_iff.1 hd).1; simp at this; omega
        subst hs0
        rw [hlast] at hd
        injection hd with hd
        subst hd
        exact cutS_addB_base hl _
    rw [all s d hd, all s' d' hd'])
  refine (ButLast.map hE).imp fun c hc hP p hp => ?_
  have hl := (h.lies hc).2.2.2
  rcases List.mem_cons.1 hp with rfl | hp
  · have := hP sides.length base hlast
    rwa [cutS_addB_base hl] at this
  · obtain ⟨s, d, hd, rfl⟩ := (cutsP_mem h hc).1 hp
    have hs := (List.getElem?_eq_some_iff.1 hd).1
    have := hP s d (by rw [List.getElem?_append_left hs]; exact hd)
    rwa [cutS_addB_side hl hs] at this
theorem Laid.may (h : Laid base sides ms cs) (hb : mayB base = true) (hmay : ∀ d ∈ sides, mayB d = true) (hc : c ∈ cs) : ∀ p ∈ cutB c base :: cutsP c sides, mayB p = true := by
  intro p hp
  obtain ⟨k1, k2, k3, k4⟩ := h.lies hc
  rcases List.mem_cons.1 hp with rfl | hp
  · exact may_cut k1 k2 hb
  · obtain ⟨s, d, hd, rfl⟩ := (cutsP_mem h hc).1 hp
    obtain ⟨sp, hsp, j1, j2, _⟩ := h.side hc hd
    unfold cutS
    rw [hsp]
    exact may_cut j1 j2 (hmay d (List.mem_of_getElem? hd))

/-- A text without Union is the base's, or a part. -/
theorem piece_mem {b : Txs} {ps : List Txs} {fav : Int} (h1 : 1 ≤ fav) (h2 : fav ≤ ps.length) : (pieceD b ps fav false).2.1 ∈ b :: ps := by
  unfold pieceD
  match hd : diffs b ps with
  | [] => exact List.mem_cons_self ..
  | [d] => exact List.mem_cons_of_mem _ (mem_diffs.1 (by rw [hd]; simp : d ∈ diffs b ps)).1
  | d :: e :: l =>
    dsimp only
    rw [if_pos ⟨h1, h2⟩]
    refine List.mem_cons_of_mem _ ?_
    have hlt : (fav - 1).toNat < ps.length := by omega
    show (ps[(fav - 1).toNat]?).getD [] ∈ ps
    rw [List.getElem?_eq_getElem hlt]
    exact List.getElem_mem hlt
theorem fe_feed : ∀ {s : Tx}, ¬ fe s < s.length → endedB s = false → fe (s ++ [10]) = s.length + 1
  | [], _, _ => rfl
  | c :: r, h, he => by
    have hc : c ≠ 10 := by
      rintro rfl
      cases r with
      | nil => simp [endedB] at he
      | cons d t => simp [fe] at h
    rw [List.cons_append, fe, if_neg hc]
    have h' : ¬ fe r < r.length := by rw [fe, if_neg hc, List.length_cons] at h; omega
    cases r with
    | nil => rfl
    | cons d t =>
      rw [fe_feed h' (by rw [← ended_cons c (by simp)]; exact he)]
      rfl
theorem closed_may {d : Txs} (h : mayB d = true) : mayB (closed d) = true ∧ openB (closed d) = false := by
  unfold closed
  cases hl : d.getLast? with
  | none =>
    have : d = [] := List.getLast?_eq_none_iff.1 hl
    subst this
    exact ⟨rfl, rfl⟩
  | some s =>
    dsimp only
    split
    · rename_i he
      exact ⟨h, by unfold openB; rw [hl]; simp [he]⟩
    · rename_i he
      have hd : d = d.dropLast ++ [s] := by
        have hne : d ≠ [] := by rintro rfl; simp at hl
        rw [List.getLast?_eq_some_getLast hne] at hl
        injection hl with hl
        rw [← hl, List.dropLast_concat_getLast hne]
      have he' : endedB s = false := by simpa using he
      rw [hd, may_append] at h
      simp only [Bool.and_eq_true, List.isEmpty_cons, Bool.false_or, Bool.not_eq_true'] at h
      obtain ⟨⟨h1, h2⟩, h3⟩ := h
      have h4 : ¬ fe s < s.length := by
        unfold mayB at h2
        simp only [Bool.and_eq_true, Bool.not_eq_true', decide_eq_false_iff_not] at h2
        exact h2.1.1.2
      have hf : mayB [s ++ [10]] = true := by
        unfold mayB
        rw [fe_feed h4 he']
        simp [mayB]
      refine ⟨by rw [may_append, h1, hf, h3]; rfl, ?_⟩
      rw [open_append, if_neg (by simp)]
      simp [openB, endedB]
theorem union_nil : ∀ {ds : List Txs}, (ds.any fun x => !x.isEmpty) = false → unionT ds = []
  | [], _ => rfl
  | d :: ds, h => by
    rw [List.any_cons, Bool.or_eq_false_iff] at h
    have h1 : d = [] := by have := h.1; simpa using this
    unfold unionT
    rw [h.2, union_nil h.2, h1]
    rfl
theorem union_may : ∀ {ds : List Txs}, (∀ d ∈ ds, mayB d = true) → mayB (unionT ds) = true
  | [], _ => rfl
  | d :: ds, h => by
    have h1 := h d (List.mem_cons_self ..)
    have ih := union_may (ds := ds) fun e he => h e (List.mem_cons_of_mem _ he)
    unfold unionT
    cases hb : ds.any fun x => !x.isEmpty with
    | false =>
      rw [union_nil hb]
      simpa using h1
    | true =>
      obtain ⟨k1, k2⟩ := closed_may h1
      simp only [if_true]
      rw [may_append, k1, ih, k2]
      simp
theorem flat_open : ∀ {ds : List Txs}, (∀ d ∈ ds, openB d = false) → openB ds.flatten = false
  | [], _ => rfl
  | d :: ds, h => by
    rw [List.flatten_cons, open_append]
    split
    · exact h d (List.mem_cons_self ..)
    · exact flat_open fun e he => h e (List.mem_cons_of_mem _ he)
theorem union_open {ds : List Txs} (h : ∀ d ∈ ds, openB d = false) : openB (unionT ds) = false := by
  rw [union_same ds h]
  exact flat_open h
/-- With Union a text may be lines, and is ended, if all are. -/
theorem piece_union_may {b : Txs} {ps : List Txs} (h : ∀ p ∈ b :: ps, mayB p = true) : mayB (pieceD b ps 0 true).2.1 = true := by
  unfold pieceD
  have hm : ∀ d ∈ diffs b ps, mayB d = true := fun d hd => h d (List.mem_cons_of_mem _ (mem_diffs.1 hd).1)
  match hd : diffs b ps with
  | [] => exact h b (List.mem_cons_self ..)
  | [d] => exact hm d (by rw [hd]; simp)
  | d :: e :: l =>
    dsimp only
    rw [if_neg (by omega), if_pos rfl]
    show mayB (unionT (d :: e :: l)) = true
    rw [← hd]
    exact union_may hm
theorem piece_union_open {b : Txs} {ps : List Txs} (h : ∀ p ∈ b :: ps, openB p = false) : openB (pieceD b ps 0 true).2.1 = false := by
  unfold pieceD
  have hm : ∀ d ∈ diffs b ps, openB d = false := fun d hd => h d (List.mem_cons_of_mem _ (mem_diffs.1 hd).1)
  match hd : diffs b ps with
  | [] => exact h b (List.mem_cons_self ..)
  | [d] => exact hm d (by rw [hd]; simp)
  | d :: e :: l =>
    dsimp only
    rw [if_neg (by omega), if_pos rfl]
    show openB (unionT (d :: e :: l)) = false
    rw [← hd]
    exact union_open hm
/-- What is merged with a Favour, or with Union, is lines that may be. -/
theorem merge_may (h : Laid base sides ms cs) (hb : mayB base = true) (hmay : ∀ d ∈ sides, mayB d = true) {fav : Int} {un : Bool} (hp : (1 ≤ fav ∧ fav ≤ sides.length ∧ un = false) ∨ (fav = 0 ∧ un = true)) (z : Int) : mayB (choose (mergeD base sides fav un cs) z) = true := by
  unfold mergeD
  rw [choose_normal, choose_map]
  have hE := h.ended hb hmay
  have e : cs.flatMap (fun c => chosen z (pcOf base sides fav un c)) = cs.flatMap fun c => (pieceD (cutB c base) (cutsP c sides) fav un).2.1 := by
    refine flat_congr fun c hc => ?_
    rw [h.pc hc]
    refine chosen_text z ?_
    rcases hp with ⟨h1, h2, rfl⟩ | ⟨rfl, rfl⟩
    · exact piece_fav h1 (by rw [cutsP_len h hc]; exact h2) false
    · exact piece_union
  rw [e]
  rcases hp with ⟨h1, h2, rfl⟩ | ⟨rfl, rfl⟩
  · refine may_flat (fun c hc => h.may hb hmay hc _ (piece_mem h1 (by rw [cutsP_len h hc]; exact h2))) (hE.imp fun c hc hP => hP _ (piece_mem h1 (by rw [cutsP_len h hc]; exact h2)))
  · exact may_flat (fun c hc => piece_union_may (h.may hb hmay hc)) (hE.imp fun c hc hP => piece_union_open hP)
end
end Go.Proofs.YtdfpifipkchmnaaGreatDoor
