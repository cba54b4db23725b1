/- Proved here: texts joined: UnmOne. -/
import Derived.Test.YtcpopnhnihbofaaGreatDoorBe10
/- Proved here, without conditions: WHAT IS READ WAS PRINTED SO (layer 13): of whatever texts are read, the pieces, printed in their style, are these texts; and they may be printed. -/
namespace Go.Proofs.YtcpopnhnihbofaaGreatDoor
set_option linter.unusedVariables false

/-- A piece that is read: a text of lines that are no marks, or a conflict of parts that may be printed. -/
def PieceOk (long : Nat) (p : Pc) : Prop := (∃ b ds, p = cPc b ds ∧ ds ≠ [] ∧ ds.length ≤ 16 ∧ partB long b ∧ ∀ d ∈ ds, partB long d) ∨ (∃ t, p = tPc t ∧ t ≠ [] ∧ ∀ x ∈ t, lnB x = true ∧ runN x < long)
/-- A style that is still to be had. -/
def okSt (st sty : Int) : Prop := (sty = 1 ∨ sty = 2) ∧ (st = 0 ∨ sty = st)
/-- The last piece is no text. -/
def ConfEnd (out : List Pc) : Prop := out = [] ∨ ∃ a b s, out = a ++ [cPc b s]
/-- What is read so far, of the texts c. -/
structure UnIn (long : Nat) (s : MSt) (c : Txs) : Prop where
  sty : s.style = 0 ∨ s.style = 1 ∨ s.style = 2
  okp : ∀ p ∈ s.out, PieceOk long p
  nrm : normal s.out = s.out
  cur : ∀ t ∈ s.cur, lnB t = true ∧ runN t < long
  out : s.conf = none → ConfEnd s.out ∧ ∀ sty, okSt s.style sty → c = linesM sty long s.out ++ s.cur
  ins : ∀ isB b ds, s.conf = some (isB, b, ds) → partB long b ∧ (∀ d ∈ ds, partB long d) ∧ nM isB ds ≤ 16 ∧ (isB = true → ds ≠ []) ∧
    (firstM isB ds = true → b = [] ∧ ∀ sty, okSt s.style sty → c = linesM sty long s.out ++ (markX 60 long false [32, 49] :: s.cur)) ∧
    (firstM isB ds = false → s.style ≠ 0 ∧ ∃ pre, c = pre ++ s.cur ∧ ∀ q es, pre ++ (closed q ++ sidesM long q (nM isB ds + 1) es) = linesM s.style long s.out ++ confM s.style long (putM isB b ds q).1 ((putM isB b ds q).2 ++ es))

section
variable {long : Nat} {s s' : MSt} {c q : Txs} {t : Tx} {out : List Pc} {b : Txs} {ds : List Txs}
theorem lines_app (sty : Int) (long : Nat) (a b : List Pc) : linesM sty long (a ++ b) = linesM sty long a ++ linesM sty long b := by simp [linesM]
theorem lines_text (sty : Int) (long : Nat) (t : Txs) : linesM sty long [tPc t] = t := by simp [linesM, pieceM, tPc]
theorem lines_conf (sty : Int) (long : Nat) (b : Txs) (ds : List Txs) : linesM sty long [cPc b ds] = confM sty long b ds := by simp [linesM, pieceM, cPc]
theorem lines_flush (sty : Int) (long : Nat) (out : List Pc) (cur : Txs) : linesM sty long (flushM out cur) = linesM sty long out ++ cur := by
  unfold flushM
  split
  · rename_i h; rw [h, List.append_nil]
  · rw [lines_app, lines_text]
theorem normal_conf_end (l : List Pc) (b : Txs) (ds : List Txs) : normal (l ++ [cPc b ds]) = normal l ++ [cPc b ds] := by
  have key : ∀ m : List Pc, m.foldr layP [cPc b ds] = normal m ++ [cPc b ds] := by
    intro m
    induction m with
    | nil => rfl
    | cons p m ih =>
      rw [List.foldr_cons, ih, normal_cons]
      obtain ⟨cf, x, b', s'⟩ := p
      cases cf with
      | true => rfl
      | false =>
        show joinT x (normal m ++ [cPc b ds]) = joinT x (normal m) ++ [cPc b ds]
        cases hm : normal m with
        | nil =>
          show (if x = [] then [cPc b ds] else tPc x :: [cPc b ds]) = (if x = [] then [] else [tPc x]) ++ [cPc b ds]
          split <;> rfl
        | cons q r =>
          obtain ⟨cf', y, b'', s''⟩ := q
          cases cf' with
          | false => rfl
          | true =>
            show (if x = [] then (true, y, b'', s'') :: (r ++ [cPc b ds]) else tPc x :: (true, y, b'', s'') :: (r ++ [cPc b ds])) = (if x = [] then (true, y, b'', s'') :: r else tPc x :: (true, y, b'', s'') :: r) ++ [cPc b ds]
            split <;> rfl
  rw [normal_fold, show normal [cPc b ds] = [cPc b ds] from rfl, key]
theorem normal_text_end {l : List Pc} {t : Txs} (h : ConfEnd l) (ht : t ≠ []) : normal (l ++ [tPc t]) = normal l ++ [tPc t] := by
  have e : normal [tPc t] = [tPc t] := by show (if t = [] then [] else [tPc t]) = _; rw [if_neg ht]
  rcases h with rfl | ⟨a, b, s, rfl⟩
  · exact e
  · have key : ∀ m : List Pc, m.foldr layP (cPc b s :: [tPc t]) = normal m ++ (cPc b s :: [tPc t]) := by
      intro m
      induction m with
      | nil => rfl
      | cons p m ih =>
        rw [List.foldr_cons, ih, normal_cons]
        obtain ⟨cf, x, b', s'⟩ := p
        cases cf with
        | true => rfl
        | false =>
          show joinT x (normal m ++ (cPc b s :: [tPc t])) = joinT x (normal m) ++ (cPc b s :: [tPc t])
          cases hm : normal m with
          | nil =>
            show (if x = [] then (cPc b s :: [tPc t]) else tPc x :: (cPc b s :: [tPc t])) = (if x = [] then [] else [tPc x]) ++ (cPc b s :: [tPc t])
            split <;> rfl
          | cons q r =>
            obtain ⟨cf', y, b'', s''⟩ := q
            cases cf' with
            | false => rfl
            | true =>
              show (if x = [] then (true, y, b'', s'') :: (r ++ (cPc b s :: [tPc t])) else tPc x :: (true, y, b'', s'') :: (r ++ (cPc b s :: [tPc t]))) = (if x = [] then (true, y, b'', s'') :: r else tPc x :: (true, y, b'', s'') :: r) ++ (cPc b s :: [tPc t])
              split <;> rfl
    rw [List.append_assoc, normal_fold, normal_conf_end]
    show List.foldr layP (layP (cPc b s) (normal [tPc t])) a = _
    rw [e]
    show List.foldr layP (cPc b s :: [tPc t]) a = _
    rw [key, List.append_assoc]
    rfl
theorem normal_flush (h : ConfEnd out) (hn : normal out = out) (c : Txs) : normal (flushM out c) = flushM out c := by
  unfold flushM
  split
  · exact hn
  · rename_i hc
    rw [normal_text_end h hc, hn]
theorem sides_nil (a : Txs) (n : Nat) : sidesM long a n [] = [markT 62 long a []] := rfl
theorem sides_cons (a : Txs) (n : Nat) (d : Txs) (ds : List Txs) : sidesM long a n (d :: ds) = markT 61 long a (32 :: numT n) :: (closed d ++ sidesM long d (n + 1) ds) := rfl
theorem part_nil : partB long [] := ⟨rfl, fun t h => by cases h⟩
theorem flush_ok (h : ∀ p ∈ out, PieceOk long p) (hc : ∀ t ∈ c, lnB t = true ∧ runN t < long) : ∀ p ∈ flushM out c, PieceOk long p := by
  unfold flushM
  split
  · exact h
  · rename_i hne
    intro p hp
    rcases List.mem_append.1 hp with hp | hp
    · exact h p hp
    · exact .inr ⟨c, List.mem_singleton.1 hp, hne, hc⟩
theorem UnIn.start : UnIn long startM [] where
  sty := .inl rfl
  okp := fun p h => by cases h
  nrm := rfl
  cur := fun t h => by cases h
  out := fun _ => ⟨.inl rfl, fun sty _ => rfl⟩
  ins := fun isB b ds h => by cases h
/-- One mark, in a conflict. -/
theorem UnIn.mark {isB : Bool} (h1 : 1 ≤ long) (h : UnIn long s c) (hc : s.conf = some (isB, b, ds)) (hs : markStep long s isB b ds t = some s') : UnIn long s' (c ++ [t]) := by
  obtain ⟨i1, i2, i3, i4, i5, i6⟩ := h.ins isB b ds hc
  have hsty := h.sty
  unfold markStep at hs
  dsimp only at hs
  -- the part begun last, opened, whatever it is put to
  have hpart : ∀ {ex : Bool} {q : Txs}, openT ex s.cur = some q → closed q = s.cur ∧ openB q = ex ∧ partB long q := fun hq => by
    obtain ⟨a1, a2, a3⟩ := closed_open (fun t ht => (h.cur t ht).1) hq
    exact ⟨a1, a2, a3, open_runs h.cur hq⟩
  have hput : ∀ {q : Txs}, partB long q → partB long (putM isB b ds q).1 ∧ ∀ d ∈ (putM isB b ds q).2, partB long d := fun hq => by
    unfold putM
    cases isB with
    | true => exact ⟨hq, i2⟩
    | false =>
      refine ⟨i1, fun d hd => ?_⟩
      rcases List.mem_append.1 hd with hd | hd
      · exact i2 d hd
      · rw [List.mem_singleton.1 hd]; exact hq
  have hlen : ∀ q : Txs, (putM isB b ds q).2.length = nM isB ds ∧ (putM isB b ds q).2 ≠ [] := fun q => by
    unfold putM nM
    cases isB with
    | true => exact ⟨rfl, i4 rfl⟩
    | false => exact ⟨by simp, by simp⟩
  have hpe : ∀ q : Txs, (if isB = true then (q, ds) else (b, ds ++ [q])) = putM isB b ds q := fun q => rfl
  have hfe : (!isB && ds.isEmpty) = firstM isB ds := rfl
  have hne : (if isB = true then ds.length else ds.length + 1) = nM isB ds := rfl
  rw [hfe, hne] at hs
  simp only [hpe] at hs
  -- the texts up to this part, in the style that is had then
  have hpre : ∀ st : Int, (st = if firstM isB ds = true then 1 else s.style) → (firstM isB ds = true → s.style ≠ 2) → ∃ pre, c = pre ++ s.cur ∧ ∀ q es, pre ++ (closed q ++ sidesM long q (nM isB ds + 1) es) = linesM st long s.out ++ confM st long (putM isB b ds q).1 ((putM isB b ds q).2 ++ es) := fun st hst hs2 => by
    cases hf : firstM isB ds with
    | false =>
      obtain ⟨-, pre, e1, e2⟩ := i6 hf
      rw [hf, if_neg (by simp)] at hst
      subst hst
      exact ⟨pre, e1, e2⟩
    | true =>
      rw [hf, if_pos rfl] at hst
      subst hst
      obtain ⟨rfl, e⟩ := i5 hf
      have hf' := hf
      unfold firstM at hf'
      rw [Bool.and_eq_true] at hf'
      obtain ⟨f1, f2⟩ := hf'
      have hB : isB = false := by simpa using f1
      have hd : ds = [] := by simpa using f2
      subst hB
      subst hd
      have hs2' := hs2 hf
      refine ⟨linesM 1 long s.out ++ [markX 60 long false [32, 49]], ?_, fun q es => ?_⟩
      · rw [e 1 ⟨.inl rfl, by omega⟩, List.append_assoc]; rfl
      · show _ = linesM 1 long s.out ++ confM 1 long [] (q :: es)
        unfold confM
        dsimp only
        rw [if_pos rfl, List.append_assoc]
        rfl
  cases hb : fitM long t 124 [32, 98, 97, 115, 101] with
  | some ex =>
    rw [hb] at hs
    dsimp only at hs
    split at hs
    · rename_i hw
      obtain ⟨hf, hs1⟩ := hw
      cases ho : openT ex s.cur with
      | none => rw [ho] at hs; cases hs
      | some q0 =>
        rw [ho] at hs
        injection hs with hs
        subst hs
        obtain ⟨a1, a2, a3⟩ := hpart ho
        obtain ⟨rfl, e⟩ := i5 hf
        have hf' := hf
        unfold firstM at hf'
        rw [Bool.and_eq_true] at hf'
        have hB : isB = false := by simpa using hf'.1
        have hd : ds = [] := by simpa using hf'.2
        subst hB
        subst hd
        have ht := fit_eq hb
        refine ⟨.inr (.inr rfl), h.okp, h.nrm, fun t ht => (nomatch ht), fun hx => (nomatch hx), fun isB' b' ds' hx => ?_⟩
        injection hx with hx
        injection hx with hx1 hx2
        injection hx2 with hx2 hx3
        subst hx1
        subst hx2
        subst hx3
        refine ⟨part_nil, fun d hd => ?_, by simp [nM, putM], fun _ => by simp [putM], fun hx => (nomatch hx), fun _ => ⟨by simp, c ++ [t], by simp, fun q es => ?_⟩⟩
        · rw [List.mem_singleton.1 hd]; exact a3
        · show c ++ [t] ++ (closed q ++ sidesM long q 2 es) = linesM 2 long s.out ++ confM 2 long q (q0 :: es)
          rw [e 2 ⟨.inr rfl, by omega⟩, ht]
          unfold confM
          dsimp only
          rw [if_neg (by decide), a1, markT_X, markT_X, a2]
          simp [openB]
    · cases hs
  | none =>
    rw [hb] at hs
    dsimp only at hs
    split at hs
    · cases hs
    · rename_i hw2
      have hs2 : firstM isB ds = true → s.style ≠ 2 := fun hf h2 => hw2 ⟨hf, h2⟩
      obtain ⟨st, hst⟩ : ∃ st : Int, st = if firstM isB ds = true then 1 else s.style := ⟨_, rfl⟩
      rw [← hst] at hs
      obtain ⟨pre, hc1, hc2⟩ := hpre st hst hs2
      have hst12 : st = 1 ∨ st = 2 := by
        cases hf : firstM isB ds with
        | true => rw [hf, if_pos rfl] at hst; exact .inl hst
        | false =>
          rw [hf, if_neg (by simp)] at hst
          have := (i6 hf).1
          omega
      cases hd : (if nM isB ds < 16 then fitM long t 61 (32 :: numT (nM isB ds + 1)) else none) with
      | some ex =>
        rw [hd] at hs
        dsimp only at hs
        have hn16 : nM isB ds < 16 := by
          refine Classical.byContradiction fun hn => ?_
          rw [if_neg hn] at hd
          cases hd
        rw [if_pos hn16] at hd
        cases ho : openT ex s.cur with
        | none => rw [ho] at hs; cases hs
        | some q0 =>
          rw [ho] at hs
          injection hs with hs
          subst hs
          obtain ⟨a1, a2, a3⟩ := hpart ho
          obtain ⟨b1, b2⟩ := hput a3
          have ht := fit_eq hd
          refine ⟨.inr hst12, h.okp, h.nrm, fun t ht => (nomatch ht), fun hx => (nomatch hx), fun isB' b' ds' hx => ?_⟩
          injection hx with hx
          injection hx with hx1 hx2
          injection hx2 with hx2 hx3
          subst hx1
          subst hx2
          subst hx3
          have hn2 : nM false (putM isB b ds q0).2 = nM isB ds + 1 := by unfold nM; rw [if_neg (by simp), (hlen q0).1]; rfl
          refine ⟨b1, b2, by omega, fun hx => (nomatch hx), fun hx => ?_, fun _ => ⟨by show st ≠ 0; omega, c ++ [t], by simp, fun q es => ?_⟩⟩
          · have := (hlen q0).2
            unfold firstM at hx
            simp at hx
            exact absurd hx this
          · have h3 := hc2 q0 (q :: es)
            show c ++ [t] ++ (closed q ++ sidesM long q (nM false (putM isB b ds q0).2 + 1) es) = linesM st long s.out ++ confM st long (putM isB b ds q0).1 ((putM isB b ds q0).2 ++ [q] ++ es)
            rw [hn2, List.append_assoc (putM isB b ds q0).2]
            show _ = linesM st long s.out ++ confM st long (putM isB b ds q0).1 ((putM isB b ds q0).2 ++ (q :: es))
            rw [← h3, hc1, ht, a1, sides_cons, markT_X, a2]
            simp
      | none =>
        rw [hd] at hs
        dsimp only at hs
        cases hf : fitM long t 62 [] with
        | none => rw [hf] at hs; cases hs
        | some ex =>
          rw [hf] at hs
          dsimp only at hs
          cases ho : openT ex s.cur with
          | none => rw [ho] at hs; cases hs
          | some q0 =>
            rw [ho] at hs
            injection hs with hs
            subst hs
            obtain ⟨a1, a2, a3⟩ := hpart ho
            obtain ⟨b1, b2⟩ := hput a3
            have ht := fit_eq hf
            refine ⟨.inr hst12, fun p hp => ?_, ?_, fun t ht => (nomatch ht), fun _ => ⟨.inr ⟨s.out, _, _, rfl⟩, fun sty hsty => ?_⟩, fun isB' b' ds' hx => by cases hx⟩
            · rcases List.mem_append.1 hp with hp | hp
              · exact h.okp p hp
              · exact .inl ⟨_, _, List.mem_singleton.1 hp, (hlen q0).2, by rw [(hlen q0).1]; exact i3, b1, b2⟩
            · show normal (s.out ++ [cPc _ _]) = _
              rw [normal_conf_end, h.nrm]
            · have hse : sty = st := by
                have := hsty.2
                dsimp only at this
                omega
              subst hse
              have h3 := hc2 q0 []
              show c ++ [t] = linesM sty long (s.out ++ [cPc (putM isB b ds q0).1 (putM isB b ds q0).2]) ++ []
              rw [List.append_nil] at h3
              rw [List.append_nil, lines_app, lines_conf, ← h3, hc1, ht, a1, sides_nil, markT_X, a2]
              simp
/-- One text, but for an open one at the end. -/
theorem UnIn.step (h1 : 1 ≤ long) (h : UnIn long s c) (hs : stepM long s t false = some s') : UnIn long s' (c ++ [t]) := by
  unfold stepM at hs
  cases hc : s.conf with
  | none =>
    rw [hc] at hs
    dsimp only at hs
    obtain ⟨h2, h3⟩ := h.out hc
    split at hs
    · split at hs
      · rename_i ht
        injection hs with hs
        subst hs
        refine ⟨h.sty, flush_ok h.okp h.cur, normal_flush h2 h.nrm _, fun t ht => (nomatch ht), fun hx => (nomatch hx), fun isB' b' ds' hx => ?_⟩
        injection hx with hx
        injection hx with hx1 hx2
        injection hx2 with hx2 hx3
        subst hx1
        subst hx2
        subst hx3
        refine ⟨part_nil, fun d hd => (nomatch hd), by simp [nM], fun hx => (nomatch hx), fun _ => ⟨rfl, fun sty hsty => ?_⟩, fun hx => (nomatch hx)⟩
        rw [h3 sty hsty, ht]
        show _ = linesM sty long (flushM s.out s.cur) ++ [markX 60 long false [32, 49]]
        rw [lines_flush]
      · cases hs
    · rename_i hr
      split at hs
      · rename_i hl
        injection hs with hs
        subst hs
        have hl : lnB t = true := by simpa using hl
        refine ⟨h.sty, h.okp, h.nrm, fun x hx => ?_, fun _ => ⟨h2, fun sty hsty => ?_⟩, fun isB' b' ds' hx => by cases hx⟩
        · rcases List.mem_append.1 hx with hx | hx
          · exact h.cur x hx
          · rw [List.mem_singleton.1 hx]; exact ⟨hl, by omega⟩
        · rw [h3 sty hsty]
          simp
      · cases hs
  | some x =>
    obtain ⟨isB, b, ds⟩ := x
    rw [hc] at hs
    dsimp only at hs
    split at hs
    · exact h.mark h1 hc hs
    · rename_i hr
      split at hs
      · rename_i hl
        injection hs with hs
        subst hs
        obtain ⟨i1, i2, i3, i4, i5, i6⟩ := h.ins isB b ds hc
        refine ⟨h.sty, h.okp, h.nrm, fun x hx => ?_, fun hx => (nomatch hx), fun isB' b' ds' hx => ?_⟩
        · rcases List.mem_append.1 hx with hx | hx
          · exact h.cur x hx
          · rw [List.mem_singleton.1 hx]; exact ⟨hl, by omega⟩
        · injection hx with hx
          injection hx with hx1 hx2
          injection hx2 with hx2 hx3
          subst hx1
          subst hx2
          subst hx3
          refine ⟨i1, i2, i3, i4, fun hf => ⟨(i5 hf).1, fun sty hsty => ?_⟩, fun hf => ?_⟩
          · rw [(i5 hf).2 sty hsty]
            simp
          · obtain ⟨k1, pre, k2, k3⟩ := i6 hf
            exact ⟨k1, pre, by rw [k2]; simp, k3⟩
      · cases hs

/-- What is read at last. -/
structure UnFin (long : Nat) (s : MSt) (c : Txs) : Prop where
  sty : s.style = 0 ∨ s.style = 1 ∨ s.style = 2
  okp : ∀ p ∈ s.out, PieceOk long p
  nrm : normal s.out = s.out
  cur : partB long s.cur
  conf : s.conf = none
  fin : ConfEnd s.out
  lines : ∀ sty, okSt s.style sty → c = linesM sty long s.out ++ s.cur
theorem UnIn.fin (h : UnIn long s c) (hc : s.conf = none) : UnFin long s c :=
  ⟨h.sty, h.okp, h.nrm, ⟨(lines_iff.2 fun t ht => (h.cur t ht).1).1, fun t ht => (h.cur t ht).2⟩, hc, (h.out hc).1, (h.out hc).2⟩
theorem walk_fin (h1 : 1 ≤ long) : ∀ {r c : Txs} {s s' : MSt} {i : Nat}, UnIn long s c → walkM long s r i = .ok s' → UnFin long s' (c ++ r)
  | [], c, s, s', i, h, hw => by
    unfold walkM at hw
    split at hw
    · cases hw
    · rename_i hc
      injection hw with hw
      subst hw
      rw [List.append_nil]
      exact h.fin (by simpa using hc)
  | t :: r, c, s, s', i, h, hw => by
    unfold walkM at hw
    cases hs : stepM long s t r.isEmpty with
    | none => rw [hs] at hw; cases hw
    | some s1 =>
      rw [hs] at hw
      dsimp only at hw
      cases hf : stepM long s t false with
      | some s2 =>
        have e : s2 = s1 := by
          unfold stepM at hs hf
          cases hc : s.conf with
          | none =>
            rw [hc] at hs hf
            dsimp only at hs hf
            split at hf
            · rename_i hr
              rw [if_pos hr] at hs
              rw [hf] at hs
              injection hs
            · rename_i hr
              rw [if_neg hr] at hs
              split at hf
              · rename_i hl
                rw [if_pos (by have : lnB t = true := by simpa using hl
                               simp [this])] at hs
                rw [hf] at hs
                injection hs
              · cases hf
          | some x =>
            rw [hc] at hs hf
            rw [hf] at hs
            injection hs
        subst e
        have := walk_fin h1 (h.step h1 hf) hw
        rwa [List.append_assoc] at this
      | none =>
        -- the last text, an open one
        unfold stepM at hs hf
        cases hc : s.conf with
        | some x =>
          rw [hc] at hs hf
          rw [hf] at hs
          cases hs
        | none =>
          rw [hc] at hs hf
          dsimp only at hs hf
          split at hf
          · rename_i hr
            rw [if_pos hr] at hs
            rw [hf] at hs
            cases hs
          · rename_i hr
            rw [if_neg hr] at hs
            split at hs
            · rename_i hl
              injection hs with hs
              subst hs
              split at hf
              · cases hf
              · rename_i hl2
                have hln : lnB t = false := by simpa using hl2
                rw [hln, Bool.false_or, Bool.and_eq_true] at hl
                obtain ⟨hl1, hl3⟩ := hl
                have hre : r = [] := by simpa using hl1
                subst hre
                unfold walkM at hw
                rw [if_neg (by simp)] at hw
                injection hw with hw
                subst hw
                obtain ⟨h2, h3⟩ := h.out hc
                have hL := lines_iff.2 fun t ht => (h.cur t ht).1
                refine ⟨h.sty, h.okp, h.nrm, ⟨may_join hL.1 hl3 hL.2, fun x hx => ?_⟩, rfl, h2, fun sty hsty => ?_⟩
                · rcases List.mem_append.1 hx with hx | hx
                  · exact (h.cur x hx).2
                  · rw [List.mem_singleton.1 hx]; omega
                · rw [h3 sty hsty]
                  simp
            · cases hs
theorem pieceOk_part {p : Pc} (h : PieceOk long p) : OkP p ∧ openB p.2.1 = false ∧ (p.1 = true → p.2.2.2 ≠ [] ∧ p.2.2.2.length ≤ 16) ∧ ∀ t, (t ∈ p.2.1 ∨ t ∈ p.2.2.1 ∨ ∃ d ∈ p.2.2.2, t ∈ d) → runN t < long := by
  rcases h with ⟨b, ds, rfl, h1, h2, h3, h4⟩ | ⟨t, rfl, h1, h2⟩
  · refine ⟨⟨rfl, h3.1, fun d hd => (h4 d hd).1⟩, rfl, fun _ => ⟨h1, h2⟩, fun t ht => ?_⟩
    rcases ht with ht | ht | ⟨d, hd, ht⟩
    · cases ht
    · exact h3.2 t ht
    · exact (h4 d hd).2 t ht
  · have hL := lines_iff.2 fun x hx => (h2 x hx).1
    refine ⟨⟨hL.1, rfl, fun d hd => (nomatch hd)⟩, hL.2, fun hx => (nomatch hx), fun x hx => ?_⟩
    rcases hx with hx | hx | ⟨d, hd, hx⟩
    · exact (h2 x hx).2
    · cases hx
    · cases hd
theorem forms_app {a : List Pc} {p : Pc} (ha : ∀ q ∈ a, OkP q ∧ openB q.2.1 = false) (hp : OkP p) : (listsP (a ++ [p])).all mayB = true ∧ ((a ++ [p]).dropLast.all fun p => !openB p.2.1) = true := by
  constructor
  · rw [List.all_eq_true]
    intro d hd
    obtain ⟨q, hq, hx⟩ := mem_lists.1 hd
    have hok : OkP q := by
      rcases List.mem_append.1 hq with hq | hq
      · exact (ha q hq).1
      · rw [List.mem_singleton.1 hq]; exact hp
    rcases hx with rfl | rfl | hx
    · exact hok.1
    · exact hok.2.1
    · exact hok.2.2 d hx
  · rw [List.dropLast_concat, List.all_eq_true]
    intro q hq
    rw [(ha q hq).2]
    rfl
/-- WHAT IS READ WAS PRINTED SO; and it may be printed. -/
theorem walk_one {l : Txs} {i : Nat} (h1 : 1 ≤ long) (h2 : long ≤ 4096) (hw : walkM long startM l i = .ok s) :
    (s.style = 0 ∨ s.style = 1 ∨ s.style = 2) ∧ linesM (max s.style 1) long (flushM s.out s.cur) = l ∧ wrongM (flushM s.out s.cur) (max s.style 1) long = 0 := by
  have h := walk_fin h1 UnIn.start hw
  rw [List.nil_append] at h
  have hst := h.sty
  refine ⟨hst, ?_, wrongM_none.2 ⟨by omega, ?_, ?_, fun hx => by omega, ?_⟩⟩
  · rw [lines_flush]
    exact (h.lines _ ⟨by omega, by omega⟩).symm
  · intro p hp hc
    unfold flushM at hp
    split at hp
    · exact (pieceOk_part (h.okp p hp)).2.2.1 hc
    · rcases List.mem_append.1 hp with hp | hp
      · exact (pieceOk_part (h.okp p hp)).2.2.1 hc
      · rw [List.mem_singleton.1 hp] at hc; cases hc
  · have hok : ∀ q ∈ s.out, OkP q ∧ openB q.2.1 = false := fun q hq => ⟨(pieceOk_part (h.okp q hq)).1, (pieceOk_part (h.okp q hq)).2.1⟩
    have hn := normal_flush h.fin h.nrm s.cur
    have hx : (listsP (flushM s.out s.cur)).all mayB = true ∧ ((flushM s.out s.cur).dropLast.all fun p => !openB p.2.1) = true := by
      unfold flushM
      split
      · constructor
        · rw [List.all_eq_true]
          intro d hd
          obtain ⟨q, hq, hx⟩ := mem_lists.1 hd
          have hok := (hok q hq).1
          rcases hx with rfl | rfl | hx
          · exact hok.1
          · exact hok.2.1
          · exact hok.2.2 d hx
        · rw [List.all_eq_true]
          intro q hq
          rw [(hok q (List.dropLast_subset _ hq)).2]
          rfl
      · exact forms_app hok ⟨h.cur.1, rfl, fun d hd => (nomatch hd)⟩
    unfold formB
    rw [Bool.and_eq_true, Bool.and_eq_true, decide_eq_true_eq]
    exact ⟨⟨hn.symm, hx.1⟩, hx.2⟩
  · refine fits_iff.2 ⟨by omega, fun t ht => ?_⟩
    obtain ⟨p, hp, hx⟩ := mem_lines.1 ht
    have : runN t < long := by
      unfold flushM at hp
      split at hp
      · exact (pieceOk_part (h.okp p hp)).2.2.2 t hx
      · rcases List.mem_append.1 hp with hp | hp
        · exact (pieceOk_part (h.okp p hp)).2.2.2 t hx
        · rw [List.mem_singleton.1 hp] at hx
          rcases hx with hx | hx | ⟨d, hd, hx⟩
          · exact h.cur.2 t hx
          · cases hx
          · cases hd
    omega
end
end Go.Proofs.YtcpopnhnihbofaaGreatDoor
