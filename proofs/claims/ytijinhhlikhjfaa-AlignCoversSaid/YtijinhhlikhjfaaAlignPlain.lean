/- Proved here, without conditions: how chunks of matches come about, a run of stable places after the other. -/
import Derived.Test.YtijinhhlikhjfaaAlignOk
namespace Go.Proofs.Ytijinhhlikhjfaa
set_option linter.unusedVariables false

/-- With which places the matches pair place k, and one behind these. -/
def plAll (ms : List (List Int)) (k : Int) : List Int := ms.map fun l => pl l k
def plUp (ms : List (List Int)) (k : Int) : List Int := ms.map fun l => pl l k + 1
/-- The chunk from the places b and a up to the places e and f. -/
def ckOf (st : Bool) (b e : Int) (a f : List Int) : Ck := (st, (b, e), List.zip a f)
def putC (cs : List Ck) (c : Ck) : List Ck := if emptyB c then cs else cs ++ [c]

theorem plAll_len (ms : List (List Int)) (k : Int) : (plAll ms k).length = ms.length := by simp [plAll]
theorem plUp_len (ms : List (List Int)) (k : Int) : (plUp ms k).length = ms.length := by simp [plUp]
theorem plAll_at {ms : List (List Int)} {k v : Int} {s : Nat} (h : (plAll ms k)[s]? = some v) : ∃ l, ms[s]? = some l ∧ v = pl l k := by
  unfold plAll at h
  rw [List.getElem?_map] at h
  cases hc : ms[s]? with
  | none => rw [hc] at h; cases h
  | some l => rw [hc] at h; exact ⟨l, rfl, by simpa using h.symm⟩
theorem plUp_at {ms : List (List Int)} {k v : Int} {s : Nat} (h : (plUp ms k)[s]? = some v) : ∃ l, ms[s]? = some l ∧ v = pl l k + 1 := by
  unfold plUp at h
  rw [List.getElem?_map] at h
  cases hc : ms[s]? with
  | none => rw [hc] at h; cases h
  | some l => rw [hc] at h; exact ⟨l, rfl, by simpa using h.symm⟩
theorem zip_at {a f : List Int} {s : Nat} {sp : Sp} (h : (List.zip a f)[s]? = some sp) : a[s]? = some sp.1 ∧ f[s]? = some sp.2 := by
  rw [List.getElem?_zip_eq_some] at h
  exact h
theorem zip_ends {a f : List Int} (h : a.length = f.length) (st : Bool) (b e : Int) : ends (ckOf st b e a f) = f := by
  unfold ends ckOf
  exact List.map_snd_zip (by omega)
theorem allP_mem {ms : List (List Int)} {k : Int} (h : allP ms k = true) {l : List Int} (hl : l ∈ ms) : 0 ≤ pl l k := by
  unfold allP at h
  rw [List.all_eq_true] at h
  simpa using h l hl
theorem allP_of {ms : List (List Int)} {k : Int} (h : ∀ l ∈ ms, 0 ≤ pl l k) : allP ms k = true := by
  unfold allP
  rw [List.all_eq_true]
  intro l hl
  simpa using h l hl
theorem pl_get {l : List Int} {k : Int} (h : 0 ≤ pl l k) : l[k.toNat]? = some (pl l k) := by
  unfold pl at *
  cases hc : l[k.toNat]? with
  | none => rw [hc] at h; simp at h
  | some v => rfl
/-- Matches rise. -/
theorem rises {m : Nat} {l : List Int} {z i j : Int} (h : IsMatch m l z) (hi0 : 0 ≤ i) (hij : i < j) (hi : 0 ≤ pl l i) (hj : 0 ≤ pl l j) : pl l i < pl l j := by
  have gi := pl_get hi
  have gj := pl_get hj
  obtain ⟨hi1, hi2⟩ := List.getElem?_eq_some_iff.1 gi
  obtain ⟨hj1, hj2⟩ := List.getElem?_eq_some_iff.1 gj
  have := (List.pairwise_iff_getElem.1 h.2.2) i.toNat j.toNat hi1 hj1 (by omega)
  rw [hi2, hj2] at this
  exact this (by omega) (by omega)
theorem pl_lt {m : Nat} {l : List Int} {z i : Int} (h : IsMatch m l z) (hi : 0 ≤ pl l i) : pl l i < z :=
  (h.2.1 _ (List.mem_of_getElem? (pl_get hi)) (by omega)).2

/-- Chunks have come as far as place b of the base, and the places a of the sides. -/
structure CutIn (m : Nat) (sizes : List Int) (ms : List (List Int)) (cs : List Ck) (p : Option Bool) (b : Int) (a : List Int) : Prop where
  cont : ∀ rest, Cov m sizes rest p b a → Cov m sizes (cs ++ rest) none 0 (List.replicate sizes.length 0)
  places : ∀ c ∈ cs, Places ms c
  len : a.length = sizes.length
  b0 : 0 ≤ b
  bm : b ≤ m
  mode : (p = none ∧ b = 0 ∧ a = List.replicate sizes.length 0) ∨ (p = some true ∧ 0 < b ∧ allP ms (b - 1) = true ∧ a = plUp ms (b - 1) ∧ (b < m → ∃ l ∈ ms, pl l b ≠ pl l (b - 1) + 1))

section
variable {m : Nat} {sizes : List Int} {ms : List (List Int)} {cs : List Ck} {p : Option Bool} {b : Int} {a : List Int}
theorem CutIn.start (m : Nat) (sizes : List Int) (ms : List (List Int)) : CutIn m sizes ms [] none 0 (List.replicate sizes.length 0) :=
  ⟨fun rest h => h, fun c h => by simp at h, by simp, Int.le_refl _, by omega, .inl ⟨rfl, rfl, rfl⟩⟩
theorem empty_parts {st : Bool} {b e : Int} {a f : List Int} (h : emptyB (ckOf st b e a f) = true) : ¬ b < e ∧ ∀ (s : Nat) (u v : Int), a[s]? = some u → f[s]? = some v → ¬ u < v := by
  unfold emptyB ckOf at h
  simp only [Bool.not_eq_true', Bool.or_eq_false_iff, decide_eq_false_iff_not, List.any_eq_false, decide_eq_true_eq] at h
  refine ⟨h.1, fun s u v hu hv => ?_⟩
  exact h.2 (u, v) (List.mem_of_getElem? (List.getElem?_zip_eq_some.2 ⟨hu, hv⟩))
theorem full_of {st : Bool} {b e : Int} {a f : List Int} (h : b < e) : emptyB (ckOf st b e a f) = false := by
  unfold emptyB ckOf
  simp [h]
theorem head_of {st : Bool} {b e : Int} {a f : List Int} {p : Option Bool} (hl : a.length = f.length) (hbe : b ≤ e) (hp : p ≠ some st) (hf : emptyB (ckOf st b e a f) = false)
    (hs : ∀ (s : Nat) (u v : Int), a[s]? = some u → f[s]? = some v → u ≤ v ∧ (st = true → v - u = e - b)) : Head (ckOf st b e a f) p b a := by
  refine ⟨rfl, hbe, ?_, hp, hf, fun s sp v h1 h2 => ?_⟩
  · show (List.zip a f).length = a.length
    rw [List.length_zip]
    omega
  · obtain ⟨q1, q2⟩ := zip_at h1
    rw [h2] at q1
    injection q1 with q1
    obtain ⟨q3, q4⟩ := hs s v sp.2 h2 q2
    exact ⟨q1.symm, q3, fun h => by rw [← q1]; exact q4 h⟩
/-- Sides go on, never back. -/
theorem CutIn.ahead (hm : ∀ (k : Nat) (l : List Int) (z : Int), ms[k]? = some l → sizes[k]? = some z → IsMatch m l z) (hml : ms.length = sizes.length) (h : CutIn m sizes ms cs p b a) {e : Int} (hbe : b ≤ e) (he : allP ms e = true) {s : Nat} {u : Int} {l : List Int} (hu : a[s]? = some u) (hl : ms[s]? = some l) : u ≤ pl l e := by
  have hle := allP_mem he (List.mem_of_getElem? hl)
  rcases h.mode with ⟨-, -, rfl⟩ | ⟨-, h0, h1, rfl, -⟩
  · rw [List.getElem?_replicate] at hu
    split at hu
    · injection hu with hu; omega
    · cases hu
  · obtain ⟨l', hl', rfl⟩ := plUp_at hu
    rw [hl] at hl'
    injection hl' with hl'
    subst hl'
    have hs := (List.getElem?_eq_some_iff.1 hl).1
    have hz : sizes[s]? = some sizes[s] := List.getElem?_eq_getElem (by omega)
    have := rises (hm s l _ hl hz) (i := b - 1) (j := e) (by omega) (by omega) (allP_mem h1 (List.mem_of_getElem? hl)) hle
    omega

/-- What isn't stable, up to a run, and the run. -/
theorem CutIn.step (hm : ∀ (k : Nat) (l : List Int) (z : Int), ms[k]? = some l → sizes[k]? = some z → IsMatch m l z) (hml : ms.length = sizes.length) (h : CutIn m sizes ms cs p b a) {e t : Int} (hbe : b ≤ e) (het : e < t) (htm : t ≤ m)
    (hno : ∀ k, b ≤ k → k < e → allP ms k = false) (he : allP ms e = true) (hrun : ∀ k, e < k → k < t → ∀ l ∈ ms, pl l k = pl l (k - 1) + 1) (hend : t < m → ∃ l ∈ ms, pl l t ≠ pl l (t - 1) + 1) :
    CutIn m sizes ms (putC (putC cs (ckOf false b e a (plAll ms e))) (ckOf true e t (plAll ms e) (plUp ms (t - 1)))) (some true) t (plUp ms (t - 1)) := by
  have hpl : ∀ (d : Nat), e + d < t → ∀ l ∈ ms, pl l (e + d) = pl l e + d := by
    intro d
    induction d with
    | zero => intro _ l _; simp
    | succ d ih =>
      intro hd l hl
      have h1 := ih (by push_cast at hd; omega) l hl
      have h2 := hrun (e + (d + 1 : Nat)) (by push_cast; omega) hd l hl
      rw [show e + ((d + 1 : Nat) : Int) - 1 = e + d by push_cast; omega, h1] at h2
      rw [h2]; push_cast; omega
  have hpk : ∀ k, e ≤ k → k < t → ∀ l ∈ ms, pl l k = pl l e + (k - e) := by
    intro k h1 h2 l hl
    have := hpl (k - e).toNat (by omega) l hl
    rw [show e + ((k - e).toNat : Int) = k by omega] at this
    rw [this]; omega
  have hst : ∀ k, e ≤ k → k < t → allP ms k = true := fun k h1 h2 => allP_of fun l hl => by
    rw [hpk k h1 h2 l hl]
    have := allP_mem he hl
    omega
  have hlen := h.len
  have hl1 : a.length = (plAll ms e).length := by rw [plAll_len]; omega
  have hl2 : (plAll ms e).length = (plUp ms (t - 1)).length := by rw [plAll_len, plUp_len]
  have hc2 : emptyB (ckOf true e t (plAll ms e) (plUp ms (t - 1))) = false := full_of het
  have hb0 := h.b0
  have hP1 : Places ms (ckOf false b e a (plAll ms e)) := fun k h1 h2 => ⟨hno k h1 h2, fun h => by cases h⟩
  have hP2 : Places ms (ckOf true e t (plAll ms e) (plUp ms (t - 1))) := fun k h1 h2 => ⟨hst k h1 h2, fun _ s l sp hl hs => by
    obtain ⟨q1, q2⟩ := zip_at hs
    obtain ⟨l', hl', e1⟩ := plAll_at q1
    rw [hl] at hl'
    injection hl' with hl'
    subst hl'
    have := hpk k h1 h2 l (List.mem_of_getElem? hl)
    have e2 : (ckOf true e t (plAll ms e) (plUp ms (t - 1))).2.1.1 = e := rfl
    rw [e2, e1]
    omega⟩
  have hH2 : ∀ q, q ≠ some true → Head (ckOf true e t (plAll ms e) (plUp ms (t - 1))) q e (plAll ms e) := fun q hq =>
    head_of hl2 (by omega) hq hc2 fun s u v hu hv => by
      obtain ⟨l, hl, rfl⟩ := plAll_at hu
      obtain ⟨l', hl', rfl⟩ := plUp_at hv
      rw [hl] at hl'
      injection hl' with hl'
      subst hl'
      have := hpk (t - 1) (by omega) (by omega) l (List.mem_of_getElem? hl)
      exact ⟨by omega, fun _ => by omega⟩
  have hmode : (some true : Option Bool) = none ∧ t = 0 ∧ plUp ms (t - 1) = List.replicate sizes.length 0 ∨ (some true : Option Bool) = some true ∧ 0 < t ∧ allP ms (t - 1) = true ∧ plUp ms (t - 1) = plUp ms (t - 1) ∧ (t < m → ∃ l ∈ ms, pl l t ≠ pl l (t - 1) + 1) :=
    .inr ⟨rfl, by omega, hst _ (by omega) (by omega), rfl, hend⟩
  have hzip2 : ends (ckOf true e t (plAll ms e) (plUp ms (t - 1))) = plUp ms (t - 1) := zip_ends hl2 _ _ _
  by_cases hem : emptyB (ckOf false b e a (plAll ms e)) = true
  · obtain ⟨p1, p2⟩ := empty_parts hem
    obtain rfl : b = e := by omega
    have ha : a = plAll ms b := by
      refine List.ext_getElem? fun s => ?_
      rcases Nat.lt_or_ge s a.length with hs | hs
      · have hu : a[s]? = some a[s] := List.getElem?_eq_getElem hs
        have hl : ms[s]? = some ms[s] := List.getElem?_eq_getElem (by omega)
        have hv : (plAll ms b)[s]? = some (pl ms[s] b) := by unfold plAll; rw [List.getElem?_map, hl]; rfl
        have k1 := h.ahead hm hml (Int.le_refl b) he hu hl
        have k2 := p2 s _ _ hu hv
        rw [hu, hv]
        congr 1
        omega
      · rw [List.getElem?_eq_none hs, List.getElem?_eq_none (by omega)]
    have hpn : p ≠ some true := by
      intro hp
      rcases h.mode with ⟨q, -, -⟩ | ⟨-, q0, q1, q2, q3⟩
      · rw [q] at hp; cases hp
      · obtain ⟨l, hl, hne⟩ := q3 (by omega)
        obtain ⟨s, hs⟩ := List.mem_iff_getElem?.1 hl
        have e1 : a[s]? = some (pl l b) := by rw [ha]; unfold plAll; rw [List.getElem?_map, hs]; rfl
        have e2 : a[s]? = some (pl l (b - 1) + 1) := by rw [q2]; unfold plUp; rw [List.getElem?_map, hs]; rfl
        rw [e1] at e2
        injection e2 with e2
        exact hne e2
    unfold putC
    rw [if_pos hem, if_neg (by rw [hc2]; simp)]
    refine ⟨fun rest hr => ?_, fun c hc => ?_, by rw [plUp_len]; omega, by omega, by omega, hmode⟩
    · rw [List.append_assoc]
      refine h.cont _ ⟨?_, ?_⟩
      · rw [ha]; exact hH2 p hpn
      · rw [hzip2]; exact hr
    · rcases List.mem_append.1 hc with hc | hc
      · exact h.places c hc
      · rw [List.mem_singleton.1 hc]; exact hP2
  · have hemf : emptyB (ckOf false b e a (plAll ms e)) = false := by simpa using hem
    unfold putC
    rw [if_neg hem, if_neg (by rw [hc2]; simp)]
    refine ⟨fun rest hr => ?_, fun c hc => ?_, by rw [plUp_len]; omega, by omega, by omega, hmode⟩
    · rw [List.append_assoc, List.append_assoc]
      refine h.cont _ ⟨head_of hl1 hbe ?_ hemf fun s u v hu hv => ?_, ?_⟩
      · rcases h.mode with ⟨q, -, -⟩ | ⟨q, -⟩ <;> rw [q] <;> simp
      · obtain ⟨l, hl, rfl⟩ := plAll_at hv
        exact ⟨h.ahead hm hml hbe he hu hl, fun h => by cases h⟩
      · rw [zip_ends hl1]
        exact ⟨hH2 _ (by show some false ≠ some true; simp), by rw [hzip2]; exact hr⟩
    · rcases List.mem_append.1 hc with hc | hc
      · rcases List.mem_append.1 hc with hc | hc
        · exact h.places c hc
        · rw [List.mem_singleton.1 hc]; exact hP1
      · rw [List.mem_singleton.1 hc]; exact hP2

/-- What lies behind the last run. -/
theorem CutIn.finish (hm : ∀ (k : Nat) (l : List Int) (z : Int), ms[k]? = some l → sizes[k]? = some z → IsMatch m l z) (hml : ms.length = sizes.length) (hz : ∀ z ∈ sizes, 0 ≤ z) (h : CutIn m sizes ms cs p b a)
    (hno : ∀ k, b ≤ k → k < m → allP ms k = false) : IsCut m sizes ms (putC cs (ckOf false b m a sizes)) := by
  have hlen := h.len
  have hbm := h.bm
  have hle : ∀ (s : Nat) (u z : Int), a[s]? = some u → sizes[s]? = some z → u ≤ z := by
    intro s u z hu hzs
    rcases h.mode with ⟨-, -, rfl⟩ | ⟨-, h0, h1, rfl, -⟩
    · rw [List.getElem?_replicate] at hu
      split at hu
      · injection hu with hu
        have := hz z (List.mem_of_getElem? hzs)
        omega
      · cases hu
    · obtain ⟨l, hl, rfl⟩ := plUp_at hu
      have := pl_lt (hm s l z hl hzs) (allP_mem h1 (List.mem_of_getElem? hl))
      omega
  have hP : Places ms (ckOf false b m a sizes) := fun k h1 h2 => ⟨hno k h1 h2, fun h => by cases h⟩
  by_cases hem : emptyB (ckOf false b m a sizes) = true
  · obtain ⟨p1, p2⟩ := empty_parts hem
    have ha : a = sizes := by
      refine List.ext_getElem? fun s => ?_
      rcases Nat.lt_or_ge s a.length with hs | hs
      · have hu : a[s]? = some a[s] := List.getElem?_eq_getElem hs
        have hv : sizes[s]? = some sizes[s] := List.getElem?_eq_getElem (by omega)
        have k1 := hle s _ _ hu hv
        have k2 := p2 s _ _ hu hv
        rw [hu, hv]
        congr 1
        omega
      · rw [List.getElem?_eq_none hs, List.getElem?_eq_none (by omega)]
    unfold putC
    rw [if_pos hem]
    refine ⟨?_, h.places⟩
    have := h.cont [] ⟨ha, by omega⟩
    rwa [List.append_nil] at this
  · have hemf : emptyB (ckOf false b m a sizes) = false := by simpa using hem
    unfold putC
    rw [if_neg hem]
    refine ⟨h.cont _ ⟨head_of (by omega) hbm ?_ hemf fun s u v hu hv => ⟨hle s u v hu hv, fun h => by cases h⟩, ?_⟩, fun c hc => ?_⟩
    · rcases h.mode with ⟨q, -, -⟩ | ⟨q, -⟩ <;> rw [q] <;> simp
    · rw [zip_ends (by omega)]
      exact ⟨rfl, rfl⟩
    · rcases List.mem_append.1 hc with hc | hc
      · exact h.places c hc
      · rw [List.mem_singleton.1 hc]; exact hP
end
end Go.Proofs.Ytijinhhlikhjfaa
