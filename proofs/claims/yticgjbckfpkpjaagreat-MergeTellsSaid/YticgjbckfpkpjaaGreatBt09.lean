/- Proved here: texts joined: MgOk, AlignPlain. -/
import Derived.Test.YticgjbckfpkpjaaGreatBt03
import Derived.Test.YticgjbckfpkpjaaGreatBt05
import Derived.Test.YticgjbckfpkpjaaGreatBt08
import Derived.Deep.DeepCutAuto
import Derived.Outline
/- Proved here: what the statements of layer 8 ask of package merge, together; the statements' own example comes to true. -/
namespace Go.Proofs.YticgjbckfpkpjaaGreat
open Go.RowKit
set_option linter.unusedVariables false

/-- The contracts of package merge (and of what the statements call of package pick). -/
structure MergeOk : Prop where
  merge_ok : MergeMergeOk
  choose_ok : PickChooseOk
  clean_ok : PickCleanOk

section
variable (H : MergeOk)
include H

set_option maxRecDepth 100000 in
set_option maxHeartbeats 1000000 in
theorem aw_callS (b : Nat) (W : World) (hb : TxR W W.heap.size (some ⟨b, 0, none⟩, 3, 3) awB) :
    Calls Tryz.prog 15 #[.slice (some ⟨b, 0, none⟩) 3 3, .slice (some ⟨W.heap.size + 1 + 1, 0, none⟩) 2 2, .agg #[.int .i64 0, .bool false]]
      (((W.alloc (.cells #[.string ⟨#[120, 10]⟩, .string ⟨#[98, 10]⟩, .string ⟨#[99, 10]⟩] 9)).alloc (.cells #[.string ⟨#[97, 10]⟩, .string ⟨#[98, 10]⟩, .string ⟨#[121, 10]⟩] 9)).alloc (.cells #[.slice (some ⟨W.heap.size, 0, none⟩) 3 3, .slice (some ⟨W.heap.size + 1, 0, none⟩) 3 3] 22))
      fun e w' => ∃ A c vs, e = .returned (.tuple #[.slice A 1 c, .int .i64 0]) ∧ Pcs w' w'.heap.size A 1 vs [tPc [lnX, lnB, lnY]] ∧ Below W.heap.size W w' := by
  obtain ⟨W2, hW2⟩ : ∃ W2, W2 = (((W.alloc (.cells #[.string ⟨#[120, 10]⟩, .string ⟨#[98, 10]⟩, .string ⟨#[99, 10]⟩] 9)).alloc (.cells #[.string ⟨#[97, 10]⟩, .string ⟨#[98, 10]⟩, .string ⟨#[121, 10]⟩] 9)).alloc (.cells #[.slice (some ⟨W.heap.size, 0, none⟩) 3 3, .slice (some ⟨W.heap.size + 1, 0, none⟩) 3 3] 22)) := ⟨_, rfl⟩
  have a0 : W2.heap[W.heap.size]? = some (.cells #[.string ⟨#[120, 10]⟩, .string ⟨#[98, 10]⟩, .string ⟨#[99, 10]⟩] 9 (0, 0)) := by rw [hW2]; simp only [push_at, push_size]; repeat (first | rw [if_pos trivial] | rw [if_pos (by omega)] | rw [if_neg (by omega)])
  have a1 : W2.heap[W.heap.size + 1]? = some (.cells #[.string ⟨#[97, 10]⟩, .string ⟨#[98, 10]⟩, .string ⟨#[121, 10]⟩] 9 (0, 0)) := by rw [hW2]; simp only [push_at, push_size]; repeat (first | rw [if_pos trivial] | rw [if_pos (by omega)] | rw [if_neg (by omega)])
  have a2 : W2.heap[W.heap.size + 1 + 1]? = some (.cells #[.slice (some ⟨W.heap.size, 0, none⟩) 3 3, .slice (some ⟨W.heap.size + 1, 0, none⟩) 3 3] 22 (0, 0)) := by rw [hW2]; simp only [push_at, push_size]; repeat (first | rw [if_pos trivial] | rw [if_pos (by omega)] | rw [if_neg (by omega)])
  have hB : Below W.heap.size W W2 := by rw [hW2]; exact (((Below.refl _ W).alloc (Nat.le_refl _) _).alloc (by simp) _).alloc (by simp; omega) _
  rw [← hW2]
  refine (H.merge_ok _ 3 3 awB _ 2 2 [(some ⟨W.heap.size, 0, none⟩, 3, 3), (some ⟨W.heap.size + 1, 0, none⟩, 3, 3)] awS 0 false W2 (Nat.le_refl _) (by decide) (by unfold inR64; omega) (by unfold smallM; decide) (hb.up hB) (rowsT_of a2 rfl rfl rfl (fun k r ss h1 h2 => ?_))).mono ?_
  · match k, h1, h2 with
    | 0, h1, h2 => simp [awS] at h1 h2; subst h1; subst h2; exact txr_of a0 rfl rfl (by decide)
    | 1, h1, h2 => simp [awS] at h1 h2; subst h1; subst h2; exact txr_of a1 rfl rfl (by decide)
    | k + 2, h1, h2 => simp at h1
  · rintro e w' ⟨er, A1, n1, c1, vs, ps, rfl, h1, h2, hP, hM, hb1⟩
    obtain ⟨rfl, rfl⟩ := aw_one hM
    have hn : n1 = 1 := by have := hP.len; simpa using this.symm
    subst hn
    exact ⟨A1, c1, vs, rfl, hP, hB.trans (hb1.mono hB.size)⟩
set_option maxRecDepth 100000 in
set_option maxHeartbeats 1000000 in
theorem aw_callT (b : Nat) (W : World) (hb : TxR W W.heap.size (some ⟨b, 0, none⟩, 3, 3) awB) :
    Calls Tryz.prog 15 #[.slice (some ⟨b, 0, none⟩) 3 3, .slice (some ⟨W.heap.size + 1 + 1, 0, none⟩) 2 2, .agg #[.int .i64 0, .bool false]]
      (((W.alloc (.cells #[.string ⟨#[120, 10]⟩, .string ⟨#[98, 10]⟩, .string ⟨#[99, 10]⟩] 9)).alloc (.cells #[.string ⟨#[122, 10]⟩, .string ⟨#[98, 10]⟩, .string ⟨#[121, 10]⟩] 9)).alloc (.cells #[.slice (some ⟨W.heap.size, 0, none⟩) 3 3, .slice (some ⟨W.heap.size + 1, 0, none⟩) 3 3] 22))
      fun e w' => ∃ A c vs, e = .returned (.tuple #[.slice A 2 c, .int .i64 0]) ∧ Pcs w' w'.heap.size A 2 vs [cPc [lnA] [[lnX], [lnZ]], tPc [lnB, lnY]] ∧ Below W.heap.size W w' := by
  obtain ⟨W2, hW2⟩ : ∃ W2, W2 = (((W.alloc (.cells #[.string ⟨#[120, 10]⟩, .string ⟨#[98, 10]⟩, .string ⟨#[99, 10]⟩] 9)).alloc (.cells #[.string ⟨#[122, 10]⟩, .string ⟨#[98, 10]⟩, .string ⟨#[121, 10]⟩] 9)).alloc (.cells #[.slice (some ⟨W.heap.size, 0, none⟩) 3 3, .slice (some ⟨W.heap.size + 1, 0, none⟩) 3 3] 22)) := ⟨_, rfl⟩
  have a0 : W2.heap[W.heap.size]? = some (.cells #[.string ⟨#[120, 10]⟩, .string ⟨#[98, 10]⟩, .string ⟨#[99, 10]⟩] 9 (0, 0)) := by rw [hW2]; simp only [push_at, push_size]; repeat (first | rw [if_pos trivial] | rw [if_pos (by omega)] | rw [if_neg (by omega)])
  have a1 : W2.heap[W.heap.size + 1]? = some (.cells #[.string ⟨#[122, 10]⟩, .string ⟨#[98, 10]⟩, .string ⟨#[121, 10]⟩] 9 (0, 0)) := by rw [hW2]; simp only [push_at, push_size]; repeat (first | rw [if_pos trivial] | rw [if_pos (by omega)] | rw [if_neg (by omega)])
  have a2 : W2.heap[W.heap.size + 1 + 1]? = some (.cells #[.slice (some ⟨W.heap.size, 0, none⟩) 3 3, .slice (some ⟨W.heap.size + 1, 0, none⟩) 3 3] 22 (0, 0)) := by rw [hW2]; simp only [push_at, push_size]; repeat (first | rw [if_pos trivial] | rw [if_pos (by omega)] | rw [if_neg (by omega)])
  have hB : Below W.heap.size W W2 := by rw [hW2]; exact (((Below.refl _ W).alloc (Nat.le_refl _) _).alloc (by simp) _).alloc (by simp; omega) _
  rw [← hW2]
  refine (H.merge_ok _ 3 3 awB _ 2 2 [(some ⟨W.heap.size, 0, none⟩, 3, 3), (some ⟨W.heap.size + 1, 0, none⟩, 3, 3)] awT 0 false W2 (Nat.le_refl _) (by decide) (by unfold inR64; omega) (by unfold smallM; decide) (hb.up hB) (rowsT_of a2 rfl rfl rfl (fun k r ss h1 h2 => ?_))).mono ?_
  · match k, h1, h2 with
    | 0, h1, h2 => simp [awT] at h1 h2; subst h1; subst h2; exact txr_of a0 rfl rfl (by decide)
    | 1, h1, h2 => simp [awT] at h1 h2; subst h1; subst h2; exact txr_of a1 rfl rfl (by decide)
    | k + 2, h1, h2 => simp at h1
  · rintro e w' ⟨er, A1, n1, c1, vs, ps, rfl, h1, h2, hP, hM, hb1⟩
    obtain ⟨rfl, rfl⟩ := aw_two hM
    have hn : n1 = 2 := by have := hP.len; simpa using this.symm
    subst hn
    exact ⟨A1, c1, vs, rfl, hP, hB.trans (hb1.mono hB.size)⟩
theorem aw_callN (b : Nat) (W : World) (hb : TxR W W.heap.size (some ⟨b, 0, none⟩, 3, 3) awB) :
    Calls Tryz.prog 15 #[.slice (some ⟨b, 0, none⟩) 3 3, .slice none 0 0, .agg #[.int .i64 0, .bool false]] W fun e w' => ∃ A n c, e = .returned (.tuple #[.slice A n c, .int .i64 1]) ∧ Below W.heap.size W w' := by
  refine (H.merge_ok _ 3 3 awB _ 0 0 [] [] 0 false W (Nat.le_refl _) (by decide) (by unfold inR64; omega) (by unfold smallM; decide) hb (RowsT.nil _ _ _)).mono ?_
  rintro e w' ⟨er, A1, n1, c1, vs, ps, rfl, h1, h2, hP, hM, hb1⟩
  obtain ⟨rfl, rfl⟩ := aw_three hM
  exact ⟨A1, n1, c1, rfl, hb1⟩

set_option maxRecDepth 100000 in
set_option maxHeartbeats 4000000 in
theorem mAwake_any (w : World) : Calls Tryz.prog 10 #[] w fun e w' => e = .returned (.bool true) ∧ Below w.heap.size w w' := by
  obtain ⟨W1, hW1⟩ : ∃ W1, W1 = w.alloc (.cells #[.string ⟨#[97, 10]⟩, .string ⟨#[98, 10]⟩, .string ⟨#[99, 10]⟩] 9) := ⟨_, rfl⟩
  have a0 : W1.heap[w.heap.size]? = some (.cells #[.string ⟨#[97, 10]⟩, .string ⟨#[98, 10]⟩, .string ⟨#[99, 10]⟩] 9 (0, 0)) := by rw [hW1]; exact one_a w _
  have hb0 : Below w.heap.size w W1 := by rw [hW1]; exact (Below.refl _ w).alloc (Nat.le_refl _) _
  have hbase : Hid (TxR W1 W1.heap.size (some ⟨w.heap.size, 0, none⟩, 3, 3) awB) := Lib.hid (txr_of a0 rfl rfl (by decide))
  have hC1 := Lib.hid (aw_callS H w.heap.size W1 hbase.out)
  have hC2 := Lib.hid (fun (V : World) (hV : Below W1.heap.size W1 V) => aw_callT H w.heap.size V (hbase.out.up hV))
  have hC3 := Lib.hid (fun (V : World) (hV : Below W1.heap.size W1 V) => aw_callN H w.heap.size V (hbase.out.up hV))
  have hb0h := Lib.hid hb0
  have hW1h := Lib.hid hW1
  have tok1 := trivial
  have tok2 := trivial
  clear hW1 a0 hb0 hbase
  go_enter Tryz.func10, Tryz.ntmps10
  go_upto_region 2 with fail
  rw [← hW1h.out]
  go_upto_region 5 with (first
    | (go_at_call 15; have _t := tok1; refine hC1.out.mono ?_; rintro e w1 ⟨A1, c1, vs1, rfl, hP1, hb1⟩; have hP1h := Lib.hid hP1; have hB1 := Lib.hid hb1; clear tok1 hP1 hb1)
    | (go_at_call 15; have _t := tok2; refine (hC2.out _ hB1.out).mono ?_; rintro e w2 ⟨A2, c2, vs2, rfl, hP2, hb2⟩; have hP2h := Lib.hid hP2; have hB2 := Lib.hid (hB1.out.trans (hb2.mono hB1.out.size)); have hP1k := Lib.hid (hP1h.out.up hb2); clear tok2 hP2 hb2 hP1h)
    | (go_at_call 15; refine (hC3.out _ hB2.out).mono ?_; rintro e w3 ⟨A3, n3, c3, rfl, hb3⟩; have hB3 := Lib.hid (hB2.out.trans (hb3.mono hB2.out.size)); have hP1l := Lib.hid (hP1k.out.up hb3); have hP2l := Lib.hid (hP2h.out.up hb3); clear hb3 hP1k hP2h))
  obtain ⟨b, o, cf, At, nt, ct, Ab, nb, cb, As, ns, cs, t, bs, ss, rfl, hb, hv, hp, q1, q2, q3, q4, ⟨j1, j2, j3⟩, -, -⟩ := hP1l.out.at_ (k := 0) (by omega)
  simp [tPc] at hp
  obtain ⟨rfl, rfl, rfl, rfl⟩ := hp
  dsimp only at j1 j2 j3
  have hnt : nt = 3 := by have := j3.len; simpa using this.symm
  subst hnt
  obtain ⟨bx, ox, sx, rfl, hbx, hsx, hcx⟩ := j3.at_ (k := 2) (by omega)
  have hsx' : sx = lnY := by simpa using hsx.symm
  subst hsx'
  obtain ⟨b2, o2, cf2, At2, nt2, ct2, Ab2, nb2, cb2, As2, ns2, cs2, t2, bs2, ss2, rfl, hb2, hv2, hp2, r1, r2, r3, r4, -⟩ := hP2l.out.at_ (k := 0) (by omega)
  simp [cPc] at hp2
  obtain ⟨rfl, rfl, rfl, rfl⟩ := hp2
  obtain ⟨b4, o4, cf4, At4, nt4, ct4, Ab4, nb4, cb4, As4, ns4, cs4, t4, bs4, ss4, he4, hb4, hv4, hp4, s1, s2, s3, s4, ⟨k1, k2, k3⟩, -, -⟩ := hP2l.out.at_ (k := 1) (by omega)
  injection he4 with he4
  injection he4 with he5 he6
  subst he5
  subst he6
  simp [tPc] at hp4
  obtain ⟨rfl, rfl, rfl, rfl⟩ := hp4
  dsimp only at k3
  have hnt4 : nt4 = 2 := by have := k3.len; simpa using this.symm
  subst hnt4
  have hcy : w3.cell? ⟨bx, ox + 2, none⟩ = some (.string ⟨#[121, 10]⟩) := hcx
  clear hcx
  simp only [Nat.zero_mul, Nat.add_zero, Nat.one_mul] at q1 q2 q3 q4 r1 r2 r3 r4 s1 s2 s3 s4
  have hfin := Lib.hid (hb0h.out.trans (hB3.out.mono hb0h.out.size))
  clear j1 j2 j3 k1 k2 k3 hsx hv hv2 hv4 hP1l hP2l q3 q4 r2 r3 r4 s1 s3 s4
  go_wp2
  go_ret
  exact ⟨rfl, hfin.out⟩
end
end Go.Proofs.YticgjbckfpkpjaaGreat
/- Proved here, without conditions: how chunks of matches come about, a run of stable places after the other. -/
namespace Go.Proofs.YticgjbckfpkpjaaGreat
set_option linter.unusedVariables false

/-- With which places the matches pair place k, and one behind these. -/
def plAll (ms : List (List Int)) (k : Int) : List Int := ms.map fun l => pl l k
def plUp (ms : List (List Int)) (k : Int) : List Int := ms.map fun l => pl l k + 1
/-- The chunk from the places b and a up to the places e and f. -/
def ckOf (st : Bool) (b e : Int) (a f : List Int) : Ck := (st, (b, e), List.zip a f)
def putC (cs : List Ck) (c : Ck) : List Ck := if emptyB c then cs else cs ++ [c]

theorem plAll_len (ms : List (List Int)) (k : Int) : (plAll ms k).length = ms.length := by simp [plAll]
theorem plUp_len (ms : List (List Int)) (k : Int) : (plUp ms k).length = ms.length := by simp [plUp]
theorem plAll_at {ms : List (List Int)} {k v : Int} {s : Nat} (h : (plAll ms k)[s]? = some v) : ∃ l, ms[s]? = some l ∧ v = pl l k := by
  unfold plAll at h
  rw [List.getElem?_map] at h
  cases hc : ms[s]? with
  | none => rw [hc] at h; cases h
  | some l => rw [hc] at h; exact ⟨l, rfl, by simpa using h.symm⟩
theorem plUp_at {ms : List (List Int)} {k v : Int} {s : Nat} (h : (plUp ms k)[s]? = some v) : ∃ l, ms[s]? = some l ∧ v = pl l k + 1 := by
  unfold plUp at h
  rw [List.getElem?_map] at h
  cases hc : ms[s]? with
  | none => rw [hc] at h; cases h
  | some l => rw [hc] at h; exact ⟨l, rfl, by simpa using h.symm⟩
theorem zip_at {a f : List Int} {s : Nat} {sp : Sp} (h : (List.zip a f)[s]? = some sp) : a[s]? = some sp.1 ∧ f[s]? = some sp.2 := by
  rw [List.getElem?_zip_eq_some] at h
  exact h
theorem zip_ends {a f : List Int} (h : a.length = f.length) (st : Bool) (b e : Int) : ends (ckOf st b e a f) = f := by
  unfold ends ckOf
  exact List.map_snd_zip (by omega)
theorem allP_mem {ms : List (List Int)} {k : Int} (h : allP ms k = true) {l : List Int} (hl : l ∈ ms) : 0 ≤ pl l k := by
  unfold allP at h
  rw [List.all_eq_true] at h
  simpa using h l hl
theorem allP_of {ms : List (List Int)} {k : Int} (h : ∀ l ∈ ms, 0 ≤ pl l k) : allP ms k = true := by
  unfold allP
  rw [List.all_eq_true]
  intro l hl
  simpa using h l hl
theorem pl_get {l : List Int} {k : Int} (h : 0 ≤ pl l k) : l[k.toNat]? = some (pl l k) := by
  unfold pl at *
  cases hc : l[k.toNat]? with
  | none => rw [hc] at h; simp at h
  | some v => rfl
/-- Matches rise. -/
theorem rises {m : Nat} {l : List Int} {z i j : Int} (h : IsMatch m l z) (hi0 : 0 ≤ i) (hij : i < j) (hi : 0 ≤ pl l i) (hj : 0 ≤ pl l j) : pl l i < pl l j := by
  have gi := pl_get hi
  have gj := pl_get hj
  obtain ⟨hi1, hi2⟩ := List.getElem?_eq_some_iff.1 gi
  obtain ⟨hj1, hj2⟩ := List.getElem?_eq_some_iff.1 gj
  have := (List.pairwise_iff_getElem.1 h.2.2) i.toNat j.toNat hi1 hj1 (by omega)
  rw [hi2, hj2] at this
  exact this (by omega) (by omega)
theorem pl_lt {m : Nat} {l : List Int} {z i : Int} (h : IsMatch m l z) (hi : 0 ≤ pl l i) : pl l i < z :=
  (h.2.1 _ (List.mem_of_getElem? (pl_get hi)) (by omega)).2

/-- Chunks have come as far as place b of the base, and the places a of the sides. -/
structure CutIn (m : Nat) (sizes : List Int) (ms : List (List Int)) (cs : List Ck) (p : Option Bool) (b : Int) (a : List Int) : Prop where
  cont : ∀ rest, Cov m sizes rest p b a → Cov m sizes (cs ++ rest) none 0 (List.replicate sizes.length 0)
  places : ∀ c ∈ cs, Places ms c
  len : a.length = sizes.length
  b0 : 0 ≤ b
  bm : b ≤ m
  mode : (p = none ∧ b = 0 ∧ a = List.replicate sizes.length 0) ∨ (p = some true ∧ 0 < b ∧ allP ms (b - 1) = true ∧ a = plUp ms (b - 1) ∧ (b < m → ∃ l ∈ ms, pl l b ≠ pl l (b - 1) + 1))

section
variable {m : Nat} {sizes : List Int} {ms : List (List Int)} {cs : List Ck} {p : Option Bool} {b : Int} {a : List Int}
theorem CutIn.start (m : Nat) (sizes : List Int) (ms : List (List Int)) : CutIn m sizes ms [] none 0 (List.replicate sizes.length 0) :=
  ⟨fun rest h => h, fun c h => by simp at h, by simp, Int.le_refl _, by omega, .inl ⟨rfl, rfl, rfl⟩⟩
theorem empty_parts {st : Bool} {b e : Int} {a f : List Int} (h : emptyB (ckOf st b e a f) = true) : ¬ b < e ∧ ∀ (s : Nat) (u v : Int), a[s]? = some u → f[s]? = some v → ¬ u < v := by
  unfold emptyB ckOf at h
  simp only [Bool.not_eq_true', Bool.or_eq_false_iff, decide_eq_false_iff_not, List.any_eq_false, decide_eq_true_eq] at h
  refine ⟨h.1, fun s u v hu hv => ?_⟩
  exact h.2 (u, v) (List.mem_of_getElem? (List.getElem?_zip_eq_some.2 ⟨hu, hv⟩))
theorem full_of {st : Bool} {b e : Int} {a f : List Int} (h : b < e) : emptyB (ckOf st b e a f) = false := by
  unfold emptyB ckOf
  simp [h]
theorem head_of {st : Bool} {b e : Int} {a f : List Int} {p : Option Bool} (hl : a.length = f.length) (hbe : b ≤ e) (hp : p ≠ some st) (hf : emptyB (ckOf st b e a f) = false)
    (hs : ∀ (s : Nat) (u v : Int), a[s]? = some u → f[s]? = some v → u ≤ v ∧ (st = true → v - u = e - b)) : Head (ckOf st b e a f) p b a := by
  refine ⟨rfl, hbe, ?_, hp, hf, fun s sp v h1 h2 => ?_⟩
  · show (List.zip a f).length = a.length
    rw [List.length_zip]
    omega
  · obtain ⟨q1, q2⟩ := zip_at h1
    rw [h2] at q1
    injection q1 with q1
    obtain ⟨q3, q4⟩ := hs s v sp.2 h2 q2
    exact ⟨q1.symm, q3, fun h => by rw [← q1]; exact q4 h⟩
/-- Sides go on, never back. -/
theorem CutIn.ahead (hm : ∀ (k : Nat) (l : List Int) (z : Int), ms[k]? = some l → sizes[k]? = some z → IsMatch m l z) (hml : ms.length = sizes.length) (h : CutIn m sizes ms cs p b a) {e : Int} (hbe : b ≤ e) (he : allP ms e = true) {s : Nat} {u : Int} {l : List Int} (hu : a[s]? = some u) (hl : ms[s]? = some l) : u ≤ pl l e := by
  have hle := allP_mem he (List.mem_of_getElem? hl)
  rcases h.mode with ⟨-, -, rfl⟩ | ⟨-, h0, h1, rfl, -⟩
  · rw [List.getElem?_replicate] at hu
    split at hu
    · injection hu with hu; omega
    · cases hu
  · obtain ⟨l', hl', rfl⟩ := plUp_at hu
    rw [hl] at hl'
    injection hl' with hl'
    subst hl'
    have hs := (List.getElem?_eq_some_iff.1 hl).1
    have hz : sizes[s]? = some sizes[s] := List.getElem?_eq_getElem (by omega)
    have := rises (hm s l _ hl hz) (i := b - 1) (j := e) (by omega) (by omega) (allP_mem h1 (List.mem_of_getElem? hl)) hle
    omega

/-- What isn't stable, up to a run, and the run. -/
theorem CutIn.step (hm : ∀ (k : Nat) (l : List Int) (z : Int), ms[k]? = some l → sizes[k]? = some z → IsMatch m l z) (hml : ms.length = sizes.length) (h : CutIn m sizes ms cs p b a) {e t : Int} (hbe : b ≤ e) (het : e < t) (htm : t ≤ m)
    (hno : ∀ k, b ≤ k → k < e → allP ms k = false) (he : allP ms e = true) (hrun : ∀ k, e < k → k < t → ∀ l ∈ ms, pl l k = pl l (k - 1) + 1) (hend : t < m → ∃ l ∈ ms, pl l t ≠ pl l (t - 1) + 1) :
    CutIn m sizes ms (putC (putC cs (ckOf false b e a (plAll ms e))) (ckOf true e t (plAll ms e) (plUp ms (t - 1)))) (some true) t (plUp ms (t - 1)) := by
  have hpl : ∀ (d : Nat), e + d < t → ∀ l ∈ ms, pl l (e + d) = pl l e + d := by
    intro d
    induction d with
    | zero => intro _ l _; simp
    | succ d ih =>
      intro hd l hl
      have h1 := ih (by push_cast at hd; omega) l hl
      have h2 := hrun (e + (d + 1 : Nat)) (by push_cast; omega) hd l hl
      rw [show e + ((d + 1 : Nat) : Int) - 1 = e + d by push_cast; omega, h1] at h2
      rw [h2]; push_cast; omega
  have hpk : ∀ k, e ≤ k → k < t → ∀ l ∈ ms, pl l k = pl l e + (k - e) := by
    intro k h1 h2 l hl
    have := hpl (k - e).toNat (by omega) l hl
    rw [show e + ((k - e).toNat : Int) = k by omega] at this
    rw [this]; omega
  have hst : ∀ k, e ≤ k → k < t → allP ms k = true := fun k h1 h2 => allP_of fun l hl => by
    rw [hpk k h1 h2 l hl]
    have := allP_mem he hl
    omega
  have hlen := h.len
  have hl1 : a.length = (plAll ms e).length := by rw [plAll_len]; omega
  have hl2 : (plAll ms e).length = (plUp ms (t - 1)).length := by rw [plAll_len, plUp_len]
  have hc2 : emptyB (ckOf true e t (plAll ms e) (plUp ms (t - 1))) = false := full_of het
  have hb0 := h.b0
  have hP1 : Places ms (ckOf false b e a (plAll ms e)) := fun k h1 h2 => ⟨hno k h1 h2, fun h => by cases h⟩
  have hP2 : Places ms (ckOf true e t (plAll ms e) (plUp ms (t - 1))) := fun k h1 h2 => ⟨hst k h1 h2, fun _ s l sp hl hs => by
    obtain ⟨q1, q2⟩ := zip_at hs
    obtain ⟨l', hl', e1⟩ := plAll_at q1
    rw [hl] at hl'
    injection hl' with hl'
    subst hl'
    have := hpk k h1 h2 l (List.mem_of_getElem? hl)
    have e2 : (ckOf true e t (plAll ms e) (plUp ms (t - 1))).2.1.1 = e := rfl
    rw [e2, e1]
    omega⟩
  have hH2 : ∀ q, q ≠ some true → Head (ckOf true e t (plAll ms e) (plUp ms (t - 1))) q e (plAll ms e) := fun q hq =>
    head_of hl2 (by omega) hq hc2 fun s u v hu hv => by
      obtain ⟨l, hl, rfl⟩ := plAll_at hu
      obtain ⟨l', hl', rfl⟩ := plUp_at hv
      rw [hl] at hl'
      injection hl' with hl'
      subst hl'
      have := hpk (t - 1) (by omega) (by omega) l (List.mem_of_getElem? hl)
      exact ⟨by omega, fun _ => by omega⟩
  have hmode : (some true : Option Bool) = none ∧ t = 0 ∧ plUp ms (t - 1) = List.replicate sizes.length 0 ∨ (some true : Option Bool) = some true ∧ 0 < t ∧ allP ms (t - 1) = true ∧ plUp ms (t - 1) = plUp ms (t - 1) ∧ (t < m → ∃ l ∈ ms, pl l t ≠ pl l (t - 1) + 1) :=
    .inr ⟨rfl, by omega, hst _ (by omega) (by omega), rfl, hend⟩
  have hzip2 : ends (ckOf true e t (plAll ms e) (plUp ms (t - 1))) = plUp ms (t - 1) := zip_ends hl2 _ _ _
  by_cases hem : emptyB (ckOf false b e a (plAll ms e)) = true
  · obtain ⟨p1, p2⟩ := empty_parts hem
    obtain rfl : b = e := by omega
    have ha : a = plAll ms b := by
      refine List.ext_getElem? fun s => ?_
      rcases Nat.lt_or_ge s a.length with hs | hs
      · have hu : a[s]? = some a[s] := List.getElem?_eq_getElem hs
        have hl : ms[s]? = some ms[s] := List.getElem?_eq_getElem (by omega)
        have hv : (plAll ms b)[s]? = some (pl ms[s] b) := by unfold plAll; rw [List.getElem?_map, hl]; rfl
        have k1 := h.ahead hm hml (Int.le_refl b) he hu hl
        have k2 := p2 s _ _ hu hv
        rw [hu, hv]
        congr 1
        omega
      · rw [List.getElem?_eq_none hs, List.getElem?_eq_none (by omega)]
    have hpn : p ≠ some true := by
      intro hp
      rcases h.mode with ⟨q, -, -⟩ | ⟨-, q0, q1, q2, q3⟩
      · rw [q] at hp; cases hp
      · obtain ⟨l, hl, hne⟩ := q3 (by omega)
        obtain ⟨s, hs⟩ := List.mem_iff_getElem?.1 hl
        have e1 : a[s]? = some (pl l b) := by rw [ha]; unfold plAll; rw [List.getElem?_map, hs]; rfl
        have e2 : a[s]? = some (pl l (b - 1) + 1) := by rw [q2]; unfold plUp; rw [List.getElem?_map, hs]; rfl
        rw [e1] at e2
        injection e2 with e2
        exact hne e2
    unfold putC
    rw [if_pos hem, if_neg (by rw [hc2]; simp)]
    refine ⟨fun rest hr => ?_, fun c hc => ?_, by rw [plUp_len]; omega, by omega, by omega, hmode⟩
    · rw [List.append_assoc]
      refine h.cont _ ⟨?_, ?_⟩
      · rw [ha]; exact hH2 p hpn
      · rw [hzip2]; exact hr
    · rcases List.mem_append.1 hc with hc | hc
      · exact h.places c hc
      · rw [List.mem_singleton.1 hc]; exact hP2
  · have hemf : emptyB (ckOf false b e a (plAll ms e)) = false := by simpa using hem
    unfold putC
    rw [if_neg hem, if_neg (by rw [hc2]; simp)]
    refine ⟨fun rest hr => ?_, fun c hc => ?_, by rw [plUp_len]; omega, by omega, by omega, hmode⟩
    · rw [List.append_assoc, List.append_assoc]
      refine h.cont _ ⟨head_of hl1 hbe ?_ hemf fun s u v hu hv => ?_, ?_⟩
      · rcases h.mode with ⟨q, -, -⟩ | ⟨q, -⟩ <;> rw [q] <;> simp
      · obtain ⟨l, hl, rfl⟩ := plAll_at hv
        exact ⟨h.ahead hm hml hbe he hu hl, fun h => by cases h⟩
      · rw [zip_ends hl1]
        exact ⟨hH2 _ (by show some false ≠ some true; simp), by rw [hzip2]; exact hr⟩
    · rcases List.mem_append.1 hc with hc | hc
      · rcases List.mem_append.1 hc with hc | hc
        · exact h.places c hc
        · rw [List.mem_singleton.1 hc]; exact hP1
      · rw [List.mem_singleton.1 hc]; exact hP2

/-- What lies behind the last run. -/
theorem CutIn.finish (hm : ∀ (k : Nat) (l : List Int) (z : Int), ms[k]? = some l → sizes[k]? = some z → IsMatch m l z) (hml : ms.length = sizes.length) (hz : ∀ z ∈ sizes, 0 ≤ z) (h : CutIn m sizes ms cs p b a)
    (hno : ∀ k, b ≤ k → k < m → allP ms k = false) : IsCut m sizes ms (putC cs (ckOf false b m a sizes)) := by
  have hlen := h.len
  have hbm := h.bm
  have hle : ∀ (s : Nat) (u z : Int), a[s]? = some u → sizes[s]? = some z → u ≤ z := by
    intro s u z hu hzs
    rcases h.mode with ⟨-, -, rfl⟩ | ⟨-, h0, h1, rfl, -⟩
    · rw [List.getElem?_replicate] at hu
      split at hu
      · injection hu with hu
        have := hz z (List.mem_of_getElem? hzs)
        omega
      · cases hu
    · obtain ⟨l, hl, rfl⟩ := plUp_at hu
      have := pl_lt (hm s l z hl hzs) (allP_mem h1 (List.mem_of_getElem? hl))
      omega
  have hP : Places ms (ckOf false b m a sizes) := fun k h1 h2 => ⟨hno k h1 h2, fun h => by cases h⟩
  by_cases hem : emptyB (ckOf false b m a sizes) = true
  · obtain ⟨p1, p2⟩ := empty_parts hem
    have ha : a = sizes := by
      refine List.ext_getElem? fun s => ?_
      rcases Nat.lt_or_ge s a.length with hs | hs
      · have hu : a[s]? = some a[s] := List.getElem?_eq_getElem hs
        have hv : sizes[s]? = some sizes[s] := List.getElem?_eq_getElem (by omega)
        have k1 := hle s _ _ hu hv
        have k2 := p2 s _ _ hu hv
        rw [hu, hv]
        congr 1
        omega
      · rw [List.getElem?_eq_none hs, List.getElem?_eq_none (by omega)]
    unfold putC
    rw [if_pos hem]
    refine ⟨?_, h.places⟩
    have := h.cont [] ⟨ha, by omega⟩
    rwa [List.append_nil] at this
  · have hemf : emptyB (ckOf false b m a sizes) = false := by simpa using hem
    unfold putC
    rw [if_neg hem]
    refine ⟨h.cont _ ⟨head_of (by omega) hbm ?_ hemf fun s u v hu hv => ⟨hle s u v hu hv, fun h => by cases h⟩, ?_⟩, fun c hc => ?_⟩
    · rcases h.mode with ⟨q, -, -⟩ | ⟨q, -⟩ <;> rw [q] <;> simp
    · rw [zip_ends (by omega)]
      exact ⟨rfl, rfl⟩
    · rcases List.mem_append.1 hc with hc | hc
      · exact h.places c hc
      · rw [List.mem_singleton.1 hc]; exact hP
end
end Go.Proofs.YticgjbckfpkpjaaGreat
