/- Proved here: texts joined: ZlOk, ContFew. -/
import Derived.Test.YtidfhgocnglnjaaBz05
import Derived.Test.YtidfhgocnglnjaaBz09
import Derived.Test.YtidfhgocnglnjaaBz13
import Derived.Test.YtidfhgocnglnjaaBz15
import Derived.Deep.DeepCutAuto
import Derived.Outline
/- Proved here: what the statements of layer 10 ask of packages zeal and pick, together; the statements' own example comes to true. -/
namespace Go.Proofs.Ytidfhgocnglnjaa
open Go.RowKit
set_option linter.unusedVariables false
set_option maxRecDepth 100000

/-- The contracts of package zeal (and of what the statements call of package pick). -/
structure ZealOk : Prop where
  trim_ok : ZealTrimOk
  zeal_ok : ZealZealOk
  choose_ok : PickChooseOk
  normal_ok : PickNormalOk
  clean_ok : PickCleanOk

def zx : Tx := [120]
def zy : Tx := [121]
def za : Tx := [97]
def zb : Tx := [98]
def zz : Tx := [122]
def zP : Pc := (true, [], [zz], [[zx, za, zy], [zx, zb, zy]])
theorem zP_trim : trimD zP = [tPc [zx], cPc [zz] [[za], [zb]], tPc [zy]] := by decide
theorem zQ_zeal : zealD [tPc [za]] = [tPc [za]] := by decide
theorem four_z (w : World) (o1 o2 o3 o4 : Obj) : ((((w.alloc o1).alloc o2).alloc o3).alloc o4).heap[w.heap.size]? = some o1 ∧ ((((w.alloc o1).alloc o2).alloc o3).alloc o4).heap[w.heap.size + 1]? = some o2 ∧ ((((w.alloc o1).alloc o2).alloc o3).alloc o4).heap[w.heap.size + 1 + 1]? = some o3 ∧ ((((w.alloc o1).alloc o2).alloc o3).alloc o4).heap[w.heap.size + 1 + 1 + 1]? = some o4 ∧ Below w.heap.size w ((((w.alloc o1).alloc o2).alloc o3).alloc o4) := by
  refine ⟨?_, ?_, ?_, ?_, (((Below.refl _ w).alloc (Nat.le_refl _) _ |>.alloc (by simp) _).alloc (by simp; omega) _).alloc (by simp; omega) _⟩ <;>
    (simp only [push_at, push_size]; repeat (first | rw [if_pos trivial] | rw [if_pos (by omega)] | rw [if_neg (by omega)]))

section
variable (H : ZealOk)
include H

set_option maxHeartbeats 1000000 in
theorem za_callT (W : World) :
    Calls Try.prog 11 #[.agg #[.bool true, .slice none 0 0, .slice (some ⟨W.heap.size, 0, none⟩) 1 1, .slice (some ⟨W.heap.size + 1 + 1 + 1, 0, none⟩) 2 2]]
      ((((W.alloc (.cells #[.string ⟨#[122]⟩] 9)).alloc (.cells #[.string ⟨#[120]⟩, .string ⟨#[97]⟩, .string ⟨#[121]⟩] 9)).alloc (.cells #[.string ⟨#[120]⟩, .string ⟨#[98]⟩, .string ⟨#[121]⟩] 9)).alloc (.cells #[.slice (some ⟨W.heap.size + 1, 0, none⟩) 3 3, .slice (some ⟨W.heap.size + 1 + 1, 0, none⟩) 3 3] 22))
      fun e w' => ∃ A c vs, e = .returned (.slice A 3 c) ∧ Pcs w' w'.heap.size A 3 vs [tPc [zx], cPc [zz] [[za], [zb]], tPc [zy]] ∧ Below W.heap.size W w' := by
  obtain ⟨W2, hW2⟩ : ∃ W2, W2 = ((((W.alloc (.cells #[.string ⟨#[122]⟩] 9)).alloc (.cells #[.string ⟨#[120]⟩, .string ⟨#[97]⟩, .string ⟨#[121]⟩] 9)).alloc (.cells #[.string ⟨#[120]⟩, .string ⟨#[98]⟩, .string ⟨#[121]⟩] 9)).alloc (.cells #[.slice (some ⟨W.heap.size + 1, 0, none⟩) 3 3, .slice (some ⟨W.heap.size + 1 + 1, 0, none⟩) 3 3] 22)) := ⟨_, rfl⟩
  have h4 := four_z W (.cells #[.string ⟨#[122]⟩] 9) (.cells #[.string ⟨#[120]⟩, .string ⟨#[97]⟩, .string ⟨#[121]⟩] 9) (.cells #[.string ⟨#[120]⟩, .string ⟨#[98]⟩, .string ⟨#[121]⟩] 9) (.cells #[.slice (some ⟨W.heap.size + 1, 0, none⟩) 3 3, .slice (some ⟨W.heap.size + 1 + 1, 0, none⟩) 3 3] 22)
  rw [← hW2] at h4 ⊢
  obtain ⟨a0, a1, a2, a3, hB⟩ := h4
  have hb : TxR W2 W2.heap.size (some ⟨W.heap.size, 0, none⟩, 1, 1) [zz] := txr_of a0 rfl rfl (by decide)
  have hs : RowsT W2 W2.heap.size (some ⟨W.heap.size + 1 + 1 + 1, 0, none⟩) 2 [(some ⟨W.heap.size + 1, 0, none⟩, 3, 3), (some ⟨W.heap.size + 1 + 1, 0, none⟩, 3, 3)] [[zx, za, zy], [zx, zb, zy]] := rowsT_of a3 rfl rfl rfl fun k r ss a b => by
    match k, a, b with
    | 0, a, b => simp at a b; subst a; subst b; exact txr_of a1 rfl rfl (by decide)
    | 1, a, b => simp at a b; subst a; subst b; exact txr_of a2 rfl rfl (by decide)
    | k + 2, a, b => simp at a
  refine (H.trim_ok W2.heap.size ((none, 0, 0), (some ⟨W.heap.size, 0, none⟩, 1, 1), (some ⟨W.heap.size + 1 + 1 + 1, 0, none⟩, 2, 2)) zP W2 (Nat.le_refl _) (by unfold smallP; decide) ⟨TxR.nil _ _, hb, (by show 2 ≤ 2; decide), (by show 2 ≤ maxLen; decide), _, hs⟩).mono ?_
  rintro e w' ⟨A, n, c, vs, rfl, h1, h2, h3, h5⟩
  have hP := h3 w' (But.refl _ _)
  rw [zP_trim] at hP
  have hn : n = 3 := by have := hP.len; simpa using this.symm
  subst hn
  exact ⟨A, c, vs, rfl, hP, hB.trans (h5.mono hB.size)⟩
set_option maxHeartbeats 1000000 in
theorem za_callZ (W : World) :
    Calls Try.prog 13 #[.slice (some ⟨W.heap.size + 1, 0, none⟩) 1 1] ((W.alloc (.cells #[.string ⟨#[97]⟩] 9)).alloc (.cells #[.bool false, .slice (some ⟨W.heap.size, 0, none⟩) 1 1, .slice none 0 0, .slice none 0 0] 25))
      fun e w' => ∃ A c, e = .returned (.slice A 1 c) ∧ Below W.heap.size W w' := by
  obtain ⟨W2, hW2⟩ : ∃ W2, W2 = ((W.alloc (.cells #[.string ⟨#[97]⟩] 9)).alloc (.cells #[.bool false, .slice (some ⟨W.heap.size, 0, none⟩) 1 1, .slice none 0 0, .slice none 0 0] 25)) := ⟨_, rfl⟩
  have h2 := two_a W (.cells #[.string ⟨#[97]⟩] 9) (.cells #[.bool false, .slice (some ⟨W.heap.size, 0, none⟩) 1 1, .slice none 0 0, .slice none 0 0] 25)
  have hB : Below W.heap.size W W2 := by rw [hW2]; exact below_alloc (below_alloc (Below.refl _ _) _) _
  rw [← hW2] at h2 ⊢
  have ht : TxR W2 W2.heap.size (some ⟨W.heap.size, 0, none⟩, 1, 1) [za] := txr_of h2.1 rfl rfl (by decide)
  refine (H.zeal_ok W2.heap.size _ 1 1 [((some ⟨W.heap.size, 0, none⟩, 1, 1), (none, 0, 0), (none, 0, 0))] [tPc [za]] W2 (Nat.le_refl _) (by decide) (Nat.le_refl _) (by unfold smallZ smallP; decide) (pcs_one (p := tPc [za]) h2.2 (PcR.text ht))).mono ?_
  rintro e w' ⟨A, n, c, vs, rfl, h1, h3, h4, h5⟩
  have hP := h4 w' (But.refl _ _)
  rw [zQ_zeal] at hP
  have hn : n = 1 := by have := hP.len; simpa using this.symm
  subst hn
  exact ⟨A, c, rfl, hB.trans (h5.mono hB.size)⟩

set_option maxHeartbeats 8000000 in
theorem zAwake_any (w : World) : Calls Try.prog 8 #[] w fun e w' => e = .returned (.bool true) ∧ Below w.heap.size w w' := by
  have hC1 := Lib.hid (za_callT H w)
  have hC2 := Lib.hid (fun W => za_callZ H W)
  go_enter Try.func8, Try.ntmps8
  go_upto_region 2 with (go_at_call 11; refine hC1.out.mono ?_; rintro e w1 ⟨A1, c1, vs1, rfl, hP1, hb1⟩; have hP := Lib.hid hP1; have hB1 := Lib.hid hb1; clear hP1 hb1)
  obtain ⟨b, o, cf, At, nt, ct, Ab, nb, cb, As, ns, cs, t, bs, ss, rfl, hb, hv, hp, q1, q2, q3, q4, ⟨-, -, j3⟩, -, -⟩ := hP.out.at_ (k := 0) (by omega)
  obtain ⟨b', o', cf', At', nt', ct', Ab', nb', cb', As', ns', cs', t', bs', ss', he', hb', hv', hp', r1, r2, r3, r4, -, ⟨-, -, k2⟩, ⟨-, -, rr, k3⟩⟩ := hP.out.at_ (k := 1) (by omega)
  obtain ⟨b'', o'', cf'', At'', nt'', ct'', Ab'', nb'', cb'', As'', ns'', cs'', t'', bs'', ss'', he'', hb'', hv'', hp'', s1, s2, s3, s4, ⟨-, -, l3⟩, -, -⟩ := hP.out.at_ (k := 2) (by omega)
  injection he' with he'
  injection he' with e1 e2
  subst e1
  subst e2
  injection he'' with he''
  injection he'' with e1 e2
  subst e1
  subst e2
  simp [tPc, cPc] at hp hp' hp''
  obtain ⟨rfl, rfl, rfl, rfl⟩ := hp
  obtain ⟨rfl, rfl, rfl, rfl⟩ := hp'
  obtain ⟨rfl, rfl, rfl, rfl⟩ := hp''
  dsimp only at j3 k2 k3 l3
  have h1 : nt = 1 := by have := j3.len; simpa using this.symm
  have h2 : nb' = 1 := by have := k2.len; simpa using this.symm
  have h3 : ns' = 2 := by have := k3.len; simpa using this.symm
  have h4 : nt'' = 1 := by have := l3.len; simpa using this.symm
  subst h1
  subst h2
  subst h3
  subst h4
  obtain ⟨bx, ox, sx, rfl, hbx, hsx, hcx⟩ := j3.at_ (k := 0) (by omega)
  obtain ⟨by', oy, sy, rfl, hby, hsy, hcy⟩ := l3.at_ (k := 0) (by omega)
  obtain ⟨bs2, os2, Aq, nq, cq, dq, rfl, hbs2, hdq, hrq, hcq, -, -, hsq⟩ := k3.at_ (k := 1) (by omega)
  have hdq' : dq = [zb] := by simpa using hdq.symm
  subst hdq'
  have h5 : nq = 1 := by have := hsq.len; simpa using this.symm
  subst h5
  obtain ⟨bz, oz, sz, rfl, hbz, hsz, hcz⟩ := hsq.at_ (k := 0) (by omega)
  have hsx' : sx = zx := by simpa using hsx.symm
  have hsy' : sy = zy := by simpa using hsy.symm
  have hsz' : sz = zb := by simpa using hsz.symm
  subst hsx'
  subst hsy'
  subst hsz'
  have y1 : w1.cell? ⟨bx, ox, none⟩ = some (.string ⟨#[120]⟩) := hcx
  have y2 : w1.cell? ⟨by', oy, none⟩ = some (.string ⟨#[121]⟩) := hcy
  have y3 : w1.cell? ⟨bz, oz, none⟩ = some (.string ⟨#[98]⟩) := hcz
  simp only [Nat.zero_mul, Nat.add_zero, Nat.one_mul, Nat.reduceMul] at q1 q2 q3 q4 r1 r2 r3 r4 s1 s2 s3 s4
  clear hcx hcy hcz hsx hsy hsz hv hv' hv'' hdq hrq j3 k2 k3 l3 hsq
  go_wp2_with (go_at_call 13; refine (hC2.out _).mono ?_; rintro e w2 ⟨A9, c9, rfl, hb9⟩; have hB9 := Lib.hid (hB1.out.trans (hb9.mono hB1.out.size)); clear hb9)
  go_ret
  exact ⟨rfl, hB9.out⟩
end
end Go.Proofs.Ytidfhgocnglnjaa
/- Proved here, without conditions on the program: few texts. -/
namespace Go.Proofs.Ytidfhgocnglnjaa
open Go.RowKit
set_option linter.unusedVariables false

/-- A base, and 6 parts, of 20 texts of 100 bytes, at most. -/
def fewT (base : Txs) (parts : List Txs) : Bool := fewB base 20 && decide (parts.length ≤ 6) && (parts.take 7).all fun f => fewB f 20
theorem fewB_len {ss : Txs} {m : Nat} (h : fewB ss m = true) : ss.length ≤ m := by
  unfold fewB at h
  simp at h
  exact h.1
theorem fewT_parts {base : Txs} {parts : List Txs} (h : fewT base parts = true) : base.length ≤ 20 ∧ parts.length ≤ 6 ∧ ∀ f ∈ parts, f.length ≤ 20 := by
  unfold fewT at h
  rw [Bool.and_eq_true, Bool.and_eq_true, decide_eq_true_eq] at h
  obtain ⟨⟨h1, h2⟩, h3⟩ := h
  refine ⟨fewB_len h1, h2, fun f hf => ?_⟩
  rw [List.take_of_length_le (by omega), List.all_eq_true] at h3
  exact fewB_len (h3 f hf)
theorem fewB_txs {ss : Txs} {m : Nat} (h : fewB ss m = true) : ∀ s ∈ ss, s.length ≤ 100 := by
  have hl := fewB_len h
  unfold fewB at h
  rw [Bool.and_eq_true, List.all_eq_true] at h
  intro s hs
  have := h.2 s (by rw [List.take_of_length_le (by omega)]; exact hs)
  simpa using this
theorem fewT_txs {base : Txs} {parts : List Txs} (h : fewT base parts = true) : (∀ s ∈ base, s.length ≤ 100) ∧ ∀ f ∈ parts, ∀ s ∈ f, s.length ≤ 100 := by
  unfold fewT at h
  rw [Bool.and_eq_true, Bool.and_eq_true, decide_eq_true_eq] at h
  obtain ⟨⟨h1, h2⟩, h3⟩ := h
  refine ⟨fewB_txs h1, fun f hf => ?_⟩
  rw [List.take_of_length_le (by omega), List.all_eq_true] at h3
  exact fewB_txs (h3 f hf)
theorem fewT_step {files : List Txs} {k : Nat} {f : Txs} (hq : (files.take k).all (fun f => fewB f 20) = true) (ht : files[k]? = some f) (h : fewB f 20 = true) : (files.take (k + 1)).all (fun f => fewB f 20) = true := by
  rw [take_at ht, List.all_append, hq]
  simp [h]
theorem fewT_no {base : Txs} {files : List Txs} {k : Nat} {f : Txs} (hk : k < 7) (ht : files[k]? = some f) (h : fewB f 20 = false) : false = fewT base files := by
  unfold fewT
  have hm : f ∈ files.take 7 := List.mem_of_getElem? (i := k) (by rw [List.getElem?_take]; rw [if_pos hk]; exact ht)
  rw [eq_comm, Bool.and_eq_false_iff]
  right
  rw [Bool.eq_false_iff, ne_eq, List.all_eq_true]
  intro ha
  rw [ha f hm] at h
  cases h
theorem fewT_end {base : Txs} {files : List Txs} {k n : Nat} (hl : files.length = n) (h : k = n ∨ 7 ≤ k ∧ k < n) (hq : (files.take k).all (fun f => fewB f 20) = true) : (fewB base 20 && decide (n ≤ 6)) = fewT base files := by
  unfold fewT
  rw [hl]
  by_cases hm : n ≤ 6
  · have : k = n := by omega
    subst this
    rw [List.take_of_length_le (by omega)] at hq
    rw [List.take_of_length_le (by omega), hq]
    simp
  · simp [hm]

end Go.Proofs.Ytidfhgocnglnjaa
