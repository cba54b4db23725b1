/- Proved here: texts joined: EdAwk, EdFewE, SlcT, TxOC, MkPlA, AppendL. -/
import Derived.Test.YtdfpifipkchmnaaGreatDoorBa07
import Derived.Test.YtdfpifipkchmnaaGreatDoorBa10
import Derived.Test.YtdfpifipkchmnaaGreatDoorBa13
import Derived.Test.YtdfpifipkchmnaaGreatDoorBa14
import Derived.Test.YtdfpifipkchmnaaGreatDoorBa15
import Derived.Deep.DeepCutAuto
import Derived.RangeFuncBox
import Derived.Laws.OwnMore
/- Proved here: the statements' own example of layer 17 comes to true. -/
namespace Go.Proofs.YtdfpifipkchmnaaGreatDoor
open Go.RowKit
set_option linter.unusedVariables false
set_option maxRecDepth 100000

section
variable (H : EdRunOk)
include H
set_option maxHeartbeats 4000000 in
theorem edAwake_any (w : World) : Calls Tryz.prog 7 #[] w fun e w' => e = .returned (.bool true) ∧ Below w.heap.size w w' := by
  obtain ⟨W0, hW0⟩ : ∃ W0, W0 = w.alloc (.cells #[.string ⟨#[49, 99, 10]⟩, .string ⟨#[46, 46, 98, 10]⟩, .string ⟨#[46, 10]⟩, .string ⟨#[49, 115, 47, 94, 92, 46, 47, 47, 10]⟩, .string ⟨#[119, 10]⟩, .string ⟨#[113, 10]⟩, .string ⟨#[63]⟩] 9) := ⟨_, rfl⟩
  have hTA : TxR W0 W0.heap.size (some ⟨w.heap.size, 0, none⟩, 7, 7) eS := by rw [hW0]; exact txr_of (one_a w _) rfl rfl (by decide)
  have hB0 : Below w.heap.size w W0 := by rw [hW0]; exact below_alloc (Below.refl _ _) _
  have eg : W0.heap.size = w.heap.size + 1 := by rw [hW0]; simp
  obtain ⟨W1, hW1⟩ : ∃ W1, W1 = W0.alloc (.cells #[.string ⟨#[97, 10]⟩] 9) := ⟨_, rfl⟩
  have hB1 : Below W0.heap.size W0 W1 := by rw [hW1]; exact below_alloc (Below.refl _ _) _
  have hTY : TxR W1 W1.heap.size (some ⟨w.heap.size + 1, 0, none⟩, 1, 1) [eA] := by rw [← eg, hW1]; exact txr_of (one_a W0 _) rfl rfl (by decide)
  have ya : smallE eS := ⟨by decide, by decide⟩
  have yb : smallE [eA] := ⟨by decide, by decide⟩
  have yc : smallE [[50, 100, 10]] := ⟨by decide, by decide⟩
  have hC1 : Hid (Calls Tryz.prog 9 #[.slice (some ⟨w.heap.size, 0, none⟩) 7 7, .slice (some ⟨w.heap.size + 1, 0, none⟩) 1 1] W1 fun e w' => EdOut W1 w' e ([eB], true, 0, 0)) := Lib.hid (by
    have h := H _ 7 7 eS _ 1 1 [eA] W1 ya yb (hTA.up hB1) hTY
    rw [aw_run] at h
    exact h)
  have hC2 : Hid (∀ W : World, Calls Tryz.prog 9 #[.slice (some ⟨W.heap.size, 0, none⟩) 1 1, .slice (some ⟨W.heap.size + 1, 0, none⟩) 1 1] ((W.alloc (.cells #[.string ⟨#[50, 100, 10]⟩] 9)).alloc (.cells #[.string ⟨#[97, 10]⟩] 9)) fun e w' => EdOut ((W.alloc (.cells #[.string ⟨#[50, 100, 10]⟩] 9)).alloc (.cells #[.string ⟨#[97, 10]⟩] 9)) w' e ([], false, 1, 3)) := Lib.hid (fun W => by
    obtain ⟨k1, k2⟩ := two_a W (.cells #[.string ⟨#[50, 100, 10]⟩] 9) (.cells #[.string ⟨#[97, 10]⟩] 9)
    have h := H (some ⟨W.heap.size, 0, none⟩) 1 1 [[50, 100, 10]] (some ⟨W.heap.size + 1, 0, none⟩) 1 1 [eA] ((W.alloc (.cells #[.string ⟨#[50, 100, 10]⟩] 9)).alloc (.cells #[.string ⟨#[97, 10]⟩] 9)) yc yb (txr_of k1 rfl rfl (by decide)) (txr_of k2 rfl rfl (by decide))
    rw [aw_bad] at h
    exact h)
  have hW0h := Lib.hid hW0
  have hW1h := Lib.hid hW1
  have hB0h := Lib.hid hB0
  have hB1h := Lib.hid hB1
  clear hTA hTY hB0 hB1 hW0 hW1 ya yb yc eg H
  go_enter Tryz.func7, Tryz.ntmps7
  go_upto_region 3 with (first
    | (go_at_call 9; rw [← hW0h.out, ← hW1h.out]; refine hC1.out.mono ?_; rintro e w1 ⟨A1, n1, c1, rfl, p1, p3⟩; have hP1 := Lib.hid p1; have hB2 := Lib.hid (hB1h.out.trans (p3.mono hB1h.out.size)); clear p1 p3 hC1)
    | (go_at_call 9; refine (hC2.out _).mono ?_; rintro e w2 ⟨A2, n2, c2, rfl, p1, p3⟩; have hba := below_alloc (below_alloc (Below.refl w1.heap.size w1) (.cells #[.string ⟨#[50, 100, 10]⟩] 9)) (.cells #[.string ⟨#[97, 10]⟩] 9); have hbb := hba.trans (p3.mono hba.size); have hP2 := Lib.hid (hP1.out.up hbb); have hB3 := Lib.hid (hB2.out.trans (hbb.mono hB2.out.size)); clear p1 p3 hba hbb hC2))
  have n1e : n1 = 1 := by have := hP2.out.2.2.len; simpa using this.symm
  subst n1e
  obtain ⟨b1, o1, rfl, hb1, hc1⟩ := hP2.out.2.2.2 (by show 0 < 1; omega)
  have y0 : w2.cell? ⟨b1, o1, none⟩ = some (.string ⟨#[46, 98, 10]⟩) := hc1 0 _ rfl
  clear hc1 hP1 hP2
  go_wp2
  go_ret
  exact ⟨rfl, hB0h.out.trans (hB3.out.mono hB0h.out.size)⟩
end
end Go.Proofs.YtdfpifipkchmnaaGreatDoor
/- Proved here: texts that are few, as the statements on the editor ask it. -/
namespace Go.Proofs.YtdfpifipkchmnaaGreatDoor
open Go.RowKit
set_option linter.unusedVariables false
set_option maxRecDepth 100000

theorem fewK {l : Txs} {k : Nat} (h : fewB l k = true) (hk : k ≤ 1000) : l.length ≤ k ∧ ∀ t ∈ l, t.length ≤ 100 := by
  unfold fewB at h
  rw [Bool.and_eq_true, decide_eq_true_eq] at h
  refine ⟨h.1, fun t ht => ?_⟩
  have h2 := h.2
  rw [List.take_of_length_le (by omega), List.all_eq_true] at h2
  simpa using h2 t ht
theorem few_E {l : Txs} {k : Nat} (h : fewB l k = true) (hk : k ≤ 1000) : smallE l := by
  obtain ⟨h1, h2⟩ := fewK h hk
  exact ⟨by omega, fun s hs => by have := h2 s hs; omega⟩
theorem few_call (A : Option Addr) (n c k : Nat) (l : Txs) (w : World) (hk : k ≤ 1000) (h0 : TxR w w.heap.size (A, n, c) l) (fm : Bool) (hfm : fewB l k = fm) (W : World) (hW : Below w.heap.size w W) : Calls Tryz.prog 8 #[.slice A n c, .int .i64 (k : Int)] W fun e w' => e = .returned (.bool fm) ∧ W = w' := by
  rw [← hfm]
  exact Few_any A n c k W.heap.size l W (Nat.le_trans h0.1 h0.2.1) (by omega) (h0.up hW).2.2

end Go.Proofs.YtdfpifipkchmnaaGreatDoor
/- Proved here: a slice of texts cut by one bound alone, ahead or behind. -/
namespace Go.Proofs.YtdfpifipkchmnaaGreatDoor
open Go.RowKit
set_option linter.unusedVariables false
set_option maxRecDepth 100000

/-- 's[:k]'. -/
theorem slice_to {w : World} {B n c : Nat} {A : Option Addr} {ss : List (List UInt8)} {k : Nat} (h : TxR w B (A, n, c) ss) (hk : k ≤ n) :
    ∃ A' m q, (∀ W : World, (Instr.slice 22 (.slice A n c) none (some (.int .i64 (k : Int))) none).run Tryz.prog W = .ok (.slice A' m q) W) ∧ TxR w B (A', m, q) (ss.take k) ∧ m = k := by
  obtain ⟨e1, e2, e3⟩ := h
  dsimp only at e1 e2 e3
  have hl := e3.len
  refine ⟨(if c = 0 then A else A.map (·.add 0)), k, c, fun W => ?_, ⟨by show k ≤ c; omega, e2, by rw [List.length_map, List.length_take]; show min k ss.length = k; omega, fun hn => ?_⟩, rfl⟩
  · rw [run_slice_h (P := Tryz.prog) W 22 A n c Tryz.underlying22 .i64 (k : Int) (by omega) (by omega)]
    go_simp
  · obtain ⟨b, o, rfl, hb, hcell⟩ := e3.2 (by have : 0 < k := hn; omega)
    have hc0 : c ≠ 0 := by have : 0 < k := hn; omega
    refine ⟨b, o, by show (if c = 0 then some ⟨b, o, none⟩ else (some (⟨b, o, none⟩ : Addr)).map (·.add 0)) = _; rw [if_neg hc0]; rfl, hb, fun j u hu => ?_⟩
    refine hcell j u ?_
    rw [← hu, List.map_take, List.getElem?_take]
    have hj := (List.getElem?_eq_some_iff.1 hu).1
    simp at hj
    rw [if_pos (by omega)]
/-- 's[k:]'. -/
theorem slice_from {w : World} {B n c : Nat} {A : Option Addr} {ss : List (List UInt8)} {k : Nat} (h : TxR w B (A, n, c) ss) (hk : k ≤ n) :
    ∃ A' m q, (∀ W : World, (Instr.slice 22 (.slice A n c) (some (.int .i64 (k : Int))) none none).run Tryz.prog W = .ok (.slice A' m q) W) ∧ TxR w B (A', m, q) (ss.drop k) ∧ m + k = n := by
  obtain ⟨e1, e2, e3⟩ := h
  dsimp only at e1 e2 e3
  have hl := e3.len
  refine ⟨(if c = k then A else A.map (·.add k)), n - k, c - k, fun W => ?_, ⟨by show n - k ≤ c - k; omega, by show c - k ≤ maxLen; omega, by rw [List.length_map, List.length_drop]; show ss.length - k = n - k; omega, fun hn => ?_⟩, by omega⟩
  · rw [run_slice_l (P := Tryz.prog) W 22 A n c Tryz.underlying22 .i64 (k : Int) (by omega) (by omega)]
    go_simp
  · have hn' : 0 < n - k := hn
    obtain ⟨b, o, rfl, hb, hcell⟩ := e3.2 (by omega)
    refine ⟨b, o + k, by show (if c = k then some ⟨b, o, none⟩ else (some (⟨b, o, none⟩ : Addr)).map (·.add k)) = _; rw [if_neg (by omega)]; simp only [Option.map_some]; unfold Addr.add; split <;> simp_all, hb, fun j u hu => ?_⟩
    rw [Nat.add_assoc]
    refine hcell (k + j) u ?_
    rw [← hu, List.map_drop, List.getElem?_drop]
/-- A slice lies where another one does. -/
def Near (A : Option Addr) (r : Slc) : Prop := 0 < r.2.1 → ∀ q o, r.1 = some ⟨q, o, none⟩ → ∃ o', A = some ⟨q, o', none⟩
/-- 's[i:k]'. -/
theorem slice_mid {w : World} {B n c : Nat} {A : Option Addr} {ss : List (List UInt8)} {i k : Nat} (h : TxR w B (A, n, c) ss) (hi : i ≤ k) (hk : k ≤ n) :
    ∃ A' m q, (∀ W : World, (Instr.slice 22 (.slice A n c) (some (.int .i64 (i : Int))) (some (.int .i64 (k : Int))) none).run Tryz.prog W = .ok (.slice A' m q) W) ∧ TxR w B (A', m, q) ((ss.drop i).take (k - i)) ∧ m + i = k ∧ Near A (A', m, q) := by
  obtain ⟨e1, e2, e3⟩ := h
  dsimp only at e1 e2 e3
  have hl := e3.len
  refine ⟨(if c = i then A else A.map (·.add i)), k - i, c - i, fun W => ?_, ⟨by show k - i ≤ c - i; omega, by show c - i ≤ maxLen; omega, by rw [List.length_map, List.length_take, List.length_drop]; show min (k - i) (ss.length - i) = k - i; omega, fun hn => ?_⟩, by omega, fun hn q o e => ?_⟩
  · rw [run_slice_lh (P := Tryz.prog) W 22 A n c Tryz.underlying22 .i64 .i64 (i : Int) (k : Int) (by omega) (by omega) (by omega)]
    go_simp
  · have hn' : 0 < k - i := hn
    obtain ⟨b, o, rfl, hb, hcell⟩ := e3.2 (by omega)
    refine ⟨b, o + i, by show (if c = i then some ⟨b, o, none⟩ else (some (⟨b, o, none⟩ : Addr)).map (·.add i)) = _; rw [if_neg (by omega)]; simp only [Option.map_some]; unfold Addr.add; split <;> simp_all, hb, fun j u hu => ?_⟩
    rw [Nat.add_assoc]
    refine hcell (i + j) u ?_
    have hj := (List.getElem?_eq_some_iff.1 hu).1
    simp at hj
    rw [← hu, List.map_take, List.getElem?_take, if_pos (by omega), List.map_drop, List.getElem?_drop]
  · have hn' : 0 < k - i := hn
    obtain ⟨b, o', rfl, hb, hcell⟩ := e3.2 (by omega)
    dsimp only at e
    rw [if_neg (by omega), Option.map_some] at e
    injection e with e
    refine ⟨o', ?_⟩
    have hb2 : ((⟨b, o', none⟩ : Addr).add i).block = b := by unfold Addr.add; split <;> rfl
    rw [e] at hb2
    dsimp only at hb2
    rw [hb2]
end Go.Proofs.YtdfpifipkchmnaaGreatDoor
/- Proved here: texts that a call has made, behind another call. -/
namespace Go.Proofs.YtdfpifipkchmnaaGreatDoor
open Go.RowKit
set_option linter.unusedVariables false
set_option maxRecDepth 100000

/-- Texts that a call has made, told. -/
def OwnT (w w' : World) (e : Ending) (xs : Txs) : Prop := ∃ v, e = .returned v ∧ TxO w w' v xs
theorem TxO.call {w wr w1 : World} {v : Value} {xs : Txs} (h : TxO w wr v xs) (hb : Below wr.heap.size wr w1) : TxO w w1 v xs :=
  ⟨ownsRow_kept h.own fun k e => hb.block k (h.own.lt k e).2, h.below.trans (hb.mono h.below.size)⟩
theorem own_lower {w : World} {b1 b2 n : Nat} {e : TypeId} {size : Nat} {v : Value} {xs : List Value} (h : w.ownsRow b1 e size v n xs) (hb : b2 ≤ b1) : w.ownsRow b2 e size v n xs := by
  refine ⟨h.1, ?_⟩
  rcases h.2 with h | ⟨g, cap, cur, e1, h2, r⟩
  · exact .inl h
  · exact .inr ⟨g, cap, cur, e1, Nat.le_trans hb h2, r⟩
theorem TxO.lit (w : World) (s : Tx) : TxO w (w.alloc (.cells #[.string (str s)] 9)) (.slice (some ⟨w.heap.size, 0, none⟩) 1 1) [s] :=
  ⟨World.ownsRow_lit w #[.string (str s)] 1 (Nat.le_refl _) (by decide) rfl, below_alloc (Below.refl _ _) _⟩
end Go.Proofs.YtdfpifipkchmnaaGreatDoor
/- Proved here, without conditions on the program: texts put together; how many lines a conflict makes. -/
namespace Go.Proofs.YtdfpifipkchmnaaGreatDoor
open Go.RowKit
set_option linter.unusedVariables false
set_option maxRecDepth 100000

theorem rep_app (c : UInt8) (i : Nat) : str (List.replicate i c) ++ str [c] = str (List.replicate (i + 1) c) := by
  rw [strs_app, ← List.replicate_succ']

theorem closed_setO {ss : Txs} {n : Nat} {t : Tx} (hl : ss.length = n + 1) (ht : ss[n]? = some t) (ho : openB ss = true) : closed ss = ss.set n (t ++ [10]) := by
  have hg : ss.getLast? = some t := by rw [List.getLast?_eq_getElem?, hl]; exact ht
  unfold closed openB at *
  rw [hg] at ho ⊢
  dsimp only at ho ⊢
  rw [if_neg (by simpa using ho)]
  apply List.ext_getElem?
  intro i
  rw [List.getElem?_set]
  rcases Nat.lt_trichotomy i n with h | h | h
  · rw [List.getElem?_append_left (by rw [List.length_dropLast]; omega), List.getElem?_dropLast, if_pos (by omega), if_neg (by omega)]
  · subst h
    rw [List.getElem?_append_right (by rw [List.length_dropLast]; omega), List.length_dropLast, if_pos rfl, if_pos (by omega)]
    rw [hl, Nat.add_sub_cancel, Nat.sub_self]
    rfl
  · rw [List.getElem?_eq_none (by rw [List.length_append, List.length_dropLast, List.length_singleton]; omega), if_neg (by omega), List.getElem?_eq_none (by omega)]

theorem sides_len : ∀ (ds : List Txs) (long : Nat) (ahead : Txs) (n : Nat), (sidesM long ahead n ds).length = ds.flatten.length + ds.length + 1
  | [], _, _, _ => rfl
  | d :: ds, long, ahead, n => by
    unfold sidesM
    rw [List.length_cons, List.length_append, closed_len, sides_len ds, List.flatten_cons, List.length_append, List.length_cons]; omega
theorem flatM_len {ds : List Txs} (h : ∀ d ∈ ds, d.length ≤ 10000) : ds.flatten.length ≤ ds.length * 10000 := by
  induction ds with
  | nil => simp
  | cons d ds ih =>
    have := ih fun e he => h e (List.mem_cons_of_mem _ he)
    have := h d (List.mem_cons_self ..)
    rw [List.flatten_cons, List.length_append, List.length_cons]
    omega
theorem conf_len {style : Int} {long : Nat} {bs : Txs} {ds : List Txs} (h : ∀ d ∈ bs :: ds, d.length ≤ 10000) : (confM style long bs ds).length ≤ (ds.length + 2) * 10001 := by
  cases ds with
  | nil => simp [confM]
  | cons f ds =>
    have h1 := flatM_len (ds := ds) fun d hd => h d (List.mem_cons_of_mem _ (List.mem_cons_of_mem _ hd))
    have h2 := h bs (List.mem_cons_self ..)
    have h3 := h f (by simp)
    unfold confM
    rw [List.length_cons, List.length_append, closed_len]
    split
    · rw [sides_len, List.length_cons]; omega
    · rw [List.length_cons, List.length_append, closed_len, sides_len, List.length_cons]; omega
theorem conf_split (style : Int) (long : Nat) (bs f : Txs) (ds : List Txs) : confM style long bs (f :: ds) = if style = 1 then ([markT 60 long [] [32, 49]] ++ closed f) ++ sidesM long f 2 ds else (([markT 60 long [] [32, 49]] ++ closed f) ++ [markT 124 long f [32, 98, 97, 115, 101]] ++ closed bs) ++ sidesM long bs 2 ds := by
  by_cases h : style = 1
  · rw [if_pos h]; unfold confM; simp [h]
  · rw [if_neg h]; unfold confM; simp [h]
end Go.Proofs.YtdfpifipkchmnaaGreatDoor
/- Proved here: append of what reads as a list, and where it lies then. -/
namespace Go.Proofs.YtdfpifipkchmnaaGreatDoor
open Go.RowKit
set_option linter.unusedVariables false

section
variable {P : Program} (w : World)
/-- append of what reads as a list, and where it lies then. -/
theorem run_append_readsL (base : Nat) (t ty e : TypeId) (i : TypeInfo) (z : Value) (bytes : Nat) (ht : P.underlying t = some (.slice e)) (hi : P.info? e = some i) (hz : i.zero = some z)
    (hsize : i.size = 1) (hby : i.bytes = bytes) (hzs : z.cells.size = 1)
    (v : Value) (n : Nat) (xs : List Value) (hown : w.ownsRow base e 1 v n xs)
    (B : Nat) (A : Option Addr) (m c : Nat) (news : List Value) (hr : Reads w B A m news) (h1 : ∀ u ∈ news, u.oneCell' = true)
    (h63 : n + m ≤ maxLen) (hbytes : (n + m) * bytes ≤ 140737488355328) (hbase : base ≤ w.heap.size) :
    ∃ v' w', (Builtin.append_ #[t, t] ty #[v, .slice A m c]).run P w = .ok v' w' ∧ w'.ownsRow base e 1 v' (n + m) (xs ++ news) ∧ w.grownBy w' v.ownBlock ∧ (v'.ownBlock = v.ownBlock ∨ v'.ownBlock = some w.heap.size) := by
  rcases A with _ | ad
  · have hm : m = 0 := by
      rcases Nat.eq_zero_or_pos m with h0 | h0
      · exact h0
      · obtain ⟨_, _, h, _⟩ := hr.2 h0
        cases h
    subst hm
    have hn : news = [] := List.eq_nil_of_length_eq_zero hr.1
    subst hn
    exact ⟨v, w, run_append_of_nil w base t ty e i ht hi v n xs hown c, by simpa using hown, World.grownBy.refl w _, .inl rfl⟩
  · have hcells : ∀ j u, news[j]? = some u → w.cell? (ad.add j) = some u := by
      intro j u hu
      rcases Nat.eq_zero_or_pos m with h0 | h0
      · subst h0
        have hn : news = [] := List.eq_nil_of_length_eq_zero hr.1
        subst hn
        simp at hu
      · obtain ⟨b, o, h, _, hc⟩ := hr.2 h0
        injection h with h
        subst h
        rw [show (⟨b, o, none⟩ : Addr).add j = ⟨b, o + j, none⟩ from by unfold Addr.add; split <;> simp_all]
        exact hc j u hu
    obtain ⟨v', w', hrun, h2, h3, _, h5⟩ := run_append_own_at (P := P) w base t ty e i z 1 bytes ht hi hz hsize hby hzs (by decide) v n xs hown ad m c news (by rw [hr.1, Nat.mul_one]) hcells h1 h63 hbytes hbase
    exact ⟨v', w', hrun, h2, h3, h5⟩
theorem wpList_append_readsL {ops : Array Oper} {rest : List Oper} {o : Oper} {a : Act} {Q : Exit → Act → World → Prop} (hgd : o.guard = none) (s x : Operand) (t : TypeId)
    (ho : o.op = .call { callee := .builtin .append, args := #[s, x], argTypes := #[t, t] })
    (base : Nat) (e : TypeId) (i : TypeInfo) (z : Value) (bytes : Nat) (ht : P.underlying t = some (.slice e)) (hi : P.info? e = some i) (hz : i.zero = some z)
    (hsize : i.size = 1) (hby : i.bytes = bytes) (hzs : z.cells.size = 1)
    (v : Value) (n : Nat) (xs : List Value) (hs : a.eval s = v) (hown : w.ownsRow base e 1 v n xs)
    (B : Nat) (A : Option Addr) (m c : Nat) (news : List Value) (hx : a.eval x = .slice A m c) (hr : Reads w B A m news) (h1 : ∀ u ∈ news, u.oneCell' = true)
    (h63 : n + m ≤ maxLen) (hbytes : (n + m) * bytes ≤ 140737488355328) (hbase : base ≤ w.heap.size)
    (h : ∀ v' w', w'.ownsRow base e 1 v' (n + m) (xs ++ news) → w.grownBy w' v.ownBlock → (v'.ownBlock = v.ownBlock ∨ v'.ownBlock = some w.heap.size) → wpList P ops Q rest (a.put o.dst v') w') : wpList P ops Q (o :: rest) a w :=
  wpList_plain hgd fun _ hK => by
    obtain ⟨v', w', hrun, h2, h3, h4⟩ := run_append_readsL (P := P) w base t o.type e i z bytes ht hi hz hsize hby hzs v n xs hown B A m c news hr h1 h63 hbytes hbase
    unfold Oper.wp execOp
    simp only [ho, resolve, invoke, builtin, Sem.run_bind, Sem.run_pure, Result.andThen_ok, List.map_toArray, List.map_cons, List.map_nil, hs, hx, hrun]
    exact hK _ _ (h v' w' h2 h3 h4)
end
end Go.Proofs.YtdfpifipkchmnaaGreatDoor
