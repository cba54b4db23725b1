/- Proved here: texts joined: ContDif. -/
import Derived.Test.YtidfhgocnglnjaaBz16
import Derived.Laws.StructEq
/- Proved here: contracts of the document's own answers of layer 6: Differing. -/
namespace Go.Proofs.Ytidfhgocnglnjaa
open Go.RowKit
set_option linter.unusedVariables false

theorem known_step {base p q : Txs} {ps : List Txs} {k : Nat} {kn : Bool} (h : kn = decide (p = base ∨ p ∈ ps.take k)) (hq : ps[k]? = some q) : (kn || decide (p = q)) = decide (p = base ∨ p ∈ ps.take (k + 1)) := by
  rw [h, take_at hq]
  by_cases h1 : p = base
  · simp [h1]
  · by_cases h2 : p ∈ ps.take k
    · simp [h2]
    · by_cases h3 : p = q <;> simp [h1, h2, h3]

/-- How far Differing has come. -/
structure DifIn (B : Nat) (w wr : World) (base : Txs) (ps : List Txs) (i : Nat) (v : Value) (rows : List Slc) : Prop where
  row : RowsO w.heap.size wr v rows (diffs base (ps.take i))
  below : Below w.heap.size w wr
  low : ∀ (k : Nat) (r : Slc) (ss : Txs), rows[k]? = some r → (diffs base (ps.take i))[k]? = some ss → TxR wr B r ss
theorem DifIn.drewN {B : Nat} {w wr : World} {base : Txs} {ps : List Txs} {i : Nat} {v : Value} {rows : List Slc} (h : DifIn B w wr base ps i v rows) (q : Nat) : DifIn B w (wr.drewN q) base ps i v rows :=
  ⟨⟨h.row.own, h.row.len, fun k r ss a b => ⟨((h.row.row k r ss a b).1.keep fun _ _ => rfl), (h.row.row k r ss a b).2⟩⟩, below_drewN h.below q, fun k r ss a b => (h.low k r ss a b).keep fun _ _ => rfl⟩
theorem DifIn.old {B : Nat} {w wr : World} {base p : Txs} {ps : List Txs} {i : Nat} {v : Value} {rows : List Slc} (h : DifIn B w wr base ps i v rows) (hp : ps[i]? = some p) (hk : p = base ∨ p ∈ ps.take i) : DifIn B w wr base ps (i + 1) v rows := by
  refine ⟨?_, h.below, ?_⟩
  · rw [take_at hp, diffs_old hk]
    exact h.row
  · rw [take_at hp, diffs_old hk]
    exact h.low
theorem DifIn.put {B : Nat} {w wr w2 : World} {base p : Txs} {ps : List Txs} {i : Nat} {v v' : Value} {rows : List Slc} {r : Slc} {o : Obj} (h : DifIn B w wr base ps i v rows) (hp : ps[i]? = some p) (hk : ¬ (p = base ∨ p ∈ ps.take i)) (hB : B ≤ w.heap.size) (hrB : TxR wr B r p) (hr : TxR wr w.heap.size r p)
    (hown : w2.ownsRow w.heap.size 22 1 v' (rows.length + 1) (rows.map slcV ++ [slcV r])) (hg : (wr.alloc o).grownBy w2 v.ownBlock) (hloc : v'.ownBlock = v.ownBlock ∨ v'.ownBlock = some (wr.alloc o).heap.size) : DifIn B w w2 base ps (i + 1) v' (rows ++ [r]) := by
  have hs := h.below.size
  have hb2 : Below B wr w2 := ((Below.refl B wr).alloc (by omega) o).grown hg (by simp; omega) (fun j e => by have := (h.row.own.lt j e).1; omega)
  refine ⟨?_, (h.below.alloc hs o).grown hg (by simp; omega) (fun j e => (h.row.own.lt j e).1), ?_⟩
  rotate_left
  · rw [take_at hp, diffs_new (fun e => hk (.inl e)) (fun e => hk (.inr e))]
    have hl := h.row.len
    intro k r' ss' h1 h2
    rcases Nat.lt_or_ge k rows.length with hkl | hkl
    · rw [List.getElem?_append_left hkl] at h1
      rw [List.getElem?_append_left (by omega)] at h2
      exact (h.low k r' ss' h1 h2).below hb2
    · rw [List.getElem?_append_right hkl] at h1
      rw [List.getElem?_append_right (by omega), ← hl] at h2
      have hj0 : k = rows.length := by
        have := (List.getElem?_eq_some_iff.1 h1).1
        simp at this
        omega
      subst hj0
      simp at h1
      simp at h2
      subst h1
      subst h2
      exact hrB.below hb2
  rw [take_at hp, diffs_new (fun e => hk (.inl e)) (fun e => hk (.inr e))]
  refine h.row.put (hr.more hs) (fun hn q o' e hq => ?_) hown hg hloc
  have := (h.row.own.lt q hq).1
  obtain ⟨b, o2, ha, hb, _⟩ := hr.2.2.2 hn
  rw [e] at ha
  injection ha with ha
  injection ha with ha1 ha2
  omega

/-- Lists of texts that a call tells, their texts below a bound. -/
def RowsOutB (B : Nat) (w w' : World) (e : Ending) (sss : List Txs) : Prop := ∃ A n c rows, e = .returned (.slice A n c) ∧ n ≤ c ∧ c ≤ maxLen ∧ RowsT w' w'.heap.size A n rows sss ∧ (∀ (k : Nat) (r : Slc) (ss : Txs), rows[k]? = some r → sss[k]? = some ss → TxR w' B r ss) ∧ Below w.heap.size w w'

set_option maxRecDepth 100000 in
set_option maxHeartbeats 2000000 in
theorem rDif_anyB (B : Nat) (A0 : Option Addr) (n0 c0 : Nat) (base : Txs) (A : Option Addr) (n c : Nat) (rows : List Slc) (parts : List Txs) (w : World) (hn0 : n0 ≤ maxLen) (hn : n ≤ 100000) (hA0 : Strs w w.heap.size A0 n0 base) (hA : RowsT w w.heap.size A n rows parts) (hB : B ≤ w.heap.size) (hAB : ∀ (k : Nat) (r : Slc) (ss : Txs), rows[k]? = some r → parts[k]? = some ss → TxR w B r ss) :
    Calls Try.prog 22 #[.slice A0 n0 c0, .slice A n c] w fun e w' => RowsOutB B w w' e (diffs base parts) := by
  have hl := hA.len
  obtain ⟨i0, hi, hz⟩ := Option.map_eq_some_iff.1 infoTxs
  simp only [Prod.mk.injEq] at hz
  obtain ⟨hz0, hz1, hz2⟩ := hz
  have hAh := Lib.hid hA
  have hA0h := Lib.hid hA0
  have hBh := Lib.hid hB
  have hABh := Lib.hid hAB
  clear hA hA0 hB hAB
  have hstart := Lib.hid (⟨RowsO.start _ _, Below.refl _ _, fun k r ss h => by simp at h⟩ : DifIn B w w base parts 0 (.slice none 0 0) [])
  go_enter Try.func22, Try.ntmps22
  go_wp2
  go_loopw [5, 6, 7, 8] (fun s5 s6 _ _ wr => ∃ (i : Nat) (v : Value) (rs : List Slc), i ≤ n ∧ v = s5 ∧ s6 = .int .i64 i ∧ Hid (DifIn B w wr base parts i v rs)) (fun _ s6 _ _ _ => n - (intOf s6).toNat)
  case atStart => exact ⟨0, _, _, Nat.zero_le _, rfl, rfl, hstart⟩
  case round =>
    obtain ⟨i, v, rs, hin, rfl, rfl, hI⟩ := hrel
    obtain ⟨wo, rfl⟩ : ∃ wo : World, wo = wr := ⟨_, rfl⟩
    by_cases hlt : i < n
    · obtain ⟨b, o, A1, n1, c1, p, rfl, hb, hp, hrow, hc, hnc, hcm, hst⟩ := (hAh.out.below hI.out.below).at_ (k := i) hlt
      have hS0 := Lib.hid (Same_any A1 A0 n1 n0 c1 c0 _ _ p base wo (by omega) hn0 hst (Strs.below hA0h.out hI.out.below))
      have hSk : Hid (∀ (W : World), (∃ q, W = wo.drewN q) → ∀ (A2 : Option Addr) (n2 c2 : Nat) (y : Txs), n2 ≤ maxLen → Strs W w.heap.size A2 n2 y → Calls Try.prog 15 #[.slice A1 n1 c1, .slice A2 n2 c2] W fun e w' => e = .returned (.bool (decide (p = y))) ∧ ∃ k, w' = W.drewN k) := Lib.hid (fun W hW A2 n2 c2 y h2 hy => by
        obtain ⟨q, rfl⟩ := hW
        exact Same_any A1 A2 n1 n2 c1 c2 _ _ p y _ (by omega) h2 (hst.drewN q) hy)
      have hTx := Lib.hid (⟨hnc, hcm, hst⟩ : TxR wo w.heap.size (A1, n1, c1) p)
      have hph := Lib.hid hp
      have hrowh := Lib.hid hrow
      have hbs := hI.out.below.size
      clear hp hst hrow
      go_wp2_with (go_at_call 15; refine hS0.out.mono ?_; rintro e w1 ⟨rfl, q0, rfl⟩)
      go_loopw [7, 8] (fun s7 s8 wr => ∃ (k : Nat) (kn : Bool), k ≤ i ∧ s8 = .int .i64 k ∧ s7 = .bool kn ∧ Hid (kn = decide (p = base ∨ p ∈ parts.take k)) ∧ Hid (∃ q, wr = wo.drewN q)) (fun _ s8 _ => i - (intOf s8).toNat)
      case atStart => exact ⟨0, _, Nat.zero_le _, rfl, rfl, Lib.hid (by simp), Lib.hid ⟨_, rfl⟩⟩
      case round =>
        obtain ⟨k, kn, hki, rfl, rfl, hkn, hq⟩ := hrel
        obtain ⟨wp, rfl⟩ : ∃ wp : World, wp = wr := ⟨_, rfl⟩
        have hcp : wp.cell? ⟨b, o + i, none⟩ = some (.slice A1 n1 c1) := by obtain ⟨q, rfl⟩ := hq.out; exact hc
        have hsp : wp.heap.size = wo.heap.size := by obtain ⟨q, rfl⟩ := hq.out; rfl
        have hsph := Lib.hid hsp
        have hIp : Hid (DifIn B w wp base parts i v rs) := Lib.hid (by obtain ⟨q, rfl⟩ := hq.out; exact hI.out.drewN q)
        clear hsp
        by_cases hlt2 : k < i
        · obtain ⟨b', o', A2, n2, c2, y, he, hb', hy, -, hc', hnc', hcm', hst'⟩ := (hAh.out.below hIp.out.below).at_ (k := k) (by omega)
          injection he with he
          injection he with he1 he2
          subst he1
          subst he2
          have hi1 : (0 : Int) ≤ (k : Int) := by omega
          have hi2 : (k : Int) < (n : Int) := by omega
          have hi3 : (0 : Int) ≤ (i : Int) := by omega
          have hi4 : (i : Int) < (n : Int) := by omega
          have hyh := Lib.hid hy
          have hks := Lib.hid (known_step hkn.out hy)
          cases kn
          · obtain ⟨bb, hbb⟩ : ∃ bb, decide (p = y) = bb := ⟨_, rfl⟩
            have hC := Lib.hid (fun j => hSk.out (wp.drewN j) (by obtain ⟨q, rfl⟩ := hq.out; exact ⟨q + j, World.drewN_drewN _ _ _⟩) A2 n2 c2 y (by omega) (hst'.drewN j))
            rw [hbb] at hC hks
            have hks2 : Hid (bb = decide (p = base ∨ p ∈ parts.take (k + 1))) := Lib.hid (by rw [← hks.out]; rfl)
            clear hst' hy hbb hks
            go_wp2
            go_quiet ((go_at_call 15; exact Calls.quiet_of (hC.out _)))
            obtain ⟨z1, rfl⟩ : ∃ z1, z1 = nq := ⟨_, rfl⟩
            go_wp2
            go_roundw
            case rel => exact ⟨k + 1, bb, by omega, by go_num, rfl, hks2, Lib.hid (by obtain ⟨q, rfl⟩ := hq.out; exact ⟨_, World.drewN_drewN _ _ _⟩)⟩
            case measure => simp [intOf]; omega
          · clear hst' hy
            have hks2 : Hid (true = decide (p = base ∨ p ∈ parts.take (k + 1))) := Lib.hid (by rw [← hks.out]; rfl)
            clear hks
            go_wp2
            go_quiet (fail)
            obtain ⟨z1, rfl⟩ : ∃ z1, z1 = nq := ⟨_, rfl⟩
            go_wp2
            go_roundw
            case rel => exact ⟨k + 1, true, by omega, by go_num, rfl, hks2, Lib.hid (by obtain ⟨q, rfl⟩ := hq.out; exact ⟨_, World.drewN_drewN _ _ _⟩)⟩
            case measure => simp [intOf]; omega
        · obtain rfl : k = i := by omega
          cases kn
          · have hno : ¬ (p = base ∨ p ∈ parts.take k) := by have := hkn.out; simpa using this
            have hown := hIp.out.row.own
            have hrl : rs.length ≤ k := by
              have h1 := hIp.out.row.len
              have h2 := diffs_len base (parts.take k)
              have h3 := List.length_take_le k parts
              omega
            have hmax : Hid (rs.length + 1 ≤ maxLen ∧ (rs.length + 1) * 24 ≤ 140737488355328) := Lib.hid ⟨by unfold maxLen; omega, by omega⟩
            have hfin := Lib.hid (fun v' w2 => hIp.out.put (v' := v') (w2 := w2) (r := (A1, n1, c1)) (o := .cells #[.slice A1 n1 c1] 22) hph.out hno hBh.out ((hABh.out k _ _ hrowh.out hph.out).below (hIp.out.below.mono hBh.out)) (by obtain ⟨q, rfl⟩ := hq.out; exact TxR.keep hTx.out fun _ _ => rfl))
            have hsz := hIp.out.below.size
            clear hno
            go_wp2_with (at_builtin; refine wpList_append_own_at _ rfl _ _ 23 rfl w.heap.size 22 i0 (.slice none 0 0) 1 24 Try.underlying23 hi hz0 hz1 hz2 rfl (by decide) v rs.length _ rfl (hown.alloc _) ⟨wp.heap.size, 0, none⟩ 1 1 [.slice A1 n1 c1] rfl rfl (cell_one_new _ _ _) (by simp [Value.oneCell']) hmax.out.1 hmax.out.2 (by simp; omega) ?_; intro v' w2 hown2 hg2 hnil2 hloc2; clear hnil2)
            go_roundw
            case rel => exact ⟨k + 1, v', _, by omega, rfl, by go_num, Lib.hid (hfin.out v' w2 hown2 hg2 hloc2)⟩
            case measure => simp [intOf]; omega
          · have hyes : p = base ∨ p ∈ parts.take k := by have := hkn.out; simpa using this
            have hfin := Lib.hid (hIp.out.old hph.out hyes)
            clear hyes
            go_wp2
            go_roundw
            case rel => exact ⟨k + 1, v, _, by omega, rfl, by go_num, hfin⟩
            case measure => simp [intOf]; omega
    · obtain rfl : i = n := by omega
      go_wp2
      go_ret
      obtain ⟨A1, c1, rfl, h1, h2, h3⟩ := hI.out.row.reads
      have ht : parts.take i = parts := List.take_of_length_le (by omega)
      have hLk := hI.out.low
      rw [ht] at h3 hLk
      exact ⟨A1, _, c1, _, rfl, h1, h2, h3, hLk, hI.out.below⟩

theorem rDif_any (A0 : Option Addr) (n0 c0 : Nat) (base : Txs) (A : Option Addr) (n c : Nat) (rows : List Slc) (parts : List Txs) (w : World) (hn0 : n0 ≤ maxLen) (hn : n ≤ 100000) (hA0 : Strs w w.heap.size A0 n0 base) (hA : RowsT w w.heap.size A n rows parts) :
    Calls Try.prog 22 #[.slice A0 n0 c0, .slice A n c] w fun e w' => RowsOut w w' e (diffs base parts) :=
  (rDif_anyB w.heap.size A0 n0 c0 base A n c rows parts w hn0 hn hA0 hA (Nat.le_refl _) hA.2.2).mono fun e w' h => by
    obtain ⟨A1, n1, c1, rs, h1, h2, h3, h4, _, h6⟩ := h
    exact ⟨A1, n1, c1, rs, h1, h2, h3, h4, h6⟩
end Go.Proofs.Ytidfhgocnglnjaa
