/- Proved here: texts joined: ContDif, ContKd, MgLawC, FrameU. -/
import Derived.Test.YticgjbckfpkpjaaGreatBu01
import Derived.Test.YticgjbckfpkpjaaGreatBu16
import Derived.Test.YticgjbckfpkpjaaGreatBu41
import Derived.Laws.StructEq
import Derived.Deep.Slices
/- Proved here: contracts of the document's own answers of layer 6: Differing. -/
namespace Go.Proofs.YticgjbckfpkpjaaGreat
open Go.RowKit
set_option linter.unusedVariables false

theorem known_step {base p q : Txs} {ps : List Txs} {k : Nat} {kn : Bool} (h : kn = decide (p = base ∨ p ∈ ps.take k)) (hq : ps[k]? = some q) : (kn || decide (p = q)) = decide (p = base ∨ p ∈ ps.take (k + 1)) := by
  rw [h, take_at hq]
  by_cases h1 : p = base
  · simp [h1]
  · by_cases h2 : p ∈ ps.take k
    · simp [h2]
    · by_cases h3 : p = q <;> simp [h1, h2, h3]

/-- How far Differing has come. -/
structure DifIn (w wr : World) (base : Txs) (ps : List Txs) (i : Nat) (v : Value) (rows : List Slc) : Prop where
  row : RowsO w.heap.size wr v rows (diffs base (ps.take i))
  below : Below w.heap.size w wr
theorem DifIn.drewN {w wr : World} {base : Txs} {ps : List Txs} {i : Nat} {v : Value} {rows : List Slc} (h : DifIn w wr base ps i v rows) (q : Nat) : DifIn w (wr.drewN q) base ps i v rows :=
  ⟨⟨h.row.own, h.row.len, fun k r ss a b => ⟨((h.row.row k r ss a b).1.keep fun _ _ => rfl), (h.row.row k r ss a b).2⟩⟩, below_drewN h.below q⟩
theorem DifIn.old {w wr : World} {base p : Txs} {ps : List Txs} {i : Nat} {v : Value} {rows : List Slc} (h : DifIn w wr base ps i v rows) (hp : ps[i]? = some p) (hk : p = base ∨ p ∈ ps.take i) : DifIn w wr base ps (i + 1) v rows := by
  refine ⟨?_, h.below⟩
  rw [take_at hp, diffs_old hk]
  exact h.row
theorem DifIn.put {w wr w2 : World} {base p : Txs} {ps : List Txs} {i : Nat} {v v' : Value} {rows : List Slc} {r : Slc} {o : Obj} (h : DifIn w wr base ps i v rows) (hp : ps[i]? = some p) (hk : ¬ (p = base ∨ p ∈ ps.take i)) (hr : TxR wr w.heap.size r p)
    (hown : w2.ownsRow w.heap.size 22 1 v' (rows.length + 1) (rows.map slcV ++ [slcV r])) (hg : (wr.alloc o).grownBy w2 v.ownBlock) (hloc : v'.ownBlock = v.ownBlock ∨ v'.ownBlock = some (wr.alloc o).heap.size) : DifIn w w2 base ps (i + 1) v' (rows ++ [r]) := by
  have hs := h.below.size
  refine ⟨?_, (h.below.alloc hs o).grown hg (by simp; omega) (fun j e => (h.row.own.lt j e).1)⟩
  rw [take_at hp, diffs_new (fun e => hk (.inl e)) (fun e => hk (.inr e))]
  refine h.row.put (hr.more hs) (fun hn q o' e hq => ?_) hown hg hloc
  have := (h.row.own.lt q hq).1
  obtain ⟨b, o2, ha, hb, _⟩ := hr.2.2.2 hn
  rw [e] at ha
  injection ha with ha
  injection ha with ha1 ha2
  omega

set_option maxRecDepth 100000 in
set_option maxHeartbeats 2000000 in
theorem rDif_any (A0 : Option Addr) (n0 c0 : Nat) (base : Txs) (A : Option Addr) (n c : Nat) (rows : List Slc) (parts : List Txs) (w : World) (hn0 : n0 ≤ maxLen) (hn : n ≤ 100000) (hA0 : Strs w w.heap.size A0 n0 base) (hA : RowsT w w.heap.size A n rows parts) :
    Calls Tryz.prog 44 #[.slice A0 n0 c0, .slice A n c] w fun e w' => RowsOut w w' e (diffs base parts) := by
  have hl := hA.len
  obtain ⟨i0, hi, hz⟩ := Option.map_eq_some_iff.1 infoTxs
  simp only [Prod.mk.injEq] at hz
  obtain ⟨hz0, hz1, hz2⟩ := hz
  have hAh := Lib.hid hA
  have hA0h := Lib.hid hA0
  clear hA hA0
  have hstart := Lib.hid (⟨RowsO.start _ _, Below.refl _ _⟩ : DifIn w w base parts 0 (.slice none 0 0) [])
  go_enter Tryz.func44, Tryz.ntmps44
  go_wp2
  go_loopw [5, 6, 7, 8] (fun s5 s6 _ _ wr => ∃ (i : Nat) (v : Value) (rs : List Slc), i ≤ n ∧ v = s5 ∧ s6 = .int .i64 i ∧ Hid (DifIn w wr base parts i v rs)) (fun _ s6 _ _ _ => n - (intOf s6).toNat)
  case atStart => exact ⟨0, _, _, Nat.zero_le _, rfl, rfl, hstart⟩
  case round =>
    obtain ⟨i, v, rs, hin, rfl, rfl, hI⟩ := hrel
    obtain ⟨wo, rfl⟩ : ∃ wo : World, wo = wr := ⟨_, rfl⟩
    by_cases hlt : i < n
    · obtain ⟨b, o, A1, n1, c1, p, rfl, hb, hp, hrow, hc, hnc, hcm, hst⟩ := (hAh.out.below hI.out.below).at_ (k := i) hlt
      have hS0 := Lib.hid (Same_any A1 A0 n1 n0 c1 c0 _ _ p base wo (by omega) hn0 hst (Strs.below hA0h.out hI.out.below))
      have hSk : Hid (∀ (W : World), (∃ q, W = wo.drewN q) → ∀ (A2 : Option Addr) (n2 c2 : Nat) (y : Txs), n2 ≤ maxLen → Strs W w.heap.size A2 n2 y → Calls Tryz.prog 23 #[.slice A1 n1 c1, .slice A2 n2 c2] W fun e w' => e = .returned (.bool (decide (p = y))) ∧ ∃ k, w' = W.drewN k) := Lib.hid (fun W hW A2 n2 c2 y h2 hy => by
        obtain ⟨q, rfl⟩ := hW
        exact Same_any A1 A2 n1 n2 c1 c2 _ _ p y _ (by omega) h2 (hst.drewN q) hy)
      have hTx := Lib.hid (⟨hnc, hcm, hst⟩ : TxR wo w.heap.size (A1, n1, c1) p)
      have hph := Lib.hid hp
      have hrowh := Lib.hid hrow
      have hbs := hI.out.below.size
      clear hp hst hrow
      go_wp2_with (go_at_call 23; refine hS0.out.mono ?_; rintro e w1 ⟨rfl, q0, rfl⟩)
      go_loopw [7, 8] (fun s7 s8 wr => ∃ (k : Nat) (kn : Bool), k ≤ i ∧ s8 = .int .i64 k ∧ s7 = .bool kn ∧ Hid (kn = decide (p = base ∨ p ∈ parts.take k)) ∧ Hid (∃ q, wr = wo.drewN q)) (fun _ s8 _ => i - (intOf s8).toNat)
      case atStart => exact ⟨0, _, Nat.zero_le _, rfl, rfl, Lib.hid (by simp), Lib.hid ⟨_, rfl⟩⟩
      case round =>
        obtain ⟨k, kn, hki, rfl, rfl, hkn, hq⟩ := hrel
        obtain ⟨wp, rfl⟩ : ∃ wp : World, wp = wr := ⟨_, rfl⟩
        have hcp : wp.cell? ⟨b, o + i, none⟩ = some (.slice A1 n1 c1) := by obtain ⟨q, rfl⟩ := hq.out; exact hc
        have hsp : wp.heap.size = wo.heap.size := by obtain ⟨q, rfl⟩ := hq.out; rfl
        have hsph := Lib.hid hsp
        have hIp : Hid (DifIn w wp base parts i v rs) := Lib.hid (by obtain ⟨q, rfl⟩ := hq.out; exact hI.out.drewN q)
        clear hsp
        by_cases hlt2 : k < i
        · obtain ⟨b', o', A2, n2, c2, y, he, hb', hy, -, hc', hnc', hcm', hst'⟩ := (hAh.out.below hIp.out.below).at_ (k := k) (by omega)
          injection he with he
          injection he with he1 he2
          subst he1
          subst he2
          have hi1 : (0 : Int) ≤ (k : Int) := by omega
          have hi2 : (k : Int) < (n : Int) := by omega
          have hi3 : (0 : Int) ≤ (i : Int) := by omega
          have hi4 : (i : Int) < (n : Int) := by omega
          have hyh := Lib.hid hy
          have hks := Lib.hid (known_step hkn.out hy)
          cases kn
          · obtain ⟨bb, hbb⟩ : ∃ bb, decide (p = y) = bb := ⟨_, rfl⟩
            have hC := Lib.hid (fun j => hSk.out (wp.drewN j) (by obtain ⟨q, rfl⟩ := hq.out; exact ⟨q + j, World.drewN_drewN _ _ _⟩) A2 n2 c2 y (by omega) (hst'.drewN j))
            rw [hbb] at hC hks
            have hks2 : Hid (bb = decide (p = base ∨ p ∈ parts.take (k + 1))) := Lib.hid (by rw [← hks.out]; rfl)
            clear hst' hy hbb hks
            go_wp2
            go_quiet ((go_at_call 23; exact Calls.quiet_of (hC.out _)))
            obtain ⟨z1, rfl⟩ : ∃ z1, z1 = nq := ⟨_, rfl⟩
            go_wp2
            go_roundw
            case rel => exact ⟨k + 1, bb, by omega, by go_num, rfl, hks2, Lib.hid (by obtain ⟨q, rfl⟩ := hq.out; exact ⟨_, World.drewN_drewN _ _ _⟩)⟩
            case measure => simp [intOf]; omega
          · clear hst' hy
            have hks2 : Hid (true = decide (p = base ∨ p ∈ parts.take (k + 1))) := Lib.hid (by rw [← hks.out]; rfl)
            clear hks
            go_wp2
            go_quiet (fail)
            obtain ⟨z1, rfl⟩ : ∃ z1, z1 = nq := ⟨_, rfl⟩
            go_wp2
            go_roundw
            case rel => exact ⟨k + 1, true, by omega, by go_num, rfl, hks2, Lib.hid (by obtain ⟨q, rfl⟩ := hq.out; exact ⟨_, World.drewN_drewN _ _ _⟩)⟩
            case measure => simp [intOf]; omega
        · obtain rfl : k = i := by omega
          cases kn
          · have hno : ¬ (p = base ∨ p ∈ parts.take k) := by have := hkn.out; simpa using this
            have hown := hIp.out.row.own
            have hrl : rs.length ≤ k := by
              have h1 := hIp.out.row.len
              have h2 := diffs_len base (parts.take k)
              have h3 := List.length_take_le k parts
              omega
            have hmax : Hid (rs.length + 1 ≤ maxLen ∧ (rs.length + 1) * 24 ≤ 140737488355328) := Lib.hid ⟨by unfold maxLen; omega, by omega⟩
            have hfin := Lib.hid (fun v' w2 => hIp.out.put (v' := v') (w2 := w2) (r := (A1, n1, c1)) (o := .cells #[.slice A1 n1 c1] 22) hph.out hno (by obtain ⟨q, rfl⟩ := hq.out; exact TxR.keep hTx.out fun _ _ => rfl))
            have hsz := hIp.out.below.size
            clear hno
            go_wp2_with (at_builtin; refine wpList_append_own_at _ rfl _ _ 23 rfl w.heap.size 22 i0 (.slice none 0 0) 1 24 Tryz.underlying23 hi hz0 hz1 hz2 rfl (by decide) v rs.length _ rfl (hown.alloc _) ⟨wp.heap.size, 0, none⟩ 1 1 [.slice A1 n1 c1] rfl rfl (cell_one_new _ _ _) (by simp [Value.oneCell']) hmax.out.1 hmax.out.2 (by simp; omega) ?_; intro v' w2 hown2 hg2 hnil2 hloc2; clear hnil2)
            go_roundw
            case rel => exact ⟨k + 1, v', _, by omega, rfl, by go_num, Lib.hid (hfin.out v' w2 hown2 hg2 hloc2)⟩
            case measure => simp [intOf]; omega
          · have hyes : p = base ∨ p ∈ parts.take k := by have := hkn.out; simpa using this
            have hfin := Lib.hid (hIp.out.old hph.out hyes)
            clear hyes
            go_wp2
            go_roundw
            case rel => exact ⟨k + 1, v, _, by omega, rfl, by go_num, hfin⟩
            case measure => simp [intOf]; omega
    · obtain rfl : i = n := by omega
      go_wp2
      go_ret
      obtain ⟨A1, c1, rfl, h1, h2, h3⟩ := hI.out.row.reads
      have ht : parts.take i = parts := List.take_of_length_le (by omega)
      rw [ht] at h3
      exact ⟨A1, _, c1, _, rfl, h1, h2, h3, hI.out.below⟩
end Go.Proofs.YticgjbckfpkpjaaGreat
/- Proved here: the contract of the document's own answer of layer 6: Kind. -/
namespace Go.Proofs.YticgjbckfpkpjaaGreat
open Go.RowKit
set_option linter.unusedVariables false

theorem rKind_any (A0 : Option Addr) (n0 c0 : Nat) (base : Txs) (A : Option Addr) (n c : Nat) (rows : List Slc) (parts : List Txs) (w : World) (hn0 : n0 ≤ maxLen) (hn : n ≤ 100000) (hA0 : Strs w w.heap.size A0 n0 base) (hA : RowsT w w.heap.size A n rows parts) :
    Calls Tryz.prog 20 #[.slice A0 n0 c0, .slice A n c] w fun e w' => e = .returned (.int .i64 (kindN base parts)) ∧ Below w.heap.size w w' := by
  have hD := Lib.hid (rDif_any A0 n0 c0 base A n c rows parts w hn0 hn hA0 hA)
  clear hA0 hA
  obtain ⟨d, hd⟩ : ∃ d, (diffs base parts).length = d := ⟨_, rfl⟩
  have hk : kindN base parts = min d 2 := by unfold kindN; rw [hd]
  have hdh := Lib.hid hd
  rw [hk]
  clear hd hk
  by_cases h2 : d < 2
  · have hm : min d 2 = d := by omega
    rw [hm]
    go_enter Tryz.func20, Tryz.ntmps20
    go_wp2_with (go_at_call 44; refine hD.out.mono ?_; rintro e w1 ⟨A1, n1, c1, rs, rfl, h3, h4, h5, h6⟩; have hn1 := h5.len; rw [hdh.out] at hn1; subst hn1)
    all_goals
      go_ret
      exact ⟨ret_int (by omega), h6⟩
  · have hm : min d 2 = 2 := by omega
    rw [hm]
    go_enter Tryz.func20, Tryz.ntmps20
    go_wp2_with (go_at_call 44; refine hD.out.mono ?_; rintro e w1 ⟨A1, n1, c1, rs, rfl, h3, h4, h5, h6⟩; have hn1 := h5.len; rw [hdh.out] at hn1; subst hn1)
    all_goals
      go_ret
      exact ⟨ret_int (by omega), h6⟩
end Go.Proofs.YticgjbckfpkpjaaGreat
/- Proved here: what the statement MergeCarries says, by the contracts of package merge. -/
namespace Go.Proofs.YticgjbckfpkpjaaGreat
open Go.RowKit
set_option linter.unusedVariables false

theorem sumB_take {ps : List Pc} {i : Nat} {p : Pc} (h : ps[i]? = some p) : sumB (ps.take (i + 1)) = sumB (ps.take i) + if p.1 then p.2.2.1.length else 0 := by
  rw [take_at h]
  unfold sumB
  rw [List.map_append, List.sum_append]
  simp
theorem sumB_pre (ps : List Pc) (i : Nat) : sumB (ps.take i) ≤ sumB ps := by
  conv => rhs; rw [← List.take_append_drop i ps]
  unfold sumB
  rw [List.map_append, List.sum_append]
  omega

section
variable (H : MergeOk)
include H

set_option maxRecDepth 100000 in
set_option maxHeartbeats 8000000 in
theorem MergeCarries_walk (A0 : Option Addr) (n0 c0 : Nat) (base : Txs) (A : Option Addr) (n c : Nat) (rows : List Slc) (sides : List Txs) (w : World) (h0 : TxR w w.heap.size (A0, n0, c0) base) (h1 : n ≤ c ∧ c ≤ maxLen ∧ RowsT w w.heap.size A n rows sides) :
    Calls Tryz.prog 9 #[.slice A0 n0 c0, .slice A n c] w fun e w' => e = .returned (.bool true) ∧ Below w.heap.size w w' := by
  have haw := Lib.hid (mAwake_any H w)
  have hl := h1.2.2.len
  have hl0 : base.length = n0 := h0.2.2.len
  obtain ⟨fm, hfm⟩ : ∃ fm, (fewM base sides && decide (wrongN base sides = 0)) = fm := ⟨_, rfl⟩
  have hF := Lib.hid (fun (W : World) (hb : Below w.heap.size w W) => mMay_any A0 n0 c0 base A n c W.heap.size rows sides W (Nat.le_trans h0.1 h0.2.1) (Nat.le_trans h1.1 h1.2.1) (h0.up hb).2.2 (h1.2.2.up hb))
  rw [hfm] at hF
  cases fm
  · clear h0 h1 hfm
    go_enter Tryz.func9, Tryz.ntmps9
    go_wp2_with (first
      | (go_at_call 10; refine haw.out.mono ?_; rintro e w1 ⟨rfl, hb1⟩; have hB1 := Lib.hid hb1; clear hb1)
      | (go_at_call 18; refine (hF.out _ hB1.out).mono ?_; rintro e w2 ⟨rfl, rfl⟩))
    go_ret
    exact ⟨rfl, hB1.out⟩
  obtain ⟨hfew, hwr⟩ := may_few hfm
  have hsM := fewM_M hfew
  have hsR := fewM_R hfew
  obtain ⟨u1, u2, u3, u4⟩ := fewM_small hfew
  have hMrg : Hid (∀ (W : World), Below w.heap.size w W → Calls Tryz.prog 15 #[.slice A0 n0 c0, .slice A n c, .agg #[.int .i64 0, .bool false]] W fun e w' => ∃ A1 n1 c1 vs ps, e = .returned (.tuple #[.slice A1 n1 c1, .int .i64 0]) ∧ n1 ≤ 100 ∧ Pcs w' w'.heap.size A1 n1 vs ps ∧ (∀ q ∈ ps, q.1 = true → q.2.2.2.length = n ∧ 1 < kindN q.2.2.1 q.2.2.2) ∧ sumB ps ≤ n0 ∧ Below w.heap.size w w') := Lib.hid (fun W hW => by
    refine (H.merge_ok A0 n0 c0 base A n c rows sides 0 false W h1.1 h1.2.1 (by unfold inR64; omega) hsM (h0.up hW) (h1.2.2.up hW)).mono ?_
    rintro e w' ⟨er, A1, n1, c1, vs, ps, rfl, q1, q2, q3, q4, q5⟩
    obtain ⟨rfl, ms, cs, a, b, rfl⟩ := merge_of hwr ⟨by omega, by omega, .inl rfl⟩ q4
    obtain ⟨k1, k2⟩ := merge_carries b
    exact ⟨A1, n1, c1, vs, _, rfl, by have h7 := q3.len; have h8 := (merge_len b hsR u2 0 false).1; omega, q3, fun q hq hc => by rw [← hl]; exact k1 q hq hc, by omega, hW.trans (q5.mono hW.size)⟩)
  have hn0 : n0 ≤ 16 := by omega
  have hn6 : n ≤ 6 := by omega
  clear h0 h1 hfm hfew hwr hsM hsR u1 u2 u3 u4 hl hl0
  go_enter Tryz.func9, Tryz.ntmps9
  go_wp2_with (first
    | (go_at_call 10; refine haw.out.mono ?_; rintro e x1 ⟨rfl, hb1⟩; have hB1 := Lib.hid hb1; clear hb1)
    | (go_at_call 18; refine (hF.out _ hB1.out).mono ?_; rintro e x2 ⟨rfl, rfl⟩)
    | (go_at_call 15; refine (hMrg.out _ hB1.out).mono ?_; rintro e x3 ⟨A1, n1, c1, vs1, ps, rfl, hn1, q1, q2, q3, q4⟩; have hP := Lib.hid q1; have hK := Lib.hid (And.intro q2 q3); have hB3 := Lib.hid q4; clear q1 q2 q3 q4))
  go_loopw [8, 9] (fun s8 s9 wr => ∃ i : Nat, i ≤ n1 ∧ s9 = .int .i64 i ∧ s8 = .int .i64 (sumB (ps.take i)) ∧ Hid (Below w.heap.size w wr) ∧ Hid (Pcs wr wr.heap.size A1 n1 vs1 ps)) (fun _ s9 _ => n1 - (intOf s9).toNat)
  case atStart => exact ⟨0, Nat.zero_le _, rfl, by simp [sumB], hB3, hP⟩
  case round =>
    obtain ⟨i, hin, rfl, rfl, hB, hPw⟩ := hrel
    obtain ⟨wo, rfl⟩ : ∃ wo : World, wo = wr := ⟨_, rfl⟩
    clear hP hB3
    obtain ⟨S, hS⟩ : ∃ S, sumB (ps.take i) = S := ⟨_, rfl⟩
    have hpre := sumB_pre ps i
    rw [hS] at hpre ⊢
    have hSn : S ≤ n0 := Nat.le_trans hpre hK.out.2
    by_cases hlt : i < n1
    · obtain ⟨b, o, cf, At, nt, ct, Ab, nb, cb, As, ns, cs, t, bs, ss, rfl, hb, hv, hp, k1, k2, k3, k4, j1, j2, j3⟩ := hPw.out.at_ (k := i) hlt
      have i1 : (0 : Int) ≤ (i : Int) := by omega
      have i2 : (i : Int) < (n1 : Int) := by omega
      have hst := sumB_take hp
      rw [hS] at hst
      cases cf
      · have hst2 : Hid (sumB (ps.take (i + 1)) = S) := Lib.hid (by rw [hst]; simp)
        clear hst hp hv j1 j2 j3 hS
        go_wp2
        go_roundw
        case rel => exact ⟨i + 1, by omega, by go_num, by rw [hst2.out], hB, hPw⟩
        case measure => simp [intOf]; omega
      · have hst2 : sumB (ps.take (i + 1)) = S + nb := by rw [hst]; have := j2.2.2.len; dsimp only at this ⊢; simp [this]
        have hq := hK.out.1 _ (List.mem_of_getElem? hp) rfl
        dsimp only at hq
        obtain ⟨d1, d2, rr, d3⟩ := j3
        dsimp only at d1 d2 d3
        have hns : ns = n := by have := d3.len; omega
        subst hns
        obtain ⟨S1, hS1⟩ : ∃ S1, S + nb = S1 := ⟨_, rfl⟩
        rw [hS1] at hst2
        have hpre2 := sumB_pre ps (i + 1)
        rw [hst2] at hpre2
        have hS1n : S1 ≤ n0 := Nat.le_trans hpre2 hK.out.2
        have e1 : (S : Int) + (nb : Int) = (S1 : Int) := by omega
        have e2 : IntKind.i64.wrap (S1 : Int) = (S1 : Int) := IntWalk.i64_in _ (by omega)
        have e3 : IntKind.i64.wrap ((S : Int) + (nb : Int)) = (S1 : Int) := by rw [e1]; exact e2
        obtain ⟨kd, hkd⟩ : ∃ kd, kindN bs ss = kd := ⟨_, rfl⟩
        have hKd : Hid (∀ W, (W = wo ∨ W = wo.drew) → Calls Tryz.prog 20 #[.slice Ab nb cb, .slice As ns cs] W fun e w' => e = .returned (.int .i64 kd) ∧ Below wo.heap.size wo w') := Lib.hid (fun W hW => by
          have hbW : Below wo.heap.size wo W := by rcases hW with rfl | rfl; exact Below.refl _ _; exact below_drew (Below.refl _ _)
          rw [← hkd]
          exact (rKind_any Ab nb cb bs As ns cs rr ss W (Nat.le_trans j2.1 j2.2.1) (by omega) (j2.up hbW).2.2 (d3.up hbW)).mono fun e w' h => ⟨h.1, hbW.trans (h.2.mono hbW.size)⟩)
        have d5 : ((ns : Int) != (ns : Int)) = false := by simp
        have d6 : decide ((kd : Int) < 2) = false := decide_eq_false (by have := hq.2; omega)
        have hst3 := Lib.hid hst2
        clear hst hst2 hp hv j1 j2 d3 hq hS hS1 hpre hpre2 hkd
        go_upto_region 11 with fail
        have hbb : b < wo.heap.size := hb
        go_region_held3 (fun wx : World => wx.cell? ⟨b, o + i * 4 + 2, none⟩ = some (.slice Ab nb cb) ∧ wx.cell? ⟨b, o + i * 4 + 3, none⟩ = some (.slice As ns cs))
          (first
            | exact ⟨k3, k4⟩
            | exact ⟨(hb5.cell (p := ⟨b, o + i * 4 + 2, none⟩) hbb).trans k3, (hb5.cell (p := ⟨b, o + i * 4 + 3, none⟩) hbb).trans k4⟩)
          ((go_at_call 20; refine (hKd.out _ (by first | exact .inl rfl | exact .inr rfl)).mono ?_; rintro e x5 ⟨rfl, hb5⟩))
        have hB5 := Lib.hid (hB.out.trans (hb5.mono hB.out.size))
        have hP5 := Lib.hid (hPw.out.up hb5)
        go_wp2_with fail
        go_roundw
        case rel => exact ⟨i + 1, by omega, by go_num, by rw [hst3.out], hB5, hP5⟩
        case measure => simp [intOf]; omega
    · obtain rfl : i = n1 := by omega
      have d7 : decide ((S : Int) ≤ (n0 : Int)) = true := decide_eq_true (by omega)
      go_wp2
      go_ret
      exact ⟨rfl, hB.out⟩
end
end Go.Proofs.YticgjbckfpkpjaaGreat
/- Proved here: what comes in as an array of two bytes has two numbers. -/
namespace Go.Proofs.YticgjbckfpkpjaaGreat
open Go.ChangeShapes Go.WideShapes Go.ChangeAt Go.RowKit
open Go.ChangeMaps (open_string shut_string)
set_option linter.unusedVariables false

theorem list2 {α : Type} (l : List α) (h : (⟨l⟩ : Array α).size = 2) : ∃ a b, l = [a, b] := by
  match l, h with
  | [a, b], _ => exact ⟨a, b, rfl⟩

theorem argArr2 {H : Type} {enc : TypeId × Value → H} {P : Program} {W : World} {r : Reach} {base b0 : Nat} {spare : Nat → Bool} {held : Bool} {t e : TypeId} {v : Value} {d : DataW H} {p : List MemPlace}
    (ht : P.underlying t = some (.array 2 e)) (he : P.underlying e = some (.int .u8)) (ct : P.cellsOf t = 2) (ce : P.cellsOf e = 1) (hv : Value.okWide P W r b0 t v) (h : DataW.Trod enc P W base spare held t v d p) :
    ∃ x y : Int, v = .agg #[.int .u8 x, .int .u8 y] ∧ (0 ≤ x ∧ x ≤ 255) ∧ 0 ≤ y ∧ y ≤ 255 := by
  obtain ⟨cs, rfl, hsz, _⟩ : ∃ cs, v = .agg cs ∧ cs.size = P.cellsOf t ∧ Row.okWide P W r b0 t cs := by
    simpa [Value.okWide, ht] using hv
  rw [ct] at hsz
  obtain ⟨l⟩ := cs
  obtain ⟨c0, c1, rfl⟩ := list2 l hsz
  obtain ⟨fuel, hf⟩ := h
  obtain ⟨xs, m, _, _, _, hxl, hel⟩ := DataW.trod_array ht hf
  have h0 := hel 0 (by omega)
  have h1 := hel 1 (by omega)
  rw [ce] at h0 h1
  simp [Value.cells] at h0 h1
  have g0 : ∃ z, xs[0]? = some z := ⟨xs[0], List.getElem?_eq_getElem (by omega)⟩
  have g1 : ∃ z, xs[1]? = some z := ⟨xs[1], List.getElem?_eq_getElem (by omega)⟩
  obtain ⟨z0, g0⟩ := g0
  obtain ⟨z1, g1⟩ := g1
  simp [g0] at h0
  simp [g1] at h1
  obtain ⟨x0, e0, _, w0⟩ := DataW.trod_int he h0
  obtain ⟨x1, e1, _, w1⟩ := DataW.trod_int he h1
  simp at e0 e1
  subst e0; subst e1
  have := bounds_u8 w0
  have := bounds_u8 w1
  exact ⟨x0, x1, rfl, by omega, by omega⟩
end Go.Proofs.YticgjbckfpkpjaaGreat
