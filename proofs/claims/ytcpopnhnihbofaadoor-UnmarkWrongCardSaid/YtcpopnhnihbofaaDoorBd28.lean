/- Proved here: texts joined: Steps, ContFew, ContAll, PickSm. -/
import Derived.Test.YtcpopnhnihbofaaDoorBd02
import Derived.Test.YtcpopnhnihbofaaDoorBd03
import Derived.Test.YtcpopnhnihbofaaDoorBd08
import Derived.Test.YtcpopnhnihbofaaDoorBd09
import Derived.Test.YtcpopnhnihbofaaDoorBd23
import Derived.Deep.RegionLaw
import Derived.Maps.AppendAt
import Derived.OwnWalk
import Derived.Deep.DeepCutAuto
import Derived.Outline
/- Proved here, without conditions on the program: append as a step of a region that draws its order; a part of what reads as a list. -/
namespace Go.Proofs.YtcpopnhnihbofaaDoor
open Go.RowKit
set_option linter.unusedVariables false

/-- append onto a row of the call's own, as one step of a region that draws. -/
theorem appendO_step {P : Program} {ops : Array Oper} {o : Oper} {a : Act} {w : World} {K : Act → World → Prop} {Q : Exit → Act → World → Prop} {G : Prop}
    (hg : o.guard = none) (s x : Operand) (t : TypeId) (hop : o.op = Op.call { callee := Callee.builtin Builtin.append, args := #[s, x], argTypes := #[t, t] })
    (base : Nat) (e : TypeId) (i : TypeInfo) (z : Value) (size bytes : Nat) (h1 : P.underlying t = some (.slice e)) (h2 : P.info? e = some i) (h3 : i.zero = some z) (h4 : i.size = size) (h5 : i.bytes = bytes) (h6 : z.cells.size = size) (h7 : 0 < size)
    (v : Value) (n : Nat) (xs : List Value) (hs : a.eval s = v) (hown : w.ownsRow base e size v n xs)
    (ad : Addr) (m c : Nat) (news : List Value) (hx : a.eval x = .slice (some ad) m c) (hn : news.length = m * size) (hc : ∀ j u, news[j]? = some u → w.cell? (ad.add j) = some u) (h1c : ∀ u ∈ news, u.oneCell' = true)
    (b1 : n + m ≤ maxLen) (b2 : (n + m) * bytes ≤ 140737488355328) (hbase : base ≤ w.heap.size)
    (hK : ∀ v' w', w'.ownsRow base e size v' (n + m) (xs ++ news) → w.grownBy w' v.ownBlock → (v'.ownBlock = v.ownBlock ∨ v'.ownBlock = some w.heap.size) → K (a.put o.dst v') w') :
    if Region.wanted o (yielded ops a.tmps) = true then Oper.wp P o a w K Q else G := by
  have hw : Region.wanted o (yielded ops a.tmps) = true := by simp [Region.wanted, hg]
  rw [if_pos hw]
  obtain ⟨v', w', hrun, r1, r2, _, r4⟩ := run_append_own_at (P := P) w base t o.type e i z size bytes h1 h2 h3 h4 h5 h6 h7 v n xs hown ad m c news hn hc h1c b1 b2 hbase
  unfold Oper.wp
  simp [execOp, hop, resolve, invoke, builtin, hs, hx, hrun, Result.andThen]
  exact hK v' w' r1 r2 r4

theorem appendR_step {P : Program} {ops : Array Oper} {o : Oper} {a : Act} {w : World} {K : Act → World → Prop} {Q : Exit → Act → World → Prop} {E : Prop} (hg : o.guard = none) (s x : Operand) (t : TypeId)
    (ho : o.op = .call { callee := .builtin .append, args := #[s, x], argTypes := #[t, t] })
    (base : Nat) (e : TypeId) (i : TypeInfo) (z : Value) (bytes : Nat) (ht : P.underlying t = some (.slice e)) (hi : P.info? e = some i) (hz : i.zero = some z)
    (hsize : i.size = 1) (hby : i.bytes = bytes) (hzs : z.cells.size = 1)
    (v : Value) (n : Nat) (xs : List Value) (hs : a.eval s = v) (hown : w.ownsRow base e 1 v n xs)
    (B : Nat) (A : Option Addr) (m c : Nat) (news : List Value) (hx : a.eval x = .slice A m c) (hr : Reads w B A m news) (h1 : ∀ u ∈ news, u.oneCell' = true)
    (h63 : n + m ≤ maxLen) (hbytes : (n + m) * bytes ≤ 140737488355328) (hbase : base ≤ w.heap.size)
    (h : ∀ v' w', w'.ownsRow base e 1 v' (n + m) (xs ++ news) → w.grownBy w' v.ownBlock → K (a.put o.dst v') w') : if Region.wanted o (yielded ops a.tmps) = true then Oper.wp P o a w K Q else E := by
  rw [if_pos (by simp [Region.wanted, hg])]
  exact wp_append_reads w s x t ho base e i z bytes ht hi hz hsize hby hzs v n xs hs hown B A m c news hx hr h1 h63 hbytes hbase h

theorem Reads.part {w : World} {B n b o : Nat} {xs : List Value} (h : Reads w B (some ⟨b, o, none⟩) n xs) {a m : Nat} (ham : a + m ≤ n) : Reads w B (some ⟨b, o + a, none⟩) m ((xs.drop a).take m) := by
  have hl := h.1
  refine ⟨by simp; omega, fun hm => ?_⟩
  obtain ⟨b', o', e, hb, hc⟩ := h.2 (by omega)
  injection e with e
  injection e with e1 e2
  subst e1
  subst e2
  refine ⟨b, o + a, rfl, hb, fun j u hu => ?_⟩
  rw [Nat.add_assoc]
  refine hc (a + j) u ?_
  rw [← hu, List.getElem?_take]
  have hj : j < m := by
    have := (List.getElem?_eq_some_iff.1 hu).1
    simp at this; omega
  rw [if_pos hj, List.getElem?_drop]

end Go.Proofs.YtcpopnhnihbofaaDoor
/- Proved here, without conditions on the program: few texts. -/
namespace Go.Proofs.YtcpopnhnihbofaaDoor
open Go.RowKit
set_option linter.unusedVariables false

/-- A base, and 6 parts, of 20 texts of 100 bytes, at most. -/
def fewT (base : Txs) (parts : List Txs) : Bool := fewB base 20 && decide (parts.length ≤ 6) && (parts.take 7).all fun f => fewB f 20
theorem fewB_len {ss : Txs} {m : Nat} (h : fewB ss m = true) : ss.length ≤ m := by
  unfold fewB at h
  simp at h
  exact h.1
theorem fewT_parts {base : Txs} {parts : List Txs} (h : fewT base parts = true) : base.length ≤ 20 ∧ parts.length ≤ 6 ∧ ∀ f ∈ parts, f.length ≤ 20 := by
  unfold fewT at h
  rw [Bool.and_eq_true, Bool.and_eq_true, decide_eq_true_eq] at h
  obtain ⟨⟨h1, h2⟩, h3⟩ := h
  refine ⟨fewB_len h1, h2, fun f hf => ?_⟩
  rw [List.take_of_length_le (by omega), List.all_eq_true] at h3
  exact fewB_len (h3 f hf)
theorem fewB_txs {ss : Txs} {m : Nat} (h : fewB ss m = true) : ∀ s ∈ ss, s.length ≤ 100 := by
  have hl := fewB_len h
  unfold fewB at h
  rw [Bool.and_eq_true, List.all_eq_true] at h
  intro s hs
  have := h.2 s (by rw [List.take_of_length_le (by omega)]; exact hs)
  simpa using this
theorem fewT_txs {base : Txs} {parts : List Txs} (h : fewT base parts = true) : (∀ s ∈ base, s.length ≤ 100) ∧ ∀ f ∈ parts, ∀ s ∈ f, s.length ≤ 100 := by
  unfold fewT at h
  rw [Bool.and_eq_true, Bool.and_eq_true, decide_eq_true_eq] at h
  obtain ⟨⟨h1, h2⟩, h3⟩ := h
  refine ⟨fewB_txs h1, fun f hf => ?_⟩
  rw [List.take_of_length_le (by omega), List.all_eq_true] at h3
  exact fewB_txs (h3 f hf)
theorem fewT_step {files : List Txs} {k : Nat} {f : Txs} (hq : (files.take k).all (fun f => fewB f 20) = true) (ht : files[k]? = some f) (h : fewB f 20 = true) : (files.take (k + 1)).all (fun f => fewB f 20) = true := by
  rw [take_at ht, List.all_append, hq]
  simp [h]
theorem fewT_no {base : Txs} {files : List Txs} {k : Nat} {f : Txs} (hk : k < 7) (ht : files[k]? = some f) (h : fewB f 20 = false) : false = fewT base files := by
  unfold fewT
  have hm : f ∈ files.take 7 := List.mem_of_getElem? (i := k) (by rw [List.getElem?_take]; rw [if_pos hk]; exact ht)
  rw [eq_comm, Bool.and_eq_false_iff]
  right
  rw [Bool.eq_false_iff, ne_eq, List.all_eq_true]
  intro ha
  rw [ha f hm] at h
  cases h
theorem fewT_end {base : Txs} {files : List Txs} {k n : Nat} (hl : files.length = n) (h : k = n ∨ 7 ≤ k ∧ k < n) (hq : (files.take k).all (fun f => fewB f 20) = true) : (fewB base 20 && decide (n ≤ 6)) = fewT base files := by
  unfold fewT
  rw [hl]
  by_cases hm : n ≤ 6
  · have : k = n := by omega
    subst this
    rw [List.take_of_length_le (by omega)] at hq
    rw [List.take_of_length_le (by omega), hq]
    simp
  · simp [hm]

end Go.Proofs.YtcpopnhnihbofaaDoor
/- Proved here: the contract of the document's own answer of layer 6: All. -/
namespace Go.Proofs.YtcpopnhnihbofaaDoor
open Go.RowKit
set_option linter.unusedVariables false

theorem all_no {xs ys : List Txs} {k : Nat} {x y : Txs} (hx : xs[k]? = some x) (hy : ys[k]? = some y) (h : x ≠ y) : false = decide (xs = ys) := by
  rw [eq_comm, decide_eq_false_iff_not]
  rintro rfl
  rw [hx] at hy
  injection hy with hy
  exact h hy
theorem all_yes {xs ys : List Txs} {k : Nat} {x y : Txs} (hq : xs.take k = ys.take k) (hx : xs[k]? = some x) (hy : ys[k]? = some y) (h : x = y) : xs.take (k + 1) = ys.take (k + 1) := by
  rw [take_at hx, take_at hy, hq, h]

set_option maxHeartbeats 800000 in
theorem cAll_any (A A' : Option Addr) (n n' c c' B B' : Nat) (rows rows' : List Slc) (xs ys : List Txs) (w : World) (hn : n ≤ maxLen) (hn' : n' ≤ maxLen) (hA : RowsT w B A n rows xs) (hA' : RowsT w B' A' n' rows' ys) :
    Calls Tryd.prog 25 #[.slice A n c, .slice A' n' c'] w fun e w' => e = .returned (.bool (decide (xs = ys))) ∧ ∃ q, w' = w.drewN q := by
  have hl := hA.len
  have hl' := hA'.len
  unfold maxLen at hn hn'
  by_cases hnn : n = n'
  · subst hnn
    go_enter Tryd.func25, Tryd.ntmps25
    go_wp2
    go_loopw [5] (fun i wr => ∃ k : Nat, k ≤ n ∧ i = .int .i64 k ∧ Hid (xs.take k = ys.take k) ∧ ∃ q, wr = w.drewN q) (fun i _ => n - (intOf i).toNat)
    case atStart => exact ⟨0, Nat.zero_le _, rfl, Lib.hid rfl, 0, rfl⟩
    case round =>
      obtain ⟨k, hk, rfl, hq, q, rfl⟩ := hrel
      by_cases hlt : k < n
      · obtain ⟨b, o, A1, n1, c1, x, rfl, hb, hx, -, hc0, hnc, hcm, hst⟩ := hA.at_ (k := k) hlt
        obtain ⟨b', o', A2, n2, c2, y, rfl, hb', hy, -, hc0', hnc', hcm', hst'⟩ := hA'.at_ (k := k) hlt
        have hi1 : (0 : Int) ≤ (k : Int) := by omega
        have hi2 : (k : Int) < (n : Int) := by omega
        obtain ⟨bb, hbb⟩ : ∃ bb, decide (x = y) = bb := ⟨_, rfl⟩
        have hS := fun W (h1 : Strs W B A1 n1 x) (h2 : Strs W B' A2 n2 y) => Same_any A1 A2 n1 n2 c1 c2 B B' x y W (by omega) (by omega) h1 h2
        rw [hbb] at hS
        have hS' := Lib.hid (fun j => hS ((w.drewN q).drewN j) ((hst.drewN q).drewN j) ((hst'.drewN q).drewN j))
        have hS'' := Lib.hid (fun j => hS (w.drewN j) (hst.drewN j) (hst'.drewN j))
        have hbbh := Lib.hid hbb
        have hxh := Lib.hid hx
        have hyh := Lib.hid hy
        clear hS hbb hst hst' hx hy
        obtain ⟨wo, hwo⟩ : ∃ wo : World, wo = w.drewN q := ⟨_, rfl⟩
        rw [← hwo] at hS' ⊢
        have e0 : wo.cell? ⟨b, o + k, none⟩ = some (.slice A1 n1 c1) := by rw [hwo]; exact hc0
        have e1 : wo.cell? ⟨b', o' + k, none⟩ = some (.slice A2 n2 c2) := by rw [hwo]; exact hc0'
        have hwoh := Lib.hid hwo
        clear hwo hS'' hc0 hc0'
        go_wp2
        go_quiet ((go_at_call 24; exact Calls.quiet_of (hS'.out _)))
        obtain ⟨z1, rfl⟩ : ∃ z1, z1 = nq := ⟨_, rfl⟩
        cases bb
        · have hne : x ≠ y := by simpa using hbbh.out
          have hneh := Lib.hid hne
          clear hne
          go_wp2
          go_ret
          exact ⟨ret_bool (all_no hxh.out hyh.out hneh.out), q + z1, by rw [hwoh.out, World.drewN_drewN]⟩
        · have he : x = y := by simpa using hbbh.out
          have heh := Lib.hid he
          clear he
          go_wp2
          go_roundw
          case rel => exact ⟨k + 1, by omega, by go_num, Lib.hid (all_yes hq.out hxh.out hyh.out heh.out), q + z1, by rw [hwoh.out, World.drewN_drewN]⟩
          case measure => simp [intOf]; omega
      · go_wp2
        go_ret
        exact ⟨ret_bool (by rw [eq_comm, decide_eq_true_iff]; have := hq.out; rwa [List.take_of_length_le (by omega), List.take_of_length_le (by omega)] at this), q, rfl⟩
  · have hne : (((n : Int) != (n' : Int))) = true := by simp; omega
    go_enter Tryd.func25, Tryd.ntmps25
    go_wp2
    go_ret
    exact ⟨ret_bool (by rw [eq_comm, decide_eq_false_iff_not]; rintro rfl; omega), 0, rfl⟩
end Go.Proofs.YtcpopnhnihbofaaDoor
/- Proved here: the contract of the document's own answer of layer 7: Same. -/
namespace Go.Proofs.YtcpopnhnihbofaaDoor
open Go.RowKit
set_option linter.unusedVariables false

theorem neq_bool (a b : Bool) (W : World) : (binOp .neq 4 (.bool a) (.bool b)).run Tryd.prog W = .ok (.bool (a != b)) W := by
  cases a <;> cases b <;> go_simp
theorem psame_no {xs ys : List Pc} {k : Nat} {x y : Pc} (hx : xs[k]? = some x) (hy : ys[k]? = some y) (h : x ≠ y) : false = decide (xs = ys) := by
  rw [eq_comm, decide_eq_false_iff_not]
  rintro rfl
  rw [hx] at hy
  injection hy with hy
  exact h hy
theorem psame_yes {xs ys : List Pc} {k : Nat} {x y : Pc} (hq : xs.take k = ys.take k) (hx : xs[k]? = some x) (hy : ys[k]? = some y) (h : x = y) : xs.take (k + 1) = ys.take (k + 1) := by
  rw [take_at hx, take_at hy, hq, h]

set_option maxRecDepth 100000 in
set_option maxHeartbeats 4000000 in
theorem pSame_any (A A' : Option Addr) (n n' c c' B B' : Nat) (vs vs' : List PcV) (xs ys : List Pc) (w : World) (hn : n ≤ maxLen) (hn' : n' ≤ maxLen) (hA : Pcs w B A n vs xs) (hA' : Pcs w B' A' n' vs' ys) :
    Calls Tryd.prog 10 #[.slice A n c, .slice A' n' c'] w fun e w' => e = .returned (.bool (decide (xs = ys))) ∧ ∃ q, w' = w.drewN q := by
  have hl := hA.len
  have hl' := hA'.len
  unfold maxLen at hn hn'
  by_cases hnn : n = n'
  rotate_left
  · have hne : (((n : Int) != (n' : Int))) = true := by simp; omega
    go_enter Tryd.func10, Tryd.ntmps10
    go_wp2
    go_ret
    exact ⟨ret_bool (by rw [eq_comm, decide_eq_false_iff_not]; rintro rfl; omega), 0, rfl⟩
  subst hnn
  have hAh := Lib.hid hA
  have hAh' := Lib.hid hA'
  clear hA hA'
  go_enter Tryd.func10, Tryd.ntmps10
  go_wp2
  go_loopw [5] (fun i wr => ∃ k : Nat, k ≤ n ∧ i = .int .i64 k ∧ Hid (xs.take k = ys.take k) ∧ Hid (∃ q, wr = w.drewN q)) (fun i _ => n - (intOf i).toNat)
  case atStart => exact ⟨0, Nat.zero_le _, rfl, Lib.hid rfl, Lib.hid ⟨0, rfl⟩⟩
  case round =>
    obtain ⟨k, hk, rfl, hq, hw⟩ := hrel
    obtain ⟨wo, rfl⟩ : ∃ wo : World, wo = wr := ⟨_, rfl⟩
    have hAo : Hid (Pcs wo B A n vs xs) := Lib.hid (by obtain ⟨q, rfl⟩ := hw.out; exact hAh.out.drewN q)
    have hAo' : Hid (Pcs wo B' A' n vs' ys) := Lib.hid (by obtain ⟨q, rfl⟩ := hw.out; exact hAh'.out.drewN q)
    have hdr : Hid (∀ j, ∃ q, wo.drewN j = w.drewN q) := Lib.hid (fun j => by obtain ⟨q, rfl⟩ := hw.out; exact ⟨_, World.drewN_drewN _ _ _⟩)
    by_cases hlt : k < n
    · obtain ⟨b, o, cf, At, nt, ct, Ab, nb, cb, As, ns, cs, t, bs, ss, rfl, hb, hv, hp, k1, k2, k3, k4, j1, j2, j3, j4, rr, j5⟩ := hAo.out.at_ (k := k) hlt
      obtain ⟨b', o', cf', At', nt', ct', Ab', nb', cb', As', ns', cs', t', bs', ss', rfl, hb', hv', hp', k1', k2', k3', k4', j1', j2', j3', j4', rr', j5'⟩ := hAo'.out.at_ (k := k) hlt
      have i1 : (0 : Int) ≤ (k : Int) := by omega
      have i2 : (k : Int) < (n : Int) := by omega
      obtain ⟨f0, hf0⟩ : ∃ f0, (cf != cf') = f0 := ⟨_, rfl⟩
      obtain ⟨f1, hf1⟩ : ∃ f1, decide (t = t') = f1 := ⟨_, rfl⟩
      obtain ⟨f2, hf2⟩ : ∃ f2, decide (bs = bs') = f2 := ⟨_, rfl⟩
      obtain ⟨f3, hf3⟩ : ∃ f3, decide (ss = ss') = f3 := ⟨_, rfl⟩
      have hF1 : Hid (∀ j, Calls Tryd.prog 24 #[.slice At nt ct, .slice At' nt' ct'] (wo.drewN j) fun e w' => e = .returned (.bool f1) ∧ ∃ q, w' = (wo.drewN j).drewN q) := Lib.hid (fun j => by
        rw [← hf1]; exact Same_any At At' nt nt' ct ct' B B' t t' _ (Nat.le_trans j1.1 j1.2.1) (Nat.le_trans j1'.1 j1'.2.1) (j1.2.2.drewN j) (j1'.2.2.drewN j))
      have hF2 : Hid (∀ j, Calls Tryd.prog 24 #[.slice Ab nb cb, .slice Ab' nb' cb'] (wo.drewN j) fun e w' => e = .returned (.bool f2) ∧ ∃ q, w' = (wo.drewN j).drewN q) := Lib.hid (fun j => by
        rw [← hf2]; exact Same_any Ab Ab' nb nb' cb cb' B B' bs bs' _ (Nat.le_trans j2.1 j2.2.1) (Nat.le_trans j2'.1 j2'.2.1) (j2.2.2.drewN j) (j2'.2.2.drewN j))
      have hF3 : Hid (∀ j, Calls Tryd.prog 25 #[.slice As ns cs, .slice As' ns' cs'] (wo.drewN j) fun e w' => e = .returned (.bool f3) ∧ ∃ q, w' = (wo.drewN j).drewN q) := Lib.hid (fun j => by
        rw [← hf3]; exact cAll_any As As' ns ns' cs cs' B B' rr rr' ss ss' _ (Nat.le_trans j3 j4) (Nat.le_trans j3' j4') (j5.drewN j) (j5'.drewN j))
      have heq : Hid ((f0 = false ∧ f1 = true ∧ f2 = true ∧ f3 = true) ↔ ((cf, t, bs, ss) : Pc) = (cf', t', bs', ss')) := Lib.hid (by
        rw [← hf0, ← hf1, ← hf2, ← hf3]
        simp [Prod.ext_iff])
      have hph := Lib.hid hp
      have hph' := Lib.hid hp'
      clear hv hp hv' hp' hf1 hf2 hf3 j1 j2 j5 j1' j2' j5'
      have hneq : ∀ W : World, (binOp .neq 4 (.bool cf) (.bool cf')).run Tryd.prog W = .ok (.bool f0) W := fun W => by rw [neq_bool, hf0]
      clear hf0
      cases f0
      · cases f1
        · have hno := Lib.hid (psame_no hph.out hph'.out (fun e => by have := heq.out.2 e; simp at this))
          go_wp2
          go_quiet ((first | (go_at_call 24; first | with_reducible exact Calls.quiet_of (hF1.out _) | with_reducible exact Calls.quiet_of (hF2.out _)) | (go_at_call 25; exact Calls.quiet_of (hF3.out _))))
          obtain ⟨z1, rfl⟩ : ∃ z1, z1 = nq := ⟨_, rfl⟩
          go_wp2
          go_ret
          exact ⟨ret_bool hno.out, hdr.out z1⟩
        · cases f2
          · have hno := Lib.hid (psame_no hph.out hph'.out (fun e => by have := heq.out.2 e; simp at this))
            go_wp2
            go_quiet ((first | (go_at_call 24; first | with_reducible exact Calls.quiet_of (hF1.out _) | with_reducible exact Calls.quiet_of (hF2.out _)) | (go_at_call 25; exact Calls.quiet_of (hF3.out _))))
            obtain ⟨z1, rfl⟩ : ∃ z1, z1 = nq := ⟨_, rfl⟩
            go_wp2
            go_ret
            exact ⟨ret_bool hno.out, hdr.out z1⟩
          · cases f3
            · have hno := Lib.hid (psame_no hph.out hph'.out (fun e => by have := heq.out.2 e; simp at this))
              go_wp2
              go_quiet ((first | (go_at_call 24; first | with_reducible exact Calls.quiet_of (hF1.out _) | with_reducible exact Calls.quiet_of (hF2.out _)) | (go_at_call 25; exact Calls.quiet_of (hF3.out _))))
              obtain ⟨z1, rfl⟩ : ∃ z1, z1 = nq := ⟨_, rfl⟩
              go_wp2
              go_ret
              exact ⟨ret_bool hno.out, hdr.out z1⟩
            · have hyes := Lib.hid (psame_yes hq.out hph.out hph'.out (heq.out.1 ⟨rfl, rfl, rfl, rfl⟩))
              go_wp2
              go_quiet ((first | (go_at_call 24; first | with_reducible exact Calls.quiet_of (hF1.out _) | with_reducible exact Calls.quiet_of (hF2.out _)) | (go_at_call 25; exact Calls.quiet_of (hF3.out _))))
              obtain ⟨z1, rfl⟩ : ∃ z1, z1 = nq := ⟨_, rfl⟩
              go_wp2
              go_roundw
              case rel => exact ⟨k + 1, by omega, by go_num, hyes, Lib.hid (hdr.out z1)⟩
              case measure => simp [intOf]; omega
      · have hno := Lib.hid (psame_no hph.out hph'.out (fun e => by have := heq.out.2 e; simp at this))
        go_wp2
        go_quiet (fail)
        obtain ⟨z1, rfl⟩ : ∃ z1, z1 = nq := ⟨_, rfl⟩
        go_wp2
        go_ret
        exact ⟨ret_bool hno.out, hdr.out z1⟩
    · go_wp2
      go_ret
      exact ⟨ret_bool (by rw [eq_comm, decide_eq_true_iff]; have := hq.out; rwa [List.take_of_length_le (by omega), List.take_of_length_le (by omega)] at this), hw.out⟩
end Go.Proofs.YtcpopnhnihbofaaDoor
