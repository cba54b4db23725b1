/- Proved here: texts joined: PkUn2, PkConf, ContEq. -/
import Derived.Test.YtoephlkfejcadaaGreatBf03
import Derived.Test.YtoephlkfejcadaaGreatBf04
import Derived.Test.YtoephlkfejcadaaGreatBf27
import Derived.Test.YtoephlkfejcadaaGreatBf28
import Derived.RangeFuncBox
/- Proved here: the contract of the landed package pick's union. -/
namespace Go.Proofs.YtoephlkfejcadaaGreat
open Go.RowKit
set_option linter.unusedVariables false

theorem PileS.stored {w wr : World} {g n cap : Nat} {xs : Txs} (h : PileS w wr (.slice (some ⟨g, 0, none⟩) n cap) xs) (hn : xs.length = n) (m : Nat) (t : Tx) : PileS w (wr.setCell ⟨g, m, none⟩ (.string (str t))) (.slice (some ⟨g, 0, none⟩) n cap) (xs.set m t) := by
  have hown := h.own.own
  rw [hn] at hown
  obtain ⟨h1, h2⟩ := hown.stored m (.string (str t))
  have hlt := hown.lt g rfl
  refine ⟨h.box.kept h2 fun e => pile_not h.box h.own (by decide) g rfl (by injection e with e; exact e.symm), h.fn.kept h2 fun e => pile_not h.fn h.own (by decide) g rfl (by injection e with e; exact e.symm), ?_, h.own.below.grown h2 h.own.below.size fun k e => by injection e with e; omega⟩
  rw [List.length_set, hn, List.map_set]
  exact h1

set_option maxRecDepth 100000 in
set_option maxHeartbeats 4000000 in
theorem unPut_any (A : Option Addr) (n c : Nat) (v : Value) (xs ys : Txs) (w wr : World) (hP : PileS w wr v xs) (hn : n ≤ 1000000) (hA : Strs wr w.heap.size A n ys) (hm : xs.length + n ≤ 1000000000) (hs : ∀ s ∈ xs, s.length ≤ 1000001) :
    Calls Tryz.prog 120 #[.slice A n c, .pointer (some ⟨w.heap.size, 0, none⟩), .pointer (some ⟨w.heap.size + 1, 0, none⟩)] wr fun e w' => e = .returned (.tuple #[]) ∧ ∃ v', PileS w w' v' ((if ys = [] then xs else closed xs) ++ ys) := by
  obtain ⟨zs, hzs⟩ : ∃ zs, (if ys = [] then xs else closed xs) ++ ys = zs := ⟨_, rfl⟩
  have hzsh := Lib.hid hzs
  rw [hzs]
  clear hzs
  have x0 := hP.box.cell
  have x1 := hP.fn.cell
  have hl := hA.len
  have hlt := hP.fn.lt
  have hPh := Lib.hid hP
  have hput : Hid (∀ (W : World) (v1 : Value) (xs1 : Txs), PileS w W v1 xs1 → (∀ q : Addr, q.block < w.heap.size → W.cell? q = wr.cell? q) → xs1.length = xs.length → Calls Tryz.prog 122 #[.pointer (some ⟨w.heap.size, 0, none⟩), .slice A n c] W fun e w' => e = .returned (.tuple #[]) ∧ ∃ v', PileS w w' v' (xs1 ++ ys)) :=
    Lib.hid fun W v1 xs1 h1 h2 h3 => pilePut_any A n c w.heap.size v1 xs1 ys w W h1 (Reads.keep hA h2) (by omega)
  clear hP hA
  by_cases h0 : n = 0
  · subst h0
    have hys : ys = [] := List.eq_nil_of_length_eq_zero hl
    have hyh := Lib.hid hys
    have hd : decide ((0 : Int) < ((0 : Nat) : Int)) = false := by decide
    have hQ := Lib.hid (hput.out wr v xs hPh.out (fun _ _ => rfl) rfl)
    clear hys hl
    go_enter Tryz.func120, Tryz.ntmps120
    go_wp2_with (go_at_call 122; refine hQ.out.mono ?_; rintro e w1 ⟨rfl, v1, hP1⟩; have hP1h := Lib.hid hP1; clear hP1)
    go_end0
    exact ⟨rfl, v1, by rw [← hzsh.out, if_pos hyh.out]; exact hP1h.out⟩
  · have hys : ys ≠ [] := by rintro rfl; simp at hl; omega
    have hd : decide ((0 : Int) < (n : Int)) = true := by simp; omega
    have hyh := Lib.hid hys
    obtain ⟨A2, c2, hv, hc1, hc2, hR⟩ := own_slice hPh.out.own.own
    have hO := Lib.hid (Open_any A2 xs.length c2 _ xs wr (Nat.le_trans hc1 hc2) (fun s h => Nat.le_trans (hs s h) (by unfold maxLen; omega)) hR)
    obtain ⟨N, hN⟩ : ∃ N, xs.length = N := ⟨_, rfl⟩
    rw [hN] at hv hO hR
    subst hv
    clear hys hl
    cases hop : openB xs
    · have hcl := Lib.hid (closed_same hop)
      have hQ := Lib.hid (hput.out wr _ xs hPh.out (fun _ _ => rfl) rfl)
      rw [hop] at hO
      clear hop hR hc1 hc2 hN
      go_enter Tryz.func120, Tryz.ntmps120
      go_wp2_with (first
        | (go_at_call 121; refine hO.out.mono ?_; rintro e w1 ⟨rfl, rfl⟩)
        | (go_at_call 122; refine hQ.out.mono ?_; rintro e w2 ⟨rfl, v2, hP2⟩; have hP2h := Lib.hid hP2; clear hP2))
      go_end0
      exact ⟨rfl, v2, by rw [← hzsh.out, if_neg hyh.out, hcl.out]; exact hP2h.out⟩
    · obtain ⟨m, hmN⟩ : ∃ m, m + 1 = N := by
        rcases N with _ | m
        · have : xs = [] := List.eq_nil_of_length_eq_zero hN
          subst this
          simp [openB] at hop
        · exact ⟨m, rfl⟩
      have hown := hPh.out.own.own
      rw [hN] at hown
      obtain ⟨g, hg⟩ : ∃ g, A2 = some ⟨g, 0, none⟩ := by
        subst hmN
        obtain ⟨g, cap, hv⟩ := ownsRow_succ hown
        injection hv with hv1 hv2 hv3
        exact ⟨g, hv1⟩
      subst hg
      have hNm : xs.length = m + 1 := by omega
      have hsm : xs[m]? = some (xs[m]'(by omega)) := List.getElem?_eq_getElem _
      obtain ⟨s, hse⟩ : ∃ s, xs[m]'(by omega) = s := ⟨_, rfl⟩
      rw [hse] at hsm
      have hend : endedB s = false := by have := open_last hNm hsm; rw [hop] at this; simpa using this.symm
      have hcl : closed xs = xs.set m (s ++ [10]) := by rw [closed_set hNm hsm, hend]; rfl
      have hclh := Lib.hid hcl
      have x2 : wr.cell? ⟨g, m, none⟩ = some (.string (str s)) := by
        rw [hown.cellAt m (by omega), List.getElem?_map, hsm]; rfl
      have x3 : wr.frozen? ⟨g, m, none⟩ = false := hown.frozenAt m
      have hsz : (str s).size ≤ 1000001 := by rw [str_size]; exact hs s (List.mem_of_getElem? hsm)
      have hcat : ¬ 9223372036854775807 < (str s).size + 1 := by omega
      have hgl := hown.lt g rfl
      have hglt := hgl.2
      have hge := hgl.1
      have hLa := Lib.hid (pileLast_any g m c2 wr w.heap.size (by unfold maxLen; omega) (by rw [hmN]; exact hPh.out.box))
      have hQ : Hid (∀ q, Calls Tryz.prog 122 #[.pointer (some ⟨w.heap.size, 0, none⟩), .slice A n c] ((wr.drewN q).setCell ⟨g, m, none⟩ (.string (str s ++ ⟨#[10]⟩))) fun e w' => e = .returned (.tuple #[]) ∧ ∃ v', PileS w w' v' (closed xs ++ ys)) := Lib.hid (fun q => by
        rw [hcl, str_feed]
        refine hput.out _ _ _ ((hPh.out.drewN q).stored hN m (s ++ [10])) (fun p hp => ?_) (by simp)
        exact (World.cell?_of_block (w := wr.drewN q) (Below.heap_setCell _ _ _ _ (fun e => by have : p.block = g := e; omega))).trans rfl)
      rw [hop] at hO
      clear hop hR hc1 hc2 hN hown hsm hse hend hcl hs hm hgl hNm hmN
      go_enter Tryz.func120, Tryz.ntmps120
      go_wp2_with (first
        | (go_at_call 121; refine hO.out.mono ?_; rintro e w1 ⟨rfl, rfl⟩)
        | (go_at_call 119; refine hLa.out.mono ?_; rintro e w1 ⟨rfl, q, rfl⟩)
        | (go_at_call 122; refine (hQ.out _).mono ?_; rintro e w2 ⟨rfl, v2, hP2⟩; have hP2h := Lib.hid hP2; clear hP2))
      go_end0
      exact ⟨rfl, v2, by rw [← hzsh.out, if_neg hyh.out]; exact hP2h.out⟩

theorem PileS.start (w : World) : PileS w ((w.alloc (.cells #[.slice none 0 0] 172)).alloc (.cells #[.func (.func 119) #[.pointer (some ⟨w.heap.size, 0, none⟩)] #[]] 173)) (.slice none 0 0) [] := by
  have h := two_a w (.cells #[.slice none 0 0] 172) (.cells #[.func (.func 119) #[.pointer (some ⟨w.heap.size, 0, none⟩)] #[]] 173)
  exact ⟨h.1, h.2, World.ownsRow_nil _ _ _ _, ((Below.refl _ w).alloc (Nat.le_refl _) _).alloc (by simp) _⟩

set_option maxRecDepth 100000 in
set_option maxHeartbeats 4000000 in
theorem union_any (A : Option Addr) (n c : Nat) (rows : List Slc) (ds : List Txs) (w : World) (hn : n ≤ 100000) (hln : ∀ d ∈ ds, d.length ≤ 1000000) (htx : ∀ d ∈ ds, ∀ s ∈ d, s.length ≤ 1000000) (hsum : (unionT ds).length ≤ 999000000) (hA : RowsT w w.heap.size A n rows ds) :
    Calls Tryz.prog 109 #[.slice A n c] w fun e w' => OwnOut w w' e (unionT ds) := by
  have hl := hA.len
  have hAh := Lib.hid hA
  have hlh := Lib.hid hl
  have hsumh := Lib.hid hsum
  have hlnh := Lib.hid hln
  have htxh := Lib.hid htx
  have hst : Hid (PileS w _ (.slice none 0 0) (unionT (ds.take 0))) := Lib.hid (PileS.start w)
  clear hA hsum hln htx hl
  go_enter Tryz.func109, Tryz.ntmps109
  go_wp2
  go_loopw [7, 12] (fun _ s12 wr => ∃ (i : Nat) (v : Value), i ≤ n ∧ s12 = .int .i64 i ∧ Hid (PileS w wr v (unionT (ds.take i)))) (fun _ s12 _ => n - (intOf s12).toNat)
  case atStart => exact ⟨0, _, Nat.zero_le _, rfl, hst⟩
  case round =>
    obtain ⟨i, v, hin, rfl, hP⟩ := hrel
    obtain ⟨wo, rfl⟩ : ∃ wo : World, wo = wr := ⟨_, rfl⟩
    clear hst
    by_cases hlt : i < n
    · obtain ⟨b, o, A1, n1, c1, d, rfl, hb, hd, -, hc, hnc, hcm, hS⟩ := (hAh.out.below hP.out.own.below).at_ (k := i) hlt
      have i1 : (0 : Int) ≤ (i : Int) := by omega
      have i2 : (i : Int) < (n : Int) := by omega
      have hdl := hlnh.out d (List.mem_of_getElem? hd)
      have hd1 := hS.len
      have hpre := union_pre ds i
      have hQ := Lib.hid (unPut_any A1 n1 c1 v (unionT (ds.take i)) d w wo hP.out (by omega) hS (by have := hsumh.out; omega) (union_small htxh.out i))
      have hstep := Lib.hid (union_take hd)
      clear hd hS hdl hd1 hpre hnc hcm
      go_wp2_with (go_at_call 120; refine hQ.out.mono ?_; rintro e w1 ⟨rfl, v1, hP1⟩; have hP1h := Lib.hid hP1; clear hP1)
      go_roundw
      case rel => exact ⟨i + 1, v1, by omega, by go_num, Lib.hid (by rw [hstep.out]; exact hP1h.out)⟩
      case measure => simp [intOf]; omega
    · obtain rfl : i = n := by omega
      have ht : Hid (ds.take i = ds) := Lib.hid (List.take_of_length_le (by rw [hlh.out]; exact Nat.le_refl _))
      have x0 := hP.out.box.cell
      go_wp2
      go_ret
      exact ⟨v, rfl, by have := hP.out.own; rwa [ht.out] at this⟩
end Go.Proofs.YtoephlkfejcadaaGreat
/- Proved here: the contract of the landed package pick's conflict: a copy of the call's own. -/
namespace Go.Proofs.YtoephlkfejcadaaGreat
open Go.RowKit
set_option linter.unusedVariables false

/-- What a call has made stands, whatever becomes of what lay ahead of it. -/
theorem TxO.stay {F : Nat → Prop} {w w1 w2 : World} {A : Option Addr} {n c : Nat} {xs : Txs} (h : TxO w w1 (.slice A n c) xs) (hb : But F w1 w2) (hF : ∀ k, F k → k < w.heap.size) : TxR w2 w2.heap.size (A, n, c) xs := by
  have h1 := ownsRow_kept h.own (w' := w2) fun k e => hb.block k (h.own.lt k e).2 (fun hf => by have := hF k hf; have := (h.own.lt k e).1; omega)
  obtain ⟨A', c', e, r1, r2, r3⟩ := own_slice h1
  injection e with e1 e2 e3
  subst e1
  subst e2
  subst e3
  exact ⟨r1, r2, r3⟩

/-- A conflict of the call's own, told. -/
def ConfOut (w w' : World) (e : Ending) (b : Txs) (s : List Txs) : Prop := ∃ Ab nb cb As ns cs, e = .returned (.agg #[.bool true, .slice none 0 0, .slice Ab nb cb, .slice As ns cs]) ∧
  (∀ w2, But (fun k => k < w.heap.size) w' w2 → PcR w2 w2.heap.size ((none, 0, 0), (Ab, nb, cb), (As, ns, cs)) (cPc b s)) ∧ Below w.heap.size w w'

/-- How far the copies have come. -/
structure ConfIn (w wr : World) (n G k : Nat) (ps : List Txs) (rs : List Slc) : Prop where
  box : wr.heap[w.heap.size]? = some (.cells #[.bool false, .slice none 0 0, .slice none 0 0, .slice none 0 0] 44 (0, 0))
  row : wr.rowIs G 22 n (rowF rs)
  far : G = w.heap.size + 1
  len : rs.length = k
  below : Below w.heap.size w wr
  each : ∀ (i : Nat) (r : Slc) (l : Txs), rs[i]? = some r → ps[i]? = some l → ∀ w2, But (fun k => k ≤ G) wr w2 → TxR w2 w2.heap.size r l
section
variable {w W0 wr w1 : World} {n G k : Nat} {ps : List Txs} {rs : List Slc}
theorem ConfIn.start (hW : W0 = w.alloc (.cells #[.bool false, .slice none 0 0, .slice none 0 0, .slice none 0 0] 44)) : ConfIn w (W0.alloc (.cells (madeCells #[.slice none 0 0] n) 22)) n W0.heap.size 0 ps [] := by
  have hb : Below w.heap.size w W0 := by rw [hW]; exact (Below.refl _ w).alloc (Nat.le_refl _) _
  have hs : W0.heap.size = w.heap.size + 1 := by rw [hW]; simp
  refine ⟨?_, (World.rowIs_made W0 _ _ _).congr fun i _ => rfl, hs, rfl, hb.alloc hb.size _, fun i r l h => by simp at h⟩
  rw [push_at, if_neg (by omega), hW]
  exact Go.Deep.blk_alloc_new w _
theorem ConfIn.put {A : Option Addr} {m c : Nat} {l : Txs} (h : ConfIn w wr n G k ps rs) (hl : ps[k]? = some l) (hT : TxO wr w1 (.slice A m c) l) : w1.rowIs G 22 n (rowF rs) ∧ ConfIn w (w1.setCell ⟨G, k, none⟩ (.slice A m c)) n G (k + 1) ps (rs ++ [(A, m, c)]) := by
  have hb1 : But (fun j => j = G) w1 (w1.setCell ⟨G, k, none⟩ (.slice A m c)) := But.setCell (F := fun j => j = G) w1 (p := ⟨G, k, none⟩) rfl _
  have hrow : w1.rowIs G 22 n (rowF rs) := h.row.of_block (hT.below.block _ h.row.lt)
  have hw := (Array.getElem?_eq_some_iff.1 h.box).1
  have hG := h.row.lt
  have hs := hT.below.size
  have hf := h.far
  have hb2 : But (fun j => j = G) wr (w1.setCell ⟨G, k, none⟩ (.slice A m c)) := (But.of_below (F := fun j => j = G) hT.below fun q hq _ => hq).trans hb1 fun q e => .inl e
  refine ⟨hrow, (hb2.block _ hw (by omega)).trans h.box, rowF_set (r := (A, m, c)) hrow h.len, hf, by simp [h.len], h.below.trans (hb2.below h.below.size (by rintro q rfl; omega)), fun i r l' h1 h2 w2 h3 => ?_⟩
  have hlen := h.len
  rcases Nat.lt_or_ge i rs.length with hi | hi
  · rw [List.getElem?_append_left hi] at h1
    exact h.each i r l' h1 h2 w2 ((hb2.more (F' := fun k => k ≤ G) (by rintro q rfl; exact Nat.le_refl _)).trans h3 fun q e => .inl e)
  · rw [List.getElem?_append_right hi] at h1
    have hik : i = k := by
      have := (List.getElem?_eq_some_iff.1 h1).1
      simp at this
      omega
    subst hik
    simp [hlen] at h1
    rw [hl] at h2
    injection h2 with h2
    subst h1
    subst h2
    exact hT.stay ((hb1.more (F' := fun k => k ≤ G) (by rintro q rfl; exact Nat.le_refl _)).trans h3 fun q e => .inl e) (by intro q hq; omega)
theorem ConfIn.done {Ab : Option Addr} {nb cb : Nat} {base : Txs} (h : ConfIn w wr n G n ps rs) (hps : ps.length = n) (hn : n ≤ maxLen) (hT : TxO wr w1 (.slice Ab nb cb) base) (u0 u1 u2 u3 : Value) :
    ConfOut w ((((w1.setCell ⟨w.heap.size, 0, none⟩ u0).setCell ⟨w.heap.size, 1, none⟩ u1).setCell ⟨w.heap.size, 2, none⟩ u2).setCell ⟨w.heap.size, 3, none⟩ u3) (.returned (.agg #[.bool true, .slice none 0 0, .slice Ab nb cb, .slice (some ⟨G, 0, none⟩) n n])) base ps := by
  have hG := h.row.lt
  have hf := h.far
  have hB := But.piece w1 w.heap.size u0 u1 u2 u3
  refine ⟨Ab, nb, cb, _, n, n, rfl, fun w2 h2 => ?_, (h.below.trans (hT.below.mono h.below.size)).trans (hB.below (Nat.le_trans h.below.size hT.below.size) (by rintro k rfl; exact Nat.le_refl _))⟩
  have hb1 : But (fun k => k ≤ w.heap.size) w1 w2 := (hB.more (F' := fun k => k ≤ w.heap.size) (by rintro q rfl; exact Nat.le_refl _)).trans h2 fun q (e : q < w.heap.size) => .inl (by omega)
  have hb2 : But (fun k => k ≤ w.heap.size) wr w2 := (But.of_below (F := fun k => k ≤ w.heap.size) hT.below fun q hq _ => hq).trans hb1 fun q e => .inl e
  refine PcR.conf (hT.stay hb1 (by intro q hq; omega)) ⟨Nat.le_refl _, hn, rs, ?_, by rw [hps]; exact h.len, fun k r ss a b => h.each k r ss a b w2 (hb2.more fun q (hq : q ≤ w.heap.size) => by omega)⟩
  refine reads_of_row (h.row.of_block (hb2.block G hG (by omega))) _ (by rw [List.length_map]; exact h.len) fun i u hu => ?_
  rw [List.getElem?_map] at hu
  unfold rowF
  rw [List.getD_eq_getElem?_getD]
  cases h : rs[i]? with
  | none => rw [h] at hu; cases hu
  | some r => rw [h] at hu; simpa using hu
end

set_option maxRecDepth 100000 in
set_option maxHeartbeats 2000000 in
theorem conflict_any (A0 : Option Addr) (n0 c0 : Nat) (base : Txs) (A : Option Addr) (n c : Nat) (rows : List Slc) (ps : List Txs) (w : World) (hn : n ≤ 1000) (hsm : ∀ d ∈ base :: ps, d.length ≤ 1000000) (hA0 : TxR w w.heap.size (A0, n0, c0) base) (hA : RowsT w w.heap.size A n rows ps) :
    Calls Tryz.prog 55 #[.slice A0 n0 c0, .slice A n c] w fun e w' => ConfOut w w' e base ps := by
  obtain ⟨W0, hW0⟩ : ∃ W0, W0 = w.alloc (.cells #[.bool false, .slice none 0 0, .slice none 0 0, .slice none 0 0] 44) := ⟨_, rfl⟩
  have hl := hA.len
  have hlh := Lib.hid hl
  have hsmh := Lib.hid hsm
  have hAh := Lib.hid hA
  have hA0h := Lib.hid hA0
  have hst := Lib.hid (ConfIn.start (n := n) (ps := ps) hW0)
  have hmk := make_rows n (by omega)
  have hW0h := Lib.hid hW0
  clear hA hA0 hsm hW0 hl
  go_enter Tryz.func55, Tryz.ntmps55
  go_upto_region 1 with fail
  rw [← hW0h.out]
  go_wp2
  obtain ⟨G, hG⟩ : ∃ G, W0.heap.size = G := ⟨_, rfl⟩
  rw [hG] at hst ⊢
  clear hG
  go_loopw [6, 7, 13] (fun _ _ s13 wr => ∃ (k : Nat) (rs : List Slc), k ≤ n ∧ s13 = .int .i64 k ∧ Hid (ConfIn w wr n G k ps rs)) (fun _ _ s13 _ => n - (intOf s13).toNat)
  case atStart => exact ⟨0, [], Nat.zero_le _, rfl, hst⟩
  case round =>
    obtain ⟨k, rs, hkn, rfl, hP⟩ := hrel
    obtain ⟨wo, rfl⟩ : ∃ wo : World, wo = wr := ⟨_, rfl⟩
    clear hst
    by_cases hlt : k < n
    · obtain ⟨b, o, A2, n2, c2, l, rfl, hb, hll, hrow, hc, hnc, hcm, hSt⟩ := (hAh.out.below hP.out.below).at_ (k := k) hlt
      have i1 : (0 : Int) ≤ (k : Int) := by omega
      have i2 : (k : Int) < (n : Int) := by omega
      have hln : n2 ≤ 1000000000 := by have := hsmh.out l (List.mem_cons_of_mem _ (List.mem_of_getElem? hll)); have := hSt.len; omega
      have hC := Lib.hid (cloneT_any A2 n2 c2 w.heap.size l wo hln hP.out.below.size hSt)
      have hllh := Lib.hid hll
      clear hll hrow hSt hln hnc hcm
      go_wp2_with (go_at_call 90; refine hC.out.mono ?_; rintro e w1 ⟨v, rfl, hT⟩; obtain ⟨A3, c3, rfl, r1, r2, r3⟩ := own_slice hT.own; have hP2 := Lib.hid (hP.out.put hllh.out hT); have z1 := hP2.out.1.cell hlt; have z2 := hP2.out.1.frozen k; clear hT r1 r2 r3)
      go_roundw
      case rel => exact ⟨k + 1, _, by omega, by go_num, Lib.hid hP2.out.2⟩
      case measure => simp [intOf]; omega
    · obtain rfl : k = n := by omega
      have hln : n0 ≤ 1000000000 := by have := hsmh.out base (List.mem_cons_self ..); have := hA0h.out.2.2.len; dsimp only at this; omega
      have hC := Lib.hid (cloneT_any A0 n0 c0 w.heap.size base wo hln hP.out.below.size (hA0h.out.below hP.out.below).2.2)
      clear hln
      go_wp2_with (go_at_call 90; refine hC.out.mono ?_; rintro e w1 ⟨v, rfl, hT⟩; obtain ⟨A3, c3, rfl, r1, r2, r3⟩ := own_slice hT.own; have k1 : w1.heap[w.heap.size]? = _ := ((hT.below.block _ (Array.getElem?_eq_some_iff.1 hP.out.box).1).trans hP.out.box); obtain ⟨e0, e1, e2, e3, z0, z1, z2, z3⟩ := piece_at k1; have hTh := Lib.hid hT; clear hT r1 r2 r3 k1)
      refine bodyPost_ret (v := .agg #[.bool true, .slice none 0 0, .slice A3 base.length c3, .slice (some ⟨G, 0, none⟩) k k]) (by simp [results, Tryz.results55, go_sem, World.cell?_setCell_same', e0, e1, e2, e3]) rfl ?_
      exact hP.out.done hlh.out (by unfold maxLen; omega) hTh.out _ _ _ _
end Go.Proofs.YtoephlkfejcadaaGreat
/- Proved here: contracts of functions of slices that the landed package content calls: Equal, Clip, IndexFunc and ContainsFunc (over a closure that tells whether a list is one list), has. -/
namespace Go.Proofs.YtoephlkfejcadaaGreat
open Go.RowKit
set_option linter.unusedVariables false

set_option maxRecDepth 100000 in
set_option maxHeartbeats 400000 in
theorem equal_any (A A' : Option Addr) (n n' c c' B B' : Nat) (ss ss' : Txs) (w : World) (hn : n ≤ maxLen) (hn' : n' ≤ maxLen) (hA : Strs w B A n ss) (hA' : Strs w B' A' n' ss') :
    Calls Tryz.prog 130 #[.slice A n c, .slice A' n' c'] w fun e w' => e = .returned (.bool (decide (ss = ss'))) ∧ ∃ k, w' = w.drewN k := by
  unfold maxLen at hn hn'
  have hl := hA.len
  have hl' := hA'.len
  by_cases hnn : n = n'
  · subst hnn
    go_enter Tryz.func130, Tryz.ntmps130
    go_wp2
    go_loopw [5, 13] (fun _ i wr => ∃ k : Nat, k ≤ n ∧ i = .int .i64 k ∧ Hid (ss.take k = ss'.take k) ∧ ∃ q, wr = w.drewN q) (fun _ i _ => n - (intOf i).toNat)
    case atStart => exact ⟨0, Nat.zero_le _, rfl, Lib.hid rfl, 0, rfl⟩
    case round =>
      obtain ⟨k, hk, rfl, hq, q, rfl⟩ := hrel
      by_cases hlt : k < n
      · obtain ⟨b, o, t, rfl, hb, ht, hc0⟩ := hA.at_ (k := k) hlt
        obtain ⟨b', o', t', rfl, hb', ht', hc0'⟩ := hA'.at_ (k := k) hlt
        have hi1 : (0 : Int) ≤ (k : Int) := by omega
        have hi2 : (k : Int) < (n : Int) := by omega
        go_wp2
        go_quiet (fail)
        go_wp2
        · have h : (!(str t).toList == (str t').toList) = true := by assumption
          go_ret
          exact ⟨ret_bool (same_no ht ht' h), q + nq, World.drewN_drewN _ _ _⟩
        · have h : (!(str t).toList == (str t').toList) = false := by assumption
          go_roundw
          case rel => exact ⟨k + 1, by omega, by go_num, Lib.hid (same_yes hq.out ht ht' h), q + nq, rfl⟩
          case measure => simp [intOf]; omega
      · go_wp2
        go_ret
        exact ⟨ret_bool (by rw [eq_comm, decide_eq_true_iff]; have := hq.out; rwa [List.take_of_length_le (by omega), List.take_of_length_le (by omega)] at this), q, rfl⟩
  · have hne : (((n : Int) != (n' : Int))) = true := by simp; omega
    go_enter Tryz.func130, Tryz.ntmps130
    go_wp2
    go_ret
    exact ⟨ret_bool (by rw [eq_comm, decide_eq_false_iff_not]; rintro rfl; omega), 0, rfl⟩

set_option maxRecDepth 100000 in
set_option maxHeartbeats 400000 in
theorem clip_any (A : Option Addr) (n c : Nat) (w : World) (hnc : n ≤ c) (hcm : c ≤ maxLen) :
    Calls Tryz.prog 118 #[.slice A n c] w fun e w' => e = .returned (.slice A n n) ∧ w' = w := by
  have hs : ∀ W : World, (Instr.slice 22 (.slice A n c) none (some (.int .i64 n)) (some (.int .i64 n))).run Tryz.prog W = .ok (.slice A n n) W := fun W => by
    rw [run_slice_hm (P := Tryz.prog) W 22 A n c Tryz.underlying22 .i64 .i64 n n (by omega) (Int.le_refl _) (by omega)]
    go_simp
  have hn1 : (0 : Int) ≤ (n : Int) := by omega
  have hnch := Lib.hid hnc
  clear hnc hcm
  go_enter Tryz.func118, Tryz.ntmps118
  go_wp2
  go_ret
  exact ⟨rfl, rfl⟩

/-- What has's closure tells: whether a list is the one that lies in block L. -/
theorem isThis_any (L : Nat) (A A' : Option Addr) (n c n' c' : Nat) (ss p : Txs) (B : Nat) (w : World) (hn : n ≤ maxLen) (hn' : n' ≤ maxLen) (hA : Strs w B A n ss) (hA' : Strs w B A' n' p) (hL : Boxed w L 22 (.slice A' n' c')) :
    Calls Tryz.prog 129 #[.slice A n c, .pointer (some ⟨L, 0, none⟩)] w fun e w' => e = .returned (.bool (decide (ss = p))) ∧ ∃ k, w' = w.drewN k := by
  have hE := Lib.hid (equal_any A A' n n' c c' B B ss p w hn hn' hA hA')
  obtain ⟨r, hr⟩ : ∃ r, decide (ss = p) = r := ⟨_, rfl⟩
  have d0 := hL.cell
  rw [hr] at hE ⊢
  clear hA hA' hL hr
  go_enter Tryz.func129, Tryz.ntmps129
  go_wp2_with (go_at_call 130; refine hE.out.mono ?_; rintro e w1 ⟨rfl, q, rfl⟩)
  go_ret
  exact ⟨rfl, q, rfl⟩

/-- Where a list stands first; -1, if nowhere. -/
def firstAt (lists : List Txs) (p : Txs) : Int := if p ∈ lists then (lists.findIdx (fun l => decide (l = p)) : Nat) else -1
theorem firstAt_yes {lists : List Txs} {p : Txs} {k : Nat} (h : lists[k]? = some p) (hno : p ∉ lists.take k) : firstAt lists p = k := by
  unfold firstAt
  rw [if_pos (List.mem_of_getElem? h)]
  have hk := (List.getElem?_eq_some_iff.1 h).1
  have : lists.findIdx (fun l => decide (l = p)) = k := by
    rw [List.findIdx_eq hk]
    refine ⟨by have := (List.getElem?_eq_some_iff.1 h).2; simpa using this, fun j hj => ?_⟩
    rw [decide_eq_false_iff_not]
    intro e
    exact hno (by rw [← e]; exact List.mem_of_getElem? (i := j) (by rw [List.getElem?_take, if_pos hj]; exact List.getElem?_eq_getElem (by omega)))
  rw [this]
theorem firstAt_no {lists : List Txs} {p : Txs} (h : p ∉ lists) : firstAt lists p = -1 := by
  unfold firstAt
  rw [if_neg h]

set_option maxRecDepth 100000 in
set_option maxHeartbeats 1000000 in
theorem indexOf_any (L : Nat) (A A' : Option Addr) (n c n' c' : Nat) (rows : List Slc) (lists : List Txs) (p : Txs) (w : World) (hn : n ≤ maxLen) (hn' : n' ≤ maxLen) (hA : RowsT w w.heap.size A n rows lists) (hA' : Strs w w.heap.size A' n' p) (hL : Boxed w L 22 (.slice A' n' c')) :
    Calls Tryz.prog 91 #[.slice A n c, .func (.func 129) #[] #[.pointer (some ⟨L, 0, none⟩)]] w fun e w' => e = .returned (.int .i64 (firstAt lists p)) ∧ ∃ k, w' = w.drewN k := by
  have hl := hA.len
  have hAh := Lib.hid hA
  have hlh := Lib.hid hl
  have hX : Hid (∀ (q : Nat) (A1 : Option Addr) (n1 c1 : Nat) (ss : Txs), n1 ≤ maxLen → Strs w w.heap.size A1 n1 ss → Calls Tryz.prog 129 #[.slice A1 n1 c1, .pointer (some ⟨L, 0, none⟩)] (w.drewN q) fun e w' => e = .returned (.bool (decide (ss = p))) ∧ ∃ k, w' = (w.drewN q).drewN k) :=
    Lib.hid fun q A1 n1 c1 ss h1 h2 => isThis_any L A1 A' n1 c1 n' c' ss p w.heap.size (w.drewN q) h1 hn' (h2.drewN q) (hA'.drewN q) hL
  unfold maxLen at hn
  clear hA hA' hL hl
  go_enter Tryz.func91, Tryz.ntmps91
  go_wp2
  go_loopw [5, 8] (fun _ i wr => ∃ k : Nat, k ≤ n ∧ i = .int .i64 k ∧ Hid (p ∉ lists.take k) ∧ ∃ q, wr = w.drewN q) (fun _ i _ => n - (intOf i).toNat)
  case atStart => exact ⟨0, Nat.zero_le _, rfl, Lib.hid (by simp), 0, rfl⟩
  case round =>
    obtain ⟨k, hk, rfl, hno, q, rfl⟩ := hrel
    by_cases hlt : k < n
    · obtain ⟨b, o, A1, n1, c1, ss, rfl, hb, hss, -, hc, hnc, hcm, hS⟩ := hAh.out.at_ (k := k) hlt
      have hi1 : (0 : Int) ≤ (k : Int) := by omega
      have hi2 : (k : Int) < (n : Int) := by omega
      have hC := Lib.hid (hX.out q A1 n1 c1 ss (by omega) hS)
      have hssh := Lib.hid hss
      have hc' : (w.drewN q).cell? ⟨b, o + k, none⟩ = some (.slice A1 n1 c1) := hc
      clear hS hss
      by_cases hp : ss = p
      · subst hp
        have hr := Lib.hid (firstAt_yes hssh.out hno.out)
        have hC2 := hC
        rw [show decide (ss = ss) = true by simp] at hC2
        clear hC
        go_wp2_with (go_at_call 129; refine hC2.out.mono ?_; rintro e w1 ⟨rfl, q1, rfl⟩)
        go_ret
        exact ⟨ret_int hr.out.symm, q + q1, rfl⟩
      · have hC2 := hC
        rw [show decide (ss = p) = false by simpa using hp] at hC2
        have hno2 : p ∉ lists.take (k + 1) := by
          rw [take_at hssh.out]
          intro h
          rcases List.mem_append.1 h with h | h
          · exact hno.out h
          · exact hp (List.mem_singleton.1 h).symm
        have hno3 := Lib.hid hno2
        clear hC hno2
        go_wp2_with (go_at_call 129; refine hC2.out.mono ?_; rintro e w1 ⟨rfl, q1, rfl⟩)
        go_roundw
        case rel => exact ⟨k + 1, by omega, by go_num, hno3, q + q1, rfl⟩
        case measure => simp [intOf]; omega
    · obtain rfl : k = n := by omega
      have hr : firstAt lists p = -1 := firstAt_no (by have := hno.out; rwa [List.take_of_length_le (by rw [hlh.out]; exact Nat.le_refl _)] at this)
      have hrh := Lib.hid hr
      clear hr
      go_wp2
      go_ret
      exact ⟨ret_int hrh.out.symm, q, rfl⟩

set_option maxRecDepth 100000 in
set_option maxHeartbeats 800000 in
theorem contains_any (L : Nat) (A A' : Option Addr) (n c n' c' : Nat) (rows : List Slc) (lists : List Txs) (p : Txs) (w : World) (hn : n ≤ maxLen) (hn' : n' ≤ maxLen) (hA : RowsT w w.heap.size A n rows lists) (hA' : Strs w w.heap.size A' n' p) (hL : Boxed w L 22 (.slice A' n' c')) :
    Calls Tryz.prog 58 #[.slice A n c, .func (.func 129) #[] #[.pointer (some ⟨L, 0, none⟩)]] w fun e w' => e = .returned (.bool (decide (p ∈ lists))) ∧ ∃ k, w' = w.drewN k := by
  have hI := Lib.hid (indexOf_any L A A' n c n' c' rows lists p w hn hn' hA hA' hL)
  obtain ⟨z, hz⟩ : ∃ z, firstAt lists p = z := ⟨_, rfl⟩
  have hd : decide (p ∈ lists) = decide (0 ≤ z) := by
    rw [← hz]
    unfold firstAt
    split
    · rename_i h; simp [h]
    · rename_i h; simp [h]
  rw [hz] at hI
  rw [hd]
  clear hz hd hA hA' hL
  obtain ⟨r, hr⟩ : ∃ r, decide (0 ≤ z) = r := ⟨_, rfl⟩
  rw [hr]
  go_enter Tryz.func58, Tryz.ntmps58
  go_wp2_with (go_at_call 91; refine hI.out.mono ?_; rintro e w1 ⟨rfl, q, rfl⟩)
  go_ret
  exact ⟨ret_bool (by simp), q, rfl⟩

set_option maxRecDepth 100000 in
set_option maxHeartbeats 800000 in
theorem has_any (A A' : Option Addr) (n c n' c' : Nat) (rows : List Slc) (lists : List Txs) (p : Txs) (w : World) (hn : n ≤ maxLen) (hn' : n' ≤ maxLen) (hA : RowsT w w.heap.size A n rows lists) (hA' : Strs w w.heap.size A' n' p) :
    Calls Tryz.prog 117 #[.slice A n c, .slice A' n' c'] w fun e w' => e = .returned (.bool (decide (p ∈ lists))) ∧ Below w.heap.size w w' := by
  have hb : Below w.heap.size w (w.alloc (.cells #[.slice A' n' c'] 22)) := (Below.refl _ _).alloc (Nat.le_refl _) _
  have hC := Lib.hid (contains_any w.heap.size A A' n c n' c' rows lists p (w.alloc (.cells #[.slice A' n' c'] 22)) hn hn' (hA.up hb) (hA'.up hb) (Boxed.new _ _ _))
  have hbh := Lib.hid hb
  obtain ⟨r, hr⟩ : ∃ r, decide (p ∈ lists) = r := ⟨_, rfl⟩
  rw [hr] at hC ⊢
  clear hb hA hA' hr
  go_enter Tryz.func117, Tryz.ntmps117
  go_wp2_with (go_at_call 58; refine hC.out.mono ?_; rintro e w1 ⟨rfl, q, rfl⟩)
  go_ret
  exact ⟨rfl, below_drewN hbh.out q⟩
end Go.Proofs.YtoephlkfejcadaaGreat
