/- Proved here: texts joined: PkPile, MkSh, LinOpen. -/
import Derived.Test.YtcjmmidnfjifaaaGreatDoorBm11
import Derived.Test.YtcjmmidnfjifaaaGreatDoorBm18
import Derived.Test.YtcjmmidnfjifaaaGreatDoorBm29
import Derived.Laws.EntriesVeiled
import Derived.RangeFuncBox
import Derived.Test.YtcjmmidnfjifaaaGreatDoorShelf
/- Proved here: the pile of pieces of the landed package pick: what was put last, one more piece. -/
namespace Go.Proofs.YtcjmmidnfjifaaaGreatDoor
open Go.RowKit
set_option linter.unusedVariables false

section
variable {P : Program} (w : World)
/-- append of what reads as a list, and where it lies then. -/
theorem run_append_readsL (base : Nat) (t ty e : TypeId) (i : TypeInfo) (z : Value) (bytes : Nat) (ht : P.underlying t = some (.slice e)) (hi : P.info? e = some i) (hz : i.zero = some z)
    (hsize : i.size = 1) (hby : i.bytes = bytes) (hzs : z.cells.size = 1)
    (v : Value) (n : Nat) (xs : List Value) (hown : w.ownsRow base e 1 v n xs)
    (B : Nat) (A : Option Addr) (m c : Nat) (news : List Value) (hr : Reads w B A m news) (h1 : ∀ u ∈ news, u.oneCell' = true)
    (h63 : n + m ≤ maxLen) (hbytes : (n + m) * bytes ≤ 140737488355328) (hbase : base ≤ w.heap.size) :
    ∃ v' w', (Builtin.append_ #[t, t] ty #[v, .slice A m c]).run P w = .ok v' w' ∧ w'.ownsRow base e 1 v' (n + m) (xs ++ news) ∧ w.grownBy w' v.ownBlock ∧ (v'.ownBlock = v.ownBlock ∨ v'.ownBlock = some w.heap.size) := by
  rcases A with _ | ad
  · have hm : m = 0 := by
      rcases Nat.eq_zero_or_pos m with h0 | h0
      · exact h0
      · obtain ⟨_, _, h, _⟩ := hr.2 h0
        cases h
    subst hm
    have hn : news = [] := List.eq_nil_of_length_eq_zero hr.1
    subst hn
    exact ⟨v, w, run_append_of_nil w base t ty e i ht hi v n xs hown c, by simpa using hown, World.grownBy.refl w _, .inl rfl⟩
  · have hcells : ∀ j u, news[j]? = some u → w.cell? (ad.add j) = some u := by
      intro j u hu
      rcases Nat.eq_zero_or_pos m with h0 | h0
      · subst h0
        have hn : news = [] := List.eq_nil_of_length_eq_zero hr.1
        subst hn
        simp at hu
      · obtain ⟨b, o, h, _, hc⟩ := hr.2 h0
        injection h with h
        subst h
        rw [show (⟨b, o, none⟩ : Addr).add j = ⟨b, o + j, none⟩ from by unfold Addr.add; split <;> simp_all]
        exact hc j u hu
    obtain ⟨v', w', hrun, h2, h3, _, h5⟩ := run_append_own_at (P := P) w base t ty e i z 1 bytes ht hi hz hsize hby hzs (by decide) v n xs hown ad m c news (by rw [hr.1, Nat.mul_one]) hcells h1 h63 hbytes hbase
    exact ⟨v', w', hrun, h2, h3, h5⟩
theorem wpList_append_readsL {ops : Array Oper} {rest : List Oper} {o : Oper} {a : Act} {Q : Exit → Act → World → Prop} (hgd : o.guard = none) (s x : Operand) (t : TypeId)
    (ho : o.op = .call { callee := .builtin .append, args := #[s, x], argTypes := #[t, t] })
    (base : Nat) (e : TypeId) (i : TypeInfo) (z : Value) (bytes : Nat) (ht : P.underlying t = some (.slice e)) (hi : P.info? e = some i) (hz : i.zero = some z)
    (hsize : i.size = 1) (hby : i.bytes = bytes) (hzs : z.cells.size = 1)
    (v : Value) (n : Nat) (xs : List Value) (hs : a.eval s = v) (hown : w.ownsRow base e 1 v n xs)
    (B : Nat) (A : Option Addr) (m c : Nat) (news : List Value) (hx : a.eval x = .slice A m c) (hr : Reads w B A m news) (h1 : ∀ u ∈ news, u.oneCell' = true)
    (h63 : n + m ≤ maxLen) (hbytes : (n + m) * bytes ≤ 140737488355328) (hbase : base ≤ w.heap.size)
    (h : ∀ v' w', w'.ownsRow base e 1 v' (n + m) (xs ++ news) → w.grownBy w' v.ownBlock → (v'.ownBlock = v.ownBlock ∨ v'.ownBlock = some w.heap.size) → wpList P ops Q rest (a.put o.dst v') w') : wpList P ops Q (o :: rest) a w :=
  wpList_plain hgd fun _ hK => by
    obtain ⟨v', w', hrun, h2, h3, h4⟩ := run_append_readsL (P := P) w base t o.type e i z bytes ht hi hz hsize hby hzs v n xs hown B A m c news hr h1 h63 hbytes hbase
    unfold Oper.wp execOp
    simp only [ho, resolve, invoke, builtin, Sem.run_bind, Sem.run_pure, Result.andThen_ok, List.map_toArray, List.map_cons, List.map_nil, hs, hx, hrun]
    exact hK _ _ (h v' w' h2 h3 h4)
end

/-- What was put last, where nothing was. -/
theorem pileLastP_none (L c : Nat) (A : Option Addr) (w : World) (hL : Boxed w L 76 (.slice A 0 c)) :
    Calls Tryz.prog 63 #[.pointer (some ⟨L, 0, none⟩)] w fun e w' => e = .returned (.pointer none) ∧ w' = w := by
  have x0 := hL.cell
  clear hL
  go_enter Tryz.func63, Tryz.ntmps63
  go_wp2
  go_ret
  exact ⟨rfl, rfl⟩
set_option maxRecDepth 100000 in
set_option maxHeartbeats 1000000 in
theorem pileLastP_any (g m N cap : Nat) (w : World) (L : Nat) (hm : m < maxLen) (hN : m + 1 = N) (hL : Boxed w L 76 (.slice (some ⟨g, 0, none⟩) N cap)) :
    Calls Tryz.prog 63 #[.pointer (some ⟨L, 0, none⟩)] w fun e w' => e = .returned (.pointer (some ⟨g, m * 4, none⟩)) ∧ ∃ q, w' = w.drewN q := by
  unfold maxLen at hm
  have x0 := hL.cell
  have e0 : ((N : Int) == 0) = false := by simp; omega
  have e1 : (N : Int) - 1 = (m : Int) := by omega
  have e2 : IntKind.i64.wrap ((N : Int) - 1) = (m : Int) := by rw [e1]; exact IntWalk.i64_in _ (by omega)
  have i1 : (0 : Int) ≤ (m : Int) := by omega
  have i2 : (m : Int) < (N : Int) := by omega
  clear hL hN
  go_enter Tryz.func63, Tryz.ntmps63
  go_wp2
  go_quiet (fail)
  go_wp2
  go_ret
  exact ⟨by simp, nq, rfl⟩

set_option maxRecDepth 100000 in
set_option maxHeartbeats 1000000 in
/-- One more piece, that lies in a block of its own. -/
theorem pilePutP_any (L base n h : Nat) (v : Value) (cells : List Value) (cf : Bool) (r : PcV) (w : World) (hn : n ≤ 1000000) (hL : Boxed w L 76 v) (hown : w.ownsRow base 36 4 v n cells) (hbase : base ≤ w.heap.size) (hh : w.heap[h]? = some (pcObj cf r)) :
    Calls Tryz.prog 65 #[.pointer (some ⟨L, 0, none⟩), .slice (some ⟨h, 0, none⟩) 1 1] w fun e w' => e = .returned (.tuple #[]) ∧ ∃ v' w2, w' = w2.setCell ⟨L, 0, none⟩ v' ∧
      w2.ownsRow base 36 4 v' (n + 1) (cells ++ pcC cf r) ∧ w.grownBy w2 v.ownBlock ∧ (v'.ownBlock = v.ownBlock ∨ v'.ownBlock = some w.heap.size) := by
  obtain ⟨j0, hj, hyy⟩ := Option.map_eq_some_iff.1 infoPc
  simp only [Prod.mk.injEq] at hyy
  obtain ⟨hy0, hy1, hy2⟩ := hyy
  have hmax : Hid (n + 1 ≤ maxLen ∧ (n + 1) * 80 ≤ 140737488355328) := Lib.hid ⟨by unfold maxLen; omega, by omega⟩
  have hcell : Hid (∀ j u, (pcC cf r)[j]? = some u → w.cell? ((⟨h, 0, none⟩ : Addr).add j) = some u) := Lib.hid (fun j u hu => by
    rw [addr_add, cells_of (t := 36) hh]
    simpa [pcC, slcV] using hu)
  have x0 := hL.cell
  have hLh := Lib.hid hL
  clear hL hn hh
  go_enter Tryz.func65, Tryz.ntmps65
  go_wp2_with (at_builtin; refine wpList_append_own_at _ rfl _ _ 22 rfl base 36 j0 (.agg #[.bool false, .slice none 0 0, .slice none 0 0, .slice none 0 0]) 4 80 Tryz.underlying22 hj hy0 hy1 hy2 rfl (by decide) v n _ rfl hown ⟨h, 0, none⟩ 1 1 (pcC cf r) rfl rfl hcell.out (pcC_one _ _) hmax.out.1 hmax.out.2 hbase ?_; intro v' w2 hown2 hg2 hnil2 hloc2; clear hnil2; obtain ⟨g2, c2, rfl⟩ := ownsRow_succ hown2; have hbx : Boxed w2 L 76 v := hLh.out.kept hg2 (Boxed.not_row hLh.out (by decide) hown); have x1 := hbx.cell; have x2 := hbx.frozen; have hfin := Lib.hid (And.intro hown2 (And.intro hg2 hloc2)); clear hbx x0 hown2 hg2 hloc2)
  go_end0
  exact ⟨rfl, _, w2, rfl, hfin.out.1, hfin.out.2.1, hfin.out.2.2⟩
end Go.Proofs.YtcjmmidnfjifaaaGreatDoor
/- Proved here: the sheet of the landed mark: what lies in its block; one more line of it (put), a mark's text (mark). -/
namespace Go.Proofs.YtcjmmidnfjifaaaGreatDoor
open Go.RowKit
set_option linter.unusedVariables false
set_option maxRecDepth 100000

theorem cells_not_row {W : World} {L : Nat} {C : Array Value} {t e : TypeId} (h : W.heap[L]? = some (.cells C t (0, 0))) (hte : t ≠ e) {base size k : Nat} {v : Value} {xs : List Value} (hr : W.ownsRow base e size v k xs) : v.ownBlock ≠ some L := by
  rcases hr.2 with ⟨rfl, _⟩ | ⟨g, cap, cur, rfl, _, hgb, _⟩
  · simp [Value.ownBlock]
  · intro e'
    obtain rfl : g = L := by simpa [Value.ownBlock] using e'
    have := h.symm.trans hgb
    simp at this
    exact hte this.2
theorem cells_set1 {W : World} {L : Nat} {a b : Value} {t : TypeId} (v' : Value) (h : W.heap[L]? = some (.cells #[a, b] t (0, 0))) : (W.setCell ⟨L, 1, none⟩ v').heap[L]? = some (.cells #[a, v'] t (0, 0)) := by
  obtain ⟨hlt, hk⟩ := Array.getElem?_eq_some_iff.1 h
  show (W.heap.modify L _)[L]? = _
  rw [Array.getElem?_eq_getElem (by rw [Array.size_modify]; exact hlt), Array.getElem_modify_self, hk]
  rfl

/-- The sheet in block L: marks so long, and these texts, of the call's own. -/
structure Sh (w0 : World) (L : Nat) (wr : World) (long : Nat) (v : Value) (xs : Txs) : Prop where
  at_ : wr.heap[L]? = some (.cells #[.int .i64 (long : Int), v] 52 (0, 0))
  own : TxO w0 wr v xs
  low : w0.heap.size ≤ L
section
variable {w0 wr w1 w2 : World} {L long : Nat} {v v' : Value} {xs ys : Txs}
theorem Sh.up (h : Sh w0 L wr long v xs) (hb : Below wr.heap.size wr w1) : Sh w0 L w1 long v xs :=
  ⟨(hb.block L (Array.getElem?_eq_some_iff.1 h.at_).1).trans h.at_, h.own.call hb, h.low⟩
theorem Sh.but {F : Nat → Prop} (h : Sh w0 L wr long v xs) (hb : But F wr w1) (hL : ¬ F L) (hv : ∀ k, v.ownBlock = some k → ¬ F k) (hF : ∀ k, F k → w0.heap.size ≤ k) : Sh w0 L w1 long v xs :=
  ⟨(hb.block L (Array.getElem?_eq_some_iff.1 h.at_).1 hL).trans h.at_, ⟨ownsRow_kept h.own.own fun k e => hb.block k (h.own.own.lt k e).2 (hv k e), h.own.below.trans (hb.below h.own.below.size hF)⟩, h.low⟩
theorem Sh.long_at (h : Sh w0 L wr long v xs) : wr.cell? ⟨L, 0, none⟩ = some (.int .i64 (long : Int)) := (cells_of h.at_ 0).trans rfl
theorem Sh.txs_at (h : Sh w0 L wr long v xs) : wr.cell? ⟨L, 1, none⟩ = some v := (cells_of h.at_ 1).trans rfl
end

/-- What put leaves. -/
def ShPut (w0 : World) (L : Nat) (wr w' : World) (long : Nat) (v : Value) (zs : Txs) : Prop :=
  ∃ v', Sh w0 L w' long v' zs ∧ But (fun k => k = L ∨ v.ownBlock = some k) wr w' ∧ (v'.ownBlock = v.ownBlock ∨ v'.ownBlock = some wr.heap.size)

set_option maxHeartbeats 1000000 in
theorem shPut_any (w0 : World) (L long : Nat) (A : Option Addr) (n c B : Nat) (v : Value) (xs ys : Txs) (wr : World) (hS : Sh w0 L wr long v xs) (hA : Strs wr B A n ys) (hm : xs.length + n ≤ 1000000000) :
    Calls Tryz.prog 51 #[.pointer (some ⟨L, 0, none⟩), .slice A n c] wr fun e w' => e = .returned (.tuple #[]) ∧ ShPut w0 L wr w' long v (xs ++ ys) := by
  obtain ⟨i0, hi, hzz⟩ := Option.map_eq_some_iff.1 infoStr
  simp only [Prod.mk.injEq] at hzz
  obtain ⟨hz0, hz1, hz2⟩ := hzz
  have hl := Lib.hid hA.len
  have hle : Hid (xs.length + n ≤ maxLen ∧ (xs.length + n) * 16 ≤ 140737488355328) := Lib.hid ⟨by unfold maxLen; omega, by omega⟩
  have x0 := hS.txs_at
  have hown := hS.own.own
  have hsz := hS.own.below.size
  have hSh := Lib.hid hS
  have hAh := Lib.hid hA
  have hput : Hid (∀ (v' : Value) (w2 : World), w2.ownsRow w0.heap.size 9 1 v' (xs.length + n) ((xs.map fun s => .string (str s)) ++ ys.map fun s => .string (str s)) → wr.grownBy w2 v.ownBlock → (v'.ownBlock = v.ownBlock ∨ v'.ownBlock = some wr.heap.size) →
      w2.cell? ⟨L, 1, none⟩ = some v ∧ w2.frozen? ⟨L, 1, none⟩ = false ∧ ShPut w0 L wr (w2.setCell ⟨L, 1, none⟩ v') long v (xs ++ ys)) := Lib.hid (fun v' w2 hown2 hg2 hloc2 => by
    have hlt := (Array.getElem?_eq_some_iff.1 hS.at_).1
    have hne := cells_not_row hS.at_ (by decide) hS.own.own
    have h2 : w2.heap[L]? = some (.cells #[.int .i64 (long : Int), v] 52 (0, 0)) := (hg2.block L hlt (fun e => hne e.symm)).trans hS.at_
    have hT := hS.own.put hA.len hown2 hg2
    have hs : But (fun k => k = L) w2 (w2.setCell ⟨L, 1, none⟩ v') := But.setCell (F := fun j => j = L) w2 (p := ⟨L, 1, none⟩) rfl _
    have hne2 := cells_not_row h2 (by decide) hT.own
    refine ⟨(cells_of h2 1).trans rfl, unfrozen_of h2 1, v', ⟨cells_set1 v' h2, ⟨ownsRow_kept hT.own fun k e => hs.block k (hT.own.lt k e).2 (fun e' => hne2 (by rw [e, e'])), hT.below.trans (hs.below hT.below.size (by rintro k rfl; exact hS.low))⟩, hS.low⟩, (But.of_grown (F := fun k => k = L ∨ v.ownBlock = some k) hg2 fun k e => .inr e).trans hs fun k e => .inl (.inl e), hloc2⟩)
  clear hS hA hm
  go_enter Tryz.func51, Tryz.ntmps51
  go_wp2_with (at_builtin; refine wpList_append_readsL _ rfl _ _ 25 rfl w0.heap.size 9 i0 (.string ByteArray.empty) 16 Tryz.underlying25 hi hz0 hz1 hz2 rfl v xs.length _ rfl hown B A n c _ rfl hAh.out (strs_one _) hle.out.1 hle.out.2 hsz ?_; intro v' w2 hown2 hg2 hloc2; obtain ⟨x1, x2, hfin⟩ := hput.out v' w2 hown2 hg2 hloc2; have hfh := Lib.hid hfin; obtain ⟨A2, c2, rfl, -, -, -⟩ := own_slice hown2; clear hown2 hg2 hloc2 hfin x0)
  go_end0
  exact ⟨rfl, hfh.out⟩

theorem repeat_one (sg : UInt8) (c : Nat) : (⟨(Lib.repeatL (str [sg]).data.toList c).toArray⟩ : ByteArray) = str (List.replicate c sg) := by
  have h : (str [sg]).data.toList = List.replicate 1 sg := rfl
  rw [h, Lib.repeatL_replicate, Nat.mul_one]
  rfl
set_option maxHeartbeats 1000000 in
theorem lMark_any (sg : UInt8) (long : Nat) (D : ByteArray) (w : World) (hlong : long ≤ 4096) (hD : D.size ≤ 1000000) :
    Calls Tryz.prog 75 #[.agg #[.int .i64 (long : Int)], .string (str [sg]), .string D] w fun e w' => e = .returned (.string (str (List.replicate long sg) ++ D ++ str [10])) ∧ Below w.heap.size w w' := by
  have hR : Hid (∀ W, Below w.heap.size w W → Calls Tryz.prog 89 #[.string (str [sg]), .int .i64 (long : Int)] W fun e w' => e = .returned (.string (str (List.replicate long sg))) ∧ Below w.heap.size w w') := Lib.hid (fun W hW => by
    have h := Tryz.strings_Repeat (str [sg]) long W (by omega) (by show 1 * long ≤ _; omega)
    rw [repeat_one] at h
    exact h.mono fun e w' h => ⟨h.1, hW.trans (h.2.mono hW.size)⟩)
  obtain ⟨S, hS⟩ : ∃ S, str [sg] = S := ⟨_, rfl⟩
  obtain ⟨R, hRR⟩ : ∃ R, str (List.replicate long sg) = R := ⟨_, rfl⟩
  have hRs : R.size ≤ 4096 := by rw [← hRR, str_size, List.length_replicate]; exact hlong
  rw [hS, hRR] at hR
  rw [hS, hRR]
  have h1 : ¬ 9223372036854775807 < R.size + D.size := by omega
  have h2 : ¬ 9223372036854775807 < R.size + D.size + 1 := by omega
  have h0 := Lib.hid (below_alloc (Below.refl w.heap.size w) (.cells #[.int .i64 (long : Int)] 50))
  clear hS hRR hlong
  go_enter Tryz.func75, Tryz.ntmps75
  go_wp2_with (go_at_call 89; refine (hR.out _ h0.out).mono ?_; rintro e w1 ⟨rfl, hb1⟩; have hB1 := Lib.hid hb1; clear hb1)
  go_ret
  exact ⟨rfl, hB1.out⟩
end Go.Proofs.YtcjmmidnfjifaaaGreatDoor
/- Proved here: contracts of the landed package lines: ended, Open (each for strings of at most maxLen bytes); for stages behind the first: NOT beside stage 1's Lines, which has the same names. -/
namespace Go.Proofs.YtcjmmidnfjifaaaGreatDoor
open Go.RowKit
set_option linter.unusedVariables false

set_option maxHeartbeats 400000 in
theorem ended_any (s : ByteArray) (w : World) (hs : s.size ≤ maxLen) :
    Calls Tryz.prog 69 #[.string s] w fun e w' => e = .returned (.bool (endedB s.data.toList)) ∧ w = w' := by
  unfold maxLen at hs
  by_cases h : s.toList = []
  · go_enter Tryz.func69, Tryz.ntmps69
    go_wp2
    go_ret
    exact ⟨ret_bool (by rw [data_nil h]; rfl), rfl⟩
  · have h1 := size_pos h
    have h2 : (!s.toList.isEmpty) = true := by simpa using h
    go_enter Tryz.func69, Tryz.ntmps69
    go_wp2
    go_ret
    exact ⟨ret_bool (by rw [last_byte s h1 _ rfl (by omega)]), rfl⟩

set_option maxHeartbeats 400000 in
theorem Open_any (A : Option Addr) (n c B : Nat) (ss : List (List UInt8)) (w : World) (hn : n ≤ maxLen) (hs : ∀ s ∈ ss, s.length ≤ maxLen) (hA : Strs w B A n ss) :
    Calls Tryz.prog 48 #[.slice A n c] w fun e w' => e = .returned (.bool (openB ss)) ∧ w = w' := by
  unfold maxLen at hn
  have hl := hA.len
  by_cases h0 : n = 0
  · subst h0
    have hd : decide ((0 : Int) < ((0 : Nat) : Int)) = false := by decide
    go_enter Tryz.func48, Tryz.ntmps48
    go_wp2
    go_ret
    obtain rfl : ss = [] := List.eq_nil_of_length_eq_zero hl
    exact ⟨rfl, rfl⟩
  · obtain ⟨b, o, t, rfl, _, ht, hc⟩ := hA.at_ (k := n - 1) (by omega)
    have htl : t.length ≤ maxLen := hs t (List.mem_of_getElem? ht)
    have hres : Hid ((!endedB (str t).data.toList) = openB ss) := Lib.hid <| by
      rw [str_data]; unfold openB; rw [List.getLast?_eq_getElem?, hl, ht]
    have h1 : (1 : Int) ≤ n := by omega
    have hd : decide ((0 : Int) < (n : Int)) = true := by simp; omega
    go_enter Tryz.func48, Tryz.ntmps48
    go_wp2_with (go_at_call 69; refine (ended_any (str t) _ (by rw [str_size]; exact htl)).mono ?_; rintro e w' ⟨rfl, rfl⟩)
    go_ret
    exact ⟨ret_bool hres.out, rfl⟩
end Go.Proofs.YtcjmmidnfjifaaaGreatDoor
