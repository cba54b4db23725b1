/- Proved here: texts joined: UnParse. -/
import Derived.Test.YtcpopnhnihbofaaDoorBd25
import Derived.Test.YtcpopnhnihbofaaDoorBd26
/- Proved here: the contract of the document's own answer of layer 13: Parse. -/
namespace Go.Proofs.YtcpopnhnihbofaaDoor
open Go.RowKit
set_option linter.unusedVariables false
set_option maxRecDepth 100000

/-- So far: the pieces that are read, or the text that is wrong. -/
def ReadM (long : Nat) (l : Txs) (n k : Nat) (st wrong : Int) (out : List Pc) : Prop :=
  (wrong = 0 ∧ k ≤ n ∧ 0 ≤ st ∧ st ≤ 2 ∧ resM (walkM long startM l 0) = resM (walkM long ⟨out, [], st, none⟩ (l.drop k) k)) ∨ (∃ m : Nat, wrong = (m : Int) ∧ 0 < m ∧ walkM long startM l 0 = .error m)
section
variable {long n k a : Nat} {l : Txs} {st st' : Int} {out : List Pc} {b : Txs} {ds : List Txs} {t : Tx}
theorem res_flush (cur : Txs) : resM (walkM long ⟨out, cur, st, none⟩ [] a) = resM (walkM long ⟨flushM out cur, [], st, none⟩ [] a) := by
  show (flushM out cur, max st 1, (0 : Int), (0 : Int)) = (flushM (flushM out cur) [], max st 1, 0, 0)
  rfl
theorem res_err {m : Nat} {x : Except Nat MSt} (h : resM x = resM (.error m)) : x = .error m := by
  cases x with
  | ok s =>
    have := congrArg (fun y => y.2.2.2) h
    simp [resM] at this
  | error i =>
    have := congrArg (fun y => y.2.2.1) h
    simp [resM] at this
    rw [show i = m by omega]
/-- Lines outside of a conflict are read. -/
theorem ReadM.outs (h : resM (walkM long startM l 0) = resM (walkM long ⟨out, [], st, none⟩ (l.drop k) k)) : resM (walkM long startM l 0) = if (outD long (l.drop k)).2 = true then resM (.error (k + (outD long (l.drop k)).1 + 1)) else resM (walkM long ⟨out, (l.drop k).take (outD long (l.drop k)).1, st, none⟩ (l.drop (k + (outD long (l.drop k)).1)) (k + (outD long (l.drop k)).1)) := by
  rw [h, walk_outD, List.nil_append, List.drop_drop]
  split <;> rfl
end
/-- The pieces that are read so far, in a row of the call's own; block L may change. -/
structure PRow (w : World) (L : Nat) (wr : World) (v : Value) (qs : List (PcV × Pc)) : Prop where
  own : wr.ownsRow w.heap.size 37 4 v qs.length (pcCs qs)
  row : RowF (fun k => k = L) wr v qs
  below : Below w.heap.size w wr
section
variable {w wr w1 w2 : World} {L : Nat} {v v' : Value} {qs : List (PcV × Pc)} {r : PcV} {p : Pc} {o : Obj}
theorem PRow.start (w : World) (L : Nat) {wr : World} (hb : Below w.heap.size w wr) : PRow w L wr (.slice none 0 0) [] := ⟨World.ownsRow_nil _ _ _ _, RowF.start _ _ _, hb⟩
theorem PRow.up (h : PRow w L wr v qs) (hb : Below wr.heap.size wr w1) : PRow w L w1 v qs :=
  ⟨ownsRow_kept h.own fun k e => hb.block k (h.own.lt k e).2, h.row.up hb, h.below.trans (hb.mono h.below.size)⟩
theorem PRow.setL (h : PRow w L wr v qs) (hL : w.heap.size ≤ L) (hne : v.ownBlock ≠ some L) (hb : But (fun k => k = L) wr w1) : PRow w L w1 v qs :=
  ⟨ownsRow_kept h.own fun k e => hb.block k (h.own.lt k e).2 fun e2 => hne (by rw [e, e2]), fun w2 h2 => h.row w2 ((hb.more fun k hk => .inl hk).trans h2 fun k e => .inl e), h.below.trans (hb.below h.below.size (by rintro k rfl; exact hL))⟩
theorem PRow.put (h : PRow w L wr v qs) (hr : ∀ w3, But (fun k => k = L ∨ v.ownBlock = some k) wr w3 → PcR w3 w3.heap.size r p)
    (hown : w2.ownsRow w.heap.size 37 4 v' (qs.length + 1) (pcCs qs ++ pcC p.1 r)) (hg : (wr.alloc o).grownBy w2 v.ownBlock) (hloc : v'.ownBlock = v.ownBlock ∨ v'.ownBlock = some (wr.alloc o).heap.size) : PRow w L w2 v' (qs ++ [(r, p)]) :=
  ⟨by rw [List.length_append, pcCs_snoc]; exact hown, h.row.put hr hg hloc, (h.below.alloc h.below.size o).grown hg (by have := h.below.size; simp; omega) fun j e => (h.own.lt j e).1⟩
theorem PRow.ne (h : PRow w L wr v qs) {C : Array Value} {t : TypeId} (hL : wr.heap[L]? = some (.cells C t (0, 0))) (ht : t ≠ 37) : v.ownBlock ≠ some L := by
  rcases h.own.2 with ⟨rfl, _⟩ | ⟨g, cap, cur, rfl, _, hgb, _⟩
  · simp [Value.ownBlock]
  · intro e'
    obtain rfl : g = L := by simpa [Value.ownBlock] using e'
    have := hL.symm.trans hgb
    simp at this
    exact ht this.2
theorem PRow.done (h : PRow w L wr v qs) : ∃ A c, v = .slice A qs.length c ∧ qs.length ≤ c ∧ c ≤ maxLen ∧ Pcs wr wr.heap.size A qs.length (qs.map fun q => q.1) (qs.map fun q => q.2) :=
  pcs_reads h.own fun q hq => h.row wr (But.refl _ _) q hq
/-- Texts that lie elsewhere stand. -/
theorem txr_far {F : Nat → Prop} {r : Slc} {t : Txs} (h : TxR wr wr.heap.size r t) (hf : 0 < r.2.1 → ∀ q o, r.1 = some ⟨q, o, none⟩ → ¬ F q) : ∀ w3, But F wr w3 → TxR w3 w3.heap.size r t := fun w3 h3 => h.but h3 hf
theorem rows_far {F : Nat → Prop} {A : Option Addr} {n : Nat} {rows : List Slc} {sss : List Txs} (h : RowsT wr wr.heap.size A n rows sss) (h1 : 0 < n → ∀ q o, A = some ⟨q, o, none⟩ → ¬ F q) (h2 : ∀ r ∈ rows, 0 < r.2.1 → ∀ q o, r.1 = some ⟨q, o, none⟩ → ¬ F q) : ∀ w3, But F wr w3 → RowsT w3 w3.heap.size A n rows sss := fun w3 hb => by
  obtain ⟨⟨k1, k2⟩, k3, k4⟩ := h
  refine ⟨⟨k1, fun hn => ?_⟩, k3, fun k r ss a b => (k4 k r ss a b).but hb (h2 r (List.mem_of_getElem? a))⟩
  obtain ⟨b, o, e, hlt, hc⟩ := k2 hn
  exact ⟨b, o, e, Nat.lt_of_lt_of_le hlt hb.size, fun j u hu => (World.cell?_of_block (w := wr) (hb.block b hlt (h1 hn b o e))).trans (hc j u hu)⟩
end

set_option maxHeartbeats 8000000 in
theorem rParse_any (A : Option Addr) (n c : Nat) (l : Txs) (long : Int) (w : World) (hlg : inR64 long) (hT : Txl w (A, n, c) l) :
    Calls Tryd.prog 9 #[.slice A n c, .int .i64 long] w fun e w' => ParseA w w' e (parseM l long) := by
  have hb0 := Lib.hid (Below.refl w.heap.size w)
  by_cases h0 : long < 1 ∨ 4096 < long
  · have hp : Hid (parseM l long = ([], 0, 0, 1)) := Lib.hid (by unfold parseM; rw [if_pos h0])
    clear hT hlg
    by_cases h1 : long < 1
    · go_enter Tryd.func9, Tryd.ntmps9
      go_wp2
      refine bodyPost_ret (v := .tuple #[.slice none 0 0, .int .i64 0, .int .i64 0, .int .i64 1]) (by simp [results, Tryd.results9, go_sem]) rfl ?_
      rw [hp.out]
      exact ⟨none, 0, 0, [], rfl, Nat.le_refl _, Nat.zero_le _, Pcs.nil _ _ _, hb0.out⟩
    · have h2 : 4096 < long := by omega
      go_enter Tryd.func9, Tryd.ntmps9
      go_wp2
      refine bodyPost_ret (v := .tuple #[.slice none 0 0, .int .i64 0, .int .i64 0, .int .i64 1]) (by simp [results, Tryd.results9, go_sem]) rfl ?_
      rw [hp.out]
      exact ⟨none, 0, 0, [], rfl, Nat.le_refl _, Nat.zero_le _, Pcs.nil _ _ _, hb0.out⟩
  obtain ⟨lg, rfl⟩ : ∃ lg : Nat, long = (lg : Int) := ⟨long.toNat, by omega⟩
  have h1 : 1 ≤ lg := by omega
  have h2 : lg ≤ 4096 := by omega
  have i1 : ¬ (lg : Int) < 1 := by omega
  have i2 : ¬ (4096 : Int) < (lg : Int) := by omega
  have hres := Lib.hid (parseM_res l lg h1 h2)
  have hln := hT.st.len
  dsimp only at hln
  have hn1 : n ≤ 1000000000 := by have := hT.few; omega
  have hlnh := Lib.hid hln
  have hTh := Lib.hid hT
  have hAw : Hid (0 < n → ∀ q o, A = some ⟨q, o, none⟩ → q < w.heap.size) := Lib.hid (fun hn q o e => by
    obtain ⟨b, o2, e2, hb, -⟩ := hT.st.2 hn
    dsimp only at e2
    rw [e] at e2
    injection e2 with e2
    injection e2 with e2 e3
    rw [e2]
    exact hb)
  obtain ⟨W0, hW0⟩ : ∃ W0, W0 = w.alloc (.cells #[.slice A n c, .int .i64 (lg : Int), .int .i64 0, .int .i64 0, .int .i64 0] 47) := ⟨_, rfl⟩
  have hS0 : Hid (StAt W0 w.heap.size (A, n, c) lg ((0 : Nat) : Int) 0 0) := Lib.hid (by rw [hW0]; exact StAt.new w (A, n, c) lg 0 0 0)
  have hB0 : Below w.heap.size w W0 := by rw [hW0]; exact below_alloc (Below.refl _ _) _
  have hP0 := Lib.hid (PRow.start w w.heap.size hB0)
  have hW0h := Lib.hid hW0
  obtain ⟨i0, hi, hzz⟩ := Option.map_eq_some_iff.1 infoPc
  simp only [Prod.mk.injEq] at hzz
  obtain ⟨hz0, hz1, hz2⟩ := hzz
  clear hT hln h0 hlg hW0 hB0
  go_enter Tryd.func9, Tryd.ntmps9
  go_upto_region 4 with fail
  rw [← hW0h.out]
  go_wp2
  go_loopg [9, 10, 11, 12, 13] (n + 1) (fun gk s9 _ _ _ _ wr => ∃ (k : Nat) (st wrong : Int) (v : Value) (qs : List (PcV × Pc)), v = s9 ∧ Hid (gk = if wrong = 0 then (n - k) + 1 else 0) ∧ Hid (StAt wr w.heap.size (A, n, c) lg k st wrong) ∧ Hid (PRow w w.heap.size wr v qs) ∧ Hid (ReadM lg l n k st wrong (qs.map fun q => q.2)) ∧ Hid (wrong = 0 → qs.length ≤ 2 * k + 1))
  case atStart => exact ⟨0, 0, 0, _, [], rfl, Lib.hid (by simp), hS0, hP0, Lib.hid (.inl ⟨rfl, Nat.zero_le _, by omega, by omega, rfl⟩), Lib.hid (fun _ => by simp)⟩
  case round =>
    obtain ⟨k, st, wrong, v, qs, rfl, hgk, hS, hP, hR, hql⟩ := hrel
    obtain ⟨wo, rfl⟩ : ∃ wo : World, wo = wr := ⟨_, rfl⟩
    obtain ⟨x0, x1, x2, x3, x4, z0, z1, z2, z3, z4⟩ := hS.out.cells
    have hl0 := hS.out.lt
    clear hS0 hP0
    rcases hR.out with ⟨hw0, hk2, hst0, hst2, hres2⟩ | ⟨m, hwm, hm0, hwk⟩
    · subst hw0
      have hw00 : ((0 : Int) == 0) = true := rfl
      by_cases hlt : k < n
      · have j1 : (k : Int) < (n : Int) := by omega
        obtain ⟨⟨d1, bad⟩, hD⟩ : ∃ D, outD lg (l.drop k) = D := ⟨_, rfl⟩
        obtain ⟨k2, hkd⟩ : ∃ k2, k + d1 = k2 := ⟨_, rfl⟩
        have hd1 : d1 ≤ n - k := by
          have := outD_le (long := lg) (r := l.drop k)
          rw [hD, List.length_drop, hlnh.out] at this
          exact this
        have hk2n : k2 ≤ n := by omega
        have hTo := Lib.hid (hTh.out.up hP.out.below)
        have hres3 := ReadM.outs hres2
        rw [hD] at hres3
        dsimp only at hres3
        rw [hkd] at hres3
        have hres3h := Lib.hid hres3
        have hqlh := Lib.hid (hql.out rfl)
        have hO := outside_any A n c l lg k st wo hTo.out hk2
        rw [hD] at hO
        unfold PartOut at hO
        dsimp only at hO
        rw [hkd] at hO
        have hkdh := Lib.hid hkd
        have hDh := Lib.hid hD
        have hk2h := Lib.hid hk2
        have hsth := Lib.hid (And.intro hst0 hst2)
        clear hD hkd hres2 hres3 hR hk2 hst0 hst2
        cases bad
        · have hOG : Hid (Calls Tryd.prog 20 #[.agg #[.slice A n c, .int .i64 (lg : Int), .int .i64 (k : Int), .int .i64 st, .int .i64 0]] wo fun e w' => ∃ r : Slc, e = .returned (.tuple #[.agg #[.slice A n c, .int .i64 (lg : Int), .int .i64 (k2 : Int), .int .i64 st, .int .i64 0], .slice r.1 r.2.1 r.2.2]) ∧ TxR wo wo.heap.size r ((l.drop k).take d1) ∧ Near A r ∧ Below wo.heap.size wo w') := Lib.hid (hO.mono fun e w' ⟨r, q1, q2, q3⟩ => ⟨r, q1, (q2.2 rfl).1, (q2.2 rfl).2, q3⟩)
          clear hO
          go_upto_region 8 with (go_at_call 20; refine hOG.out.mono ?_; rintro e w1 ⟨⟨Ar, nr, cr⟩, rfl, hTr, hNr, hb1⟩; have hS1 := Lib.hid (hS.out.up hb1); obtain ⟨x0, x1, x2, x3, x4, z0, z1, z2, z3, z4⟩ := hS1.out.cells; have hl1 := hS1.out.lt)
          obtain ⟨wa, hwa⟩ : ∃ wa, wa = (((((w1.setCell ⟨w.heap.size, 0, none⟩ (.slice A n c)).setCell ⟨w.heap.size, 1, none⟩ (.int .i64 (lg : Int))).setCell ⟨w.heap.size, 2, none⟩ (.int .i64 (k2 : Int))).setCell ⟨w.heap.size, 3, none⟩ (.int .i64 st)).setCell ⟨w.heap.size, 4, none⟩ (.int .i64 0)).alloc (.cells #[.slice A n c, .int .i64 (lg : Int), .int .i64 (k2 : Int), .int .i64 st, .int .i64 0] 47) := ⟨_, rfl⟩
          rw [← hwa]
          have hB5 := But.five w1 w.heap.size (.slice A n c) (.int .i64 (lg : Int)) (.int .i64 (k2 : Int)) (.int .i64 st) (.int .i64 0)
          have hBL : ∀ W : World, Below W.heap.size W (W.alloc (.cells #[.slice A n c, .int .i64 (lg : Int), .int .i64 (k2 : Int), .int .i64 st, .int .i64 0] 47)) := fun W => below_alloc (Below.refl _ _) _
          have hSa : Hid (StAt wa w.heap.size (A, n, c) lg k2 st 0) := Lib.hid (by rw [hwa]; exact ((hS.out.up hb1).setAll (A, n, c) lg k2 st 0).up (hBL _))
          have hPa : Hid (PRow w w.heap.size wa v qs) := Lib.hid (by rw [hwa]; exact ((hP.out.up hb1).setL (Nat.le_refl _) ((hP.out.up hb1).ne hS1.out (by decide)) hB5).up (hBL _))
          have hnear : Hid (0 < nr → ∀ q o, Ar = some ⟨q, o, none⟩ → q < w.heap.size) := Lib.hid (fun hn q o e => by
            obtain ⟨o2, e2⟩ := hNr hn q o e
            refine hAw.out ?_ q o2 e2
            have h3 := hTr.2.2.len
            rw [List.length_take, List.length_drop, hlnh.out] at h3
            dsimp only at h3
            omega)
          have hTa : Hid (TxR wa wa.heap.size (Ar, nr, cr) ((l.drop k).take d1)) := Lib.hid (by
            have h3 := (hTr.up hb1).but hB5 (fun hn q o e hq => by have := hnear.out hn q o e; omega)
            rw [hwa]
            exact h3.up (hBL _))
          have hnr : Hid (nr = d1) := Lib.hid (by
            have h3 := hTr.2.2.len
            rw [List.length_take, List.length_drop, hlnh.out] at h3
            dsimp only at h3
            omega)
          have hendl : Hid (k2 = n ∨ ∃ t, l[k2]? = some t ∧ lg ≤ runN t) := Lib.hid (by
            have h3 := outD_end (long := lg) (r := l.drop k) (by rw [hDh.out])
            rw [hDh.out, List.length_drop, hlnh.out, List.getElem?_drop, hkdh.out] at h3
            rcases h3 with h3 | h3
            · exact .inl (by have := hkdh.out; dsimp only at h3; omega)
            · exact .inr h3)
          clear hB5 hBL hwa x0 x1 x2 x3 x4 z0 z1 z2 z3 z4 hS1 hl1 hb1 hl0 hTr hNr
          obtain ⟨x0, x1, x2, x3, x4, z0, z1, z2, z3, z4⟩ := hSa.out.cells
          have hla := hSa.out.lt
          by_cases hd0 : d1 = 0
          case' pos =>
            have hnz : ¬ (0 : Int) < (nr : Int) := by have := hnr.out; omega
            have hk2e : k2 = k := by have := hkdh.out; omega
            go_upto_region 10 with fail
            obtain ⟨wz, hwz⟩ : ∃ wz, wa = wz := ⟨_, rfl⟩
            obtain ⟨qz, hqz⟩ : ∃ qz, qs = qz := ⟨_, rfl⟩
            obtain ⟨vz, hvz⟩ : ∃ vz, v = vz := ⟨_, rfl⟩
            have hSz : Hid (StAt wz w.heap.size (A, n, c) lg k2 st 0) := Lib.hid (by rw [← hwz]; exact hSa.out)
            have hPz : Hid (PRow w w.heap.size wz vz qz) := Lib.hid (by rw [← hwz, ← hvz, ← hqz]; exact hPa.out)
            have hfl : Hid (qz.map (fun q => q.2) = flushM (qs.map fun q => q.2) ((l.drop k).take d1)) := Lib.hid (by rw [← hqz, hd0]; rfl)
            have hqlz : Hid (qz.length ≤ 2 * k2 + 1) := Lib.hid (by rw [← hqz, hk2e]; exact hqlh.out)
            rw [hwz, hvz]
            clear hwz hvz hqz hSa hPa x0 x1 x2 x3 x4 z0 z1 z2 z3 z4 hla hTa hnear hDh hOG hd1 hnz hd0 hnr hk2e
          case' neg =>
            have hnp : (0 : Int) < (nr : Int) := by have := hnr.out; omega
            have hbase := hPa.out.below.size
            have hown := hPa.out.own
            have hle : Hid (qs.length + 1 ≤ maxLen ∧ (qs.length + 1) * 80 ≤ 140737488355328) := Lib.hid (by have := hqlh.out; unfold maxLen; omega)
            have hbf : Hid (∀ w3, But (fun k => k = w.heap.size ∨ v.ownBlock = some k) wa w3 → PcR w3 w3.heap.size ((Ar, nr, cr), (none, 0, 0), (none, 0, 0)) (tPc ((l.drop k).take d1))) := Lib.hid (fun w3 h3 => PcR.text (hTa.out.but h3 (fun hn q o e hq => by
              have h5 := hnear.out hn q o e
              rcases hq with hq | hq
              · omega
              · have := (hown.lt q hq).1; omega)))
            go_upto_region 10 with (at_builtin; refine wpList_append_own_at _ rfl _ _ 25 rfl w.heap.size 37 i0 (.agg #[.bool false, .slice none 0 0, .slice none 0 0, .slice none 0 0]) 4 80 Tryd.underlying25 hi hz0 hz1 hz2 rfl (by decide) v qs.length _ rfl (hown.alloc _) ⟨wa.heap.size, 0, none⟩ 1 1 (pcC false ((Ar, nr, cr), (none, 0, 0), (none, 0, 0))) rfl rfl (cell_new_pc wa false ((Ar, nr, cr), (none, 0, 0), (none, 0, 0)) _) (pcC_one _ _) hle.out.1 hle.out.2 (by have := hbase; simp; omega) ?_; intro v' w2 hown2 hg2 hnil2 hloc2; have hP2 := Lib.hid (hPa.out.put hbf.out hown2 hg2 hloc2); have hS2 := Lib.hid ((hSa.out.up (below_alloc (Below.refl _ _) _)).but (But.of_grown (F := fun k => v.ownBlock = some k) hg2 fun k e => e) (fun e => hPa.out.ne hSa.out (by decide) e)); clear hown2 hg2 hnil2 hloc2)
            obtain ⟨wz, hwz⟩ : ∃ wz, w2 = wz := ⟨_, rfl⟩
            obtain ⟨qz, hqz⟩ : ∃ qz, qs ++ [(((Ar, nr, cr), (none, 0, 0), (none, 0, 0)), tPc ((l.drop k).take d1))] = qz := ⟨_, rfl⟩
            obtain ⟨vz, hvz⟩ : ∃ vz, v' = vz := ⟨_, rfl⟩
            have hSz : Hid (StAt wz w.heap.size (A, n, c) lg k2 st 0) := Lib.hid (by rw [← hwz]; exact hS2.out)
            have hPz : Hid (PRow w w.heap.size wz vz qz) := Lib.hid (by rw [← hwz, ← hvz, ← hqz]; exact hP2.out)
            have hfl : Hid (qz.map (fun q => q.2) = flushM (qs.map fun q => q.2) ((l.drop k).take d1)) := Lib.hid (by
              have hne : (l.drop k).take d1 ≠ [] := fun e => by
                have h3 := congrArg List.length e
                rw [List.length_take, List.length_drop, hlnh.out] at h3
                simp at h3
                omega
              rw [← hqz, List.map_append]
              unfold flushM
              rw [if_neg hne]
              rfl)
            have hqlz : Hid (qz.length ≤ 2 * k2 + 1) := Lib.hid (by rw [← hqz, List.length_append]; have := hqlh.out; have := hkdh.out; simp; omega)
            rw [hwz, hvz]
            clear hwz hvz hqz hSa hPa x0 x1 x2 x3 x4 z0 z1 z2 z3 z4 hla hTa hnear hDh hOG hd1 hnp hbase hown hle hbf hS2 hP2 hd0 hnr
          all_goals
            obtain ⟨x0, x1, x2, x3, x4, z0, z1, z2, z3, z4⟩ := hSz.out.cells
            have hlz := hSz.out.lt
            by_cases hkn2 : k2 = n
            · have hq : ((k2 : Int) == (n : Int)) = true := by rw [beq_iff_eq]; omega
              have hRz : Hid (ReadM lg l n k2 st 0 (qz.map fun q => q.2)) := Lib.hid (.inl ⟨rfl, hk2n, hsth.out.1, hsth.out.2, by
                have h3 := hres3h.out
                rw [if_neg (by simp)] at h3
                have hdn : l.drop k2 = [] := List.drop_eq_nil_of_le (by rw [hlnh.out, hkn2]; exact Nat.le_refl _)
                rw [h3, hfl.out, hdn]
                exact res_flush _⟩)
              go_wp2
              go_roundg (n - k2 + 1)
              case measure => have := hgk.out; simp at this; omega
              case rel => exact ⟨k2, st, 0, vz, qz, rfl, Lib.hid (by simp), hSz, hPz, hRz, Lib.hid (fun _ => hqlz.out)⟩
            · have hq : ((k2 : Int) == (n : Int)) = false := by rw [beq_eq_false_iff_ne]; omega
              obtain ⟨t, ht, hrt⟩ : ∃ t, l[k2]? = some t ∧ lg ≤ runN t := by
                rcases hendl.out with h | h
                · exact absurd h hkn2
                · exact h
              have hdt := drop_at ht
              have hres5 : Hid (resM (walkM lg startM l 0) = if t = markX 60 lg false [32, 49] then resM (walkM lg ⟨qz.map (fun q => q.2), [], st, some (false, [], [])⟩ (l.drop (k2 + 1)) (k2 + 1)) else resM (.error (k2 + 1))) := Lib.hid (by
                have h3 := hres3h.out
                rw [if_neg (by simp)] at h3
                rw [h3, hdt, walk_open hrt, ← hfl.out]
                split <;> rfl)
              have hFi := Lib.hid (fits_any A n c l lg k2 st 0 60 [32, 49] t wz h2 (by decide) (hTh.out.up hPz.out.below) ht)
              obtain ⟨f, hf⟩ : ∃ f, fitI (fitM lg t 60 [32, 49]) = f := ⟨_, rfl⟩
              rw [hf] at hFi
              have hFi2 : Hid (Calls Tryd.prog 21 #[.agg #[.slice A n c, .int .i64 (lg : Int), .int .i64 (k2 : Int), .int .i64 st, .int .i64 0], .string ⟨#[60]⟩, .string ⟨#[32, 49]⟩] wz fun e w' => e = .returned (.int .i64 (f : Int)) ∧ Below wz.heap.size wz w') := Lib.hid hFi.out
              clear hFi hendl hres3h hfl hdt
              by_cases htm : t = markX 60 lg false [32, 49]
              · have hf1 : f = 1 := by rw [← hf, fitM, if_pos htm]; rfl
                subst hf1
                have hres6 : Hid (resM (walkM lg startM l 0) = resM (walkM lg ⟨qz.map (fun q => q.2), [], st, some (false, [], [])⟩ (l.drop (k2 + 1)) (k2 + 1))) := Lib.hid (by rw [hres5.out, if_pos htm])
                obtain ⟨a, ha⟩ : ∃ a, k2 + 1 = a := ⟨_, rfl⟩
                rw [ha] at hres6
                have hwr1 : IntKind.i64.wrap ((k2 : Int) + 1) = (a : Int) := by rw [IntWalk.i64_in _ (by omega)]; omega
                have hwr2 : (k2 : Int) + 1 = (a : Int) := by omega
                have han : a ≤ n := by omega
                have hSd : Hid (∀ W, Below w.heap.size w W → Calls Tryd.prog 23 #[.agg #[.slice A n c, .int .i64 (lg : Int), .int .i64 (a : Int), .int .i64 st, .int .i64 0], .agg #[.bool true, .slice none 0 0, .slice none 0 0, .slice none 0 0], .bool false] W fun e w' => SidesOut A n c l lg a st W w' e) := Lib.hid (fun W hW => sides_any A n c l lg a st W h1 h2 (hTh.out.up hW) (by omega) han hsth.out.1 hsth.out.2)
                have hah := Lib.hid ha
                clear ht hrt hf htm hres5 ha
                go_upto_region 14 with (go_at_call 21; refine hFi2.out.mono ?_; rintro e w3 ⟨rfl, hb3⟩; have hS3 := Lib.hid (hSz.out.up hb3); have hP3 := Lib.hid (hPz.out.up hb3); obtain ⟨x0, x1, x2, x3, x4, z0, z1, z2, z3, z4⟩ := hS3.out.cells; have hl3 := hS3.out.lt; clear hb3)
                obtain ⟨w4, hw4⟩ : ∃ w4, w4 = w3.setCell ⟨w.heap.size, 2, none⟩ (.int .i64 (a : Int)) := ⟨_, rfl⟩
                rw [← hw4]
                have hS4 : Hid (StAt w4 w.heap.size (A, n, c) lg a st 0) := Lib.hid (by rw [hw4]; exact hS3.out.setAt a)
                have hP4 : Hid (PRow w w.heap.size w4 vz qz) := Lib.hid (by rw [hw4]; exact hP3.out.setL (Nat.le_refl _) (hP3.out.ne hS3.out (by decide)) (But.one w3 w.heap.size 2 _))
                clear x0 x1 x2 x3 x4 z0 z1 z2 z3 z4 hl3 hw4 hS3 hP3
                obtain ⟨x0, x1, x2, x3, x4, z0, z1, z2, z3, z4⟩ := hS4.out.cells
                go_upto_region 16 with (go_at_call 23; refine (hSd.out _ hP4.out.below).mono ?_; rintro e w5 ⟨k', st', wrong', ⟨Ab, nb, cb⟩, ⟨As, ns, cs⟩, b, rows, ds, rfl, hb5, q1, q2, q3, q4, q5, q6, q7, q8⟩; have hS5 := Lib.hid (hS4.out.up hb5); have hP5 := Lib.hid (hP4.out.up hb5); obtain ⟨x0, x1, x2, x3, x4, z0, z1, z2, z3, z4⟩ := hS5.out.cells; have hl5 := hS5.out.lt)
                have hq7 : Hid (k' < n + 1 ∧ a ≤ k' ∨ wrong' ≠ 0) := Lib.hid (by
                  rcases q8 with ⟨m, h3, h4, -⟩ | ⟨h3, h4, h5, -⟩
                  · exact .inr (by omega)
                  · exact .inl ⟨by omega, h4⟩)
                have hR6 : Hid (ReadM lg l n k' st' wrong' (qz.map (fun q => q.2) ++ [cPc b ds])) := Lib.hid (by
                  rcases q8 with ⟨m, h3, h4, h5⟩ | ⟨h3, h4, h5, h6, h7, h8⟩
                  · exact .inr ⟨m, h3, h4, res_err (by rw [hres6.out, h5])⟩
                  · exact .inl ⟨h3, h5, h6, h7, by rw [hres6.out, h8]⟩)
                have hvg : ∀ g, vz.ownBlock = some g → w.heap.size ≤ g ∧ g < w4.heap.size := fun g e => hP4.out.own.lt g e
                have hl4 := hS4.out.lt
                have hfarF : ∀ r : Slc, Far A w4.heap.size r → 0 < r.2.1 → ∀ q o, r.1 = some ⟨q, o, none⟩ → ¬ (q = w.heap.size ∨ vz.ownBlock = some q) := fun r hr hn q o e hq => by
                  rcases hr hn q o e with ⟨o', e'⟩ | h3
                  · have := hAw.out (by omega) q o' e'
                    rcases hq with hq | hq
                    · omega
                    · have := (hvg q hq).1; omega
                  · rcases hq with hq | hq
                    · omega
                    · have := (hvg q hq).2; omega
                obtain ⟨wA, hwA⟩ : ∃ wA, wA = ((((((w5.setCell ⟨w.heap.size, 0, none⟩ (.slice A n c)).setCell ⟨w.heap.size, 1, none⟩ (.int .i64 (lg : Int))).setCell ⟨w.heap.size, 2, none⟩ (.int .i64 (k' : Int))).setCell ⟨w.heap.size, 3, none⟩ (.int .i64 st')).setCell ⟨w.heap.size, 4, none⟩ (.int .i64 wrong')).alloc (.cells #[.slice A n c, .int .i64 (lg : Int), .int .i64 (k' : Int), .int .i64 st', .int .i64 wrong'] 47)).alloc (.cells #[.bool true, .slice none 0 0, .slice Ab nb cb, .slice As ns cs] 37) := ⟨_, rfl⟩
                rw [← hwA]
                have hB5 := But.five w5 w.heap.size (.slice A n c) (.int .i64 (lg : Int)) (.int .i64 (k' : Int)) (.int .i64 st') (.int .i64 wrong')
                have hBL : ∀ W : World, Below W.heap.size W ((W.alloc (.cells #[.slice A n c, .int .i64 (lg : Int), .int .i64 (k' : Int), .int .i64 st', .int .i64 wrong'] 47)).alloc (.cells #[.bool true, .slice none 0 0, .slice Ab nb cb, .slice As ns cs] 37)) := fun W => below_alloc (below_alloc (Below.refl _ _) _) _
                have hSA : Hid (StAt wA w.heap.size (A, n, c) lg k' st' wrong') := Lib.hid (by rw [hwA]; exact (hS5.out.setAll (A, n, c) lg k' st' wrong').up (hBL _))
                have hPA : Hid (PRow w w.heap.size wA vz qz) := Lib.hid (by rw [hwA]; exact (hP5.out.setL (Nat.le_refl _) (hP5.out.ne hS5.out (by decide)) hB5).up (hBL _))
                have hBA : But (fun k => k = w.heap.size ∨ vz.ownBlock = some k) w5 wA := by rw [hwA]; exact (hB5.more fun k hk => .inl hk).trans (But.of_below (F := fun _ => False) (hBL _) fun k hk _ => hk) fun k hk => hk.elim
                have hbf : Hid (∀ w3, But (fun k => k = w.heap.size ∨ vz.ownBlock = some k) wA w3 → PcR w3 w3.heap.size ((none, 0, 0), (Ab, nb, cb), (As, ns, cs)) (cPc b ds)) := Lib.hid (fun w3 h3 => by
                  have hb3 := hBA.trans h3 fun k hk => .inl hk
                  exact PcR.conf (txr_far q1 (hfarF _ q2) w3 hb3) ⟨q3, q4, rows, rows_far q5 (fun hn q o e hq => by
                    have h5 := q6 hn q o e
                    rcases hq with hq | hq
                    · omega
                    · have := (hvg q hq).2; omega) (fun r hr => hfarF r (q7 r hr)) w3 hb3⟩)
                have hpc : wA.heap[w5.heap.size + 1]? = some (.cells #[.bool true, .slice none 0 0, .slice Ab nb cb, .slice As ns cs] 37 (0, 0)) := by
                  have h3 := (two_a (((((w5.setCell ⟨w.heap.size, 0, none⟩ (.slice A n c)).setCell ⟨w.heap.size, 1, none⟩ (.int .i64 (lg : Int))).setCell ⟨w.heap.size, 2, none⟩ (.int .i64 (k' : Int))).setCell ⟨w.heap.size, 3, none⟩ (.int .i64 st')).setCell ⟨w.heap.size, 4, none⟩ (.int .i64 wrong')) (.cells #[.slice A n c, .int .i64 (lg : Int), .int .i64 (k' : Int), .int .i64 st', .int .i64 wrong'] 47) (.cells #[.bool true, .slice none 0 0, .slice Ab nb cb, .slice As ns cs] 37)).2
                  rw [← hwA] at h3
                  simpa [World.setCell] using h3
                obtain ⟨y0, y1, y2, y3, -, -, -, -⟩ := piece_at hpc
                have hpl := (Array.getElem?_eq_some_iff.1 hpc).1
                clear x0 x1 x2 x3 x4 z0 z1 z2 z3 z4 hl5 hl4 hB5 hBL hBA hwA hS5 hP5 hS4 hP4 q1 q2 q3 q4 q5 q6 q7 q8 hfarF hvg hb5 hpc hres6
                have hbase := hPA.out.below.size
                have hown := hPA.out.own
                have hle : Hid (qz.length + 1 ≤ maxLen ∧ (qz.length + 1) * 80 ≤ 140737488355328) := Lib.hid (by have := hqlz.out; unfold maxLen; omega)
                go_wp2_with (at_builtin; refine wpList_append_own_at _ rfl _ _ 25 rfl w.heap.size 37 i0 (.agg #[.bool false, .slice none 0 0, .slice none 0 0, .slice none 0 0]) 4 80 Tryd.underlying25 hi hz0 hz1 hz2 rfl (by decide) vz qz.length _ rfl (hown.alloc _) ⟨wA.heap.size, 0, none⟩ 1 1 (pcC true ((none, 0, 0), (Ab, nb, cb), (As, ns, cs))) rfl rfl (cell_new_pc wA true ((none, 0, 0), (Ab, nb, cb), (As, ns, cs)) _) (pcC_one _ _) hle.out.1 hle.out.2 (by have := hbase; simp; omega) ?_; intro v' w6 hown6 hg6 hnil6 hloc6; have hP6 := Lib.hid (hPA.out.put (p := cPc b ds) hbf.out hown6 hg6 hloc6); have hS6 := Lib.hid ((hSA.out.up (below_alloc (Below.refl _ _) _)).but (But.of_grown (F := fun k => vz.ownBlock = some k) hg6 fun k e => e) (fun e => hPA.out.ne hSA.out (by decide) e)); clear hown6 hg6 hnil6 hloc6)
                go_roundg (if wrong' = 0 then (n - k') + 1 else 0)
                case measure =>
                  have h3 := hgk.out
                  have h4 := hq7.out
                  have h5 := hah.out
                  have h6 := hkdh.out
                  simp at h3
                  split <;> omega
                case rel => exact ⟨k', st', wrong', v', qz ++ [(((none, 0, 0), (Ab, nb, cb), (As, ns, cs)), cPc b ds)], rfl, Lib.hid rfl, hS6, hP6, Lib.hid (by rw [List.map_append]; exact hR6.out), Lib.hid (fun h => by
                  have h4 := hq7.out
                  have h5 := hah.out
                  have h6 := hqlz.out
                  rw [List.length_append]
                  simp
                  omega)⟩
              · have hf1 : ((f : Int) != 1) = true := by
                  have : f ≠ 1 := fun e => by
                    rw [← hf, fitM, if_neg htm] at e
                    split at e <;> simp [fitI] at e
                  simp
                  omega
                have hBd := Lib.hid (fun W => bad_any (A, n, c) (lg : Int) st 0 k2 W (by omega))
                have hRz : Hid (ReadM lg l n k2 st ((k2 : Int) + 1) (qz.map fun q => q.2)) := Lib.hid (.inr ⟨k2 + 1, by push_cast; rfl, by omega, res_err (by rw [hres5.out, if_neg htm])⟩)
                clear ht hrt hf htm hres5
                go_wp2_with (first
                  | (go_at_call 21; refine hFi2.out.mono ?_; rintro e w3 ⟨rfl, hb3⟩; have hS3 := Lib.hid (hSz.out.up hb3); have hP3 := Lib.hid (hPz.out.up hb3); obtain ⟨x0, x1, x2, x3, x4, z0, z1, z2, z3, z4⟩ := hS3.out.cells; have hl3 := hS3.out.lt; clear hb3)
                  | (go_at_call 22; refine (hBd.out _).mono ?_; rintro e w4 ⟨rfl, hb4⟩; have hS4 := Lib.hid (hS3.out.up hb4); have hP4 := Lib.hid (hP3.out.up hb4); obtain ⟨x0, x1, x2, x3, x4, z0, z1, z2, z3, z4⟩ := hS4.out.cells; have hl4 := hS4.out.lt; clear hb4))
                go_roundg 0
                case measure => have := hgk.out; simp at this; omega
                case rel => exact ⟨k2, st, (k2 : Int) + 1, vz, qz, rfl, Lib.hid (if_neg (by omega)).symm, Lib.hid (hS4.out.setAll (A, n, c) lg k2 st ((k2 : Int) + 1)), Lib.hid (hP4.out.setL (Nat.le_refl _) (hP4.out.ne hS4.out (by decide)) (But.five w4 w.heap.size (.slice A n c) (.int .i64 (lg : Int)) (.int .i64 (k2 : Int)) (.int .i64 st) (.int .i64 ((k2 : Int) + 1)))), hRz, Lib.hid (fun h => by omega)⟩
        · have hOB : Hid (Calls Tryd.prog 20 #[.agg #[.slice A n c, .int .i64 (lg : Int), .int .i64 (k : Int), .int .i64 st, .int .i64 0]] wo fun e w' => e = .returned (.tuple #[.agg #[.slice A n c, .int .i64 (lg : Int), .int .i64 (k2 : Int), .int .i64 st, .int .i64 ((k2 : Int) + 1)], .slice none 0 0]) ∧ Below wo.heap.size wo w') := Lib.hid (hO.mono fun e w' ⟨r, q1, q2, q3⟩ => ⟨by rw [q1, q2.1 rfl]; rfl, q3⟩)
          have hpos : (0 : Int) < (k2 : Int) + 1 := by omega
          clear hO
          go_upto_region 8 with (go_at_call 20; refine hOB.out.mono ?_; rintro e w1 ⟨rfl, hb1⟩; have hS1 := Lib.hid (hS.out.up hb1); obtain ⟨x0, x1, x2, x3, x4, z0, z1, z2, z3, z4⟩ := hS1.out.cells; have hl1 := hS1.out.lt)
          obtain ⟨wa, hwa⟩ : ∃ wa, wa = (((((w1.setCell ⟨w.heap.size, 0, none⟩ (.slice A n c)).setCell ⟨w.heap.size, 1, none⟩ (.int .i64 (lg : Int))).setCell ⟨w.heap.size, 2, none⟩ (.int .i64 (k2 : Int))).setCell ⟨w.heap.size, 3, none⟩ (.int .i64 st)).setCell ⟨w.heap.size, 4, none⟩ (.int .i64 ((k2 : Int) + 1))).alloc (.cells #[.slice A n c, .int .i64 (lg : Int), .int .i64 (k2 : Int), .int .i64 st, .int .i64 ((k2 : Int) + 1)] 47) := ⟨_, rfl⟩
          rw [← hwa]
          have hB5 := But.five w1 w.heap.size (.slice A n c) (.int .i64 (lg : Int)) (.int .i64 (k2 : Int)) (.int .i64 st) (.int .i64 ((k2 : Int) + 1))
          have hBL : ∀ W : World, Below W.heap.size W (W.alloc (.cells #[.slice A n c, .int .i64 (lg : Int), .int .i64 (k2 : Int), .int .i64 st, .int .i64 ((k2 : Int) + 1)] 47)) := fun W => below_alloc (Below.refl _ _) _
          have hSa : Hid (StAt wa w.heap.size (A, n, c) lg k2 st ((k2 : Int) + 1)) := Lib.hid (by rw [hwa]; exact ((hS.out.up hb1).setAll (A, n, c) lg k2 st ((k2 : Int) + 1)).up (hBL _))
          have hPa : Hid (PRow w w.heap.size wa v qs) := Lib.hid (by rw [hwa]; exact ((hP.out.up hb1).setL (Nat.le_refl _) ((hP.out.up hb1).ne hS1.out (by decide)) hB5).up (hBL _))
          have hRa : Hid (ReadM lg l n k2 st ((k2 : Int) + 1) (qs.map fun q => q.2)) := Lib.hid (.inr ⟨k2 + 1, by push_cast; rfl, by omega, res_err (by have := hres3h.out; rw [if_pos trivial] at this; exact this)⟩)
          clear hB5 hBL hwa x0 x1 x2 x3 x4 z0 z1 z2 z3 z4 hS1 hl1 hb1 hl0
          obtain ⟨x0, x1, x2, x3, x4, z0, z1, z2, z3, z4⟩ := hSa.out.cells
          go_wp2
          go_roundg 0
          case measure => have := hgk.out; simp at this; omega
          case rel => exact ⟨k2, st, (k2 : Int) + 1, v, qs, rfl, Lib.hid (if_neg (by omega)).symm, hSa, hPa, hRa, Lib.hid (fun h => by omega)⟩
      · obtain rfl : k = n := by omega
        obtain ⟨M, hM⟩ : ∃ M, max st 1 = M := ⟨_, rfl⟩
        have hmx : (if st < 1 then 1 else st) = M := by split <;> omega
        have hfin : Hid (parseM l lg = (qs.map (fun q => q.2), M, 0, 0)) := Lib.hid (by
          rw [hres.out, hres2, List.drop_eq_nil_of_le (by rw [hlnh.out]; exact Nat.le_refl _), ← hM]
          rfl)
        obtain ⟨A9, c9, hv9, l1, l2, hP9⟩ := hP.out.done
        subst hv9
        have hend := Lib.hid (And.intro l1 (And.intro l2 (And.intro hP9 hP.out.below)))
        clear l1 l2 hP9 hP hR hres2 hgk hql hlt hst0 hst2 hk2
        go_wp2
        go_region
        go_wp2
        refine bodyPost_ret (v := .tuple #[.slice A9 qs.length c9, .int .i64 M, .int .i64 0, .int .i64 0]) (by simp [results, Tryd.results9, go_sem]) rfl ?_
        rw [hfin.out]
        exact ⟨A9, _, c9, _, rfl, hend.out.1, hend.out.2.1, hend.out.2.2.1.drew, below_drew hend.out.2.2.2⟩
    · subst hwm
      have hq0 : ((m : Int) == 0) = false := by rw [beq_eq_false_iff_ne]; omega
      have hpos : (0 : Int) < (m : Int) := by omega
      have hfin : Hid (parseM l lg = ([], 0, (m : Int), 2)) := Lib.hid (by rw [hres.out, hwk]; rfl)
      have hbb := Lib.hid hP.out.below
      clear hwk hP hR hgk hql
      by_cases hlt : k < n
      · have j1 : (k : Int) < (n : Int) := by omega
        go_wp2
        go_region
        go_wp2
        refine bodyPost_ret (v := .tuple #[.slice none 0 0, .int .i64 0, .int .i64 (m : Int), .int .i64 2]) (by simp [results, Tryd.results9, go_sem]) rfl ?_
        rw [hfin.out]
        exact ⟨none, 0, 0, [], rfl, Nat.le_refl _, Nat.zero_le _, Pcs.nil _ _ _, below_drew hbb.out⟩
      · have j1 : ¬ (k : Int) < (n : Int) := by omega
        go_wp2
        go_region
        go_wp2
        refine bodyPost_ret (v := .tuple #[.slice none 0 0, .int .i64 0, .int .i64 (m : Int), .int .i64 2]) (by simp [results, Tryd.results9, go_sem]) rfl ?_
        rw [hfin.out]
        exact ⟨none, 0, 0, [], rfl, Nat.le_refl _, Nat.zero_le _, Pcs.nil _ _ _, below_drew hbb.out⟩
end Go.Proofs.YtcpopnhnihbofaaDoor
