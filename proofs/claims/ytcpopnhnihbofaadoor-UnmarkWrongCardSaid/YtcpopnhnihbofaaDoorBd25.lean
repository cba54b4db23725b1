/- Proved here: texts joined: UnSides. -/
import Derived.Test.YtcpopnhnihbofaaDoorBd24
import Derived.Deep.RegionHeld3
import Derived.Deep.RegionWith
import Derived.Deep.CutRange
import Derived.Deep.DeepCutAuto
import Derived.Deep.LoopGhost
/- Proved here: the contract of the document's own answer of layer 13: sides. -/
namespace Go.Proofs.YtcpopnhnihbofaaDoor
open Go.RowKit
set_option linter.unusedVariables false
set_option maxRecDepth 100000
set_option linter.unusedSimpArgs false

/-- Where the sides of a conflict are told. -/
def SidesOut (A : Option Addr) (n c : Nat) (l : Txs) (long a : Nat) (st : Int) (w w' : World) (e : Ending) : Prop := ∃ (k : Nat) (st' wrong : Int) (rb rs : Slc) (b : Txs) (rows : List Slc) (ds : List Txs),
  e = .returned (.tuple #[.agg #[.slice A n c, .int .i64 (long : Int), .int .i64 (k : Int), .int .i64 st', .int .i64 wrong], .agg #[.bool true, .slice none 0 0, .slice rb.1 rb.2.1 rb.2.2, .slice rs.1 rs.2.1 rs.2.2]]) ∧ Below w.heap.size w w' ∧
  TxR w' w'.heap.size rb b ∧ Far A w.heap.size rb ∧ rs.2.1 ≤ rs.2.2 ∧ rs.2.2 ≤ maxLen ∧ RowsT w' w'.heap.size rs.1 rs.2.1 rows ds ∧ (0 < rs.2.1 → ∀ q o, rs.1 = some ⟨q, o, none⟩ → w.heap.size ≤ q) ∧ (∀ r ∈ rows, Far A w.heap.size r) ∧
  ((∃ m : Nat, wrong = (m : Int) ∧ 0 < m ∧ ∀ out, walkM long ⟨out, [], st, some (false, [], [])⟩ (l.drop a) a = .error m) ∨
   (wrong = 0 ∧ a ≤ k ∧ k ≤ n ∧ 0 ≤ st' ∧ st' ≤ 2 ∧ ∀ out, walkM long ⟨out, [], st, some (false, [], [])⟩ (l.drop a) a = walkM long ⟨out ++ [cPc b ds], [], st', none⟩ (l.drop k) k))
theorem But.four (W : World) (L : Nat) (u0 u1 u2 u3 : Value) : But (fun k => k = L) W ((((W.setCell ⟨L, 0, none⟩ u0).setCell ⟨L, 1, none⟩ u1).setCell ⟨L, 2, none⟩ u2).setCell ⟨L, 3, none⟩ u3) :=
  (((But.one W L 0 u0).trans (But.one _ L 1 u1) fun k e => .inl e).trans (But.one _ L 2 u2) fun k e => .inl e).trans (But.one _ L 3 u3) fun k e => .inl e
theorem sides_done {A : Option Addr} {n c : Nat} {l : Txs} {long a : Nat} {st : Int} {w W W' : World} {rb : Slc} {b : Txs} {Av : Option Addr} {cv R : Nat} {rows : List Slc} {ds : List Txs} {k : Nat} {st' wrong : Int} {F : Nat → Prop} (hA : ∀ q o, A = some ⟨q, o, none⟩ → q < w.heap.size)
    (hR : rows.length = R) (h : SdIn A w W rb b (.slice Av R cv) rows ds) (hb : But F W W') (hF : ∀ k, F k → w.heap.size ≤ k ∧ k < w.heap.size + 4)
    (hx : (∃ m : Nat, wrong = (m : Int) ∧ 0 < m ∧ ∀ out, walkM long ⟨out, [], st, some (false, [], [])⟩ (l.drop a) a = .error m) ∨ (wrong = 0 ∧ a ≤ k ∧ k ≤ n ∧ 0 ≤ st' ∧ st' ≤ 2 ∧ ∀ out, walkM long ⟨out, [], st, some (false, [], [])⟩ (l.drop a) a = walkM long ⟨out ++ [cPc b ds], [], st', none⟩ (l.drop k) k)) :
    SidesOut A n c l long a st w W'.drew (.returned (.tuple #[.agg #[.slice A n c, .int .i64 (long : Int), .int .i64 (k : Int), .int .i64 st', .int .i64 wrong], .agg #[.bool true, .slice none 0 0, .slice rb.1 rb.2.1 rb.2.2, .slice Av R cv]])) := by
  subst hR
  have h' := (h.but hA hb hF).up (below_drew (Below.refl _ _))
  obtain ⟨A', c', e, h1, h2, h3⟩ := h'.row.reads
  injection e with e1 e2 e3
  subst e1
  subst e3
  exact ⟨k, st', wrong, rb, (Av, rows.length, cv), b, rows, ds, rfl, h'.below, h'.base, h'.bfar.mono (by omega), h1, h2, h3, fun hn q o e => by
    have := (h'.row.own.lt q (by dsimp only at e; rw [e]; rfl)).1
    omega, fun r hr => (h'.far r hr).mono (by omega), hx⟩
theorem sides_doneN {A : Option Addr} {n c : Nat} {l : Txs} {long a : Nat} {st : Int} {w W W' : World} {rb : Slc} {b : Txs} {Av : Option Addr} {cv R : Nat} {rows : List Slc} {ds : List Txs} {k : Nat} {st' wrong : Int} {F : Nat → Prop} (hA : ∀ q o, A = some ⟨q, o, none⟩ → q < w.heap.size)
    (hR : rows.length = R) (h : SdIn A w W rb b (.slice Av R cv) rows ds) (hb : But F W W') (hF : ∀ k, F k → w.heap.size ≤ k ∧ k < w.heap.size + 4)
    (hx : (∃ m : Nat, wrong = (m : Int) ∧ 0 < m ∧ ∀ out, walkM long ⟨out, [], st, some (false, [], [])⟩ (l.drop a) a = .error m) ∨ (wrong = 0 ∧ a ≤ k ∧ k ≤ n ∧ 0 ≤ st' ∧ st' ≤ 2 ∧ ∀ out, walkM long ⟨out, [], st, some (false, [], [])⟩ (l.drop a) a = walkM long ⟨out ++ [cPc b ds], [], st', none⟩ (l.drop k) k)) :
    SidesOut A n c l long a st w W' (.returned (.tuple #[.agg #[.slice A n c, .int .i64 (long : Int), .int .i64 (k : Int), .int .i64 st', .int .i64 wrong], .agg #[.bool true, .slice none 0 0, .slice rb.1 rb.2.1 rb.2.2, .slice Av R cv]])) := by
  subst hR
  have h' := h.but hA hb hF
  obtain ⟨A', c', e, h1, h2, h3⟩ := h'.row.reads
  injection e with e1 e2 e3
  subst e1
  subst e3
  exact ⟨k, st', wrong, rb, (Av, rows.length, cv), b, rows, ds, rfl, h'.below, h'.base, h'.bfar.mono (by omega), h1, h2, h3, fun hn q o e => by
    have := (h'.row.own.lt q (by dsimp only at e; rw [e]; rfl)).1
    omega, fun r hr => (h'.far r hr).mono (by omega), hx⟩
theorem But.nine (W : World) (L L' : Nat) (u0 u1 u2 u3 u4 v0 v1 v2 v3 : Value) : But (fun k => k = L ∨ k = L') W (((((((((W.setCell ⟨L, 0, none⟩ u0).setCell ⟨L, 1, none⟩ u1).setCell ⟨L, 2, none⟩ u2).setCell ⟨L, 3, none⟩ u3).setCell ⟨L, 4, none⟩ u4).setCell ⟨L', 0, none⟩ v0).setCell ⟨L', 1, none⟩ v1).setCell ⟨L', 2, none⟩ v2).setCell ⟨L', 3, none⟩ v3) :=
  ((But.five W L u0 u1 u2 u3 u4).more fun k e => .inl e).trans ((But.four _ L' v0 v1 v2 v3).more fun k e => .inr e) fun k e => .inl e

set_option maxHeartbeats 64000000 in
theorem sides_any (A : Option Addr) (n c : Nat) (l : Txs) (long a : Nat) (st : Int) (w : World) (h1 : 1 ≤ long) (hlong : long ≤ 4096) (hT : Txl w (A, n, c) l) (ha1 : 1 ≤ a) (ha : a ≤ n) (hst0 : 0 ≤ st) (hst2 : st ≤ 2) :
    Calls Tryd.prog 23 #[.agg #[.slice A n c, .int .i64 (long : Int), .int .i64 (a : Int), .int .i64 st, .int .i64 0], .agg #[.bool true, .slice none 0 0, .slice none 0 0, .slice none 0 0], .bool false] w fun e w' => SidesOut A n c l long a st w w' e := by
  have hln := hT.st.len
  dsimp only at hln
  have hn1 : n ≤ 1000000000 := by have := hT.few; omega
  have hlnh := Lib.hid hln
  have hTh := Lib.hid hT
  have hlongh := Lib.hid (And.intro h1 hlong)
  obtain ⟨o1, ho1⟩ : ∃ o, o = Obj.cells #[.slice A n c, .int .i64 (long : Int), .int .i64 (a : Int), .int .i64 st, .int .i64 0] 47 := ⟨_, rfl⟩
  obtain ⟨o2, ho2⟩ : ∃ o, o = Obj.cells #[.bool true, .slice none 0 0, .slice none 0 0, .slice none 0 0] 37 := ⟨_, rfl⟩
  obtain ⟨o3, ho3⟩ : ∃ o, o = Obj.cells #[.slice none 0 0, .int .i64 0, .int .i64 0, .int .i64 0, .int .i64 0] 47 := ⟨_, rfl⟩
  obtain ⟨o4, ho4⟩ : ∃ o, o = Obj.cells #[.bool false, .slice none 0 0, .slice none 0 0, .slice none 0 0] 37 := ⟨_, rfl⟩
  have hS0 : Hid (∀ W, W = (((w.alloc o1).alloc o2).alloc o3).alloc o4 → StAt W w.heap.size (A, n, c) long a st 0 ∧ PcAt W (w.heap.size + 1) true (none, 0, 0) (.slice none 0 0) ∧ StAt W (w.heap.size + 1 + 1) (none, 0, 0) 0 0 0 0 ∧ PcAt W (w.heap.size + 1 + 1 + 1) false (none, 0, 0) (.slice none 0 0) ∧ Below w.heap.size w W ∧ W.heap.size = w.heap.size + 4) := Lib.hid (fun W hW => by
    have e : ∀ k o, k < w.heap.size + 4 → ((((w.alloc o1).alloc o2).alloc o3).alloc o4).heap[k]? = some o → W.heap[k]? = some o := fun k o _ h => by rw [hW]; exact h
    refine ⟨e _ _ (by omega) ?_, e _ _ (by omega) ?_, e _ _ (by omega) ?_, e _ _ (by omega) ?_, by rw [hW]; exact below_alloc (below_alloc (below_alloc (below_alloc (Below.refl _ _) _) _) _) _, by rw [hW]; simp⟩
    · rw [push_at, if_neg (by simp only [push_size]; omega), push_at, if_neg (by simp only [push_size]; omega), push_at, if_neg (by simp only [push_size]; omega), push_at, if_pos rfl, ho1]
    · rw [push_at, if_neg (by simp only [push_size]; omega), push_at, if_neg (by simp only [push_size]; omega), push_at, if_pos (by simp only [push_size]), ho2]
    · rw [push_at, if_neg (by simp only [push_size]; omega), push_at, if_pos (by simp only [push_size]), ho3]
    · rw [push_at, if_pos (by simp only [push_size]), ho4])
  have hAw : Hid (∀ q o, A = some ⟨q, o, none⟩ → q < w.heap.size) := Lib.hid (fun q o e => by
    obtain ⟨b, o', e', hb, _⟩ := hT.st.2 (show 0 < n by omega)
    rw [e] at e'
    injection e' with e'
    injection e' with e1 e2
    omega)
  clear hln hT h1 hlong
  go_enter Tryd.func23, Tryd.ntmps23
  go_wp2
  go_loopg [2] (n - a) (fun gk s2 wr => ∃ (k : Nat) (st' : Int) (isB : Bool) (rb : Slc) (b : Txs) (v : Value) (rows : List Slc) (ds : List Txs), k ≤ n ∧ a ≤ k ∧ gk = n - k ∧ s2 = .bool isB ∧ 0 ≤ st' ∧ st' ≤ 2 ∧ Hid (StAt wr w.heap.size (A, n, c) long k st' 0) ∧ Hid (PcAt wr (w.heap.size + 1) true rb v) ∧
    Hid (StAt wr (w.heap.size + 1 + 1) (none, 0, 0) 0 0 0 0 ∧ PcAt wr (w.heap.size + 1 + 1 + 1) false (none, 0, 0) (.slice none 0 0)) ∧ Hid (SdIn A w wr rb b v rows ds) ∧ Hid (nM isB ds ≤ 16 ∧ (isB = true → ds.length = 1)) ∧ Hid (∀ out, walkM long ⟨out, [], st, some (false, [], [])⟩ (l.drop a) a = walkM long ⟨out, [], st', some (isB, b, ds)⟩ (l.drop k) k))
  case atStart =>
    rw [← ho1, ← ho2, ← ho3, ← ho4]
    obtain ⟨k1, k2, k3, k4, k5, k6⟩ := hS0.out _ rfl
    refine ⟨a, st, false, (none, 0, 0), [], .slice none 0 0, [], [], ha, Nat.le_refl _, rfl, rfl, hst0, hst2, Lib.hid k1, Lib.hid k2, Lib.hid ⟨k3, k4⟩, Lib.hid ⟨RowsO.start _ _, fun r h => by simp at h, TxR.nil _ _, Far.nil _ _, fun h => absurd h (Nat.lt_irrefl 0), k5⟩, Lib.hid ⟨by decide, fun h => by cases h⟩, Lib.hid fun out => rfl⟩
  case round =>
    obtain ⟨k, st', isB, rb, b, v, rows, ds, hkn, hak, hgk, rfl, hs0, hs2, hS, hP, hZ, hSd, hN, hW⟩ := hrel
    obtain ⟨wo, rfl⟩ : ∃ wo : World, wo = wr := ⟨_, rfl⟩
    clear hS0 ho1 ho2 ho3 ho4
    obtain ⟨Av, cv, rfl, hv1, hv2, hvR⟩ := hSd.out.row.reads
    have hvRh := Lib.hid (And.intro hv1 (And.intro hv2 hvR))
    have hrl := hSd.out.row.len
    have hrlh := Lib.hid hrl
    have hrl16 : rows.length ≤ 16 := by
      have h := hN.out
      unfold nM at h
      have h3 := h.1
      split at h3 <;> omega
    obtain ⟨⟨m, bad⟩, hD⟩ : ∃ D, partD long (l.drop k) = D := ⟨_, rfl⟩
    obtain ⟨k2, hk2⟩ : ∃ k2, k + m = k2 := ⟨_, rfl⟩
    have hm : m ≤ n - k := by
      have := partD_le (long := long) (r := l.drop k)
      rw [hD, List.length_drop, hlnh.out] at this
      exact this
    have hk2n : k2 ≤ n := by omega
    have hTo := Lib.hid (hTh.out.up hSd.out.below)
    have hwp := Lib.hid (fun (out : List Pc) => (hW.out out).trans (walk_partD (out := out) (st := st') (x := (isB, b, ds)) hlongh.out.1 hN.out.1 (r := l.drop k) (cur := []) (i := k)))
    rw [hD] at hwp
    clear hv1 hv2 hvR hrl
    cases bad
    · have hPt := Lib.hid (part_ok A n c l long k m k2 st' wo hTo.out hkn hD hk2)
      obtain ⟨t, ht0, hlt, hrt⟩ := partD_end (long := long) (r := l.drop k) (by rw [hD])
      rw [hD, List.getElem?_drop, hk2] at ht0
      skip
      have hdt := drop_at ht0
      have hk2l : k2 < n := by
        have := (List.getElem?_eq_some_iff.1 ht0).1
        have := hlnh.out
        omega
      obtain ⟨p, hp⟩ : ∃ p, (l.drop k).take m = p := ⟨_, rfl⟩
      rw [hp] at hPt hwp
      have hpl : Hid (p.length ≤ 1000000000 ∧ ∀ s ∈ p, s.length ≤ 1000000000) := Lib.hid (by
        subst hp
        refine ⟨?_, fun s hs => hTh.out.txt s (List.mem_of_mem_drop (List.mem_of_mem_take hs))⟩
        have h1 := List.length_take_le m (l.drop k)
        have h2 := hlnh.out
        rw [List.length_take, List.length_drop]
        omega)
      have hws : Hid (∀ out, walkM long ⟨out, [], st, some (false, [], [])⟩ (l.drop a) a = match markStep long ⟨out, p, st', some (isB, b, ds)⟩ isB b ds t with | none => .error (k2 + 1) | some s' => walkM long s' (l.drop (k2 + 1)) (k2 + 1)) := Lib.hid (fun out => by
        rw [hwp.out, if_neg (by simp), List.drop_drop, hk2, hdt, walk_step hrt, List.nil_append]
        cases markStep long ⟨out, p, st', some (isB, b, ds)⟩ isB b ds t <;> rfl)
      obtain ⟨x0, x1, x2, x3, x4, z0, z1, z2, z3, z4⟩ := hS.out.cells
      have hth := Lib.hid ht0
      have hkk : k ≤ k2 := by omega
      clear hD hk2 hm hwp hp ht0 hlt hrt hdt
      go_upto_region 3 with (go_at_call 40; refine hPt.out.mono ?_; rintro e w1 ⟨r, rfl, hrp, hnr, hb1⟩; have hS1 := Lib.hid (hS.out.up hb1); obtain ⟨x0, x1, x2, x3, x4, z0, z1, z2, z3, z4⟩ := hS1.out.cells; have hl1 := hS1.out.lt)
      obtain ⟨wa, hwa⟩ : ∃ wa, wa = (((((w1.setCell ⟨w.heap.size, 0, none⟩ (.slice A n c)).setCell ⟨w.heap.size, 1, none⟩ (.int .i64 (long : Int))).setCell ⟨w.heap.size, 2, none⟩ (.int .i64 (k2 : Int))).setCell ⟨w.heap.size, 3, none⟩ (.int .i64 st')).setCell ⟨w.heap.size, 4, none⟩ (.int .i64 0)).alloc (.cells #[.slice A n c, .int .i64 (long : Int), .int .i64 (k2 : Int), .int .i64 st', .int .i64 0] 47) := ⟨_, rfl⟩
      rw [← hwa]
      have hB5 := But.five w1 w.heap.size (.slice A n c) (.int .i64 (long : Int)) (.int .i64 (k2 : Int)) (.int .i64 st') (.int .i64 0)
      have hBL : ∀ W : World, Below W.heap.size W (W.alloc (.cells #[.slice A n c, .int .i64 (long : Int), .int .i64 (k2 : Int), .int .i64 st', .int .i64 0] 47)) := fun W => below_alloc (Below.refl _ _) _
      have hSa : Hid (StAt wa w.heap.size (A, n, c) long k2 st' 0) := Lib.hid (by rw [hwa]; exact ((hS.out.up hb1).setAll (A, n, c) long k2 st' 0).up (hBL _))
      have hPa : Hid (PcAt wa (w.heap.size + 1) true rb (.slice Av rows.length cv)) := Lib.hid (by rw [hwa]; exact ((hP.out.up hb1).but hB5 (by omega)).up (hBL _))
      have hZa : Hid (StAt wa (w.heap.size + 1 + 1) (none, 0, 0) 0 0 0 0 ∧ PcAt wa (w.heap.size + 1 + 1 + 1) false (none, 0, 0) (.slice none 0 0)) := Lib.hid (by rw [hwa]; exact ⟨((hZ.out.1.up hb1).but hB5 (by omega)).up (hBL _), ((hZ.out.2.up hb1).but hB5 (by omega)).up (hBL _)⟩)
      have hSda : Hid (SdIn A w wa rb b (.slice Av rows.length cv) rows ds) := Lib.hid (by rw [hwa]; exact ((hSd.out.up hb1).but hAw.out hB5 (by rintro k rfl; omega)).up (hBL _))
      have hRa : Hid (TxR wa wa.heap.size r p) := Lib.hid (by rw [hwa]; exact ((hrp.up hb1).but hB5 (fun hn q o e he => by obtain ⟨o', e'⟩ := hnr hn q o e; have := hAw.out q o' e'; omega)).up (hBL _))
      have hnrh := Lib.hid hnr
      clear hB5 hBL
      clear hwa x0 x1 x2 x3 x4 z0 z1 z2 z3 z4 hS1 hl1 hb1 hrp hnr
      have hTa := Lib.hid (hTh.out.up hSda.out.below)
      obtain ⟨x0, x1, x2, x3, x4, z0, z1, z2, z3, z4⟩ := hSa.out.cells
      obtain ⟨y0, y1, y2, y3, u0, u1, u2, u3⟩ := hPa.out.cells
      have hlL := hSa.out.lt
      have hlP := hPa.out.lt
      obtain ⟨nn, hnn⟩ : ∃ nn, nM isB ds = nn := ⟨_, rfl⟩
      have hnn16 : nn ≤ 16 := by have := hN.out.1; omega
      have hnn1 : 1 ≤ nn := by
        rw [← hnn]
        unfold nM
        split
        · rename_i h; have := hN.out.2 h; omega
        · omega
      obtain ⟨J, hJ⟩ : ∃ J, (if nn < 16 then nn + 1 else 16) = J := ⟨_, rfl⟩
      have hJ1 : 1 ≤ J ∧ J ≤ 16 := by split at hJ <;> omega
      have hNu := Lib.hid (fun W => rNumber_any J W hJ1.1 hJ1.2)
      obtain ⟨nb, hnb⟩ : ∃ nb : Int, ((fitI (fitM long t 124 [32, 98, 97, 115, 101]) : Nat) : Int) = nb := ⟨_, rfl⟩
      obtain ⟨nf, hnf⟩ : ∃ nf : Int, ((fitI (fitM long t 61 (32 :: numT J)) : Nat) : Int) = nf := ⟨_, rfl⟩
      obtain ⟨ne, hne⟩ : ∃ ne : Int, ((fitI (fitM long t 62 []) : Nat) : Int) = ne := ⟨_, rfl⟩
      have hF1 : Hid (∀ W, Below wa.heap.size wa W → Calls Tryd.prog 21 #[.agg #[.slice A n c, .int .i64 (long : Int), .int .i64 (k2 : Int), .int .i64 st', .int .i64 0], .string { data := #[124] }, .string { data := #[32, 98, 97, 115, 101] }] W fun e w' => e = .returned (.int .i64 nb) ∧ Below W.heap.size W w') := Lib.hid (fun W hW => by
        rw [← hnb]
        exact fits_any A n c l long k2 st' 0 124 [32, 98, 97, 115, 101] t W hlongh.out.2 (by decide) (hTa.out.up hW) hth.out)
      obtain ⟨NT, hNT⟩ : ∃ NT, str (numT J) = NT := ⟨_, rfl⟩
      have hNTs : NT.size ≤ 2 := by
        rw [← hNT, str_size]
        unfold numT
        split <;> simp
      have hF2 : Hid (∀ W, Below wa.heap.size wa W → Calls Tryd.prog 21 #[.agg #[.slice A n c, .int .i64 (long : Int), .int .i64 (k2 : Int), .int .i64 st', .int .i64 0], .string { data := #[61] }, .string ({ data := #[32] } ++ NT)] W fun e w' => e = .returned (.int .i64 nf) ∧ Below W.heap.size W w') := Lib.hid (fun W hW => by
        rw [← hnf, ← hNT]
        have h := fits_any A n c l long k2 st' 0 61 (32 :: numT J) t W hlongh.out.2 (by rw [List.length_cons]; have := hNTs; rw [← hNT, str_size] at this; omega) (hTa.out.up hW) hth.out
        rw [show str (32 :: numT J) = ({ data := #[32] } : ByteArray) ++ str (numT J) from (strs_app [32] (numT J)).symm] at h
        exact h)
      have hF3 : Hid (∀ W, Below wa.heap.size wa W → Calls Tryd.prog 21 #[.agg #[.slice A n c, .int .i64 (long : Int), .int .i64 (k2 : Int), .int .i64 st', .int .i64 0], .string { data := #[62] }, .string { data := #[] }] W fun e w' => e = .returned (.int .i64 ne) ∧ Below W.heap.size W w') := Lib.hid (fun W hW => by
        rw [← hne]
        exact fits_any A n c l long k2 st' 0 62 [] t W hlongh.out.2 (by decide) (hTa.out.up hW) hth.out)
      rw [hNT] at hNu
      have hcs : ¬ 9223372036854775807 < 1 + NT.size := by omega
      obtain ⟨nf2, hnf2⟩ : ∃ z : Int, (if nn = 16 then 0 else nf) = z := ⟨_, rfl⟩
      obtain ⟨how, hcode⟩ := mark_code (long := long) (t := t) (isB := isB) (b := b) (ds := ds) (p := p) (cf := some (isB, b, ds)) (st := st') (nb := nb) (nf := nf2) (ne := ne) hlongh.out.1 hN.out.1 hnb (by
        rw [← hnf2, hnn, ← hnf, ← hJ]
        by_cases h : nn = 16
        · rw [if_pos h, if_pos h]
        · rw [if_neg h, if_neg h, if_pos (by omega)]) hne
      have hcodeh := Lib.hid hcode
      obtain ⟨fb, hfb⟩ : ∃ fb, firstM isB ds = fb := ⟨_, rfl⟩
      obtain ⟨R, hlen⟩ : ∃ R, rows.length = R := ⟨_, rfl⟩
      have hR16 : R ≤ 16 := by omega
      have hdl : ds.length = R := by have := hrlh.out; omega
      have hnR : (isB = true → nn = R ∧ fb = false) ∧ (isB = false → nn = R + 1 ∧ fb = decide (nn = 1)) := by
        constructor
        · rintro rfl
          exact ⟨by rw [← hnn]; unfold nM; rw [if_pos rfl, hdl], by rw [← hfb]; rfl⟩
        · rintro rfl
          have e : nn = R + 1 := by rw [← hnn]; unfold nM; rw [if_neg (by decide), hdl]
          refine ⟨e, ?_⟩
          rw [← hfb, e, ← hdl]
          unfold firstM
          cases ds with
          | nil => rfl
          | cons d ds => simp
      have hnRh := Lib.hid hnR
      rw [hlen] at y3
      have hJv := Lib.hid hJ
      have hnf2h := Lib.hid hnf2
      have hfbh := Lib.hid hfb
      have hnnh := Lib.hid hnn
      have hlenh := Lib.hid hlen
      clear hnb hnf hne hJ hnn hNT hnf2 hcode hfb hlen hdl hnR
      have hw1 : IntKind.i64.wrap ((R : Int) + 1) = (R : Int) + 1 := IntWalk.i64_in _ (by omega)
      have hw2 : IntKind.i64.wrap (R : Int) = (R : Int) := IntWalk.i64_in _ (by omega)
      have hw3 : IntKind.i64.wrap ((R : Int) + 1 - 1) = (R : Int) := by rw [show (R : Int) + 1 - 1 = (R : Int) by omega]; exact hw2
      go_upto_if 33 with fail
      go_cut [10] from 18 to 120 (fun s10 wx => s10 = .int .i64 (nn : Int) ∧ wx = wa)
      case first =>
        cases isB
        · have e : (nn : Int) = (R : Int) + 1 := by have := (hnRh.out.2 rfl).1; omega
          go_wp2_with fail
          go_meet
          exact ⟨by rw [e], rfl⟩
        · have e : (nn : Int) = (R : Int) := by have := (hnRh.out.1 rfl).1; omega
          go_wp2_with fail
          go_meet
          exact ⟨by rw [e], rfl⟩
      case rest =>
      obtain ⟨rfl, rfl⟩ := hcut
      obtain ⟨wa, rfl⟩ : ∃ x : World, x = wc := ⟨_, rfl⟩
      go_upto_region 8 with fail
      go_cut [11] from 18 to 120 (fun s11 wx => s11 = .bool fb ∧ wx = wa)
      case first =>
        cases isB
        · have e : fb = ((nn : Int) == 1) := by
            rw [(hnRh.out.2 rfl).2, Bool.eq_iff_iff, decide_eq_true_eq, beq_iff_eq]
            omega
          go_wp2_with fail
          go_meet
          exact ⟨by rw [e], rfl⟩
        · have e : fb = false := (hnRh.out.1 rfl).2
          go_wp2_with fail
          go_meet
          exact ⟨by rw [e], rfl⟩
      case rest =>
      obtain ⟨rfl, rfl⟩ := hcut
      obtain ⟨wa, rfl⟩ : ∃ x : World, x = wc := ⟨_, rfl⟩
      have hw4 : IntKind.i64.wrap ((nn : Int) + 1) = (nn : Int) + 1 := IntWalk.i64_in _ (by omega)
      have hmin1 : (if (16 : Int) < (nn : Int) + 1 then (16 : Int) else (nn : Int) + 1) = (J : Int) := by
        have h := hJv.out
        split <;> split at h <;> omega
      have hmin2 : (if (nn : Int) + 1 < 16 then (nn : Int) + 1 else (16 : Int)) = (J : Int) := by
        have h := hJv.out
        split <;> split at h <;> omega
      have hmin3 : min ((nn : Int) + 1) 16 = (J : Int) := by
        have h := hJv.out
        split at h <;> omega
      go_upto_region 10 with (go_at_call 21; refine (hF1.out _ (Below.refl _ _)).mono ?_; rintro e w2 ⟨rfl, hb2'⟩; have hB2 := Lib.hid hb2')
      clear x0 x1 x2 x3 x4 z0 z1 z2 z3 z4 y0 y1 y2 y3 u0 u1 u2 u3
      obtain ⟨x0, x1, x2, x3, x4, z0, z1, z2, z3, z4⟩ := (hSa.out.up hB2.out).cells
      have hl2 := (hSa.out.up hB2.out).lt
      have g0 : ∀ x : Grew w2, x.w.cell? ⟨w.heap.size, 0, none⟩ = some (.slice A n c) := fun x => (x.below.cell (p := ⟨w.heap.size, 0, none⟩) hl2).trans x0
      have g1 : ∀ x : Grew w2, x.w.cell? ⟨w.heap.size, 1, none⟩ = some (.int .i64 (long : Int)) := fun x => (x.below.cell (p := ⟨w.heap.size, 1, none⟩) hl2).trans x1
      have g2 : ∀ x : Grew w2, x.w.cell? ⟨w.heap.size, 2, none⟩ = some (.int .i64 (k2 : Int)) := fun x => (x.below.cell (p := ⟨w.heap.size, 2, none⟩) hl2).trans x2
      have g3 : ∀ x : Grew w2, x.w.cell? ⟨w.heap.size, 3, none⟩ = some (.int .i64 st') := fun x => (x.below.cell (p := ⟨w.heap.size, 3, none⟩) hl2).trans x3
      have g4 : ∀ x : Grew w2, x.w.cell? ⟨w.heap.size, 4, none⟩ = some (.int .i64 0) := fun x => (x.below.cell (p := ⟨w.heap.size, 4, none⟩) hl2).trans x4
      have hNG := Lib.hid (grew_call (W := w2) fun w' _ => hNu.out w')
      have hFG := Lib.hid (grew_call (W := w2) fun w' hb => hF2.out w' (hB2.out.trans (hb.mono hB2.out.size)))
      haveI hne5 : Nonempty (Grew w2) := grew_here w2
      refine quiet_grew (by kernel_rfl) (by kernel_rfl) ?_
      repeat (go_big_quiet_step (first | (go_at_call 41; exact hNG.out _) | (go_at_call 21; exact hFG.out _)))
      refine wpQuiet_nil ?_
      rintro wx ⟨⟨wz, hwx⟩, hwz⟩
      have hwz' : wx = wz := hwz
      subst hwz'
      have hBx := Lib.hid (hB2.out.trans (hwx.mono hB2.out.size))
      clear hwz g0 g1 g2 g3 g4 x0 x1 x2 x3 x4 z0 z1 z2 z3 z4 hNG hFG hl2 hmin1 hmin2 hmin3
      obtain ⟨x0, x1, x2, x3, x4, z0, z1, z2, z3, z4⟩ := (hSa.out.up hBx.out).cells
      go_upto_if 54 with (go_at_call 21; refine (hF3.out _ hBx.out).mono ?_; rintro e w4 ⟨rfl, hb4⟩; have hB4 := Lib.hid (hBx.out.trans (hb4.mono hBx.out.size)))
      go_cut [13] from 18 to 120 (fun s13 wx => s13 = .int .i64 nf2 ∧ wx = w4)
      case first =>
        by_cases h16 : nn = 16
        · have e : nf2 = 0 := by rw [← hnf2h.out, if_pos h16]
          have hb : ((nn : Int) == 16) = true := by rw [beq_iff_eq]; omega
          go_wp2_with fail
          go_meet
          exact ⟨by rw [e], rfl⟩
        · have e : nf2 = nf := by rw [← hnf2h.out, if_neg h16]
          have hb : ((nn : Int) == 16) = false := by rw [beq_eq_false_iff_ne]; omega
          go_wp2_with fail
          go_meet
          exact ⟨by rw [e], rfl⟩
      case rest =>
      obtain ⟨rfl, rfl⟩ := hcut
      obtain ⟨w4, rfl⟩ : ∃ x : World, x = wc := ⟨_, rfl⟩
      have hS4 := Lib.hid (hSa.out.up hB4.out)
      have hP4 : Hid (PcAt w4 (w.heap.size + 1) true rb (.slice Av R cv)) := Lib.hid (by have h := hPa.out.up hB4.out; rw [hlenh.out] at h; exact h)
      have hZ4 := Lib.hid (And.intro (hZa.out.1.up hB4.out) (hZa.out.2.up hB4.out))
      have hSd4 : Hid (SdIn A w w4 rb b (.slice Av R cv) rows ds) := Lib.hid (by have h := hSda.out.up hB4.out; rw [hlenh.out] at h; exact h)
      have hR4 := Lib.hid (hRa.out.up hB4.out)
      clear x0 x1 x2 x3 x4 z0 z1 z2 z3 z4 hF1 hF2 hF3 hNu hBx hB2 hB4 hb4 hwx hb2' hSa hPa hZa hSda hRa
      obtain ⟨x0, x1, x2, x3, x4, z0, z1, z2, z3, z4⟩ := hS4.out.cells
      have HH := hcodeh.out
      have hbd : 0 ≤ nb ∧ nb ≤ 2 ∧ 0 ≤ nf2 ∧ nf2 ≤ 2 ∧ 0 ≤ ne ∧ ne ≤ 2 ∧ nb + nf2 + ne ≤ 2 := by
        have e1 := HH.sum
        have e2 := HH.how2
        have e3 := HH.nb0
        have e4 := HH.nf0
        have e5 := HH.ne0
        omega
      have hsum := HH.sum
      clear HH
      have hx1 : IntKind.i64.wrap (nf2 + ne) = nf2 + ne := IntWalk.i64_in _ (by omega)
      have hx2 : IntKind.i64.wrap (nb + nf2) = nb + nf2 := IntWalk.i64_in _ (by omega)
      have hx3 : IntKind.i64.wrap (nb + nf2 + ne) = nb + nf2 + ne := IntWalk.i64_in _ (by omega)
      obtain ⟨V, hV⟩ : ∃ V, wantB fb st' nb (nf2 + ne) = V := ⟨_, rfl⟩
      have hVh := Lib.hid hV
      go_upto_region 14 with fail
      go_cut [15] from 18 to 120 (fun s15 wx => s15 = .bool V ∧ wx = w4)
      case first =>
        cases fb
        · by_cases c2 : 0 < nf2 + ne
          · clear hV
            have hVe : V = wantB false st' nb (nf2 + ne) := hVh.out.symm
            go_wp2_with fail
            go_meet
            exact ⟨by rw [hVe]; simp [wantB, c2], rfl⟩
          · clear hV
            have hVe : V = wantB false st' nb (nf2 + ne) := hVh.out.symm
            go_wp2_with fail
            go_meet
            exact ⟨by rw [hVe]; simp [wantB, c2], rfl⟩
        · by_cases c1 : 0 < nb
          · rcases (by omega : st' = 0 ∨ st' = 1 ∨ st' = 2) with c3 | c3 | c3
            · by_cases c2 : 0 < nf2 + ne
              · clear hV
                have hs1 : (st' != 1) = true := by simp [c3]
                have hd1 : decide (st' ≠ 1) = true := by simp [c3]
                have hs2 : (st' != 2) = true := by simp [c3]
                have hd2 : decide (st' ≠ 2) = true := by simp [c3]
                have hVe : V = wantB true st' nb (nf2 + ne) := hVh.out.symm
                clear c3
                go_wp2_with fail
                go_meet
                exact ⟨by rw [hVe]; simp [wantB, hd1, hd2, c1, c2], rfl⟩
              · clear hV
                have hs1 : (st' != 1) = true := by simp [c3]
                have hd1 : decide (st' ≠ 1) = true := by simp [c3]
                have hs2 : (st' != 2) = true := by simp [c3]
                have hd2 : decide (st' ≠ 2) = true := by simp [c3]
                have hVe : V = wantB true st' nb (nf2 + ne) := hVh.out.symm
                clear c3
                go_wp2_with fail
                go_meet
                exact ⟨by rw [hVe]; simp [wantB, hd1, hd2, c1, c2], rfl⟩
            · by_cases c2 : 0 < nf2 + ne
              · clear hV
                have hs1 : (st' != 1) = false := by simp [c3]
                have hd1 : decide (st' ≠ 1) = false := by simp [c3]
                have hs2 : (st' != 2) = true := by simp [c3]
                have hd2 : decide (st' ≠ 2) = true := by simp [c3]
                have hVe : V = wantB true st' nb (nf2 + ne) := hVh.out.symm
                clear c3
                go_wp2_with fail
                go_meet
                exact ⟨by rw [hVe]; simp [wantB, hd1, hd2, c1, c2], rfl⟩
              · clear hV
                have hs1 : (st' != 1) = false := by simp [c3]
                have hd1 : decide (st' ≠ 1) = false := by simp [c3]
                have hs2 : (st' != 2) = true := by simp [c3]
                have hd2 : decide (st' ≠ 2) = true := by simp [c3]
                have hVe : V = wantB true st' nb (nf2 + ne) := hVh.out.symm
                clear c3
                go_wp2_with fail
                go_meet
                exact ⟨by rw [hVe]; simp [wantB, hd1, hd2, c1, c2], rfl⟩
            · by_cases c2 : 0 < nf2 + ne
              · clear hV
                have hs1 : (st' != 1) = true := by simp [c3]
                have hd1 : decide (st' ≠ 1) = true := by simp [c3]
                have hs2 : (st' != 2) = false := by simp [c3]
                have hd2 : decide (st' ≠ 2) = false := by simp [c3]
                have hVe : V = wantB true st' nb (nf2 + ne) := hVh.out.symm
                clear c3
                go_wp2_with fail
                go_meet
                exact ⟨by rw [hVe]; simp [wantB, hd1, hd2, c1, c2], rfl⟩
              · clear hV
                have hs1 : (st' != 1) = true := by simp [c3]
                have hd1 : decide (st' ≠ 1) = true := by simp [c3]
                have hs2 : (st' != 2) = false := by simp [c3]
                have hd2 : decide (st' ≠ 2) = false := by simp [c3]
                have hVe : V = wantB true st' nb (nf2 + ne) := hVh.out.symm
                clear c3
                go_wp2_with fail
                go_meet
                exact ⟨by rw [hVe]; simp [wantB, hd1, hd2, c1, c2], rfl⟩
          · rcases (by omega : st' = 0 ∨ st' = 1 ∨ st' = 2) with c3 | c3 | c3
            · by_cases c2 : 0 < nf2 + ne
              · clear hV
                have hs1 : (st' != 1) = true := by simp [c3]
                have hd1 : decide (st' ≠ 1) = true := by simp [c3]
                have hs2 : (st' != 2) = true := by simp [c3]
                have hd2 : decide (st' ≠ 2) = true := by simp [c3]
                have hVe : V = wantB true st' nb (nf2 + ne) := hVh.out.symm
                clear c3
                go_wp2_with fail
                go_meet
                exact ⟨by rw [hVe]; simp [wantB, hd1, hd2, c1, c2], rfl⟩
              · clear hV
                have hs1 : (st' != 1) = true := by simp [c3]
                have hd1 : decide (st' ≠ 1) = true := by simp [c3]
                have hs2 : (st' != 2) = true := by simp [c3]
                have hd2 : decide (st' ≠ 2) = true := by simp [c3]
                have hVe : V = wantB true st' nb (nf2 + ne) := hVh.out.symm
                clear c3
                go_wp2_with fail
                go_meet
                exact ⟨by rw [hVe]; simp [wantB, hd1, hd2, c1, c2], rfl⟩
            · by_cases c2 : 0 < nf2 + ne
              · clear hV
                have hs1 : (st' != 1) = false := by simp [c3]
                have hd1 : decide (st' ≠ 1) = false := by simp [c3]
                have hs2 : (st' != 2) = true := by simp [c3]
                have hd2 : decide (st' ≠ 2) = true := by simp [c3]
                have hVe : V = wantB true st' nb (nf2 + ne) := hVh.out.symm
                clear c3
                go_wp2_with fail
                go_meet
                exact ⟨by rw [hVe]; simp [wantB, hd1, hd2, c1, c2], rfl⟩
              · clear hV
                have hs1 : (st' != 1) = false := by simp [c3]
                have hd1 : decide (st' ≠ 1) = false := by simp [c3]
                have hs2 : (st' != 2) = true := by simp [c3]
                have hd2 : decide (st' ≠ 2) = true := by simp [c3]
                have hVe : V = wantB true st' nb (nf2 + ne) := hVh.out.symm
                clear c3
                go_wp2_with fail
                go_meet
                exact ⟨by rw [hVe]; simp [wantB, hd1, hd2, c1, c2], rfl⟩
            · by_cases c2 : 0 < nf2 + ne
              · clear hV
                have hs1 : (st' != 1) = true := by simp [c3]
                have hd1 : decide (st' ≠ 1) = true := by simp [c3]
                have hs2 : (st' != 2) = false := by simp [c3]
                have hd2 : decide (st' ≠ 2) = false := by simp [c3]
                have hVe : V = wantB true st' nb (nf2 + ne) := hVh.out.symm
                clear c3
                go_wp2_with fail
                go_meet
                exact ⟨by rw [hVe]; simp [wantB, hd1, hd2, c1, c2], rfl⟩
              · clear hV
                have hs1 : (st' != 1) = true := by simp [c3]
                have hd1 : decide (st' ≠ 1) = true := by simp [c3]
                have hs2 : (st' != 2) = false := by simp [c3]
                have hd2 : decide (st' ≠ 2) = false := by simp [c3]
                have hVe : V = wantB true st' nb (nf2 + ne) := hVh.out.symm
                clear c3
                go_wp2_with fail
                go_meet
                exact ⟨by rw [hVe]; simp [wantB, hd1, hd2, c1, c2], rfl⟩
      case rest =>
      obtain ⟨rfl, rfl⟩ := hcut
      obtain ⟨w4, rfl⟩ : ∃ x : World, x = wc := ⟨_, rfl⟩
      obtain ⟨o, ho⟩ : ∃ o, opD how p = o := ⟨_, rfl⟩
      have hOp := Lib.hid (opened_any A r how p w4 (by omega) hpl.out.2 hpl.out.1 hR4.out hnrh.out)
      rw [ho, ← hsum] at hOp
      have hoh := Lib.hid ho
      have hsumh := Lib.hid hsum
      have hbdh := Lib.hid hbd
      clear ho hV hsum hbd hx1
      cases V
      · have hend : Hid (∀ out, walkM long ⟨out, [], st, some (false, [], [])⟩ (l.drop a) a = .error (k2 + 1)) := Lib.hid (fun out => by rw [hws.out, hcodeh.out.no (by rw [hfbh.out]; exact hVh.out)])
        go_upto_region 17 with (go_at_call 42; refine hOp.out.mono ?_; rintro e w6 ⟨r6, rfl, hq6, hb6⟩)
        clear x0 x1 x2 x3 x4 z0 z1 z2 z3 z4
        have hrefl6 := Below.refl w6.heap.size w6
        have hBd := Lib.hid (fun (W : World) (hW : Below w6.heap.size w6 W) => (bad_any (A, n, c) long st' 0 k2 W (by omega)).mono fun e w' h => (⟨h.1, hW.trans (h.2.mono hW.size)⟩ : _ ∧ Below w6.heap.size w6 w'))
        have hS6 := Lib.hid (fun (W : World) (hW : Below w6.heap.size w6 W) => ((hS4.out.up hb6).up hW).cells)
        have hP6 := Lib.hid (fun (W : World) (hW : Below w6.heap.size w6 W) => ((hP4.out.up hb6).up hW).cells)
        have hZ6 := Lib.hid (fun (W : World) (hW : Below w6.heap.size w6 W) => ((hZ4.out.1.up hb6).up hW).cells)
        have hY6 := Lib.hid (fun (W : World) (hW : Below w6.heap.size w6 W) => ((hZ4.out.2.up hb6).up hW).cells)
        have hD6 := Lib.hid (fun (W : World) (hW : Below w6.heap.size w6 W) => (hSd4.out.up hb6).up hW)
        obtain ⟨x0, x1, x2, x3, x4, z0, z1, z2, z3, z4⟩ := hS6.out _ hrefl6
        obtain ⟨y0, y1, y2, y3, u0, u1, u2, u3⟩ := hP6.out _ hrefl6
        go_region_with (go_at_call 22; refine (hBd.out _ ?_).mono ?_; (repeat (first | assumption | refine below_drew ?_ | refine below_drewN ?_ _)); rintro e w7 ⟨rfl, hb7⟩; have hb7h := Lib.hid hb7; obtain ⟨x0, x1, x2, x3, x4, z0, z1, z2, z3, z4⟩ := hS6.out w7 hb7; obtain ⟨y0, y1, y2, y3, u0, u1, u2, u3⟩ := hP6.out w7 hb7; obtain ⟨c0, c1, c2, c3, c4, d0, d1, d2, d3, d4⟩ := hZ6.out w7 hb7; obtain ⟨e0, e1, e2, e3, f0, f1, f2, f3⟩ := hY6.out w7 hb7)
        all_goals
          go_wp2
          refine bodyPost_ret (v := .tuple #[.agg #[.slice A n c, .int .i64 (long : Int), .int .i64 (k2 : Int), .int .i64 st', .int .i64 ((k2 : Int) + 1)], .agg #[.bool true, .slice none 0 0, .slice rb.1 rb.2.1 rb.2.2, .slice Av R cv]]) (by simp [results, Tryd.results23, go_sem, World.cell?_setCell_same', c0, c1, c2, c3, c4, e0, e1, e2, e3]) rfl ?_
          exact sides_doneN hAw.out hlenh.out (hD6.out _ hb7h.out) (But.nine _ _ _ _ _ _ _ _ _ _ _ _) (by rintro k (rfl | rfl) <;> omega) (.inl ⟨k2 + 1, rfl, by omega, hend.out⟩)
      · rcases o with _ | q
        · have hend : Hid (∀ out, walkM long ⟨out, [], st, some (false, [], [])⟩ (l.drop a) a = .error (k2 + 1)) := Lib.hid (fun out => by rw [hws.out, hcodeh.out.shut (by rw [hfbh.out]; exact hVh.out) hoh.out])
          go_upto_region 17 with (go_at_call 42; refine hOp.out.mono ?_; rintro e w6 ⟨r6, rfl, hq6, hb6⟩)
          clear x0 x1 x2 x3 x4 z0 z1 z2 z3 z4
          have hrefl6 := Below.refl w6.heap.size w6
          have hBd := Lib.hid (fun (W : World) (hW : Below w6.heap.size w6 W) => (bad_any (A, n, c) long st' 0 k2 W (by omega)).mono fun e w' h => (⟨h.1, hW.trans (h.2.mono hW.size)⟩ : _ ∧ Below w6.heap.size w6 w'))
          have hS6 := Lib.hid (fun (W : World) (hW : Below w6.heap.size w6 W) => ((hS4.out.up hb6).up hW).cells)
          have hP6 := Lib.hid (fun (W : World) (hW : Below w6.heap.size w6 W) => ((hP4.out.up hb6).up hW).cells)
          have hZ6 := Lib.hid (fun (W : World) (hW : Below w6.heap.size w6 W) => ((hZ4.out.1.up hb6).up hW).cells)
          have hY6 := Lib.hid (fun (W : World) (hW : Below w6.heap.size w6 W) => ((hZ4.out.2.up hb6).up hW).cells)
          have hD6 := Lib.hid (fun (W : World) (hW : Below w6.heap.size w6 W) => (hSd4.out.up hb6).up hW)
          obtain ⟨x0, x1, x2, x3, x4, z0, z1, z2, z3, z4⟩ := hS6.out _ hrefl6
          obtain ⟨y0, y1, y2, y3, u0, u1, u2, u3⟩ := hP6.out _ hrefl6
          go_region_with (go_at_call 22; refine (hBd.out _ ?_).mono ?_; (repeat (first | assumption | refine below_drew ?_ | refine below_drewN ?_ _)); rintro e w7 ⟨rfl, hb7⟩; have hb7h := Lib.hid hb7; obtain ⟨x0, x1, x2, x3, x4, z0, z1, z2, z3, z4⟩ := hS6.out w7 hb7; obtain ⟨y0, y1, y2, y3, u0, u1, u2, u3⟩ := hP6.out w7 hb7; obtain ⟨c0, c1, c2, c3, c4, d0, d1, d2, d3, d4⟩ := hZ6.out w7 hb7; obtain ⟨e0, e1, e2, e3, f0, f1, f2, f3⟩ := hY6.out w7 hb7)
          all_goals
            go_wp2
            refine bodyPost_ret (v := .tuple #[.agg #[.slice A n c, .int .i64 (long : Int), .int .i64 (k2 : Int), .int .i64 st', .int .i64 ((k2 : Int) + 1)], .agg #[.bool true, .slice none 0 0, .slice rb.1 rb.2.1 rb.2.2, .slice Av R cv]]) (by simp [results, Tryd.results23, go_sem, World.cell?_setCell_same', c0, c1, c2, c3, c4, e0, e1, e2, e3]) rfl ?_
            exact sides_doneN hAw.out hlenh.out (hD6.out _ hb7h.out) (But.nine _ _ _ _ _ _ _ _ _ _ _ _) (by rintro k (rfl | rfl) <;> omega) (.inl ⟨k2 + 1, rfl, by omega, hend.out⟩)
        · have hq := hoh.out
          go_upto_region 18 with (go_at_call 42; refine hOp.out.mono ?_; rintro e w6 ⟨r6, rfl, hq6, hb6⟩)
          obtain ⟨hTq0, hFq0⟩ := hq6 q rfl
          have h4s : w.heap.size + 4 ≤ w4.heap.size := by have := hZ4.out.2.lt; omega
          have hFq := hFq0.mono h4s
          have hoq : 0 < r6.2.1 → ∀ g o, r6.1 = some ⟨g, o, none⟩ → (Value.slice Av R cv).ownBlock ≠ some g := fun hn g o e hg => by
            have := hSd4.out.row.own.lt g hg
            rcases hFq0 hn g o e with ⟨o', e'⟩ | h
            · have := hAw.out g o' e'; omega
            · omega
          clear x0 x1 x2 x3 x4 z0 z1 z2 z3 z4
          obtain ⟨x0, x1, x2, x3, x4, z0, z1, z2, z3, z4⟩ := (hS4.out.up hb6).cells
          obtain ⟨K, hK⟩ : ∃ K, k2 + 1 = K := ⟨_, rfl⟩
          have hkw : IntKind.i64.wrap ((k2 : Int) + 1) = (K : Int) := by rw [IntWalk.i64_in _ (by omega)]; omega
          go_upto_if 103 with fail
          obtain ⟨wA, hwA⟩ : ∃ x, x = w6.setCell ⟨w.heap.size, 2, none⟩ (.int .i64 (K : Int)) := ⟨_, rfl⟩
          rw [← hwA]
          have hB1 := But.one w6 w.heap.size 2 (.int .i64 (K : Int))
          rw [← hwA] at hB1
          have hSA : Hid (StAt wA w.heap.size (A, n, c) long (K : Int) st' 0) := Lib.hid (by have h := (hS4.out.up hb6).setAt (K : Int); rw [← hwA] at h; exact h)
          have hPA := Lib.hid ((hP4.out.up hb6).but hB1 (by omega))
          have hZA : Hid (StAt wA (w.heap.size + 1 + 1) (none, 0, 0) 0 0 0 0 ∧ PcAt wA (w.heap.size + 1 + 1 + 1) false (none, 0, 0) (.slice none 0 0)) := Lib.hid ⟨(hZ4.out.1.up hb6).but hB1 (by omega), (hZ4.out.2.up hb6).but hB1 (by omega)⟩
          have hSdA := Lib.hid ((hSd4.out.up hb6).but hAw.out hB1 (by rintro k rfl; omega))
          have hTA : Hid (TxR wA wA.heap.size r6 q) := Lib.hid (hTq0.but hB1 (fun hn g o e hg => by
            rcases hFq hn g o e with ⟨o', e'⟩ | h
            · have := hAw.out g o' e'; omega
            · omega))
          have hnx : Hid (∀ out, walkM long ⟨out, [], st, some (false, [], [])⟩ (l.drop a) a = walkM long (nextM nb ne st' isB b ds out q) (l.drop K) K) := Lib.hid (fun out => by rw [hws.out, hcodeh.out.yes (by rw [hfbh.out]; exact hVh.out) q hq, ← hK])
          have hfr := hcodeh.out.frst (by rw [hfbh.out]; exact hVh.out)
          have hsd := hcodeh.out.side (by rw [hfbh.out]; exact hVh.out)
          have hon := hcodeh.out.only
          rw [hfbh.out] at hfr
          have hfrh := Lib.hid hfr
          have hsdh := Lib.hid hsd
          have honh := Lib.hid hon
          have hFqh := Lib.hid hFq
          have hoqh := Lib.hid hoq
          have hlk : K ≤ n := by have := (List.getElem?_eq_some_iff.1 hth.out).1; have := hlnh.out; omega
          clear x0 x1 x2 x3 x4 z0 z1 z2 z3 z4 hwA hB1 hq6 hTq0 hFq0 hFq hoq hfr hsd hon hb6 hq
          obtain ⟨x0, x1, x2, x3, x4, z0, z1, z2, z3, z4⟩ := hSA.out.cells
          obtain ⟨y0, y1, y2, y3, u0, u1, u2, u3⟩ := hPA.out.cells
          cases isB
          · have hownA := hSdA.out.row.own
            rw [hlenh.out] at hownA
            have hszA := hSdA.out.below.size
            obtain ⟨i0, hi, hzz⟩ := Option.map_eq_some_iff.1 infoTxs
            simp only [Prod.mk.injEq] at hzz
            obtain ⟨hz1, hz2, hz3⟩ := hzz
            have hmax : Hid (R + 1 ≤ maxLen ∧ (R + 1) * 24 ≤ 140737488355328) := Lib.hid ⟨by unfold maxLen; omega, by omega⟩
            have hl4 : w.heap.size + 4 ≤ wA.heap.size := by have := hZA.out.2.lt; omega
            obtain ⟨R7, hR7⟩ : ∃ R7, (rows ++ [r6]).length = R7 := ⟨_, rfl⟩
            have hR7h := Lib.hid hR7
            have hput : Hid (∀ (v7 : Value) (w7 : World), w7.ownsRow (w.heap.size + 4) 22 1 v7 (R + 1) (rows.map slcV ++ [.slice r6.1 r6.2.1 r6.2.2]) → (wA.alloc (.cells #[.slice r6.1 r6.2.1 r6.2.2] 22)).grownBy w7 (Value.slice Av R cv).ownBlock → (v7.ownBlock = (Value.slice Av R cv).ownBlock ∨ v7.ownBlock = some (wA.alloc (.cells #[.slice r6.1 r6.2.1 r6.2.2] 22)).heap.size) →
                ∃ A7 c7, v7 = .slice A7 R7 c7 ∧ SdIn A w w7 rb b (.slice A7 R7 c7) (rows ++ [r6]) (ds ++ [q]) ∧ StAt w7 w.heap.size (A, n, c) long (K : Int) st' 0 ∧ PcAt w7 (w.heap.size + 1) true rb (.slice Av R cv) ∧ StAt w7 (w.heap.size + 1 + 1) (none, 0, 0) 0 0 0 0 ∧ PcAt w7 (w.heap.size + 1 + 1 + 1) false (none, 0, 0) (.slice none 0 0)) := Lib.hid (fun v7 w7 h1 h2 h3 => by
              have hD := hSdA.out.put (q := q) (r := r6) hTA.out hFqh.out hoqh.out (by rw [hlenh.out]; exact h1) h2 h3
              have hb2 : But (fun k => (Value.slice Av R cv).ownBlock = some k) wA w7 := (But.alloc wA _).trans (But.of_grown h2 fun k e => e) fun k e => .inl e
              have hno : ∀ k, k < w.heap.size + 4 → ¬ (Value.slice Av R cv).ownBlock = some k := fun k hk e => by have := (hownA.lt k e).1; omega
              obtain ⟨A7, c7, e7, -, -, -⟩ := hD.row.reads
              rw [hR7h.out] at e7
              subst e7
              exact ⟨A7, c7, rfl, hD, hSA.out.but hb2 (hno _ (by omega)), hPA.out.but hb2 (hno _ (by omega)), hZA.out.1.but hb2 (hno _ (by omega)), hZA.out.2.but hb2 (hno _ (by omega))⟩)
            clear hR7
            go_upto_if 113 with (at_builtin; refine wpList_append_own_at _ rfl (.tmp 107) (.tmp 109) 34 rfl (w.heap.size + 4) 22 i0 (.slice none 0 0) 1 24 Tryd.underlying34 hi hz1 hz2 hz3 rfl (by decide) (.slice Av R cv) R _ rfl (hownA.alloc _) ⟨wA.heap.size, 0, none⟩ 1 1 [.slice r6.1 r6.2.1 r6.2.2] rfl rfl (cell_one_new _ _ _) (by simp [Value.oneCell']) hmax.out.1 hmax.out.2 (by simp; omega) ?_; intro v7 w7 hown7 hg7 hnil7 hloc7; clear hnil7; obtain ⟨A7, c7, rfl, hD7, hS7, hP7, hZ7, hY7⟩ := hput.out v7 w7 hown7 hg7 hloc7; obtain ⟨x0, x1, x2, x3, x4, z0, z1, z2, z3, z4⟩ := hS7.cells; obtain ⟨y0, y1, y2, y3, u0, u1, u2, u3⟩ := hP7.cells)
            obtain ⟨wB, hwB⟩ : ∃ x, x = w7.setCell ⟨w.heap.size + 1, 3, none⟩ (.slice A7 R7 c7) := ⟨_, rfl⟩
            rw [← hwB]
            have hB1 := But.one w7 (w.heap.size + 1) 3 (.slice A7 R7 c7)
            rw [← hwB] at hB1
            have hSB := Lib.hid (hS7.but hB1 (by omega))
            have hPB : Hid (PcAt wB (w.heap.size + 1) true rb (.slice A7 R7 c7)) := Lib.hid (by have h := hP7.setSides (.slice A7 R7 c7); rw [← hwB] at h; exact h)
            have hZB : Hid (StAt wB (w.heap.size + 1 + 1) (none, 0, 0) 0 0 0 0 ∧ PcAt wB (w.heap.size + 1 + 1 + 1) false (none, 0, 0) (.slice none 0 0)) := Lib.hid ⟨hZ7.but hB1 (by omega), hY7.but hB1 (by omega)⟩
            have hDB := Lib.hid (hD7.but hAw.out hB1 (by rintro k rfl; omega))
            clear x0 x1 x2 x3 x4 z0 z1 z2 z3 z4 y0 y1 y2 y3 u0 u1 u2 u3 hwB hB1 hD7 hS7 hP7 hZ7 hY7 hown7 hg7 hloc7 hput hownA hmax hi hz1 hz2 hz3
            obtain ⟨x0, x1, x2, x3, x4, z0, z1, z2, z3, z4⟩ := hSB.out.cells
            obtain ⟨y0, y1, y2, y3, u0, u1, u2, u3⟩ := hPB.out.cells
            by_cases cb : 0 < nb
            · have hfb1 : fb = true := hfrh.out cb
              have hcb : decide (0 < nb) = true := decide_eq_true cb
              have hne0 : ne = 0 := (honh.out cb).2
              have hdn : ds = [] := by
                have h := hfbh.out
                rw [hfb1] at h
                unfold firstM at h
                simpa using h
              have hnx2 : Hid (∀ out, walkM long ⟨out, [], st, some (false, [], [])⟩ (l.drop a) a = walkM long ⟨out, [], 2, some (true, b, ds ++ [q])⟩ (l.drop K) K) := Lib.hid (fun out => by rw [hnx.out, next_fB cb])
              have hdnh := Lib.hid hdn
              subst hfb1
              subst hne0
              clear hdn
              go_wp2
              go_roundg (n - K)
              case measure => omega
              case rel =>
                exact ⟨K, 2, true, rb, b, .slice A7 R7 c7, rows ++ [r6], ds ++ [q], hlk, by omega, rfl, rfl, by decide, by decide, Lib.hid (hSB.out.setStyle 2), Lib.hid (hPB.out.but (But.one _ _ _ _) (by omega)), Lib.hid ⟨hZB.out.1.but (But.one _ _ _ _) (by omega), hZB.out.2.but (But.one _ _ _ _) (by omega)⟩, Lib.hid (hDB.out.but hAw.out (But.one _ _ _ _) (by rintro k rfl; omega)), Lib.hid ⟨by unfold nM; rw [if_pos rfl, hdnh.out]; show 1 ≤ 16; omega, fun _ => by rw [hdnh.out]; rfl⟩, hnx2⟩
            · have hcb : decide (0 < nb) = false := decide_eq_false cb
              by_cases ce : 0 < ne
              · have hce : decide (0 < ne) = true := decide_eq_true ce
                cases fb
                · have hnx2 : Hid (∀ out, walkM long ⟨out, [], st, some (false, [], [])⟩ (l.drop a) a = walkM long ⟨out ++ [cPc b (ds ++ [q])], [], st', none⟩ (l.drop K) K) := Lib.hid (fun out => by rw [hnx.out, next_fE (s := st') cb ce (by rw [hfbh.out]; rfl)])
                  obtain ⟨c0, c1, c2, c3, c4, d0, d1, d2, d3, d4⟩ := hZB.out.1.cells
                  obtain ⟨e0, e1, e2, e3, f0, f1, f2, f3⟩ := hZB.out.2.cells
                  go_wp2
                  go_region
                  go_wp2
                  refine bodyPost_ret (v := .tuple #[.agg #[.slice A n c, .int .i64 (long : Int), .int .i64 (K : Int), .int .i64 st', .int .i64 0], .agg #[.bool true, .slice none 0 0, .slice rb.1 rb.2.1 rb.2.2, .slice A7 R7 c7]]) (by simp [results, Tryd.results23, go_sem, World.cell?_setCell_same', c0, c1, c2, c3, c4, e0, e1, e2, e3]) rfl ?_
                  refine sides_done hAw.out hR7h.out hDB.out (But.nine _ _ _ _ _ _ _ _ _ _ _ _) (by rintro k (rfl | rfl) <;> omega) (.inr ⟨rfl, ?_, hlk, hs0, hs2, hnx2.out⟩)
                  omega
                · have hnx2 : Hid (∀ out, walkM long ⟨out, [], st, some (false, [], [])⟩ (l.drop a) a = walkM long ⟨out ++ [cPc b (ds ++ [q])], [], 1, none⟩ (l.drop K) K) := Lib.hid (fun out => by rw [hnx.out, next_fE (s := 1) cb ce (by rw [hfbh.out]; rfl)])
                  go_upto_if 118 with fail
                  obtain ⟨wC, hwC⟩ : ∃ x, x = wB.setCell ⟨w.heap.size, 3, none⟩ (.int .i64 1) := ⟨_, rfl⟩
                  rw [← hwC]
                  have hBC := But.one wB w.heap.size 3 (.int .i64 1)
                  rw [← hwC] at hBC
                  have hSC := hSB.out.setStyle 1
                  rw [← hwC] at hSC
                  have hPC := hPB.out.but hBC (by omega)
                  have hZC := hZB.out.1.but hBC (by omega)
                  have hYC := hZB.out.2.but hBC (by omega)
                  have hDC := Lib.hid (hDB.out.but hAw.out hBC (by rintro k rfl; omega))
                  clear x0 x1 x2 x3 x4 z0 z1 z2 z3 z4 y0 y1 y2 y3 u0 u1 u2 u3 hwC hBC
                  obtain ⟨x0, x1, x2, x3, x4, z0, z1, z2, z3, z4⟩ := hSC.cells
                  obtain ⟨y0, y1, y2, y3, u0, u1, u2, u3⟩ := hPC.cells
                  obtain ⟨c0, c1, c2, c3, c4, d0, d1, d2, d3, d4⟩ := hZC.cells
                  obtain ⟨e0, e1, e2, e3, f0, f1, f2, f3⟩ := hYC.cells
                  clear hSC hPC hZC hYC
                  go_wp2
                  go_region
                  go_wp2
                  refine bodyPost_ret (v := .tuple #[.agg #[.slice A n c, .int .i64 (long : Int), .int .i64 (K : Int), .int .i64 1, .int .i64 0], .agg #[.bool true, .slice none 0 0, .slice rb.1 rb.2.1 rb.2.2, .slice A7 R7 c7]]) (by simp [results, Tryd.results23, go_sem, World.cell?_setCell_same', c0, c1, c2, c3, c4, e0, e1, e2, e3]) rfl ?_
                  refine sides_done hAw.out hR7h.out hDC.out (But.nine _ _ _ _ _ _ _ _ _ _ _ _) (by rintro k (rfl | rfl) <;> omega) (.inr ⟨rfl, ?_, hlk, (by decide), (by decide), hnx2.out⟩)
                  omega
              · have hce : decide (0 < ne) = false := decide_eq_false ce
                cases fb
                · have hnx2 : Hid (∀ out, walkM long ⟨out, [], st, some (false, [], [])⟩ (l.drop a) a = walkM long ⟨out, [], st', some (false, b, ds ++ [q])⟩ (l.drop K) K) := Lib.hid (fun out => by rw [hnx.out, next_fF (s := st') cb ce (by rw [hfbh.out]; rfl)])
                  have hn16 : nM false ds < 16 := hsdh.out cb ce
                  have hn16h := Lib.hid hn16
                  clear hn16
                  go_wp2
                  go_roundg (n - K)
                  case measure => omega
                  case rel =>
                    exact ⟨K, st', false, rb, b, .slice A7 R7 c7, rows ++ [r6], ds ++ [q], hlk, by omega, rfl, rfl, hs0, hs2, hSB, hPB, hZB, hDB, Lib.hid ⟨by have h := hn16h.out; unfold nM at h ⊢; rw [if_neg (by decide)] at h ⊢; rw [List.length_append, List.length_singleton]; omega, fun h => by cases h⟩, hnx2⟩
                · have hnx2 : Hid (∀ out, walkM long ⟨out, [], st, some (false, [], [])⟩ (l.drop a) a = walkM long ⟨out, [], 1, some (false, b, ds ++ [q])⟩ (l.drop K) K) := Lib.hid (fun out => by rw [hnx.out, next_fF (s := 1) cb ce (by rw [hfbh.out]; rfl)])
                  have hn16 : nM false ds < 16 := hsdh.out cb ce
                  have hn16h := Lib.hid hn16
                  clear hn16
                  go_wp2
                  go_roundg (n - K)
                  case measure => omega
                  case rel =>
                    exact ⟨K, 1, false, rb, b, .slice A7 R7 c7, rows ++ [r6], ds ++ [q], hlk, by omega, rfl, rfl, by decide, by decide, Lib.hid (hSB.out.setStyle 1), Lib.hid (hPB.out.but (But.one _ _ _ _) (by omega)), Lib.hid ⟨hZB.out.1.but (But.one _ _ _ _) (by omega), hZB.out.2.but (But.one _ _ _ _) (by omega)⟩, Lib.hid (hDB.out.but hAw.out (But.one _ _ _ _) (by rintro k rfl; omega)), Lib.hid ⟨by have h := hn16h.out; unfold nM at h ⊢; rw [if_neg (by decide)] at h ⊢; rw [List.length_append, List.length_singleton]; omega, fun h => by cases h⟩, hnx2⟩
          · have hfb0 : fb = false := (hnRh.out.1 rfl).2
            have cb : ¬ 0 < nb := fun h => by have := hfrh.out h; rw [hfb0] at this; cases this
            have hcb : decide (0 < nb) = false := decide_eq_false cb
            have hSdB : Hid (∀ u, SdIn A w (wA.setCell ⟨w.heap.size + 1, 2, none⟩ u) r6 q (.slice Av R cv) rows ds) := Lib.hid (fun u => (hSdA.out.setBase hTA.out hFqh.out hoqh.out).but hAw.out (But.one _ _ _ _) (by rintro k rfl; omega))
            subst hfb0
            by_cases ce : 0 < ne
            · have hce : decide (0 < ne) = true := decide_eq_true ce
              have hnx2 : Hid (∀ out, walkM long ⟨out, [], st, some (false, [], [])⟩ (l.drop a) a = walkM long ⟨out ++ [cPc q ds], [], st', none⟩ (l.drop K) K) := Lib.hid (fun out => by rw [hnx.out, next_tE cb ce])
              go_upto_if 118 with fail
              obtain ⟨wC, hwC⟩ : ∃ x, x = wA.setCell ⟨w.heap.size + 1, 2, none⟩ (.slice r6.1 r6.2.1 r6.2.2) := ⟨_, rfl⟩
              rw [← hwC]
              have hBC := But.one wA (w.heap.size + 1) 2 (.slice r6.1 r6.2.1 r6.2.2)
              rw [← hwC] at hBC
              have hSC := hSA.out.but hBC (by omega)
              have hPC : PcAt wC (w.heap.size + 1) true r6 (.slice Av R cv) := by have h := hPA.out.setBase r6; rw [← hwC] at h; exact h
              have hZC := hZA.out.1.but hBC (by omega)
              have hYC := hZA.out.2.but hBC (by omega)
              have hDC : Hid (SdIn A w wC r6 q (.slice Av R cv) rows ds) := Lib.hid (by rw [hwC]; exact hSdB.out _)
              clear x0 x1 x2 x3 x4 z0 z1 z2 z3 z4 y0 y1 y2 y3 u0 u1 u2 u3 hwC hBC hSdB
              obtain ⟨x0, x1, x2, x3, x4, z0, z1, z2, z3, z4⟩ := hSC.cells
              obtain ⟨y0, y1, y2, y3, u0, u1, u2, u3⟩ := hPC.cells
              obtain ⟨c0, c1, c2, c3, c4, d0, d1, d2, d3, d4⟩ := hZC.cells
              obtain ⟨e0, e1, e2, e3, f0, f1, f2, f3⟩ := hYC.cells
              clear hSC hPC hZC hYC
              go_wp2
              go_region
              go_wp2
              refine bodyPost_ret (v := .tuple #[.agg #[.slice A n c, .int .i64 (long : Int), .int .i64 (K : Int), .int .i64 st', .int .i64 0], .agg #[.bool true, .slice none 0 0, .slice r6.1 r6.2.1 r6.2.2, .slice Av R cv]]) (by simp [results, Tryd.results23, go_sem, World.cell?_setCell_same', c0, c1, c2, c3, c4, e0, e1, e2, e3]) rfl ?_
              refine sides_done hAw.out hlenh.out hDC.out (But.nine _ _ _ _ _ _ _ _ _ _ _ _) (by rintro k (rfl | rfl) <;> omega) (.inr ⟨rfl, ?_, hlk, hs0, hs2, hnx2.out⟩)
              omega
            · have hce : decide (0 < ne) = false := decide_eq_false ce
              have hnx2 : Hid (∀ out, walkM long ⟨out, [], st, some (false, [], [])⟩ (l.drop a) a = walkM long ⟨out, [], st', some (false, q, ds)⟩ (l.drop K) K) := Lib.hid (fun out => by rw [hnx.out, next_tF cb ce])
              go_wp2
              go_roundg (n - K)
              case measure => omega
              case rel =>
                exact ⟨K, st', false, r6, q, .slice Av R cv, rows, ds, hlk, by omega, rfl, rfl, hs0, hs2, Lib.hid (hSA.out.but (But.one _ _ _ _) (by omega)), Lib.hid (hPA.out.setBase r6), Lib.hid ⟨hZA.out.1.but (But.one _ _ _ _) (by omega), hZA.out.2.but (But.one _ _ _ _) (by omega)⟩, Lib.hid (hSdB.out _), Lib.hid ⟨by unfold nM; rw [if_neg (by decide), hN.out.2 (by trivial)]; decide, fun h => by cases h⟩, hnx2⟩
    · have hPt := Lib.hid (part_bad A n c l long k m k2 st' wo hTo.out hkn hD hk2)
      have hpos : (0 : Int) < (k2 : Int) + 1 := by omega
      have hk2h := Lib.hid hk2
      obtain ⟨x0, x1, x2, x3, x4, z0, z1, z2, z3, z4⟩ := hS.out.cells
      clear hD hk2 hm
      go_upto_region 3 with (go_at_call 40; refine hPt.out.mono ?_; rintro e w1 ⟨r, rfl, hb1⟩; have hS1 := Lib.hid (hS.out.up hb1); obtain ⟨x0, x1, x2, x3, x4, z0, z1, z2, z3, z4⟩ := hS1.out.cells; have hl1 := hS1.out.lt)
      obtain ⟨wa, hwa⟩ : ∃ wa, wa = (((((w1.setCell ⟨w.heap.size, 0, none⟩ (.slice A n c)).setCell ⟨w.heap.size, 1, none⟩ (.int .i64 (long : Int))).setCell ⟨w.heap.size, 2, none⟩ (.int .i64 (k2 : Int))).setCell ⟨w.heap.size, 3, none⟩ (.int .i64 st')).setCell ⟨w.heap.size, 4, none⟩ (.int .i64 ((k2 : Int) + 1))).alloc (.cells #[.slice A n c, .int .i64 (long : Int), .int .i64 (k2 : Int), .int .i64 st', .int .i64 ((k2 : Int) + 1)] 47) := ⟨_, rfl⟩
      rw [← hwa]
      have hB5 := But.five w1 w.heap.size (.slice A n c) (.int .i64 (long : Int)) (.int .i64 (k2 : Int)) (.int .i64 st') (.int .i64 ((k2 : Int) + 1))
      have hBL : ∀ W : World, Below W.heap.size W (W.alloc (.cells #[.slice A n c, .int .i64 (long : Int), .int .i64 (k2 : Int), .int .i64 st', .int .i64 ((k2 : Int) + 1)] 47)) := fun W => below_alloc (Below.refl _ _) _
      have hSa : Hid (StAt wa w.heap.size (A, n, c) long k2 st' ((k2 : Int) + 1)) := Lib.hid (by rw [hwa]; exact ((hS.out.up hb1).setAll (A, n, c) long k2 st' ((k2 : Int) + 1)).up (hBL _))
      have hPa : Hid (PcAt wa (w.heap.size + 1) true rb (.slice Av rows.length cv)) := Lib.hid (by rw [hwa]; exact ((hP.out.up hb1).but hB5 (by omega)).up (hBL _))
      have hZa : Hid (StAt wa (w.heap.size + 1 + 1) (none, 0, 0) 0 0 0 0 ∧ PcAt wa (w.heap.size + 1 + 1 + 1) false (none, 0, 0) (.slice none 0 0)) := Lib.hid (by rw [hwa]; exact ⟨((hZ.out.1.up hb1).but hB5 (by omega)).up (hBL _), ((hZ.out.2.up hb1).but hB5 (by omega)).up (hBL _)⟩)
      have hSda : Hid (SdIn A w wa rb b (.slice Av rows.length cv) rows ds) := Lib.hid (by rw [hwa]; exact ((hSd.out.up hb1).but hAw.out hB5 (by rintro k rfl; omega)).up (hBL _))
      clear hB5 hBL
      clear hwa x0 x1 x2 x3 x4 z0 z1 z2 z3 z4 hS1 hl1 hb1
      obtain ⟨x0, x1, x2, x3, x4, z0, z1, z2, z3, z4⟩ := hSa.out.cells
      obtain ⟨y0, y1, y2, y3, u0, u1, u2, u3⟩ := hPa.out.cells
      obtain ⟨c0, c1, c2, c3, c4, d0, d1, d2, d3, d4⟩ := hZa.out.1.cells
      obtain ⟨e0, e1, e2, e3, f0, f1, f2, f3⟩ := hZa.out.2.cells
      go_wp2
      go_region
      go_wp2
      refine bodyPost_ret (v := .tuple #[.agg #[.slice A n c, .int .i64 (long : Int), .int .i64 (k2 : Int), .int .i64 st', .int .i64 ((k2 : Int) + 1)], .agg #[.bool true, .slice none 0 0, .slice rb.1 rb.2.1 rb.2.2, .slice Av rows.length cv]]) (by simp [results, Tryd.results23, go_sem, World.cell?_setCell_same', c0, c1, c2, c3, c4, e0, e1, e2, e3]) rfl ?_
      refine sides_done hAw.out rfl hSda.out (But.nine _ _ _ _ _ _ _ _ _ _ _ _) (by rintro k (rfl | rfl) <;> omega) (.inl ⟨k2 + 1, by push_cast; rfl, by omega, fun out => ?_⟩)
      rw [hwp.out, if_pos trivial, hk2h.out]
end Go.Proofs.YtcpopnhnihbofaaDoor
