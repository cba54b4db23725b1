/- Proved here: texts joined: AlignTo, IdMem, MgNum, MgChk, Grown. -/
import Derived.Test.YtoopdgohdeddoaaGreatDoorBs01
import Derived.Test.YtoopdgohdeddoaaGreatDoorBs02
import Derived.Test.YtoopdgohdeddoaaGreatDoorBs04
import Derived.Test.YtoopdgohdeddoaaGreatDoorBs08
import Derived.Test.YtoopdgohdeddoaaGreatDoorBs16
import Derived.Test.YtoopdgohdeddoaaGreatDoorBs18
import Derived.Test.YtoopdgohdeddoaaGreatDoorBs19
import Derived.Test.YtoopdgohdeddoaaGreatDoorBs20
import Derived.Test.YtoopdgohdeddoaaGreatDoorBs21
import Derived.Deep.QuietTactic
import Derived.BigQuiet
/- What a call of Align tells; the matches of lists may be. -/
namespace Go.Proofs.YtoopdgohdeddoaaGreatDoor
open Go.RowKit
set_option linter.unusedVariables false

/-- Chunks were made, and nothing that was there has turned. -/
def CkOut (w w' : World) (e : Ending) (er : Int) (cs : List Ck) : Prop := ∃ A n c, e = .returned (.tuple #[.slice A n c, .int .i64 er]) ∧ n = cs.length ∧ n ≤ c ∧ c ≤ maxLen ∧ Cks w' w'.heap.size A n cs ∧ Below w.heap.size w w'
/-- How Align ends, of matches that may be. -/
def AlignOut (w w' : World) (e : Ending) (m : Int) (sizes : List Int) (ms : List (List Int)) : Prop := ∃ cs, IsCut m sizes ms cs ∧ CkOut w w' e 0 cs

/-- The matches of lists may be. -/
theorem mt_match (a b : List Int) : IsMatch a.length (mt a b 0) b.length := by
  have hg := mt_good a b 0
  refine ⟨mt_len a b 0, fun u hu hne => ?_, ?_⟩
  · obtain ⟨i, hi⟩ := List.mem_iff_getElem?.1 hu
    obtain ⟨y, hy, ⟨x, _, hx⟩, _⟩ := hg i u hi hne
    have := (List.getElem?_eq_some_iff.1 hx).1
    omega
  · rw [List.pairwise_iff_getElem]
    intro i j hi hj hlt h1 h2
    obtain ⟨_, _, _, h⟩ := hg j _ (List.getElem?_eq_getElem hj) h2
    exact h i _ hlt (List.getElem?_eq_getElem hi)

theorem sizes_len (l : List (List Int)) : (sizesOf l).length = l.length := by simp [sizesOf]
theorem ms_len (b : List Int) (l : List (List Int)) : (msOf b l).length = l.length := by simp [msOf]
theorem ms_match {b : List Int} {l : List (List Int)} {k : Nat} {x : List Int} {z : Int} (h1 : (msOf b l)[k]? = some x) (h2 : (sizesOf l)[k]? = some z) : IsMatch b.length x z := by
  unfold msOf at h1
  unfold sizesOf at h2
  rw [List.getElem?_map] at h1 h2
  cases hs : l[k]? with
  | none => rw [hs] at h1; cases h1
  | some s =>
    rw [hs] at h1 h2
    injection h1 with h1
    injection h2 with h2
    subst h1
    subst h2
    exact mt_match b s
theorem match_may {m : Nat} {l : List Int} {z : Int} (h : IsMatch m l z) (hz : 0 ≤ z) : may l z = true := by
  unfold may
  simp only [Bool.and_eq_true, decide_eq_true_eq]
  exact ⟨hz, mayL_of h.2.1 h.2.2⟩
end Go.Proofs.YtoopdgohdeddoaaGreatDoor
/- Proved here, without conditions: the numbers of all texts tell them apart. -/
namespace Go.Proofs.YtoopdgohdeddoaaGreatDoor
open Go.RowKit
set_option linter.unusedVariables false

theorem withAll_mem {s : Tx} : ∀ (l ts : List Tx), (s ∈ ts ∨ s ∈ l) → s ∈ withAll ts l
  | [], ts, h => by rcases h with h | h; exact h; cases h
  | t :: l, ts, h => by
    show s ∈ withAll (withText ts t) l
    refine withAll_mem l _ ?_
    rcases h with h | h
    · exact .inl ((withText_pre ts t).subset h)
    · rcases List.mem_cons.1 h with rfl | h
      · exact .inl (withText_mem ts s)
      · exact .inr h
theorem numOf_inj {fin : List Tx} {s t : Tx} (hs : s ∈ fin) (ht : t ∈ fin) (h : (numOf fin s : Int) = (numOf fin t : Int)) : s = t := by
  have h1 : fin.idxOf s = fin.idxOf t := by unfold numOf at h; omega
  have h2 : fin[fin.idxOf s]? = some s := by rw [List.getElem?_eq_getElem (List.idxOf_lt_length_of_mem hs), List.getElem_idxOf]
  have h3 : fin[fin.idxOf t]? = some t := by rw [List.getElem?_eq_getElem (List.idxOf_lt_length_of_mem ht), List.getElem_idxOf]
  rw [h1, h3] at h2
  injection h2 with h2
  exact h2.symm
end Go.Proofs.YtoopdgohdeddoaaGreatDoor
/- Proved here, without conditions: the numbers of all texts tell them apart; the matches by them. -/
namespace Go.Proofs.YtoopdgohdeddoaaGreatDoor
open Go.RowKit
set_option linter.unusedVariables false

/-- The matches by the numbers of all texts. -/
theorem ms_of (base : Txs) (sides : List Txs) : MsOf base sides (msOf (base.map fun s => (numOf (withAll [] (base :: sides).flatten) s : Int)) (sides.map fun d => d.map fun s => (numOf (withAll [] (base :: sides).flatten) s : Int))) := by
  refine ⟨by simp [msOf], fun s l d h1 h2 => ⟨fun t => (numOf (withAll [] (base :: sides).flatten) t : Int), fun x hx y hy h => ?_, ?_⟩⟩
  · refine numOf_inj (withAll_mem _ _ (.inr ?_)) (withAll_mem _ _ (.inr ?_)) h
    · exact List.mem_flatten.2 ⟨base, List.mem_cons_self .., hx⟩
    · exact List.mem_flatten.2 ⟨d, List.mem_cons_of_mem _ (List.mem_of_getElem? h2), hy⟩
  · unfold msOf at h1
    rw [List.map_map, List.getElem?_map, h2] at h1
    simpa using h1.symm
theorem sizes_of (f : Tx → Int) (sides : List Txs) : sizesOf (sides.map fun d => d.map f) = szs sides := by
  unfold sizesOf szs
  rw [List.map_map]
  exact List.map_congr_left fun d _ => by simp

end Go.Proofs.YtoopdgohdeddoaaGreatDoor
/- Proved here: the contract of the document's own answer of layer 8: Chunks. -/
namespace Go.Proofs.YtoopdgohdeddoaaGreatDoor
open Go.RowKit
set_option linter.unusedVariables false

/-- A base, and sides, neither many nor long. -/
def smallR (base : Txs) (sides : List Txs) : Prop := sides.length ≤ 100 ∧ ∀ d ∈ base :: sides, d.length ≤ 90 ∧ ∀ s ∈ d, s.length ≤ 1000

set_option maxRecDepth 100000 in
/-- A slice's last rows. -/
theorem rowsN_tail {w : World} {B n c : Nat} {A : Option Addr} {r : Option Addr × Nat × Nat} {rows : List (Option Addr × Nat × Nat)} {xs : List Int} {xss : List (List Int)} (h : RowsN w B A n (r :: rows) (xs :: xss)) (hn : n ≤ c) (hc : c ≤ maxLen) :
    ∃ A' m k, (∀ W : World, (Instr.slice 73 (.slice A n c) (some (.int .i64 1)) none none).run Tryz.prog W = .ok (.slice A' m k) W) ∧ m ≤ k ∧ k ≤ maxLen ∧ RowsN w B A' m rows xss := by
  have hl : (r :: rows).length = n := by have := h.1.1; simpa using this
  rw [List.length_cons] at hl
  refine ⟨(if c = 1 then A else A.map (·.add 1)), n - 1, c - 1, fun W => ?_, by omega, by omega, ⟨by rw [List.length_map]; omega, fun hn1 => ?_⟩, by simpa using h.2.1, fun k r' ss' h1 h2 => h.2.2 (k + 1) r' ss' (by simpa using h1) (by simpa using h2)⟩
  · rw [run_slice_l (P := Tryz.prog) W 73 A n c Tryz.underlying73 .i64 1 (by omega) (by omega)]
    go_simp
  · obtain ⟨b, o, rfl, hb, hcell⟩ := h.1.2 (by omega)
    rw [if_neg (by omega)]
    refine ⟨b, o + 1, ?_, hb, fun j u hu => ?_⟩
    · rfl
    · rw [Nat.add_assoc, Nat.add_comm 1 j]
      exact hcell (j + 1) u (by simpa using hu)

set_option maxRecDepth 100000 in
set_option maxHeartbeats 4000000 in
theorem rChunks_any (A0 : Option Addr) (n0 c0 : Nat) (base : Txs) (A : Option Addr) (n c : Nat) (rows : List Slc) (sides : List Txs) (w : World) (hnc : n ≤ c) (hcm : c ≤ maxLen) (hsm : smallR base sides) (hA0 : TxR w w.heap.size (A0, n0, c0) base) (hA : RowsT w w.heap.size A n rows sides) :
    Calls Tryz.prog 24 #[.slice A0 n0 c0, .slice A n c] w fun e w' => ChunksOut w w' e base sides := by
  have hl := hA.len
  have hl0 : base.length = n0 := hA0.2.2.len
  have hW := Lib.hid (mWrong_any A0 n0 c0 base A n c w.heap.size rows sides w (Nat.le_trans hA0.1 hA0.2.1) (Nat.le_trans hnc hcm) (fun d hd s hs => Nat.le_trans ((hsm.2 d hd).2 s hs) (by decide)) hA0.2.2 hA)
  obtain ⟨z, hz⟩ : ∃ z, wrongN base sides = z := ⟨_, rfl⟩
  rw [hz] at hW
  by_cases h0 : z = 0
  rotate_left
  · have he : (z != 0) = true := by simpa using h0
    have hout : Hid (CutsTo base sides z []) := Lib.hid ⟨hz.symm, fun _ => rfl, fun h => absurd h h0⟩
    clear hA hA0 hsm hz
    go_enter Tryz.func24, Tryz.ntmps24
    go_wp2_with (go_at_call 47; refine hW.out.mono ?_; rintro e w1 ⟨rfl, rfl⟩)
    go_ret2
    exact ⟨z, none, 0, 0, [], rfl, Nat.le_refl _, Nat.zero_le _, Cks.nil _ _ _, hout.out, Below.refl _ _⟩
  subst h0
  obtain ⟨v1, v2, v3, v4, v5, v6⟩ := wrong_none hz
  obtain ⟨i0, hi, hzz⟩ := Option.map_eq_some_iff.1 infoTxs
  simp only [Prod.mk.injEq] at hzz
  obtain ⟨hz0, hz1, hz2⟩ := hzz
  have hb1 : Below w.heap.size w (w.alloc (.cells #[.slice A0 n0 c0] 22)) := (Below.refl _ _).alloc (Nat.le_refl _) _
  have hw0 : Hid ((w.alloc (.cells #[.slice A0 n0 c0] 22)).ownsRow w.heap.size 22 1 (.slice (some ⟨w.heap.size, 0, none⟩) 1 1) 1 [slcV (A0, n0, c0)]) := Lib.hid (World.ownsRow_lit w #[.slice A0 n0 c0] 1 (Nat.le_refl _) (by decide) rfl)
  have hrd := Lib.hid (hA.1.below hb1)
  obtain ⟨N, hN⟩ : ∃ N, 1 + n = N := ⟨_, rfl⟩
  have hle : Hid (1 + n ≤ maxLen ∧ (1 + n) * 24 ≤ 140737488355328) := Lib.hid ⟨by unfold maxLen; omega, by omega⟩
  have hfiles : Hid (∀ (A2 : Option Addr) (c2 : Nat) (w2 : World), w2.ownsRow w.heap.size 22 1 (.slice A2 N c2) N (slcV (A0, n0, c0) :: rows.map slcV) → Below w.heap.size w w2 →
      Calls Tryz.prog 48 #[.slice A2 N c2] w2 fun e w' => AllOut w2 w' e (numsL (withAll [] (base :: sides).flatten) (base :: sides))) := Lib.hid (fun A2 c2 w2 h1 h2 => by
    obtain ⟨A', c', e1, r1, r2, r3⟩ := own_slice h1
    injection e1 with e2 e3 e4
    subst e2
    refine rAll_any A2 N c2 ((A0, n0, c0) :: rows) (base :: sides) w2 ⟨r3, by simp; exact hA.2.1, fun k r ss a b => ?_⟩ (by omega) (fun f hf => (hsm.2 f hf).1)
    match k, a, b with
    | 0, a, b => simp at a b; subst a; subst b; exact (hA0.up h2).2.2
    | k + 1, a, b => exact ((hA.up h2).2.2 k r ss (by simpa using a) (by simpa using b)).2.2)
  have hlens := Lib.hid (And.intro hl (And.intro hl0 (And.intro hsm (And.intro hz hN))))
  have hbh := Lib.hid hb1
  clear hA hA0 hz v1 v2 v3 v4 v5 v6 hb1 hsm
  go_enter Tryz.func24, Tryz.ntmps24
  go_upto_region 7 with (first
    | (go_at_call 47; refine hW.out.mono ?_; rintro e w1 ⟨rfl, rfl⟩)
    | (at_builtin; refine wpList_append_reads _ rfl _ _ 40 rfl w.heap.size 22 i0 (.slice none 0 0) 24 Tryz.underlying40 hi hz0 hz1 hz2 rfl _ 1 _ rfl hw0.out w.heap.size A n c _ rfl hrd.out (slcV_one _) hle.out.1 hle.out.2 hbh.out.size ?_; intro v' w2 hown2 hg2; rw [hlens.out.2.2.2.2] at hown2; obtain ⟨A2, c2, rfl, -, -, -⟩ := own_slice hown2; have hB2 := Lib.hid (hbh.out.grown hg2 hbh.out.size fun j e => (hw0.out.lt j e).1); have hAl := Lib.hid (hfiles.out A2 c2 w2 hown2 hB2.out); clear hown2 hg2)
    | (go_at_call 48; refine hAl.out.mono ?_; rintro e w3 ⟨A3, n3, c3, rs3, rfl, h31, h32, hR3, hb3⟩; have hR3h := Lib.hid hR3; have hB3 := Lib.hid (hB2.out.trans (hb3.mono hB2.out.size)); have h3h := Lib.hid (And.intro h31 h32); clear hR3 hb3 h31 h32))
  obtain ⟨hl, hl0, hsm, hz, hN⟩ := hlens.out
  obtain ⟨v1, v2, v3, v4, v5, v6⟩ := wrong_none hz
  obtain ⟨F, hF⟩ : ∃ F : Tx → Int, F = fun s => (numOf (withAll [] (base :: sides).flatten) s : Int) := ⟨_, rfl⟩
  have hids : numsL (withAll [] (base :: sides).flatten) (base :: sides) = (base.map F) :: sides.map fun d => d.map F := by rw [hF]; rfl
  have hRR := hR3h.out
  rw [hids] at hRR
  have hrs : ∃ r rs, rs3 = r :: rs := by
    cases rs3 with
    | nil => have := hRR.2.1; simp at this
    | cons r rs => exact ⟨r, rs, rfl⟩
  obtain ⟨r, rs, rfl⟩ := hrs
  obtain ⟨A4, m4, k4, hsl, r41, r42, hR4⟩ := rowsN_tail hRR h3h.out.1 h3h.out.2
  have hn3 : n3 = n + 1 := by have := RowsN.len hRR; simp at this; omega
  obtain ⟨b, o, A5, n5, c5, xs5, rfl, hb5, hx5, hc5, hN5⟩ := RowsN.at_ hRR (k := 0) (by omega)
  simp at hx5
  subst hx5
  have hc5' : w3.cell? ⟨b, o, none⟩ = some (.slice A5 n5 c5) := hc5
  clear hc5
  have hms := Lib.hid (ms_of base sides)
  have hsz := Lib.hid (sizes_of F sides)
  obtain ⟨ms, hmse⟩ : ∃ ms, msOf (base.map F) (sides.map fun d => d.map F) = ms := ⟨_, rfl⟩
  have hmseh := Lib.hid hmse
  have hMs : Hid (MsOf base sides ms) := Lib.hid (by have := hms.out; rw [← hF] at this; rw [← hmse]; exact this)
  have hMt : Hid (∀ W, (W = w3 ∨ W = w3.drew) → Calls Tryz.prog 49 #[.slice A5 n5 c5, .slice A4 m4 k4] W fun e w' => MatsOut W w' e (szs sides) ms ∧ Below w.heap.size w w') := Lib.hid (fun W hW => by
    have hbW : Below w3.heap.size w3 W := by rcases hW with rfl | rfl; exact Below.refl _ _; exact below_drew (Below.refl _ _)
    have hm4 : m4 ≤ 1000 := by have := RowsN.len hR4; simp at this; omega
    have hn5 : n5 ≤ 1000 := by have h1 := hN5.len; have h2 := (hsm.2 base (List.mem_cons_self ..)).1; simp at h1; omega
    have := Matches_any A5 n5 c5 (base.map F) A4 m4 k4 rs (sides.map fun d => d.map F) W hn5 hm4 (fun s hs => by obtain ⟨d, hd, rfl⟩ := List.mem_map.1 hs; have := (hsm.2 d (List.mem_cons_of_mem _ hd)).1; simp; omega) ((Nums.below hN5 hbW).more hbW.size) (RowsN.up hR4 hbW)
    rw [hsz.out, hmse] at this
    exact this.mono fun e w' h => ⟨h, by obtain ⟨_, _, _, _, h9⟩ := h; exact hB3.out.trans ((hbW.trans (h9.below.mono hbW.size)).mono hB3.out.size)⟩)
  have hAlg : Hid (∀ (v1 v2 : Value) (rows5 : List (Option Addr × Nat × Nat)) (W w4 : World), MatIn W w4 v1 v2 rows5 (szs sides) ms → Calls Tryz.prog 50 #[.int .i64 n0, v1, v2] w4 fun e w' => ∃ cs, CksOut w4 w' e cs ∧ IsCut n0 (szs sides) ms cs) := Lib.hid (fun v1 v2 rows5 W w4 h => by
    obtain ⟨A6, c6, rfl, -, -, h6⟩ := nums_of_own h.own1
    obtain ⟨A7, c7, rfl, -, -, h7⟩ := h.rows2.reads
    have hlen7 : rows5.length = n := by rw [h.rows2.len, ← hmse, ms_len]; simp [hl]
    rw [szs_len, hl, hlen7]
    rw [szs_len, hl] at h6
    rw [hlen7] at h7
    have his : ∀ (k : Nat) (l : List Int) (z : Int), ms[k]? = some l → (szs sides)[k]? = some z → IsMatch n0 l z := fun k l z a b => by
      rw [← hmse] at a
      rw [← hsz.out] at b
      have := ms_match a b
      rw [List.length_map, hl0] at this
      exact this
    have hzz : ∀ z ∈ szs sides, 0 ≤ z ∧ z ≤ 1000000 := fun z hz => by
      unfold szs at hz
      obtain ⟨d, hd, rfl⟩ := List.mem_map.1 hz
      have := v6 d hd
      omega
    have hall : ∀ l ∈ ms, ∃ z, 0 ≤ z ∧ z ≤ 1000000 ∧ IsMatch n0 l z := fun l hl' => by
      obtain ⟨k, hk⟩ := List.mem_iff_getElem?.1 hl'
      have hkl := (List.getElem?_eq_some_iff.1 hk).1
      have hkm : k < (szs sides).length := by rw [szs_len]; have := hMs.out.1; omega
      have hzk : (szs sides)[k]? = some ((szs sides)[k]'hkm) := List.getElem?_eq_getElem _
      exact ⟨_, (hzz _ (List.mem_of_getElem? hzk)).1, (hzz _ (List.mem_of_getElem? hzk)).2, his k l _ hk hzk⟩
    exact rAlign_any n0 A6 c6 (szs sides) A7 n c7 rows5 ms w4 (by omega) (by omega) (by omega) hzz (fun l hl' => by
      obtain ⟨z, z1, z2, h9⟩ := hall l hl'
      exact ⟨h9.1, fun u hu hne => by have := h9.2.1 u hu hne; omega⟩) (fun i l z a b => match_may (his i l z a b) (hzz z (List.mem_of_getElem? b)).1) his h6 h7)
  have hfin : Hid (∀ cs, IsCut n0 (szs sides) ms cs → CutsTo base sides 0 cs) := Lib.hid (fun cs h => ⟨hz.symm, fun h => absurd rfl h, fun _ => ⟨ms, hMs.out, by rw [hl0]; exact h⟩⟩)
  have i1 : (0 : Int) < (n3 : Int) := by omega
  clear hl hl0 hsm hz hN v1 v2 v3 v4 v5 v6 hF hids hRR hR4 hN5 hn3 hms hmse hmseh hsz hMs hR3h hlens
  go_region_with ((go_at_call 49; refine (hMt.out _ (by first | exact .inl rfl | exact .inr rfl)).mono ?_; rintro e w4 ⟨⟨v1, v2, rows5, rfl, hMI⟩, hB4⟩; have hMIh := Lib.hid hMI; have hB4h := Lib.hid hB4; clear hMI hB4))
  all_goals
    go_wp2_with (go_at_call 50; refine (hAlg.out _ _ _ _ _ hMIh.out).mono ?_; rintro e w5 ⟨cs, ⟨A8, n8, c8, rfl, q1, q2, q3, q4⟩, hcut⟩; have hqh := Lib.hid (And.intro q1 (And.intro q2 (And.intro q3 (And.intro q4 hcut)))); clear q1 q2 q3 q4 hcut)
    go_ret2
    exact ⟨0, A8, n8, c8, cs, rfl, hqh.out.1, hqh.out.2.1, hqh.out.2.2.1, hfin.out cs hqh.out.2.2.2.2, hB4h.out.trans (hqh.out.2.2.2.1.mono hB4h.out.size)⟩
end Go.Proofs.YtoopdgohdeddoaaGreatDoor
/- Proved here, without conditions on the program: a region that draws its order, whose operations read what was there, and whose callees make memory alone, is one walk, in the text's order. -/
namespace Go.Proofs.YtoopdgohdeddoaaGreatDoor
open Go.RowKit
set_option linter.unusedVariables false

/-- A world that has grown. -/
structure Grew (W : World) where
  w : World
  below : Below W.heap.size W w
theorem quiet_grew {P : Program} {id : Nat} {Q : Exit → Act → World → Prop} {a : Act} {w : World} {l : List Oper} (hm : P.follows .mixedOrders = true) (hB : Region.lexB .any l.toArray = true)
    (h : wpQuiet P l.toArray (fun wx => ∃ x : Grew w, wx = x.w) (fun a' => ∀ w', (∃ x : Grew w, w' = x.w) → Q .normal a' w') l a) : (Code.region id l.toArray true).wp P Q a w :=
  wp_region_quiet (C := fun wx => ∃ x : Grew w, wx = x.w) hm hB ⟨⟨w.drew, (Below.refl _ w).drew⟩, rfl⟩ (by simpa using h)
theorem grew_here (W : World) : Nonempty (Grew W) := ⟨⟨W, Below.refl _ _⟩⟩
/-- A call that only makes memory stays within the class. -/
theorem grew_call {P : Program} {W : World} {f : FuncId} {args : Array Value} {v : Value} (h : ∀ w', Below W.heap.size W w' → Calls P f args w' fun e w'' => e = .returned v ∧ Below w'.heap.size w' w'') : ∀ x : Grew W, Calls P f args x.w fun e w'' => e = .returned v ∧ ∃ y : Grew W, w'' = y.w :=
  fun x => (h x.w x.below).mono fun e w'' hh => ⟨hh.1, ⟨w'', x.below.trans (hh.2.mono x.below.size)⟩, rfl⟩
end Go.Proofs.YtoopdgohdeddoaaGreatDoor
