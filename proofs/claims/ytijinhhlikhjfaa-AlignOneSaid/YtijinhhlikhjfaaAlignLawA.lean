/- Proved here, out of the contracts of packages align and edit: the walk of AlignOne. -/
import Derived.Test.YtijinhhlikhjfaaAlignAwake
import Derived.Test.YtijinhhlikhjfaaAlignEdit
import Derived.Test.YtijinhhlikhjfaaEditChOk
import Derived.Test.YtijinhhlikhjfaaEditCSame
import Derived.Deep.RegionLaw
import Derived.OwnWalk
import Derived.Maps.AppendAt
namespace Go.Proofs.Ytijinhhlikhjfaa
open Go.RowKit
set_option linter.unusedVariables false

/-- Bytes that came in. -/
def ArgB (w : World) (A : Option Addr) (n c : Nat) (bs : List UInt8) : Prop := n ≤ c ∧ c ≤ maxLen ∧ Byts w w.heap.size A n bs
theorem infoChA : (Try.prog.info? 48).map (fun i => (i.zero, i.size, i.bytes)) = some (some (.agg #[.int .i64 0, .int .i64 0, .int .i64 0, .int .i64 0]), 4, 32) := by kernel_rfl
theorem cell_new4A (w : World) (a b c d : Value) (t : TypeId) : ∀ j u, [a, b, c, d][j]? = some u → (w.alloc (.cells #[a, b, c, d] t)).cell? ((⟨w.heap.size, 0, none⟩ : Addr).add j) = some u := by
  intro j u hu
  rw [show (⟨w.heap.size, 0, none⟩ : Addr).add j = ⟨w.heap.size, 0 + j, none⟩ from by unfold Addr.add; split <;> simp_all, World.cell?_alloc_mark]
  simpa using hu

/-- append onto a row of the call's own, as one step of a region that draws. -/
theorem step_append_own {P : Program} {ops : Array Oper} {o : Oper} {a : Act} {w : World} {K : Act → World → Prop} {Q : Exit → Act → World → Prop} {G : Prop}
    (hg : o.guard = none) (s x : Operand) (t : TypeId) (hop : o.op = Op.call { callee := Callee.builtin Builtin.append, args := #[s, x], argTypes := #[t, t] })
    (base : Nat) (e : TypeId) (i : TypeInfo) (z : Value) (size bytes : Nat) (h1 : P.underlying t = some (.slice e)) (h2 : P.info? e = some i) (h3 : i.zero = some z) (h4 : i.size = size) (h5 : i.bytes = bytes) (h6 : z.cells.size = size) (h7 : 0 < size)
    (v : Value) (n : Nat) (xs : List Value) (hs : a.eval s = v) (hown : w.ownsRow base e size v n xs)
    (ad : Addr) (m c : Nat) (news : List Value) (hx : a.eval x = .slice (some ad) m c) (hn : news.length = m * size) (hc : ∀ j u, news[j]? = some u → w.cell? (ad.add j) = some u) (h1c : ∀ u ∈ news, u.oneCell' = true)
    (b1 : n + m ≤ maxLen) (b2 : (n + m) * bytes ≤ 140737488355328) (hbase : base ≤ w.heap.size)
    (hK : ∀ v' w', w'.ownsRow base e size v' (n + m) (xs ++ news) → w.grownBy w' v.ownBlock → (v'.ownBlock = v.ownBlock ∨ v'.ownBlock = some w.heap.size) → K (a.put o.dst v') w') :
    if Region.wanted o (yielded ops a.tmps) = true then Oper.wp P o a w K Q else G := by
  have hw : Region.wanted o (yielded ops a.tmps) = true := by simp [Region.wanted, hg]
  rw [if_pos hw]
  obtain ⟨v', w', hrun, r1, r2, _, r4⟩ := run_append_own_at (P := P) w base t o.type e i z size bytes h1 h2 h3 h4 h5 h6 h7 v n xs hown ad m c news hn hc h1c b1 b2 hbase
  unfold Oper.wp
  simp [execOp, hop, resolve, invoke, builtin, hs, hx, hrun, Result.andThen]
  exact hK v' w' r1 r2 r4

theorem rows_one {w : World} {A : Option Addr} {n c : Nat} {bs : List UInt8} (h : ArgB w A n c bs) : RowsB (w.alloc (.cells #[.slice A n c] 22)) (w.alloc (.cells #[.slice A n c] 22)).heap.size (some ⟨w.heap.size, 0, none⟩) 1 [(A, n, c)] [bs] := by
  have hb : Below w.heap.size w (w.alloc (.cells #[.slice A n c] 22)) := (Below.refl _ _).alloc (Nat.le_refl _) _
  refine ⟨⟨rfl, fun _ => ⟨w.heap.size, 0, rfl, by simp, fun j u hu => ?_⟩⟩, rfl, fun k r xs e1 e2 => ?_⟩
  · rw [World.cell?_alloc_mark]
    simpa using hu
  · match k with
    | 0 =>
      simp at e1 e2
      subst e1
      subst e2
      exact ⟨h.1, h.2.1, h.2.2.up hb⟩
    | k + 1 => simp at e1

theorem few_one {base side : List UInt8} : fewD base [side] ↔ base.length ≤ 30 ∧ side.length ≤ 30 := by
  unfold fewD
  simp

theorem cov_len {m : Int} {sizes : List Int} : ∀ {cs : List Ck} {prev : Option Bool} {b : Int} {a : List Int}, Cov m sizes cs prev b a → ∀ c ∈ cs, c.2.2.length = sizes.length
  | [], _, _, _, _, c, hc => by cases hc
  | d :: cs, prev, b, a, h, c, hc => by
    rcases List.mem_cons.1 hc with rfl | hc
    · have h1 := h.1.len
      have h2 := (Cov.le h).2.1
      omega
    · exact cov_len h.2 c hc
theorem unst_take {cs : List Ck} {i : Nat} {c : Ck} (h : cs[i]? = some c) : unst (cs.take (i + 1)) = unst (cs.take i) ++ unst [c] := by
  rw [take_at h]
  simp [unst]
theorem unst_len_le (cs : List Ck) : (unst cs).length ≤ cs.length := by
  unfold unst
  rw [List.length_map]
  exact List.length_filter_le _ _

/-- What the loop over the chunks has told. -/
structure RestIn5 (B : Nat) (w wr : World) (cs : List Ck) (v : Value) (i p : Nat) : Prop where
  own : wr.ownsRow B 48 4 v p (chCs (unst (cs.take i)))
  len : (unst (cs.take i)).length = p
  le : p ≤ i
  below : Below B w wr
theorem RestIn5.skip {B : Nat} {w wr : World} {cs : List Ck} {v : Value} {i p : Nat} {c : Ck} (h : RestIn5 B w wr cs v i p) (hc : cs[i]? = some c) (hs : c.1 = true) : RestIn5 B w wr cs v (i + 1) p := by
  have e : unst (cs.take (i + 1)) = unst (cs.take i) := by rw [unst_take hc]; simp [unst, hs]
  exact ⟨by rw [e]; exact h.own, by rw [e]; exact h.len, by have := h.le; omega, h.below⟩
theorem RestIn5.put {B : Nat} {w wr w2 : World} {cs : List Ck} {v v' : Value} {i p : Nat} {f t s1 s2 : Int} {o : Obj} (h : RestIn5 B w wr cs v i p) (hB : B ≤ w.heap.size) (hc : cs[i]? = some (false, (f, t), [(s1, s2)]))
    (hown : w2.ownsRow B 48 4 v' (p + 1) (chCs (unst (cs.take i)) ++ chC ((f, t), (s1, s2)))) (hg : (wr.drew.alloc o).grownBy w2 v.ownBlock) : RestIn5 B w w2 cs v' (i + 1) (p + 1) := by
  have e : unst (cs.take (i + 1)) = unst (cs.take i) ++ [((f, t), (s1, s2))] := by rw [unst_take hc]; simp [unst]
  have hbd : Below B w wr.drew := ⟨h.below.os, h.below.tape, h.below.output, h.below.size, h.below.block⟩
  have hbs : B ≤ wr.drew.heap.size := Nat.le_trans hB h.below.size
  exact ⟨by rw [e, chCs_snoc]; exact hown, by rw [e, List.length_append, h.len]; rfl, by have := h.le; omega, (hbd.alloc hbs o).grown hg (by simp; have : B ≤ wr.heap.size := hbs; omega) (fun j e => (h.own.lt j e).1)⟩

section
variable (H : AlignOk) (E : ChangesOk)
include H E

set_option maxRecDepth 100000 in
set_option maxHeartbeats 4000000 in
theorem AlignOne_walk (A : Option Addr) (n c : Nat) (base : List UInt8) (A' : Option Addr) (n' c' : Nat) (side : List UInt8) (w : World) (hA : ArgB w A n c base) (hA' : ArgB w A' n' c' side) :
    Calls Try.prog 7 #[.slice A n c, .slice A' n' c'] w fun e w' => e = .returned (.bool true) ∧ Below w.heap.size w w' := by
  have hbl : base.length = n := hA.2.2.len
  have hsl : side.length = n' := hA'.2.2.len
  obtain ⟨fb, hfb⟩ : ∃ fb : Bool, fb = true ↔ fewD base [side] := by
    by_cases h : fewD base [side]
    · exact ⟨true, by simp [h]⟩
    · exact ⟨false, by simp [h]⟩
  have hF := Lib.hid (fun (w1 : World) (hb : Below w.heap.size w w1) => by
    have hal : Below w1.heap.size w1 (w1.alloc (.cells #[.slice A' n' c'] 22)) := (Below.refl _ _).alloc (Nat.le_refl _) _
    exact Few_any A n c base _ 1 1 _ [side] _ (Nat.le_trans hA.1 hA.2.1) (by decide) ((hA.2.2.up hb).up hal) (rows_one ⟨hA'.1, hA'.2.1, hA'.2.2.up hb⟩) fb hfb)
  cases fb
  · clear hA hA' hfb
    go_enter Try.func7, Try.ntmps7
    go_wp2_with fail
    refine (awake_any H _).mono ?_
    rintro e w1 ⟨rfl, hB1⟩
    have hF1 := Lib.hid (hF.out w1 hB1)
    have hB2 := hB1.alloc hB1.size (.cells #[.slice A' n' c'] 22)
    go_wp2_with (go_at_call 9; refine hF1.out.mono ?_; rintro e w' ⟨rfl, rfl⟩)
    go_ret
    exact ⟨rfl, hB2⟩
  have hfd := few_one.1 (hfb.1 rfl)
  clear hfb
  have hmt := mt_match (ints base) (ints side)
  have hmay := match_may hmt (by omega)
  rw [ints_len, ints_len, hbl, hsl] at hmt
  rw [ints_len, hsl] at hmay
  have hl30 : (mt (ints base) (ints side) 0).length = n := hmt.1
  have e1 : chErr (mt (ints base) (ints side) 0) n' = 0 := by unfold chErr; rw [if_neg (by rw [hl30]; omega), if_pos hmay]
  have e2 : chRes (mt (ints base) (ints side) 0) n' = chs (mt (ints base) (ints side) 0) n' := by unfold chRes; rw [if_pos e1]
  have hNR : NumsR (mt (ints base) (ints side) 0) := fun v hv => by
    unfold inR
    by_cases e : v = -1
    · omega
    · have := hmt.2.1 v hv e
      omega
  have h2 := Lib.hid (fun (w' : World) (hb : Below w.heap.size w w') => Ints_any A n c w'.heap.size base w' (by omega) (Nat.le_refl _) (hA.2.2.up hb))
  have h4 := Lib.hid (fun (A1 A2 : Option Addr) (n2 c1 c2 : Nat) (rs : List (Option Addr × Nat × Nat)) (w' : World) (e2 : n2 = 1) (k1 : Nums w' w'.heap.size A1 (ints base).length (ints base)) (k2 : RowsN w' w'.heap.size A2 n2 rs [ints side]) => Matches_any A1 (ints base).length c1 (ints base) A2 n2 c2 rs [ints side] w' (by rw [ints_len]; omega) (by omega) (fun s h => by simp at h; subst h; rw [ints_len]; omega) k1 k2)
  have h5 := Lib.hid (fun (A1 : Option Addr) (n1 c1 : Nat) (w' : World) (a1 : n1 ≤ c1) (a2 : c1 ≤ maxLen) (k1 : Nums w' w'.heap.size A1 n1 (mt (ints base) (ints side) 0)) => e1 ▸ e2 ▸ E A1 n1 c1 (mt (ints base) (ints side) 0) n' w' a1 a2 ⟨by omega, by omega⟩ hNR k1)
  have h3 := Lib.hid (fun (w1 w' : World) (hb1 : Below w.heap.size w w1) (hb : Below (w1.alloc (.cells #[.slice A' n' c'] 22)).heap.size (w1.alloc (.cells #[.slice A' n' c'] 22)) w') => Lists_any _ 1 1 _ [side] w' (by omega) (fun s h => by simp at h; subst h; omega) ((rows_one ⟨hA'.1, hA'.2.1, hA'.2.2.up hb1⟩).up hb))
  have h6 := Lib.hid (fun (w1 w' : World) (hb1 : Below w.heap.size w w1) (hb : Below (w1.alloc (.cells #[.slice A' n' c'] 22)).heap.size (w1.alloc (.cells #[.slice A' n' c'] 22)) w') => cut_any H A n c base _ 1 1 _ [side] w' (by omega) (by omega) (by omega) (fun s h => by simp at h; subst h; omega) ((hA.2.2.up hb1).up (((Below.refl _ _).alloc (Nat.le_refl _) _ : Below w1.heap.size w1 (w1.alloc (.cells #[.slice A' n' c'] 22))).trans (hb.mono (by simp)))) ((rows_one ⟨hA'.1, hA'.2.1, hA'.2.2.up hb1⟩).up hb))
  have hcu := Lib.hid (fun (cs : List Ck) (h : IsCut base.length (sizesOf ([side].map ints)) (msOf (ints base) ([side].map ints)) cs) => by
    have e3 : sizesOf ([side].map ints) = [(n' : Int)] := by simp [sizesOf, ints_len, hsl]
    have e4 : msOf (ints base) ([side].map ints) = [mt (ints base) (ints side) 0] := rfl
    rw [hbl, e3, e4] at h
    exact (show unst cs = chs (mt (ints base) (ints side) 0) n' ∧ (∀ c ∈ cs, c.2.2.length = 1) from ⟨cut_unst hmt h, cov_len h.1⟩))
  have hcl := chs_len (mt (ints base) (ints side) 0) n'
  rw [hl30] at hcl
  obtain ⟨xs, hxs⟩ : ∃ xs, xs = chs (mt (ints base) (ints side) 0) n' := ⟨_, rfl⟩
  rw [← hxs] at h5 hcl
  have hxsh := Lib.hid hxs
  have hclh : Hid (xs.length ≤ 31) := Lib.hid (by omega)
  obtain ⟨i0, hi, hz0, hz1, hz2⟩ := info_parts infoChA
  clear hA hA' hmt hmay hl30 e1 e2 hNR hxs hcl hbl hsl
  go_enter Try.func7, Try.ntmps7
  go_wp2_with fail
  refine (awake_any H _).mono ?_
  rintro e w1 ⟨rfl, hB1⟩
  have hF1 := Lib.hid (hF.out w1 hB1)
  have hB1h := Lib.hid hB1
  have hal : Below w1.heap.size w1 (w1.alloc (.cells #[.slice A' n' c'] 22)) := (Below.refl _ _).alloc (Nat.le_refl _) _
  have hB2 := hB1.trans (hal.mono hB1.size)
  have h2' := Lib.hid (h2.out _ hB2)
  have hB2h := Lib.hid hB2
  clear hal hB2 hB1
  go_wp2_with (first
    | (go_at_call 9; refine hF1.out.mono ?_; rintro e w' ⟨rfl, rfl⟩)
    | (go_at_call 14; refine h2'.out.mono ?_; rintro e w3 ⟨u, rfl, hu, hb3⟩; obtain ⟨A3, c3, rfl, -, -, q3⟩ := nums_of_own hu; have h3' := Lib.hid (h3.out w1 w3 hB1h.out hb3); have hb3h := Lib.hid hb3; clear hu hb3)
    | (go_at_call 11; refine h3'.out.mono ?_; rintro e w4 ⟨v, rs, rfl, hR, hb4⟩; obtain ⟨A4, c4, rfl, -, -, q4⟩ := hR.reads; have hrl : rs.length = 1 := hR.len; have h4' := Lib.hid (h4.out A3 A4 rs.length c3 c4 rs w4 hrl (q3.up hb4) q4); have hb4h := Lib.hid (hb3h.out.trans (hb4.mono hb3h.out.size)); clear hR hb4 hrl q3)
    | (go_at_call 10; refine h4'.out.mono ?_; rintro e w5 ⟨v1, v2, rs2, rfl, hM⟩; obtain ⟨A5, c5, rfl, -, -, -⟩ := nums_of_own hM.own1; obtain ⟨r, hr2⟩ : ∃ r, rs2 = [r] := (by have hrl2 : rs2.length = 1 := hM.rows2.len; match rs2, hrl2 with | [r], _ => exact ⟨r, rfl⟩); subst hr2; obtain ⟨A6, c6, rfl, -, -, q6⟩ := hM.rows2.reads; obtain ⟨p1, p2, p3, -⟩ := hM.rows2.row 0 r _ rfl rfl; obtain ⟨g6, o6, ha6, -, hc6⟩ := q6.1.2 (by simp); subst ha6; have hc7 := hc6 0 _ rfl; rw [Nat.add_zero] at hc7; have hb5h := Lib.hid (hb4h.out.trans (hM.below.mono hb4h.out.size)); have h5' := Lib.hid (h5.out r.1 r.2.1 r.2.2 w5 p1 p2 p3); clear hM q6 p1 p2 p3 hc6 q4)
    | (go_at_call 16; refine h5'.out.mono ?_; rintro e w6 ⟨A8, n8, c8, rfl, hn8, -, -, q8, hb6⟩; have hn8h := Lib.hid hn8; have hb6h := Lib.hid (hb5h.out.trans (hb6.mono hb5h.out.size)); have h6' := Lib.hid (h6.out w1 w6 hB1h.out hb6h.out); clear hb6 hn8 hc7)
    | (go_at_call 13; refine h6'.out.mono ?_; rintro e w7 ⟨A9, n9, c9, cs, rfl, hcut, hn9, a1, a2, q9, hb7⟩; obtain ⟨hun, hone⟩ := hcu.out cs hcut; have hunh := Lib.hid hun; have honeh := Lib.hid hone; have q8u := q8.up hb7; have hn9h := Lib.hid hn9; have hq9h := Lib.hid q9; have hq8h := Lib.hid q8u; have hb7h := Lib.hid (hb6h.out.trans (hb7.mono hb6h.out.size)); clear hcut hun hone q8 q8u q9 hn9 hb7))
  unfold maxLen at a2
  have hlen9 := hq9h.out.len
  go_loopw [12, 13] (fun sr si wr => ∃ (i p : Nat) (v : Value), i ≤ n9 ∧ si = .int .i64 i ∧ v = sr ∧ Hid (RestIn5 w7.heap.size w7 wr cs v i p)) (fun _ si _ => n9 - (intOf si).toNat)
  case atStart => exact ⟨0, 0, _, Nat.zero_le _, rfl, rfl, Lib.hid ⟨World.ownsRow_nil _ _ _ _, rfl, Nat.le_refl _, Below.refl _ _⟩⟩
  case round =>
    obtain ⟨i, p, v, hi9, rfl, rfl, hR⟩ := hrel
    obtain ⟨wo, rfl⟩ : ∃ wo : World, wo = wr := ⟨_, rfl⟩
    have hBe := hR.out.below
    by_cases hlt : i < n9
    · obtain ⟨g, o, ⟨st, ⟨f, t⟩, ss⟩, A1, m1, c1, rfl, hg, hx, d1, d2, d3, d4, -, hm1, hS⟩ := (hq9h.out.keep (w' := wo) (fun p hp => hBe.cell hp)).at_ (k := i) hlt
      have hss : ss.length = 1 := honeh.out _ (List.mem_of_getElem? hx)
      obtain ⟨⟨s1, s2⟩, rfl⟩ : ∃ s, ss = [s] := by
        match ss, hss with
        | [s], _ => exact ⟨s, rfl⟩
      obtain rfl : 1 = m1 := hS.len
      obtain ⟨g5, o5, hA1, hg5, hsp⟩ := hS.2 (by omega)
      subst hA1
      obtain ⟨f1, f2⟩ := hsp 0 (s1, s2) rfl
      simp only [Nat.zero_mul, Nat.add_zero] at f1 f2 d1 d2 d3
      have i1 : (0 : Int) ≤ (i : Int) := by omega
      have i2 : (i : Int) < (n9 : Int) := by omega
      have hxh := Lib.hid hx
      clear hx hsp hS hm1
      cases st
      · have hown := hR.out.own
        have hlep := hR.out.le
        have hpl : p + 1 ≤ 32 := by
          have h1 := hR.out.len
          have h2 : (unst cs).length ≤ 31 := by rw [hunh.out, ← hxsh.out]; exact hclh.out
          have h3 : unst (cs.take i ++ cs.drop i) = unst (cs.take i) ++ unst (cs.drop i) := by simp only [unst, List.filter_append, List.map_append]
          rw [List.take_append_drop] at h3
          have h4 : (unst cs).length = (unst (cs.take i)).length + (unst (cs.drop i)).length := by
            conv => lhs; rw [h3, List.length_append]
          omega
        have hmax : Hid (p + 1 ≤ maxLen ∧ (p + 1) * 32 ≤ 140737488355328) := Lib.hid ⟨by unfold maxLen; omega, by omega⟩
        have hso := hBe.size
        have hownd : wo.drew.ownsRow w7.heap.size 48 4 v p (chCs (unst (cs.take i))) := hown
        go_wp2
        go_region_law (refine step_append_own rfl (.tmp 63) (.tmp 77) 43 rfl w7.heap.size 48 i0 (.agg #[.int .i64 0, .int .i64 0, .int .i64 0, .int .i64 0]) 4 32 Try.underlying43 hi hz0 hz1 hz2 rfl (by decide) v p _ (by simp [Act.eval]) (hownd.alloc _) ⟨wo.heap.size, 0, none⟩ 1 1 (chC ((f, t), (s1, s2))) (by simp [Act.eval]) rfl (cell_new4A _ _ _ _ _ _) (chC_one _) hmax.out.1 hmax.out.2 (by simp; omega) ?_; intro v' w8 hown8 hg8 hloc8)
        all_goals (have hnew := Lib.hid (hR.out.put (Nat.le_refl _) hxh.out hown8 hg8); go_wp2; go_roundw)
        all_goals first
          | exact ⟨i + 1, p + 1, v', by omega, by go_num, rfl, hnew⟩
          | (simp [intOf] <;> omega)
      · have hnew := Lib.hid (hR.out.skip hxh.out rfl)
        go_wp2
        go_roundw
        case rel => exact ⟨i + 1, p, v, by omega, by go_num, rfl, hnew⟩
        case measure => simp [intOf] <;> omega
    · obtain rfl : i = n9 := by omega
      have hfin : unst (cs.take i) = xs := by rw [List.take_of_length_le (by omega), hunh.out, hxsh.out]
      have hown := hR.out.own
      have hpl := hR.out.len
      rw [hfin] at hown hpl
      obtain ⟨Ar, cr, rfl, -, -, qr⟩ := chs_of_own hown
      have hS := Lib.hid (cSame_any Ar A8 p n8 cr c8 wo.heap.size wo.heap.size xs xs wo (by have := hclh.out; unfold maxLen; omega) (by have := hclh.out; have := hn8h.out; unfold maxLen; omega) qr (hq8h.out.up hBe))
      rw [decide_eq_true rfl] at hS
      have hfb := Lib.hid (hB2h.out.trans (hb7h.out.mono hB2h.out.size))
      clear qr hfin hown
      go_wp2_with (go_at_call 17; refine hS.out.mono ?_; rintro e w9 ⟨rfl, q, rfl⟩)
      go_ret
      exact ⟨rfl, below_drewN (hfb.out.trans (hBe.mono hfb.out.size)) q⟩
end
end Go.Proofs.Ytijinhhlikhjfaa
