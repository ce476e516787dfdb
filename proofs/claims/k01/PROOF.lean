import PyProof.Rows.All
import Wide.All
import OpenK.AllK
import Wide.FinOn
import HandS.ForMost
import HandS.Walk
import HandS.IsInst
import HandS.Zip
import HandS.Wide
import HandS.Flow
import HandS.Defaults
import PySem.Challenge.RW_darkthread_k01_names_told
set_option Elab.async false
set_option maxRecDepth 100000
set_option maxHeartbeats 4000000
namespace Dk
open PySem L2
/-! ### cuts: a piece is walked to a middle that the prover names -/
section
variable {X : Cx}
def tMid (t : TS) : TS := fun D s H => ∃ M : L2.St → Hp → Prop, t { D with nx := M } s H ∧ ∀ s' H', M s' H' → D.nx s' H'
theorem ps_mid {st : Stmt} {t : TS} (h : PS X st t) : PS X st (tMid t) := by
  refine ⟨fun pins s σ H D I q => ?_⟩
  obtain ⟨M, q1, q2⟩ := q
  refine thn (h.run pins s σ H { D with nx := M } I q1) fun f s1 z => ?_
  cases f with
  | next =>
    obtain ⟨σ', H', I', m⟩ := z
    exact ⟨σ', H', I', q2 _ _ m⟩
  | ret v => exact z
  | brk => exact z
  | cont => exact z
def eMid (t : TE) : TE := fun s H Q => ∃ M : VK, t s H M ∧ ∀ v H', M v H' → Q v H'
theorem pe_mid {e : Expr} {t : TE} (h : PE X e t) : PE X e (eMid t) := by
  refine ⟨fun pins s σ H Q I q => ?_⟩
  obtain ⟨M, q1, q2⟩ := q
  refine thn (h.run pins s σ H M I q1) fun u s1 z => ?_
  obtain ⟨v, H', I', r, m⟩ := z
  exact ⟨v, H', I', r, q2 _ _ m⟩
end
/-! ### heaps -/
theorem same_new {H : Hp} {p : Addr} {o : HO} (h : H p = none) : Same H (upd H p o) := fun b x e => by
  rw [upd_ne (ne_of_none e h)]
  exact e
theorem upd_id {H : Hp} {p : Addr} {o : HO} (h : H p = some o) : upd H p o = H := by
  funext q
  by_cases e : q = p
  · rw [e, upd_same, h]
  · rw [upd_ne e]
theorem upd_upd {H : Hp} {p : Addr} {o u : HO} : upd (upd H p o) p u = upd H p u := by
  funext q
  by_cases e : q = p
  · rw [e, upd_same, upd_same]
  · rw [upd_ne e, upd_ne e, upd_ne e]
/-- all but b is as it was -/
def Sav (b : Addr) (H H' : Hp) : Prop := ∀ q o, q ≠ b → H q = some o → H' q = some o
theorem Sav.refl (b : Addr) (H : Hp) : Sav b H H := fun _ _ _ h => h
theorem Sav.trans {b : Addr} {H H1 H2 : Hp} (x : Sav b H H1) (y : Sav b H1 H2) : Sav b H H2 := fun q o n h => y q o n (x q o n h)
theorem Sav.of {b : Addr} {H H1 : Hp} (x : Same H H1) : Sav b H H1 := fun q o _ h => x q o h
theorem Sav.upd {b : Addr} {H : Hp} {o : HO} : Sav b H (upd H b o) := fun q x n h => by
  rw [upd_ne n]
  exact h
/-! ### the box of draws -/
def bxv (l : Addr) (i c s t : Int) : List V := [.ref l, .int i, .int c, .int s, .int t]
def Box (H : Hp) (b l : Addr) : Prop := ∃ (ns : List Int) (i c s t : Int),
  H b = some (.lst (bxv l i c s t)) ∧ H l = some (.lst (ns.map V.int)) ∧ 0 ≤ i ∧ 0 ≤ c ∧ 0 ≤ s ∧ s < 2147483629
theorem Box.ne {H : Hp} {b l : Addr} {ns : List Int} {i c s t : Int} (h1 : H b = some (.lst (bxv l i c s t))) (h2 : H l = some (.lst (ns.map V.int))) : l ≠ b := ne_of h2 h1 (by
  intro z
  cases ns with
  | nil => cases z
  | cons x r => cases z)
theorem Box.same {H H' : Hp} {b l : Addr} (h : Box H b l) (s : Same H H') : Box H' b l := by
  obtain ⟨ns, i, c, s0, t, h1, h2, r⟩ := h
  exact ⟨ns, i, c, s0, t, s _ _ h1, s _ _ h2, r⟩
theorem Box.new {H : Hp} {b l p : Addr} {o : HO} (h : Box H b l) (n : H p = none) : Box (upd H p o) b l := h.same (same_new n)
theorem Box.b1 {H : Hp} {b l p : Addr} (h : Box H b l) (n : H p = none) : p ≠ b := by
  obtain ⟨ns, i, c, s0, t, h1, h2, r⟩ := h
  exact (ne_of_none h1 n).symm
theorem Box.l1 {H : Hp} {b l p : Addr} (h : Box H b l) (n : H p = none) : p ≠ l := by
  obtain ⟨ns, i, c, s0, t, h1, h2, r⟩ := h
  exact (ne_of_none h2 n).symm
theorem Box.put {H : Hp} {b l p : Addr} {o : HO} (h : Box H b l) (n1 : p ≠ b) (n2 : p ≠ l) : Box (upd H p o) b l := by
  obtain ⟨ns, i, c, s0, t, h1, h2, r⟩ := h
  exact ⟨ns, i, c, s0, t, by rw [upd_ne n1.symm]; exact h1, by rw [upd_ne n2.symm]; exact h2, r⟩
/-- a draw below m: some number, the box turned on -/
def spDraw : Sp := fun vs H Q _ => ∃ (b l : Addr) (m : Int), vs = [.ref b, .int m] ∧ Box H b l ∧ 0 < m ∧ m.natAbs < 2 ^ 100 ∧
  ∀ (r : Int) (o : HO), 0 ≤ r → r < m → Box (upd H b o) b l → Q (.int r) (upd H b o)
end Dk
namespace Dk
open PySem L2
/-- a new box out of the script -/
def spBox (K : PySem.W.Frag) : Sp := fun vs H Q _ => ∃ (a : Addr) (ns : List Int), vs = [.ref a] ∧ SqL K H a (ns.map V.int) ∧
  ∀ (H' : Hp) (b l : Addr), Same H H' → H b = none → H l = none → Box H' b l → Q (.ref b) H'
/-- one of some -/
def spOf : Sp := fun vs H Q _ => ∃ (b l : Addr) (v : V), vs = [.ref b, v] ∧ Box H b l ∧
  ((∃ (p : Addr) (xs : List V), v = .ref p ∧ p ≠ b ∧ H p = some (.lst xs) ∧ 0 < xs.length ∧ xs.length ≤ 1000 ∧ ∀ (x : V) (o : HO), x ∈ xs → Box (upd H b o) b l → Q x (upd H b o)) ∨
   (∃ z : Str, v = .str z ∧ 0 < z.length ∧ z.length ≤ 1000 ∧ ∀ (c : Nat) (o : HO), c ∈ z.cps.toList → Box (upd H b o) b l → Q (.str ⟨#[c]⟩) (upd H b o)))
theorem cut_ints (ns : List Int) (a b : Option Int) : ∃ ms : List Int, cutV (ns.map V.int) a b = ms.map V.int := by
  refine ⟨(ns.drop (HT.sIx (ns.map V.int).length 0 a)).take (HT.sIx (ns.map V.int).length (ns.map V.int).length b - HT.sIx (ns.map V.int).length 0 a), ?_⟩
  unfold cutV
  rw [List.map_take, List.map_drop]
theorem at_some {α : Type} {xs : List α} {r : Int} (h0 : 0 ≤ r) (h1 : r < (xs.length : Int)) : ∃ x, x ∈ xs ∧ atI xs r = some x := by
  have e : ((r.toNat : Nat) : Int) = r := Int.toNat_of_nonneg h0
  have hl : r.toNat < xs.length := by omega
  refine ⟨xs[r.toNat], List.getElem_mem hl, ?_⟩
  have z := atI_nat (List.getElem?_eq_getElem hl)
  rw [e] at z
  exact z
theorem small {n : Nat} (h : n ≤ 1000) : ((n : Nat) : Int).natAbs < 2 ^ 100 := by
  have e : ((n : Nat) : Int).natAbs = n := rfl
  rw [e]
  exact Nat.lt_of_le_of_lt h (by decide)
end Dk
namespace Dk
open PySem L2
/-- two values of the same plain data, n deep at most -/
def Lk : Nat → Hp → V → V → Prop
  | 0, _, _, _ => False
  | n + 1, H, v, u => (v = u ∧ flatV v = true) ∨ ∃ (a b : Addr) (xs ys : List V), v = .ref a ∧ u = .ref b ∧ xs.length = ys.length ∧ xs.length ≤ 1000 ∧
      (H a = some (.lst xs) ∧ H b = some (.lst ys) ∨ H a = some (.tup xs) ∧ H b = some (.tup ys)) ∧ ∀ (i : Nat) (x y : V), xs[i]? = some x → ys[i]? = some y → Lk n H x y
theorem Lk.same : ∀ {n : Nat} {H H' : Hp} {v u : V}, Same H H' → Lk n H v u → Lk n H' v u
  | 0, _, _, _, _, _, h => h
  | n + 1, H, H', v, u, s, h => by
    rcases h with h | ⟨a, b, xs, ys, e1, e2, e3, e4, e5, e6⟩
    · exact .inl h
    · refine .inr ⟨a, b, xs, ys, e1, e2, e3, e4, ?_, fun i x y h1 h2 => (e6 i x y h1 h2).same s⟩
      rcases e5 with ⟨x, y⟩ | ⟨x, y⟩
      · exact .inl ⟨s _ _ x, s _ _ y⟩
      · exact .inr ⟨s _ _ x, s _ _ y⟩
def spLike (n : Nat) : Sp := fun vs H Q _ => ∃ v u : V, vs = [v, u] ∧ Lk n H v u ∧ ∀ H', Same H H' → Q (.bl true) H'
theorem walk_zipT {K : PySem.W.Frag} {a b : Addr} {xs ys : List V} {n : Nat} (hn : n = min xs.length ys.length) : Walk (RZ.ItzT K a b) n (fun H => SqT K H a xs ∧ SqT K H b ys) (YPair (fun i => xs[i]?) (fun i => ys[i]?)) := by
  subst hn
  refine ⟨fun i H hi g => ?_, fun H g => ⟨xs, ys, g.1, g.2, by omega⟩, fun i H v H' _ g y => ?_⟩
  · have h1 : i < xs.length := by omega
    have h2 : i < ys.length := by omega
    exact ⟨xs, ys, _, _, g.1, g.2, List.getElem?_eq_getElem h1, List.getElem?_eq_getElem h2⟩
  · obtain ⟨T, x, z, h1, h2, h3, h4, h5⟩ := y
    exact ⟨T, x, z, h1, h2, h3, h4 _ g.1, h5 _ g.2⟩
theorem all_true (n : Nat) : (List.replicate n true).all id = true := by
  induction n with
  | zero => rfl
  | succ n ih =>
    rw [List.replicate_succ, List.all_cons, ih]
    rfl
end Dk
namespace Dk
open PySem L2
/-! ### names -/
def abc : Str := Str.ofString "abcdefghijklmnopqrstuvwxyz"
def isNm (z : Str) : Bool := decide (1 ≤ z.length ∧ z.length ≤ 8) && z.cps.toList.all fun c => decide (c ∈ abc.cps.toList)
def spName : Sp := fun vs H Q _ => ∃ z : Str, vs = [.str z] ∧ z.length ≤ 1000 ∧ ∀ H', Same H H' → Q (.bl (isNm z)) H'
theorem len_str (z : Str) : z.cps.toList.length = z.length := by simp [Str.length]
/-- the list that the comprehension over the signs leaves -/
def inAbc (z : Str) (i : Nat) : List Bool := (z.cps.toList.take i).map fun c => decide (c ∈ abc.cps.toList)
theorem inAbc_succ {z : Str} {i c : Nat} (h : z.cps[i]? = some c) : inAbc z (i + 1) = inAbc z i ++ [decide (c ∈ abc.cps.toList)] := by
  have e : z.cps.toList[i]? = some c := by
    rw [Array.getElem?_toList]
    exact h
  unfold inAbc
  rw [List.take_add_one, e, List.map_append]
  rfl
theorem inAbc_all (z : Str) : (inAbc z z.cps.size).all id = z.cps.toList.all fun c => decide (c ∈ abc.cps.toList) := by
  unfold inAbc
  rw [List.take_of_length_le (by simp), List.all_map]
  rfl
theorem inAbc_len {z : Str} {i : Nat} (h : z.length ≤ 1000) : ((inAbc z i).map V.bl).length < sizeLine := by
  unfold inAbc
  rw [List.length_map, List.length_map, List.length_take, len_str]
  exact small1000 (by omega)
theorem nm_in {z : Str} {b : Bool} (h : decide (1 ≤ z.length ∧ z.length ≤ 8) = b) : isNm z = (b && z.cps.toList.all fun c => decide (c ∈ abc.cps.toList)) := by
  unfold isNm
  rw [h]
/-- joined texts are no longer than their parts together -/
theorem join_len (sep : Str) : ∀ ys : List Str, (Str.join sep ys).length ≤ (ys.map (·.length)).sum + ys.length * sep.length
  | [] => Nat.zero_le _
  | [x] => by
    show x.length ≤ _
    simp
  | x :: y :: r => by
    have ih := join_len sep (y :: r)
    show (x ++ sep ++ Str.join sep (y :: r)).length ≤ _
    rw [Str.length_append, Str.length_append]
    simp only [List.map_cons, List.sum_cons, List.length_cons] at ih ⊢
    rw [Nat.add_mul (r.length + 1) 1, Nat.one_mul]
    omega
end Dk
namespace Dk
open PySem L2
def top (i : Nat) : Stmt := PySem.Challenge.pw_darkthread_k01_names_told.main.body.getD i (.Pass ⟨0, 0, 0, 0⟩)
abbrev sIsName : Stmt := top 3
abbrev sBox : Stmt := top 5
abbrev sDraw : Stmt := top 6
abbrev sOf : Stmt := top 7
abbrev sLike : Stmt := top 8
abbrev sLawName : Stmt := top 9
abbrev sLaw : Stmt := top 10
end Dk
namespace Dk
open PySem L2
section
variable {P : Program} {w : World} {K : PySem.W.Frag} {mg : Str → Option Value} {base : Heap}
theorem scDraw : FnScope ["_law_box_here", "_law_many", "_law_cell", "_law_got"] ["_law_box_here", "_law_many"] (defScope sDraw) := ⟨rfl, rfl, rfl, by decide +kernel, rfl, by decide +kernel, by decide +kernel⟩
theorem ok_draw {f : Addr} {fd : FuncData} (F : Fun K "_law_draw" "_law_draw" sDraw f fd) (ml : mg "len" = none) (mx : mg "max" = none) : FnOk P w K mg base CX0 1 f fd ["_law_box_here", "_law_many"] spDraw := by
  refine F.ok scDraw (fun vs H Q E h => ?_) (fun cdv A outer s H vs Q E hr h => ?_)
  · obtain ⟨b, l, m, rfl, _⟩ := h
    rfl
  · obtain ⟨b, l, m, rfl, ⟨ns, i, c, s0, t, hb, hl, hi, hc, hs0, hs1⟩, hm, hm2, k⟩ := h
    refine ⟨_, pss_cons (ps_mid (ps_if (PW.pt (pw_and (pt_cmpR op_lt (pe_ix ix_list (pv 0) pe_int (fun _ _ => rfl)) pe_int (nomark _))
          (pw_and1 (pt_cmpR op_lt (pe_ix ix_list (pv 0) pe_int (fun _ _ => rfl)) (pe_callB call_len_seq (by rfl) ml PySem.boot_len (pa_cons (pe_ix ix_list (pv 0) pe_int (fun _ _ => rfl)) pa_nil)) (nomark _)))))
        (pss_cons (ps_set (i := 2) scDraw.nd rfl (Or.inl rfl) (pe_ix ix_list (pe_ix ix_list (pv 0) pe_int (fun _ _ => rfl)) (pe_ix ix_list (pv 0) pe_int (fun _ _ => rfl)) (fun _ _ => rfl)))
        (pss_cons (ps_asg (pe_op op_add (pe_ix ix_list (pv 0) pe_int (fun _ _ => rfl)) pe_int) (pg_sub (pv 0) pe_int set_list))
        (pss_cons (ps_asg (pe_callB (call_max2 rfl) (by rfl) mx (by decide +kernel) (pa_cons pe_int (pa_cons (pe_op op_sub (pv 2) (pe_op op_pow pe_int pe_int)) pa_nil))) (pg_sub (pv 0) pe_int set_list))
        (pss_one (ps_asg (pe_op op_mod (pe_op op_add (pe_op op_add (pe_op op_mul (pe_ix ix_list (pv 0) pe_int (fun _ _ => rfl)) pe_int) (pe_op op_mul (pe_op op_mod (pv 2) pe_int) pe_int)) pe_int) pe_int) (pg_sub (pv 0) pe_int set_list))))))
        pss_nil))
      (pss_cons (ps_if (pt_cmpR op_gt (pe_ix ix_list (pv 0) pe_int (fun _ _ => rfl)) pe_int (nomark _))
        (pss_cons (ps_set (i := 3) scDraw.nd rfl (Or.inl rfl) (pe_op op_mod (pe_ix ix_list (pv 0) pe_int (fun _ _ => rfl)) (pv 1)))
        (pss_cons (ps_asg (pe_op op_fdivW (pe_ix ix_list (pv 0) pe_int (fun _ _ => rfl)) (pv 1)) (pg_sub (pv 0) pe_int set_list))
        (pss_one (ps_ret (pv 3)))))
        pss_nil)
      (pss_cons (ps_asg (pe_op op_add (pe_ix ix_list (pv 0) pe_int (fun _ _ => rfl)) pe_int) (pg_sub (pv 0) pe_int set_list))
      (pss_cons (ps_asg (pe_op op_mod (pe_op op_add (pe_op op_add (pe_op op_pow (pe_ix ix_list (pv 0) pe_int (fun _ _ => rfl)) pe_int) (pe_op op_mul pe_int (pe_ix ix_list (pv 0) pe_int (fun _ _ => rfl)))) pe_int) pe_int) (pg_sub (pv 0) pe_int set_list))
      (pss_one (ps_ret (pe_op op_mod (pe_op op_fdiv (pe_ix ix_list (pv 0) pe_int (fun _ _ => rfl)) pe_int) (pv 1))))))), ?_⟩
    have nlb : l ≠ b := Box.ne hb hl
    have mk : ∀ (i c s0 t : Int), 0 ≤ i → 0 ≤ c → 0 ≤ s0 → s0 < 2147483629 → Box (upd H b (.lst (bxv l i c s0 t))) b l := fun i c s0 t h1 h2 h3 h4 =>
      ⟨ns, i, c, s0, t, upd_same, by rw [upd_ne nlb]; exact hl, h1, h2, h3, h4⟩
    refine ⟨fun σ H1 => ∃ (y : Option V) (i c s0 : Int), σ = [some (.ref b), some (.int m), y, none] ∧ H1 = upd H b (.lst (bxv l i c s0 t)) ∧ 0 ≤ i ∧ 0 ≤ c ∧ 0 ≤ s0 ∧ s0 < 2147483629, ?_, ?_⟩
    · refine ⟨_, rfl, b, _, _, _, rfl, rfl, SqL.of hb, rfl, _, _, rfl, rfl, _, rfl, ite2 (fun _ => ?_) (fun _ => ?_)⟩
      · refine ⟨_, rfl, b, _, _, _, rfl, rfl, SqL.of hb, rfl, _, rfl, b, _, _, _, rfl, rfl, SqL.of hb, rfl, l, _, rfl, .inl (SqL.of hl), _, _, rfl, rfl, _, rfl, ite2 (fun e => ?_) (fun _ => ?_)⟩
        · have e1 : i < ((ns.map V.int).length : Int) := of_decide_eq_true e
          rw [List.length_map] at e1
          have hx : atI (ns.map V.int) i = some (.int (ns.getD i.toNat 0)) := by
            have e2 : ((i.toNat : Nat) : Int) = i := Int.toNat_of_nonneg hi
            have e3 : i.toNat < ns.length := by omega
            have e4 : (ns.map V.int)[i.toNat]? = some (.int (ns.getD i.toNat 0)) := by
              rw [List.getElem?_map, List.getElem?_eq_getElem e3]
              simp [e3]
            have e5 := atI_nat e4
            rw [e2] at e5
            exact e5
          refine ⟨_, rfl, b, _, _, _, rfl, rfl, SqL.of hb, rfl, _, rfl, b, _, _, _, rfl, rfl, SqL.of hb, rfl, l, _, _, _, rfl, rfl, SqL.of hl, hx, ?_⟩
          refine ⟨_, rfl, b, _, _, _, rfl, rfl, SqL.of hb, rfl, _, _, rfl, rfl, _, rfl, b, _, _, _, rfl, rfl, hb, rfl, ?_⟩
          refine ⟨_, rfl, _, _, rfl, rfl, ⟨by decide, by decide, by decide⟩, _, _, rfl, rfl, _, _, rfl, _, rfl, b, _, _, _, rfl, rfl, upd_same, rfl, ?_⟩
          refine ⟨_, rfl, b, _, _, _, rfl, rfl, SqL.of upd_same, rfl, _, _, rfl, rfl, .inr ⟨by decide, by decide⟩, _, rfl, _, _, rfl, rfl, (by show (0 : Int) < 2147483629; decide), _, _, rfl, rfl, .inr ⟨by decide, by decide⟩, _, _, rfl, rfl, _, _, rfl, rfl, _, _, rfl, rfl, (by show (0 : Int) < 2147483629; decide), _, rfl, b, _, _, _, rfl, rfl, upd_same, rfl, ?_⟩
          refine ⟨_, _, _, _, rfl, by rw [upd_upd, upd_upd]; rfl, by omega, ?_, Int.emod_nonneg _ (by decide), Int.emod_lt_of_pos _ (by decide)⟩
          split <;> omega
        · exact ⟨none, i, c, s0, rfl, (upd_id hb).symm, hi, hc, hs0, hs1⟩
      · exact ⟨none, i, c, s0, rfl, (upd_id hb).symm, hi, hc, hs0, hs1⟩
    · rintro σ H1 ⟨y, i, c, s0, rfl, rfl, hi, hc, hs0, hs1⟩
      have hm3 : CDivW c m := wide_div hm hm2 (by decide) (by decide)
      refine ⟨_, rfl, b, _, _, _, rfl, rfl, SqL.of upd_same, rfl, _, _, rfl, rfl, _, rfl, ite2 (fun _ => ?_) (fun _ => ?_)⟩
      · refine ⟨_, rfl, b, _, _, _, rfl, rfl, SqL.of upd_same, rfl, _, rfl, _, _, rfl, rfl, hm, ?_⟩
        refine ⟨_, rfl, b, _, _, _, rfl, rfl, SqL.of upd_same, rfl, _, rfl, _, _, rfl, rfl, hm3, _, rfl, b, _, _, _, rfl, rfl, upd_same, rfl, ?_⟩
        refine ⟨_, rfl, ?_⟩
        rw [upd_upd]
        exact k _ _ (Int.emod_nonneg _ (by omega)) (Int.emod_lt_of_pos _ hm) (mk _ _ _ _ hi (Int.ediv_nonneg hc (by omega)) hs0 hs1)
      · refine ⟨_, rfl, b, _, _, _, rfl, rfl, SqL.of upd_same, rfl, _, _, rfl, rfl, _, rfl, b, _, _, _, rfl, rfl, upd_same, rfl, ?_⟩
        refine ⟨_, rfl, b, _, _, _, rfl, rfl, SqL.of upd_same, rfl, _, _, rfl, rfl, ⟨by decide, by decide, ?_⟩, _, rfl, b, _, _, _, rfl, rfl, SqL.of upd_same, rfl, _, _, rfl, rfl, .inl ⟨by decide, by decide⟩, _, _, rfl, rfl, _, _, rfl, rfl, _, _, rfl, rfl, (by show (0 : Int) < 2147483629; decide), _, rfl, b, _, _, _, rfl, rfl, upd_same, rfl, ?_⟩
        · omega
        · refine ⟨_, rfl, b, _, _, _, rfl, rfl, SqL.of upd_same, rfl, _, _, rfl, rfl, ⟨by decide, by decide⟩, _, rfl, _, _, rfl, rfl, hm, ?_⟩
          rw [upd_upd, upd_upd]
          exact k _ _ (Int.emod_nonneg _ (by omega)) (Int.emod_lt_of_pos _ hm) (mk _ _ _ _ hi hc (Int.emod_nonneg _ (by decide)) (Int.emod_lt_of_pos _ (by decide)))
end
end Dk
namespace Dk
open PySem L2
section
variable {P : Program} {w : World} {K : PySem.W.Frag} {mg : Str → Option Value} {base : Heap}
theorem scBox : FnScope ["_law_script"] ["_law_script"] (defScope sBox) := ⟨rfl, rfl, rfl, by decide +kernel, rfl, by decide +kernel, by decide +kernel⟩
theorem ok_box {f : Addr} {fd : FuncData} (F : Fun K "_law_box" "_law_box" sBox f fd) (ml : mg "list" = none) : FnOk P w K mg base CX0 1 f fd ["_law_script"] (spBox K) := by
  refine F.ok scBox (fun vs H Q E h => ?_) (fun cdv A outer s H vs Q E hr h => ?_)
  · obtain ⟨a, ns, rfl, _⟩ := h
    rfl
  · obtain ⟨a, ns, rfl, hS, k⟩ := h
    refine ⟨_, pss_one (ps_ret (pe_lst (pa_cons (pe_callTy call_list_of (by rfl) ml (by decide +kernel) (pa_cons (pe_slice sl_list (pv 0) po_none (po_some pe_int)) pa_nil)) (pa_cons pe_int (pa_cons pe_int (pa_cons pe_int (pa_cons pe_int pa_nil))))))), ?_⟩
    obtain ⟨ms, em⟩ := cut_ints ns none (some 63)
    refine ⟨_, rfl, 63, rfl, a, _, rfl, hS, fun c nc => ?_⟩
    refine ⟨c, _, rfl, .inl (SqL.of upd_same), fun l nl => ?_⟩
    refine ⟨by show 5 ≤ sizeLine; decide, fun b nb => ?_⟩
    have nlb : l ≠ b := ne_of_none upd_same nb
    have s1 := same_new (o := .lst (cutV (ns.map V.int) none (some 63))) nc
    have s2 := same_new (o := .lst (cutV (ns.map V.int) none (some 63))) nl
    have s3 := same_new (o := .lst [V.ref l, .int 0, .int 0, .int 29, .int 0]) nb
    have s12 := s1.trans s2
    refine k _ b l (s12.trans s3) (s12.free nb) (s1.free nl) ⟨ms, 0, 0, 29, 0, upd_same, ?_, by decide, by decide, by decide, by decide⟩
    rw [upd_ne nlb, upd_same, em]
theorem scOf : FnScope ["_law_box_here", "_law_some"] ["_law_box_here", "_law_some"] (defScope sOf) := ⟨rfl, rfl, rfl, by decide +kernel, rfl, by decide +kernel, by decide +kernel⟩
theorem ok_of {f fD : Addr} {fd fdD : FuncData} (F : Fun K "_law_of" "_law_of" sOf f fd) (FD : Fun K "_law_draw" "_law_draw" sDraw fD fdD) (bD : Binds K fdD ["_law_box_here", "_law_many"] []) (gD : mg "_law_draw" = some (.ref fD)) (ml : mg "len" = none) (mx : mg "max" = none) :
    FnOk P w K mg base CX0 2 f fd ["_law_box_here", "_law_some"] spOf := by
  have GD : FnOk P w K mg base CX0 1 fD fdD ["_law_box_here", "_law_many"] spDraw := ok_draw FD ml mx
  refine F.ok scOf (fun vs H Q E h => ?_) (fun cdv A outer s H vs Q E hr h => ?_)
  · obtain ⟨b, l, v, rfl, _⟩ := h
    rfl
  · obtain ⟨b, l, v, rfl, hB, h⟩ := h
    refine ⟨_, pss_one (ps_ret (pe_ix ix_seq (pv 1) (pe_call GD hr (by rfl) gD FD.kp bD .nil pass0 (pa_cons (pv 0) (pa_cons (pe_callB call_len (by rfl) ml PySem.boot_len (pa_cons (pv 1) pa_nil)) pa_nil))) (fun _ _ => rfl))), ?_⟩
    rcases h with ⟨p, xs, rfl, npb, hp, h0, h1, k⟩ | ⟨z, rfl, h0, h1, k⟩
    · refine ⟨_, rfl, _, rfl, _, rfl, _, xs.length, rfl, .inl ⟨xs, SqL.of hp, rfl⟩, b, l, _, rfl, hB, by omega, small h1, fun r o hr0 hr1 hB' => ?_⟩
      obtain ⟨x, hx, ha⟩ := at_some hr0 hr1
      exact .inl ⟨p, xs, r, x, rfl, rfl, SqL.of (by rw [upd_ne npb]; exact hp), ha, k x o hx hB'⟩
    · refine ⟨_, rfl, _, rfl, _, rfl, _, z.length, rfl, ⟨Nat.le_of_lt (small1000 h1), rfl⟩, b, l, _, rfl, hB, by omega, small h1, fun r o hr0 hr1 hB' => ?_⟩
      have el : z.cps.toList.length = z.length := by simp [Str.length]
      obtain ⟨c, hc, ha⟩ := at_some (xs := z.cps.toList) hr0 (by rw [el]; exact hr1)
      exact .inr (.inr ⟨z, r, c, rfl, rfl, Nat.le_of_lt (small1000 h1), ha, k c o hc hB'⟩)
end
end Dk
namespace Dk
open PySem L2
section
variable {P : Program} {w : World} {K : PySem.W.Frag} {mg : Str → Option Value} {base : Heap}
theorem scLike : FnScope ["_law_found", "_law_due", "_law_one", "_law_other"] ["_law_found", "_law_due"] (defScope sLike) := ⟨rfl, rfl, rfl, by decide +kernel, rfl, by decide +kernel, by decide +kernel⟩
structure LikeT (mg : Str → Option Value) (f : Addr) : Prop where
  isi : mg "isinstance" = none
  list : mg "list" = none
  tuple : mg "tuple" = none
  len : mg "len" = none
  all : mg "all" = none
  zip : mg "zip" = none
  bool : mg "bool" = none
  int : mg "int" = none
  str : mg "str" = none
  me : mg "_law_like" = some (.ref f)
theorem ok_like {f : Addr} {fd : FuncData} (F : Fun K "_law_like" "_law_like" sLike f fd) (bF : Binds K fd ["_law_found", "_law_due"] []) (T : LikeT mg f) : ∀ n : Nat, FnOk P w K mg base CX0 n f fd ["_law_found", "_law_due"] (spLike n)
  | 0 => ⟨fun vs H Q E h => by obtain ⟨v, u, _, z, _⟩ := h; exact z.elim, fun A outer s H args us vs Q E _ _ _ _ h => by obtain ⟨v, u, _, z, _⟩ := h; exact z.elim⟩
  | n + 1 => by
    have G := ok_like F bF T n
    refine F.ok scLike (fun vs H Q E h => ?_) (fun cdv A outer s H vs Q E hr h => ?_)
    · obtain ⟨v, u, rfl, _⟩ := h
      rfl
    · obtain ⟨v, u, rfl, hL, k⟩ := h
      refine ⟨_, pss_cons (ps_if (pt_val (pe_callB call_isiT (by rfl) T.isi (by decide +kernel) (pa_cons (pv 1) (pa_cons (pe_tup (pa_cons (pe_bltn (v := .ty "list") (by rfl) T.list (by decide +kernel) rfl) (pa_cons (pe_bltn (v := .ty "tuple") (by rfl) T.tuple (by decide +kernel) rfl) pa_nil))) pa_nil))))
          (pss_cons (ps_if (PW.pt (pw_or (pt_cmpR op_ne (pe_callB call_isi (by rfl) T.isi (by decide +kernel) (pa_cons (pv 0) (pa_cons (pe_bltn (v := .ty "list") (by rfl) T.list (by decide +kernel) rfl) pa_nil))) (pe_callB call_isi (by rfl) T.isi (by decide +kernel) (pa_cons (pv 1) (pa_cons (pe_bltn (v := .ty "list") (by rfl) T.list (by decide +kernel) rfl) pa_nil))) (nomark _))
              (pw_or1 (pt_cmpR op_ne (pe_callB call_isi (by rfl) T.isi (by decide +kernel) (pa_cons (pv 0) (pa_cons (pe_bltn (v := .ty "tuple") (by rfl) T.tuple (by decide +kernel) rfl) pa_nil))) (pe_callB call_isi (by rfl) T.isi (by decide +kernel) (pa_cons (pv 1) (pa_cons (pe_bltn (v := .ty "tuple") (by rfl) T.tuple (by decide +kernel) rfl) pa_nil))) (nomark _)))))
            (pss_one (ps_ret pe_bl)) pss_nil)
          (pss_one (ps_ret (pe_and (pe_cmpR op_eq (pe_callB call_len_seq (by rfl) T.len PySem.boot_len (pa_cons (pv 0) pa_nil)) (pe_callB call_len_seq (by rfl) T.len PySem.boot_len (pa_cons (pv 1) pa_nil)) (nomark _))
            (pe_one (pe_callB (cr_all rfl) (by rfl) T.all (by decide +kernel) (pa_cons (pe_lc (own := [("_law_one", 2), ("_law_other", 3)]) (g := gTup K 2 (gCons (gName 2) (gCons (gName 3) gNil))) (tt := tYes) rfl scLike.nd (RZ.pi_zipA (by rfl) T.zip (pa_cons (pv 0) (pa_cons (pv 1) pa_nil)))
              (blkOk_by (N := ["_law_found", "_law_due", "_law_one", "_law_other"]) (sc := defScope sLike) (by decide +kernel))
              (fun _ _ _ _ _ => pg_tup rfl (pgs_cons (pg_name (i := 2) scLike.nd rfl (Or.inl rfl)) (pgs_cons (pg_name (i := 3) scLike.nd rfl (Or.inl rfl)) pgs_nil))) (fun _ _ _ _ _ => pts_nil)
              (fun _ _ _ _ _ => pe_call G hr (by rfl) T.me F.kp bF .nil pass0 (pa_cons (pv 2) (pa_cons (pv 3) pa_nil)))) pa_nil)))))))
          pss_nil)
        (pss_cons (ps_if (PW.pt (pw_or (pt_cmpR op_isN (pv 0) pe_non (nomark _)) (pw_or1 (pt_cmpR op_isN (pv 1) pe_non (nomark _)))))
          (pss_one (ps_ret (pe_and (pe_cmpR op_isN (pv 0) pe_non (nomark _)) (pe_one (pe_cmpR op_isN (pv 1) pe_non (nomark _)))))) pss_nil)
        (pss_cons (ps_if (PW.pt (pw_or (pt_cmpR op_ne (pe_callB call_isi (by rfl) T.isi (by decide +kernel) (pa_cons (pv 0) (pa_cons (pe_bltn (v := .ty "bool") (by rfl) T.bool (by decide +kernel) rfl) pa_nil))) (pe_callB call_isi (by rfl) T.isi (by decide +kernel) (pa_cons (pv 1) (pa_cons (pe_bltn (v := .ty "bool") (by rfl) T.bool (by decide +kernel) rfl) pa_nil))) (nomark _))
              (pw_or1 (pt_cmpR op_ne (pe_callB call_isi (by rfl) T.isi (by decide +kernel) (pa_cons (pv 0) (pa_cons (pe_bltn (v := .ty "int") (by rfl) T.int (by decide +kernel) rfl) pa_nil))) (pe_callB call_isi (by rfl) T.isi (by decide +kernel) (pa_cons (pv 1) (pa_cons (pe_bltn (v := .ty "int") (by rfl) T.int (by decide +kernel) rfl) pa_nil))) (nomark _)))))
          (pss_one (ps_ret pe_bl)) pss_nil)
        (pss_one (ps_ret (pe_and (pe_cmpR op_eq (pe_callB call_isi (by rfl) T.isi (by decide +kernel) (pa_cons (pv 0) (pa_cons (pe_bltn (v := .ty "str") (by rfl) T.str (by decide +kernel) rfl) pa_nil))) (pe_callB call_isi (by rfl) T.isi (by decide +kernel) (pa_cons (pv 1) (pa_cons (pe_bltn (v := .ty "str") (by rfl) T.str (by decide +kernel) rfl) pa_nil))) (nomark _))
          (pe_one (pe_cmpR op_eq (pv 0) (pv 1) (nomark _)))))))), ?_⟩
      have kit2 : ∀ (s : String) (r : Bool), kitB s "list" = some r → kitB s "tuple" = some (!r) → PySem.W.kitAny K (.type s) [.type "list", .type "tuple"] = some true := fun s r h1 h2 =>
        kitAny_cons (kit_ty h1) (fun e => kitAny_cons (kit_ty h2) (fun e2 => by rw [e] at e2; cases e2) (fun _ => rfl)) (fun _ => rfl)
      have kit0 : ∀ (s : String), kitB s "list" = some false → kitB s "tuple" = some false → PySem.W.kitAny K (.type s) [.type "list", .type "tuple"] = some false := fun s h1 h2 =>
        kitAny_cons (kit_ty h1) (fun _ => kitAny_cons (kit_ty h2) (fun _ => kitAny_nil) (fun e => by cases e)) (fun e => by cases e)
      rcases hL with ⟨rfl, fl⟩ | ⟨a, b, xs, ys, rfl, rfl, el, e1000, hab, hi⟩
      · -- plain values
        have ty : ∃ s : String, (∀ H : Hp, TyX K H v (.type s)) ∧ (s = "NoneType" ∧ v = .non ∨ v ≠ .non ∧ (s = "bool" ∨ s = "int" ∨ s = "str")) ∧ scal v v = true := by
          cases v with
          | non => exact ⟨"NoneType", fun _ => .base .non, .inl ⟨rfl, rfl⟩, rfl⟩
          | bl x => exact ⟨"bool", fun _ => .base (.bl x), .inr ⟨(fun z => nomatch z), .inl rfl⟩, rfl⟩
          | int x => exact ⟨"int", fun _ => .base (.int x), .inr ⟨(fun z => nomatch z), .inr (.inl rfl)⟩, rfl⟩
          | str x => exact ⟨"str", fun _ => .base (.str x), .inr ⟨(fun z => nomatch z), .inr (.inr rfl)⟩, rfl⟩
          | _ => cases fl
        obtain ⟨s, ts, hs, hsc⟩ := ty
        have kL : kitB s "list" = some false := by
          rcases hs with ⟨rfl, _⟩ | ⟨_, rfl | rfl | rfl⟩ <;> decide +kernel
        have kT : kitB s "tuple" = some false := by
          rcases hs with ⟨rfl, _⟩ | ⟨_, rfl | rfl | rfl⟩ <;> decide +kernel
        refine ⟨_, rfl, by show 2 ≤ sizeLine; decide, fun tp ntp => ?_⟩
        have sm := same_new (o := .tup [V.ty "list", V.ty "tuple"]) ntp
        refine ⟨v, tp, _, _, [.type "list", .type "tuple"], false, rfl, upd_same, .cons (.ty _) (.cons (.ty _) .nil), ts _, kit0 s kL kT, false, rfl, iteF ?_⟩
        refine ⟨_, rfl, rfl, _, rfl, ite2 (fun e => ?_) (fun e => ?_)⟩
        · have ev : v = .non := of_decide_eq_true e
          refine iteT ?_
          refine ⟨_, rfl, rfl, _, rfl, ?_⟩
          rw [decide_eq_true ev]
          refine iteT ⟨_, rfl, rfl, ?_⟩
          rw [decide_eq_true ev]
          exact k _ sm
        · have ev : ¬ v = .non := fun z => e (decide_eq_true z)
          have kBI : ∃ r q p, kitB s "bool" = some r ∧ kitB s "int" = some q ∧ kitB s "str" = some p := by
            rcases hs with ⟨_, z⟩ | ⟨_, rfl | rfl | rfl⟩
            · exact absurd z ev
            · exact ⟨true, true, false, by decide +kernel, by decide +kernel, by decide +kernel⟩
            · exact ⟨false, true, false, by decide +kernel, by decide +kernel, by decide +kernel⟩
            · exact ⟨false, false, true, by decide +kernel, by decide +kernel, by decide +kernel⟩
          obtain ⟨r, q, p, kb, ki, ks⟩ := kBI
          refine ⟨_, rfl, rfl, _, rfl, ite2 (fun z => absurd (of_decide_eq_true z) ev) (fun _ => ?_)⟩
          refine ⟨_, rfl, v, _, _, _, r, rfl, .ty _, ts _, kit_ty kb, _, rfl, v, _, _, _, r, rfl, .ty _, ts _, kit_ty kb, rfl, _, rfl, ?_⟩
          rw [decide_eq_true (show V.bl r = V.bl r from rfl)]
          refine iteF ?_
          refine ⟨_, rfl, v, _, _, _, q, rfl, .ty _, ts _, kit_ty ki, _, rfl, v, _, _, _, q, rfl, .ty _, ts _, kit_ty ki, rfl, _, rfl, ?_⟩
          rw [decide_eq_true (show V.bl q = V.bl q from rfl)]
          refine iteF ?_
          refine ⟨_, rfl, v, _, _, _, p, rfl, .ty _, ts _, kit_ty ks, _, rfl, v, _, _, _, p, rfl, .ty _, ts _, kit_ty ks, rfl, _, rfl, ?_⟩
          rw [decide_eq_true (show V.bl p = V.bl p from rfl)]
          refine iteT ⟨_, rfl, _, rfl, hsc, ?_⟩
          rw [decide_eq_true (show v = v from rfl)]
          exact k _ sm
      · -- a list or a tuple
        have both : ∃ (s : String) (r : Bool), (s = "list" ∧ r = true ∨ s = "tuple" ∧ r = false) ∧ (∀ H' : Hp, Same H H' → TyX K H' (.ref a) (.type s) ∧ TyX K H' (.ref b) (.type s)) ∧
            (∀ H' : Hp, Same H H' → (SqL K H' a xs ∨ SqT K H' a xs) ∧ (SqL K H' b ys ∨ SqT K H' b ys)) := by
          rcases hab with ⟨ha, hb⟩ | ⟨ha, hb⟩
          · exact ⟨"list", true, .inl ⟨rfl, rfl⟩, fun H' sm => ⟨.base (.lst (sm _ _ ha)), .base (.lst (sm _ _ hb))⟩, fun H' sm => ⟨.inl (SqL.of (sm _ _ ha)), .inl (SqL.of (sm _ _ hb))⟩⟩
          · exact ⟨"tuple", false, .inr ⟨rfl, rfl⟩, fun H' sm => ⟨.base (.tup (sm _ _ ha)), .base (.tup (sm _ _ hb))⟩, fun H' sm => ⟨.inr (SqT.of (sm _ _ ha)), .inr (SqT.of (sm _ _ hb))⟩⟩
        obtain ⟨s, r, hsr, ts, sq⟩ := both
        have kL : kitB s "list" = some r := by
          rcases hsr with ⟨rfl, rfl⟩ | ⟨rfl, rfl⟩ <;> decide +kernel
        have kT : kitB s "tuple" = some (!r) := by
          rcases hsr with ⟨rfl, rfl⟩ | ⟨rfl, rfl⟩ <;> decide +kernel
        refine ⟨_, rfl, by show 2 ≤ sizeLine; decide, fun tp ntp => ?_⟩
        have sm := same_new (o := .tup [V.ty "list", V.ty "tuple"]) ntp
        refine ⟨.ref b, tp, _, _, [.type "list", .type "tuple"], true, rfl, upd_same, .cons (.ty _) (.cons (.ty _) .nil), (ts _ sm).2, kit2 s r kL kT, true, rfl, iteT ?_⟩
        refine ⟨_, rfl, _, _, _, _, r, rfl, .ty _, (ts _ sm).1, kit_ty kL, _, rfl, _, _, _, _, r, rfl, .ty _, (ts _ sm).2, kit_ty kL, rfl, _, rfl, ?_⟩
        rw [decide_eq_true (show V.bl r = V.bl r from rfl)]
        refine iteF ?_
        refine ⟨_, rfl, _, _, _, _, (!r), rfl, .ty _, (ts _ sm).1, kit_ty kT, _, rfl, _, _, _, _, (!r), rfl, .ty _, (ts _ sm).2, kit_ty kT, rfl, _, rfl, ?_⟩
        rw [decide_eq_true (show V.bl (!r) = V.bl (!r) from rfl)]
        refine iteF ?_
        refine ⟨_, rfl, a, xs, rfl, (sq _ sm).1, _, rfl, b, ys, rfl, (sq _ sm).2, rfl, _, rfl, ?_⟩
        rw [decide_eq_true (show V.int (xs.length : Nat) = V.int (ys.length : Nat) by rw [el])]
        refine iteT ?_
        -- the comprehension
        refine ⟨_, rfl, _, rfl, a, b, xs, ys, rfl, ?_⟩
        rcases hab with ⟨ha, hb⟩ | ⟨ha, hb⟩
        · refine .inl ⟨SqL.of (sm _ _ ha), SqL.of (sm _ _ hb), fun D nD => lc_it (walk_zip (n := xs.length) (xs := xs) (ys := ys) (by rw [← el, Nat.min_self])) (fun i H' => Same (upd H tp (.tup [V.ty "list", V.ty "tuple"])) H' ∧ H' D = some (.lst ((List.replicate i true).map V.bl))) ?_ ?_ ?_ ?_⟩
          · exact ⟨same_new nD, upd_same⟩
          · exact fun i H' _ h => ⟨SqL.of (h.1 _ _ (sm _ _ ha)), SqL.of (h.1 _ _ (sm _ _ hb))⟩
          · rintro i x H1 H2 hin ⟨s1, hD⟩ ⟨tq, x1, y1, rfl, ntq, rfl, f1, f2⟩
            have s2 := same_new (o := .tup [x1, y1]) ntq
            refine ⟨tq, [x1, y1], rfl, SqT.of upd_same, rfl, x1, [y1], rfl, y1, [], rfl, rfl, rfl, ?_⟩
            refine ⟨x1, rfl, y1, rfl, x1, y1, rfl, (hi i x1 y1 f1 f2).same (sm.trans (s1.trans s2)), fun H3 s3 => ?_⟩
            have hD3 : H3 D = some (.lst ((List.replicate i true).map V.bl)) := s3 _ _ (s2 _ _ hD)
            refine ⟨_, hD3, ?_, fun q o hq => ?_, ?_⟩
            · rw [List.length_map, List.length_replicate]
              exact small1000 (by omega)
            · have nq : q ≠ D := fun z => by
                rw [z, nD] at hq
                cases hq
              rw [upd_ne nq]
              exact s3 _ _ (s2 _ _ (s1 _ _ hq))
            · rw [upd_same, List.replicate_succ', List.map_append]
              rfl
          · rintro H1 ⟨s1, hD⟩
            refine ⟨D, _, rfl, SqL.of hD, ?_⟩
            rw [all_true]
            exact k _ (sm.trans s1)
        · refine .inr ⟨SqT.of (sm _ _ ha), SqT.of (sm _ _ hb), fun D nD => lc_it (walk_zipT (n := xs.length) (xs := xs) (ys := ys) (by rw [← el, Nat.min_self])) (fun i H' => Same (upd H tp (.tup [V.ty "list", V.ty "tuple"])) H' ∧ H' D = some (.lst ((List.replicate i true).map V.bl))) ?_ ?_ ?_ ?_⟩
          · exact ⟨same_new nD, upd_same⟩
          · exact fun i H' _ h => ⟨SqT.of (h.1 _ _ (sm _ _ ha)), SqT.of (h.1 _ _ (sm _ _ hb))⟩
          · rintro i x H1 H2 hin ⟨s1, hD⟩ ⟨tq, x1, y1, rfl, ntq, rfl, f1, f2⟩
            have s2 := same_new (o := .tup [x1, y1]) ntq
            refine ⟨tq, [x1, y1], rfl, SqT.of upd_same, rfl, x1, [y1], rfl, y1, [], rfl, rfl, rfl, ?_⟩
            refine ⟨x1, rfl, y1, rfl, x1, y1, rfl, (hi i x1 y1 f1 f2).same (sm.trans (s1.trans s2)), fun H3 s3 => ?_⟩
            have hD3 : H3 D = some (.lst ((List.replicate i true).map V.bl)) := s3 _ _ (s2 _ _ hD)
            refine ⟨_, hD3, ?_, fun q o hq => ?_, ?_⟩
            · rw [List.length_map, List.length_replicate]
              exact small1000 (by omega)
            · have nq : q ≠ D := fun z => by
                rw [z, nD] at hq
                cases hq
              rw [upd_ne nq]
              exact s3 _ _ (s2 _ _ (s1 _ _ hq))
            · rw [upd_same, List.replicate_succ', List.map_append]
              rfl
          · rintro H1 ⟨s1, hD⟩
            refine ⟨D, _, rfl, SqL.of hD, ?_⟩
            rw [all_true]
            exact k _ (sm.trans s1)
end
end Dk
namespace Dk
open PySem L2
section
variable {P : Program} {w : World} {K : PySem.W.Frag} {mg : Str → Option Value} {base : Heap}
theorem scIs : FnScope ["text", "sign"] ["text"] (defScope sIsName) := ⟨rfl, rfl, rfl, by decide +kernel, rfl, by decide +kernel, by decide +kernel⟩
theorem ok_is {f : Addr} {fd : FuncData} (F : Fun K "is_name" "is_name" sIsName f fd) (ml : mg "len" = none) (ma : mg "all" = none) {t1 t2 : Tok} (g1 : mg "LONGEST_NAME" = some (.int 8 t1)) (g2 : mg "SMALL_LETTERS" = some (.str abc t2)) : FnOk P w K mg base CX0 1 f fd ["text"] spName := by
  refine F.ok scIs (fun vs H Q E h => ?_) (fun cdv A outer s H vs Q E hr h => ?_)
  · obtain ⟨z, rfl, _⟩ := h
    rfl
  · obtain ⟨z, rfl, hz, k⟩ := h
    refine ⟨_, pss_cons (ps_if (pt_not (pt_chain op_le op_le pe_int (pe_callB call_len_str (by rfl) ml PySem.boot_len (pa_cons (pv 0) pa_nil)) (pe_glob (v := .int 8) (by rfl) g1 ⟨_, rfl⟩))) (pss_one (ps_ret pe_bl)) pss_nil)
      (pss_one (ps_ret (pe_callB (cr_all rfl) (by rfl) ma (by decide +kernel) (pa_cons (pe_lc (own := [("sign", 1)]) (g := gName 1) (tt := tYes) rfl scIs.nd (pi_str (pv 0))
        (blkOk_by (N := ["text", "sign"]) (sc := defScope sIsName) (by decide +kernel)) (fun _ _ _ _ _ => pg_name (i := 1) scIs.nd rfl (Or.inl rfl)) (fun _ _ _ _ _ => pts_nil)
        (fun _ _ _ _ _ => pe_cmpR op_in_sign (pv 1) (pe_glob (v := .str abc) (by rfl) g2 ⟨_, rfl⟩) (by rfl))) pa_nil)))), ?_⟩
    refine ⟨_, rfl, z, rfl, Nat.le_of_lt (small1000 hz), _, _, rfl, rfl, _, rfl, ite2 (fun e => ?_) (fun e => ?_)⟩
    · refine ⟨_, _, rfl, rfl, _, rfl, ?_⟩
      have e1 : (1 : Int) ≤ (z.length : Int) := of_decide_eq_true e
      by_cases e2 : (z.length : Int) ≤ 8
      · rw [decide_eq_true e2]
        refine iteF ?_
        refine ⟨_, rfl, z, rfl, fun D nD => lc_it walk_str (fun i H' => Same H H' ∧ H' D = some (.lst ((inAbc z i).map V.bl))) ⟨same_new nD, upd_same⟩ (fun _ _ _ _ => trivial) ?_ ?_⟩
        · rintro i x H1 H2 hin ⟨s1, hD⟩ ⟨rfl, c, ec, rfl⟩
          refine ⟨rfl, ?_⟩
          refine ⟨_, rfl, c, abc, rfl, rfl, _, hD, inAbc_len hz, fun q o hq => ?_, ?_⟩
          · rw [upd_ne (ne_of_none hq nD)]
            exact s1 _ _ hq
          · rw [upd_same, inAbc_succ ec, List.map_append]
            rfl
        · rintro H1 ⟨s1, hD⟩
          refine ⟨D, _, rfl, SqL.of hD, ?_⟩
          rw [inAbc_all]
          have z1 := k H1 s1
          rw [nm_in (b := true) (decide_eq_true ⟨by omega, by omega⟩), Bool.true_and] at z1
          exact z1
      · rw [decide_eq_false e2]
        refine iteT ?_
        have z1 := k H (Same.refl H)
        rw [nm_in (b := false) (decide_eq_false (fun q => e2 (by omega))), Bool.false_and] at z1
        exact z1
    · refine ⟨false, rfl, ?_⟩
      refine iteT ?_
      have e1 : ¬ (1 : Int) ≤ (z.length : Int) := fun q => e (decide_eq_true q)
      have z1 := k H (Same.refl H)
      rw [nm_in (b := false) (decide_eq_false (fun q => e1 (by omega))), Bool.false_and] at z1
      exact z1
theorem scLn : FnScope ["_law_text", "_law_letters", "_law_one"] ["_law_text"] (defScope sLawName) := ⟨rfl, rfl, rfl, by decide +kernel, rfl, by decide +kernel, by decide +kernel⟩
theorem ok_ln {f : Addr} {fd : FuncData} (F : Fun K "_law_is_name" "_law_is_name" sLawName f fd) (ml : mg "len" = none) (ma : mg "all" = none) : FnOk P w K mg base CX0 1 f fd ["_law_text"] spName := by
  refine F.ok scLn (fun vs H Q E h => ?_) (fun cdv A outer s H vs Q E hr h => ?_)
  · obtain ⟨z, rfl, _⟩ := h
    rfl
  · obtain ⟨z, rfl, hz, k⟩ := h
    refine ⟨_, pss_cons (ps_set (i := 1) scLn.nd rfl (Or.inr rfl) pe_str)
      (pss_one (ps_ret (pe_and (pe_chain op_lt op_lt pe_int (pe_callB call_len_str (by rfl) ml PySem.boot_len (pa_cons (pv 0) pa_nil)) pe_int)
      (pe_one (pe_callB (cr_all rfl) (by rfl) ma (by decide +kernel) (pa_cons (pe_lc (own := [("_law_one", 2)]) (g := gName 2) (tt := tYes) rfl scLn.nd (pi_str (pv 0))
        (blkOk_by (N := ["_law_text", "_law_letters", "_law_one"]) (sc := defScope sLawName) (by decide +kernel)) (fun _ _ _ _ _ => pg_name (i := 2) scLn.nd rfl (Or.inl rfl)) (fun _ _ _ _ _ => pts_nil)
        (fun _ _ _ _ _ => pe_cmpR op_in_sign (pv 2) (pv 1) (by rfl))) pa_nil)))))), ?_⟩
    refine ⟨_, rfl, z, rfl, Nat.le_of_lt (small1000 hz), _, _, rfl, rfl, _, rfl, ite2 (fun e => ?_) (fun e => ?_)⟩
    · refine ⟨_, _, rfl, rfl, _, rfl, ?_⟩
      have e1 : (0 : Int) < (z.length : Int) := of_decide_eq_true e
      by_cases e2 : (z.length : Int) < 9
      · rw [decide_eq_true e2]
        refine iteT ?_
        refine ⟨_, rfl, z, rfl, fun D nD => lc_it walk_str (fun i H' => Same H H' ∧ H' D = some (.lst ((inAbc z i).map V.bl))) ⟨same_new nD, upd_same⟩ (fun _ _ _ _ => trivial) ?_ ?_⟩
        · rintro i x H1 H2 hin ⟨s1, hD⟩ ⟨rfl, c, ec, rfl⟩
          refine ⟨rfl, ?_⟩
          refine ⟨_, rfl, _, rfl, c, abc, rfl, rfl, _, hD, inAbc_len hz, fun q o hq => ?_, ?_⟩
          · rw [upd_ne (ne_of_none hq nD)]
            exact s1 _ _ hq
          · rw [upd_same, inAbc_succ ec, List.map_append]
            rfl
        · rintro H1 ⟨s1, hD⟩
          refine ⟨D, _, rfl, SqL.of hD, ?_⟩
          rw [inAbc_all]
          have z1 := k H1 s1
          rw [nm_in (b := true) (decide_eq_true ⟨by omega, by omega⟩), Bool.true_and] at z1
          exact z1
      · rw [decide_eq_false e2]
        refine iteF ?_
        have z1 := k H (Same.refl H)
        rw [nm_in (b := false) (decide_eq_false (fun q => e2 (by omega))), Bool.false_and] at z1
        exact z1
    · refine ⟨false, rfl, iteF ?_⟩
      have e1 : ¬ (0 : Int) < (z.length : Int) := fun q => e (decide_eq_true q)
      have z1 := k H (Same.refl H)
      rw [nm_in (b := false) (decide_eq_false (fun q => e1 (by omega))), Bool.false_and] at z1
      exact z1
end
end Dk
namespace Dk
open PySem L2
section
variable {P : Program} {w : World} {K : PySem.W.Frag} {mg : Str → Option Value} {base : Heap}
def spLaw (K : PySem.W.Frag) : Sp := fun vs H Q _ => ∃ (a : Addr) (ns : List Int), vs = [.ref a] ∧ SqL K H a (ns.map V.int) ∧ ns.length ≤ 63 ∧ ∀ H', Q (.bl true) H'
theorem scLaw : FnScope ["_law_script", "_law_box_here", "_law_letters", "_law_turn", "_law_text", "_law_at", "_law_some", "_law_k"] ["_law_script"] (defScope sLaw) := ⟨rfl, rfl, rfl, by decide +kernel, rfl, by decide +kernel, by decide +kernel⟩
structure Txt1 (K : PySem.W.Frag) (mg : Str → Option Value) (fB fD fO fL fI fN : Addr) (dB dD dO dL dI dN : FuncData) : Prop where
  FB : Fun K "_law_box" "_law_box" sBox fB dB
  FD : Fun K "_law_draw" "_law_draw" sDraw fD dD
  FO : Fun K "_law_of" "_law_of" sOf fO dO
  FL : Fun K "_law_like" "_law_like" sLike fL dL
  FI : Fun K "is_name" "is_name" sIsName fI dI
  FN : Fun K "_law_is_name" "_law_is_name" sLawName fN dN
  bB : Binds K dB ["_law_script"] []
  bD : Binds K dD ["_law_box_here", "_law_many"] []
  bO : Binds K dO ["_law_box_here", "_law_some"] []
  bL : Binds K dL ["_law_found", "_law_due"] []
  bI : Binds K dI ["text"] []
  bN : Binds K dN ["_law_text"] []
  gB : mg "_law_box" = some (.ref fB)
  gD : mg "_law_draw" = some (.ref fD)
  gO : mg "_law_of" = some (.ref fO)
  gI : mg "is_name" = some (.ref fI)
  gN : mg "_law_is_name" = some (.ref fN)
  T : LikeT mg fL
  max : mg "max" = none
  range : mg "range" = none
  g1 : ∃ t, mg "LONGEST_NAME" = some (.int 8 t)
  g2 : ∃ t, mg "SMALL_LETTERS" = some (.str abc t)
theorem ok_law {f fB fD fO fL fI fN : Addr} {fd dB dD dO dL dI dN : FuncData} (F : Fun K "law" "law" sLaw f fd) (T : Txt1 K mg fB fD fO fL fI fN dB dD dO dL dI dN) : FnOk P w K mg base CX0 3 f fd ["_law_script"] (spLaw K) := by
  have GB : FnOk P w K mg base CX0 1 fB dB ["_law_script"] (spBox K) := ok_box T.FB T.T.list
  have GD : FnOk P w K mg base CX0 1 fD dD ["_law_box_here", "_law_many"] spDraw := ok_draw T.FD T.T.len T.max
  have GO : FnOk P w K mg base CX0 2 fO dO ["_law_box_here", "_law_some"] spOf := ok_of T.FO T.FD T.bD T.gD T.T.len T.max
  have GL : FnOk P w K mg base CX0 2 fL dL ["_law_found", "_law_due"] (spLike 2) := ok_like T.FL T.bL T.T 2
  obtain ⟨t1, g1⟩ := T.g1
  obtain ⟨t2, g2⟩ := T.g2
  have GI : FnOk P w K mg base CX0 1 fI dI ["text"] spName := ok_is T.FI T.T.len T.T.all g1 g2
  have GN : FnOk P w K mg base CX0 1 fN dN ["_law_text"] spName := ok_ln T.FN T.T.len T.T.all
  refine F.ok scLaw (fun vs H Q E h => ?_) (fun cdv A outer s H vs Q E hr h => ?_)
  · obtain ⟨a, ns, rfl, _⟩ := h
    rfl
  · obtain ⟨a, ns, rfl, hS, hlen, k⟩ := h
    have hr1 : Room 1 _ := hr.mono (by decide)
    refine ⟨_, pss_cons (ps_set (i := 1) scLaw.nd rfl (Or.inr rfl) (pe_call GB hr1 (by rfl) T.gB T.FB.kp T.bB .nil pass0 (pa_cons (pv 0) pa_nil)))
      (pss_cons (ps_set (i := 2) scLaw.nd rfl (Or.inr rfl) pe_str)
      (pss_cons (ps_for PassesOwn.never rfl (pi_range1 (by rfl) T.range (pa_cons pe_int pa_nil)) (pg_name (i := 3) scLaw.nd rfl (Or.inl rfl))
        (pss_cons (ps_set (i := 4) scLaw.nd rfl (Or.inl rfl) (pe_join pe_str (pe_lc (own := [("_law_k", 7)]) (g := gName 7) (tt := tYes) rfl scLaw.nd (pi_range1 (by rfl) T.range (pa_cons (pe_call GD hr1 (by rfl) T.gD T.FD.kp T.bD .nil pass0 (pa_cons (pv 1) (pa_cons pe_int pa_nil))) pa_nil))
            (blkOk_by (N := ["_law_script", "_law_box_here", "_law_letters", "_law_turn", "_law_text", "_law_at", "_law_some", "_law_k"]) (sc := defScope sLaw) (by decide +kernel)) (fun _ _ _ _ _ => pg_name (i := 7) scLaw.nd rfl (Or.inl rfl)) (fun _ _ _ _ _ => pts_nil)
            (fun _ _ _ _ _ => pe_call GO hr (by rfl) T.gO T.FO.kp T.bO .nil pass0 (pa_cons (pv 1) (pa_cons (pv 2) pa_nil))))))
        (pss_cons (ps_set (i := 5) scLaw.nd rfl (Or.inl rfl) (pe_call GD hr1 (by rfl) T.gD T.FD.kp T.bD .nil pass0 (pa_cons (pv 1) (pa_cons (pe_op op_add (pe_callB call_len_str (by rfl) T.T.len PySem.boot_len (pa_cons (pv 4) pa_nil)) pe_int) pa_nil))))
        (pss_cons (ps_set (i := 4) scLaw.nd rfl (Or.inl rfl) (pe_op op_add_str (pe_op op_add_str (pe_slice sl_str (pv 4) po_none (po_some (pv 5)))
            (pe_call GO hr (by rfl) T.gO T.FO.kp T.bO .nil pass0 (pa_cons (pv 1) (pa_cons (pe_lst (pa_cons pe_str (pa_cons pe_str (pa_cons pe_str (pa_cons pe_str (pa_cons pe_str (pa_cons pe_str (pa_cons pe_str (pa_cons pe_str pa_nil))))))))) pa_nil))))
            (pe_slice sl_str (pv 4) (po_some (pv 5)) po_none)))
        (pss_one (ps_if (pt_not (pt_val (pe_call GL hr (by rfl) T.T.me T.FL.kp T.bL .nil pass0 (pa_cons (pe_call GI hr1 (by rfl) T.gI T.FI.kp T.bI .nil pass0 (pa_cons (pv 4) pa_nil)) (pa_cons (pe_call GN hr1 (by rfl) T.gN T.FN.kp T.bN .nil pass0 (pa_cons (pv 4) pa_nil)) pa_nil)))))
          (pss_one (ps_ret pe_bl)) pss_nil))))))
      (pss_cons (ps_set (i := 6) scLaw.nd rfl (Or.inl rfl) (pe_lst (pa_cons (pe_call GI hr1 (by rfl) T.gI T.FI.kp T.bI .nil pass0 (pa_cons pe_str pa_nil)) (pa_cons (pe_call GI hr1 (by rfl) T.gI T.FI.kp T.bI .nil pass0 (pa_cons pe_str pa_nil))
          (pa_cons (pe_call GI hr1 (by rfl) T.gI T.FI.kp T.bI .nil pass0 (pa_cons pe_str pa_nil)) (pa_cons (pe_call GI hr1 (by rfl) T.gI T.FI.kp T.bI .nil pass0 (pa_cons pe_str pa_nil)) pa_nil))))))
      (pss_one (ps_ret (pe_call GL hr (by rfl) T.T.me T.FL.kp T.bL .nil pass0 (pa_cons (pv 6) (pa_cons (pe_lst (pa_cons pe_bl (pa_cons pe_bl (pa_cons pe_bl (pa_cons pe_bl pa_nil))))) pa_nil)))))))), ?_⟩
    refine ⟨_, rfl, a, ns, rfl, hS, fun H1 b l s1 nb nl hB => ?_⟩
    refine ⟨8, rfl, by decide, by decide, for_range (n := 8) (fun i σ H' => ∃ y3 y4 y5 : Option V, σ = [some (.ref a), some (.ref b), some (.str abc), y3, y4, y5, none, none] ∧ Box H' b l) ⟨none, none, none, rfl, hB⟩ ?_ ?_⟩
    · rintro i σ H2 hi8 ⟨y3, y4, y5, rfl, hB⟩
      -- a text of none to ten letters
      refine ⟨⟨_, rfl⟩, _, rfl, b, l, 11, rfl, hB, by decide, by decide, fun r o hr0 hr11 hB2 => ?_⟩
      refine ⟨r, rfl, by omega, by omega, fun D nD => ?_⟩
      have nDb := hB2.b1 nD
      have nDl := hB2.l1 nD
      refine lc_range (lo := 0) (n := r.toNat) (fun j H' => Box H' b l ∧ ∃ ys : List Str, ys.length = j ∧ (ys.map (·.length)).sum = j ∧ H' D = some (.lst (ys.map V.str))) ⟨hB2.new nD, [], rfl, rfl, upd_same⟩ ?_ ?_
      · rintro j H3 hj ⟨hB3, ys, e1, e2, hD⟩
        refine ⟨rfl, ?_⟩
        refine ⟨_, rfl, _, rfl, b, l, .str abc, rfl, hB3, .inr ⟨abc, rfl, by decide +kernel, by decide +kernel, fun c o hc hB4 => ?_⟩⟩
        refine ⟨_, by rw [upd_ne nDb]; exact hD, by rw [List.length_map]; exact small1000 (by omega), hB4.put nDb nDl, ys ++ [⟨#[c]⟩], ?_, ?_, ?_⟩
        · rw [List.length_append, e1]
          rfl
        · rw [List.map_append, List.sum_append, e2]
          rfl
        · rw [upd_same, List.map_append]
          rfl
      · rintro H3 ⟨hB3, ys, e1, e2, hD⟩
        refine ⟨_, D, ys, rfl, rfl, .inl (SqL.of hD), ?_, ?_⟩
        · rw [e2, e1]
          show r.toNat + r.toNat * 0 ≤ 16777216
          omega
        · have hz : (Txt.join (Str.ofString "") ys).length ≤ 10 := by
            rw [TL.join_eq]
            have q := join_len (Str.ofString "") ys
            rw [e2, e1, show (Str.ofString "").length = 0 from by decide +kernel] at q
            omega
          generalize Txt.join (Str.ofString "") ys = z at hz
          -- a place in it
          refine ⟨_, rfl, _, rfl, z, rfl, Nat.le_of_lt (small1000 (by omega)), _, _, rfl, rfl, b, l, _, rfl, hB3, by omega, small (n := z.length + 1) (by omega), fun p o2 hp0 hp1 hB4 => ?_⟩
          refine ⟨_, rfl, _, rfl, p, rfl, z, rfl, Nat.le_of_lt (small1000 (by omega)), ?_⟩
          refine ⟨_, rfl, by show 8 ≤ sizeLine; decide, fun q nq => ?_⟩
          refine ⟨b, l, _, rfl, hB4.new nq, .inl ⟨q, _, rfl, hB4.b1 nq, upd_same, by decide, by decide, fun x o3 hx hB5 => ?_⟩⟩
          have hx1 : ∃ y : Str, x = .str y ∧ y.length ≤ 1 := by
            simp only [List.mem_cons, List.mem_nil_iff, or_false] at hx
            rcases hx with rfl | rfl | rfl | rfl | rfl | rfl | rfl | rfl <;> exact ⟨_, rfl, by decide +kernel⟩
          obtain ⟨y, rfl, hy⟩ := hx1
          have c1 := cutS_length z none (some p)
          have c2 := cutS_length z (some p) none
          refine ⟨_, y, rfl, rfl, Nat.le_of_lt (small1000 (by omega)), _, rfl, _, rfl, p, rfl, z, rfl, Nat.le_of_lt (small1000 (by omega)), _, _, rfl, rfl, ?_, ?_⟩
          · rw [Str.length_append]
            exact Nat.le_of_lt (small1000 (by omega))
          · have hz2 : (cutS z none (some p) ++ y ++ cutS z (some p) none).length ≤ 1000 := by
              rw [Str.length_append, Str.length_append]
              omega
            generalize cutS z none (some p) ++ y ++ cutS z (some p) none = z2 at hz2
            refine ⟨_, rfl, z2, rfl, hz2, fun H6 s6 => ?_⟩
            refine ⟨_, rfl, z2, rfl, hz2, fun H7 s7 => ?_⟩
            refine ⟨_, _, rfl, .inl ⟨rfl, rfl⟩, fun H8 s8 => ?_⟩
            refine ⟨true, rfl, iteF ?_⟩
            exact ⟨_, _, _, rfl, hB5.same (s6.trans (s7.trans s8))⟩
    · rintro σ H2 ⟨y3, y4, y5, rfl, hB⟩
      refine ⟨_, rfl, by decide +kernel, fun H3 s3 => ⟨_, rfl, by decide +kernel, fun H4 s4 => ⟨_, rfl, by decide +kernel, fun H5 s5 => ⟨_, rfl, by decide +kernel, fun H6 s6 => ⟨by show 4 ≤ sizeLine; decide, fun p np => ?_⟩⟩⟩⟩⟩
      refine ⟨_, rfl, by show 4 ≤ sizeLine; decide, fun q nq => ?_⟩
      have npq : p ≠ q := ne_of_none upd_same nq
      have v1 : isNm (Str.ofString "") = false := by decide +kernel
      have v2 : isNm (Str.ofString "a") = true := by decide +kernel
      have v3 : isNm (Str.ofString "abcdefgh") = true := by decide +kernel
      have v4 : isNm (Str.ofString "abcdefghi") = false := by decide +kernel
      refine ⟨_, _, rfl, .inr ⟨p, q, _, _, rfl, rfl, rfl, by show 4 ≤ 1000; decide, .inl ⟨by rw [upd_ne npq, upd_same, v1, v2, v3, v4], upd_same⟩, ?_⟩, fun H8 s8 => k H8⟩
      intro i x y hx hy
      have e : x = y := Option.some.inj (hx.symm.trans hy)
      subst e
      have hm : x ∈ [V.bl false, .bl true, .bl true, .bl false] := List.mem_of_getElem? hx
      simp only [List.mem_cons, List.mem_nil_iff, or_false] at hm
      refine .inl ⟨rfl, ?_⟩
      rcases hm with rfl | rfl | rfl | rfl <;> rfl
end
end Dk
namespace Dk
open PySem L2
theorem all_mk {l : PySem.W.OpenLaw} {w : World} {K : PySem.W.Frag} {h : Heap} {mg : Str → Option Value} {fa f0 f1 f2 f3 f4 f5 f6 : Addr} (X : K.In h) (G : h.Ns mainGlobals mg) (hfa : mg "law" = some (.ref fa))
    {od0 an0 od1 an1 od2 an2 od3 an3 od4 an4 od5 an5 od6 an6 : Option Addr} {sl0 sl1 sl2 sl3 sl4 sl5 sl6 : Array (Option Value)}
    {oc0 kV0 dc0 pm0 cd0 ct0 oc1 kV1 dc1 pm1 cd1 ct1 oc2 kV2 dc2 pm2 cd2 ct2 oc3 kV3 dc3 pm3 cd3 ct3 oc4 kV4 dc4 pm4 cd4 ct4 oc5 kV5 dc5 pm5 cd5 ct5 oc6 kV6 dc6 pm6 cd6 ct6 : Value}
    {tk_LONGEST_NAME tk_SMALL_LETTERS : Tok}
    (a0 : PySem.W.nsIn K mainGlobals "_law_box" = some (some (.ref f0)))
    (l0 : K.lookup f0 = some ⟨oc0, od0, .func (PySem.W.fnOf "_law_box" "_law_box" (defArgs sBox) (defBody sBox) (defScope sBox) .none kV0 dc0 pm0 an0 cd0 ct0), sl0⟩)
    (c0 : PySem.W.codeIn K cd0 "_law_box" = true) (k0 : PySem.W.keepIn K (.ref f0) = true)
    (a1 : PySem.W.nsIn K mainGlobals "_law_draw" = some (some (.ref f1)))
    (l1 : K.lookup f1 = some ⟨oc1, od1, .func (PySem.W.fnOf "_law_draw" "_law_draw" (defArgs sDraw) (defBody sDraw) (defScope sDraw) .none kV1 dc1 pm1 an1 cd1 ct1), sl1⟩)
    (c1 : PySem.W.codeIn K cd1 "_law_draw" = true) (k1 : PySem.W.keepIn K (.ref f1) = true)
    (a2 : PySem.W.nsIn K mainGlobals "_law_of" = some (some (.ref f2)))
    (l2 : K.lookup f2 = some ⟨oc2, od2, .func (PySem.W.fnOf "_law_of" "_law_of" (defArgs sOf) (defBody sOf) (defScope sOf) .none kV2 dc2 pm2 an2 cd2 ct2), sl2⟩)
    (c2 : PySem.W.codeIn K cd2 "_law_of" = true) (k2 : PySem.W.keepIn K (.ref f2) = true)
    (a3 : PySem.W.nsIn K mainGlobals "_law_like" = some (some (.ref f3)))
    (l3 : K.lookup f3 = some ⟨oc3, od3, .func (PySem.W.fnOf "_law_like" "_law_like" (defArgs sLike) (defBody sLike) (defScope sLike) .none kV3 dc3 pm3 an3 cd3 ct3), sl3⟩)
    (c3 : PySem.W.codeIn K cd3 "_law_like" = true) (k3 : PySem.W.keepIn K (.ref f3) = true)
    (a4 : PySem.W.nsIn K mainGlobals "is_name" = some (some (.ref f4)))
    (l4 : K.lookup f4 = some ⟨oc4, od4, .func (PySem.W.fnOf "is_name" "is_name" (defArgs sIsName) (defBody sIsName) (defScope sIsName) .none kV4 dc4 pm4 an4 cd4 ct4), sl4⟩)
    (c4 : PySem.W.codeIn K cd4 "is_name" = true) (k4 : PySem.W.keepIn K (.ref f4) = true)
    (a5 : PySem.W.nsIn K mainGlobals "_law_is_name" = some (some (.ref f5)))
    (l5 : K.lookup f5 = some ⟨oc5, od5, .func (PySem.W.fnOf "_law_is_name" "_law_is_name" (defArgs sLawName) (defBody sLawName) (defScope sLawName) .none kV5 dc5 pm5 an5 cd5 ct5), sl5⟩)
    (c5 : PySem.W.codeIn K cd5 "_law_is_name" = true) (k5 : PySem.W.keepIn K (.ref f5) = true)
    (a6 : PySem.W.nsIn K mainGlobals "law" = some (some (.ref f6)))
    (l6 : K.lookup f6 = some ⟨oc6, od6, .func (PySem.W.fnOf "law" "law" (defArgs sLaw) (defBody sLaw) (defScope sLaw) .none kV6 dc6 pm6 an6 cd6 ct6), sl6⟩)
    (c6 : PySem.W.codeIn K cd6 "law" = true) (k6 : PySem.W.keepIn K (.ref f6) = true)
    (z_list : PySem.W.nsIn K mainGlobals "list" = some none)
    (z_len : PySem.W.nsIn K mainGlobals "len" = some none)
    (z_max : PySem.W.nsIn K mainGlobals "max" = some none)
    (z_isinstance : PySem.W.nsIn K mainGlobals "isinstance" = some none)
    (z_tuple : PySem.W.nsIn K mainGlobals "tuple" = some none)
    (z_all : PySem.W.nsIn K mainGlobals "all" = some none)
    (z_zip : PySem.W.nsIn K mainGlobals "zip" = some none)
    (z_bool : PySem.W.nsIn K mainGlobals "bool" = some none)
    (z_int : PySem.W.nsIn K mainGlobals "int" = some none)
    (z_str : PySem.W.nsIn K mainGlobals "str" = some none)
    (z_range : PySem.W.nsIn K mainGlobals "range" = some none)
    (q_LONGEST_NAME : PySem.W.nsIn K mainGlobals "LONGEST_NAME" = some (some (.int 8 tk_LONGEST_NAME)))
    (q_SMALL_LETTERS : PySem.W.nsIn K mainGlobals "SMALL_LETTERS" = some (some (.str abc tk_SMALL_LETTERS)))
    : ∃ fd : FuncData, (∀ (s : Shared) (v : Value), BindsTo s fd ⟨[v], []⟩ [("_law_script", v)]) ∧ ∀ base : Heap, K.In base → base.Ns mainGlobals mg → FnOk l.prog w K mg base CX0 3 fa fd ["_law_script"] (spLaw K) := by
  have e := hfa.symm.trans (PySem.W.mg_of X G a6)
  cases e
  have F0 := fun_mk (st := sBox) l0 c0 k0
  have b0 := F0.binds (ps := ["_law_script"]) fun _ _ _ _ _ _ us hl => match us, hl with | [_], _ => rfl
  have g0 := PySem.W.mg_of X G a0
  have F1 := fun_mk (st := sDraw) l1 c1 k1
  have b1 := F1.binds (ps := ["_law_box_here", "_law_many"]) fun _ _ _ _ _ _ us hl => match us, hl with | [_, _], _ => rfl
  have g1 := PySem.W.mg_of X G a1
  have F2 := fun_mk (st := sOf) l2 c2 k2
  have b2 := F2.binds (ps := ["_law_box_here", "_law_some"]) fun _ _ _ _ _ _ us hl => match us, hl with | [_, _], _ => rfl
  have g2 := PySem.W.mg_of X G a2
  have F3 := fun_mk (st := sLike) l3 c3 k3
  have b3 := F3.binds (ps := ["_law_found", "_law_due"]) fun _ _ _ _ _ _ us hl => match us, hl with | [_, _], _ => rfl
  have g3 := PySem.W.mg_of X G a3
  have F4 := fun_mk (st := sIsName) l4 c4 k4
  have b4 := F4.binds (ps := ["text"]) fun _ _ _ _ _ _ us hl => match us, hl with | [_], _ => rfl
  have g4 := PySem.W.mg_of X G a4
  have F5 := fun_mk (st := sLawName) l5 c5 k5
  have b5 := F5.binds (ps := ["_law_text"]) fun _ _ _ _ _ _ us hl => match us, hl with | [_], _ => rfl
  have g5 := PySem.W.mg_of X G a5
  have F6 := fun_mk (st := sLaw) l6 c6 k6
  have n_list := PySem.W.mg_none_of X G z_list
  have n_len := PySem.W.mg_none_of X G z_len
  have n_max := PySem.W.mg_none_of X G z_max
  have n_isinstance := PySem.W.mg_none_of X G z_isinstance
  have n_tuple := PySem.W.mg_none_of X G z_tuple
  have n_all := PySem.W.mg_none_of X G z_all
  have n_zip := PySem.W.mg_none_of X G z_zip
  have n_bool := PySem.W.mg_none_of X G z_bool
  have n_int := PySem.W.mg_none_of X G z_int
  have n_str := PySem.W.mg_none_of X G z_str
  have n_range := PySem.W.mg_none_of X G z_range
  have cc_LONGEST_NAME := PySem.W.mg_of X G q_LONGEST_NAME
  have cc_SMALL_LETTERS := PySem.W.mg_of X G q_SMALL_LETTERS
  refine ⟨PySem.W.fnOf "law" "law" (defArgs sLaw) (defBody sLaw) (defScope sLaw) .none kV6 dc6 pm6 an6 cd6 ct6, fun s v => .of_eq rfl, fun base _ _ => ?_⟩
  exact ok_law F6 ⟨F0, F1, F2, F3, F4, F5, b0, b1, b2, b3, b4, b5, g0, g1, g2, g4, g5, ⟨n_isinstance, n_list, n_tuple, n_len, n_all, n_zip, n_bool, n_int, n_str, g3⟩, n_max, n_range, ⟨_, cc_LONGEST_NAME⟩, ⟨_, cc_SMALL_LETTERS⟩⟩
end Dk
open PySem PySem.W PyProof.Rows in
set_option maxRecDepth 100000 in
set_option maxHeartbeats 0 in
theorem PySem.Challenge.cw_darkthread_k01_names_told_holds : PySem.Challenge.rw_darkthread_k01_names_told.Holds := by
  w_on; o_law; k_head; (case hw => w_witness2)
  k_fill
  refine L2.walk_of (l := PySem.Challenge.rw_darkthread_k01_names_told) (n := 63) (k := 3) (x := "_law_script") (CX := fun _ => L2.CX0) (sp := fun w => Dk.spLaw _) rfl (by decide) rfl ⟨rfl, by decide, by decide⟩ (fun w h Y => PySem.W.kIn_of Y) ?F (fun _ _ a ns hl _ hS => ⟨a, ns, rfl, hS, hl, fun _ => rfl⟩) (fun _ _ _ _ _ h => h)
  case F =>
    intro w mg fa h KX G hmg
    refine' Dk.all_mk KX G hmg ?a0 ?l0 ?c0 ?k0 ?a1 ?l1 ?c1 ?k1 ?a2 ?l2 ?c2 ?k2 ?a3 ?l3 ?c3 ?k3 ?a4 ?l4 ?c4 ?k4 ?a5 ?l5 ?c5 ?k5 ?a6 ?l6 ?c6 ?k6 ?z_list ?z_len ?z_max ?z_isinstance ?z_tuple ?z_all ?z_zip ?z_bool ?z_int ?z_str ?z_range ?q_LONGEST_NAME ?q_SMALL_LETTERS
    (case a0 => k_is)
    (case l0 => k_is)
    (case c0 => k_is)
    (case k0 => k_is)
    (case a1 => k_is)
    (case l1 => k_is)
    (case c1 => k_is)
    (case k1 => k_is)
    (case a2 => k_is)
    (case l2 => k_is)
    (case c2 => k_is)
    (case k2 => k_is)
    (case a3 => k_is)
    (case l3 => k_is)
    (case c3 => k_is)
    (case k3 => k_is)
    (case a4 => k_is)
    (case l4 => k_is)
    (case c4 => k_is)
    (case k4 => k_is)
    (case a5 => k_is)
    (case l5 => k_is)
    (case c5 => k_is)
    (case k5 => k_is)
    (case a6 => k_is)
    (case l6 => k_is)
    (case c6 => k_is)
    (case k6 => k_is)
    (case z_list => k_is)
    (case z_len => k_is)
    (case z_max => k_is)
    (case z_isinstance => k_is)
    (case z_tuple => k_is)
    (case z_all => k_is)
    (case z_zip => k_is)
    (case z_bool => k_is)
    (case z_int => k_is)
    (case z_str => k_is)
    (case z_range => k_is)
    (case q_LONGEST_NAME => k_is)
    (case q_SMALL_LETTERS => k_is)
