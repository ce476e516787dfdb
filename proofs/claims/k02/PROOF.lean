import PyProof.Rows.All
import Wide.All
import OpenK.AllK
import Wide.FinOn
import HandS.ForMost
import HandS.Walk
import HandS.IsInst
import HandS.Zip
import HandS.Wide
import HandS.Flow
import HandS.Defaults
import HandS.Style
import HandS.DictComp
import HandS.Deep
import HandS.OwnEq
import HandS.DeepEq
import HandS.FStr
import KE.KCallOwn
import KE.KFmtOwn
import HandS.CallRecv
import PySem.Challenge.RW_darkthread_k02_houses_told
set_option Elab.async false
set_option linter.all false
set_option maxRecDepth 100000
set_option maxHeartbeats 4000000
namespace Dk
open PySem L2
/-! ### cuts: a piece is walked to a middle that the prover names -/
section
variable {X : Cx}
def tMid (t : TS) : TS := fun D s H => ∃ M : L2.St → Hp → Prop, t { D with nx := M } s H ∧ ∀ s' H', M s' H' → D.nx s' H'
theorem ps_mid {st : Stmt} {t : TS} (h : PS X st t) : PS X st (tMid t) := by
  refine ⟨fun pins s σ H D I q => ?_⟩
  obtain ⟨M, q1, q2⟩ := q
  refine thn (h.run pins s σ H { D with nx := M } I q1) fun f s1 z => ?_
  cases f with
  | next =>
    obtain ⟨σ', H', I', m⟩ := z
    exact ⟨σ', H', I', q2 _ _ m⟩
  | ret v => exact z
  | brk => exact z
  | cont => exact z
def eMid (t : TE) : TE := fun s H Q => ∃ M : VK, t s H M ∧ ∀ v H', M v H' → Q v H'
theorem pe_mid {e : Expr} {t : TE} (h : PE X e t) : PE X e (eMid t) := by
  refine ⟨fun pins s σ H Q I q => ?_⟩
  obtain ⟨M, q1, q2⟩ := q
  refine thn (h.run pins s σ H M I q1) fun u s1 z => ?_
  obtain ⟨v, H', I', r, m⟩ := z
  exact ⟨v, H', I', r, q2 _ _ m⟩
def bMid (t : TT) : TT := fun s H Q => ∃ M : Bool → Hp → Prop, t s H M ∧ ∀ b H', M b H' → Q b H'
theorem pt_mid {e : Expr} {t : TT} (h : PT X e t) : PT X e (bMid t) := by
  refine ⟨fun pins s σ H Q I q => ?_⟩
  obtain ⟨M, q1, q2⟩ := q
  refine thn (h.run pins s σ H M I q1) fun b s1 z => ?_
  obtain ⟨H', I', m⟩ := z
  exact ⟨H', I', q2 _ _ m⟩
end
/-! ### heaps -/
theorem same_new {H : Hp} {p : Addr} {o : HO} (h : H p = none) : Same H (upd H p o) := fun b x e => by
  rw [upd_ne (ne_of_none e h)]
  exact e
theorem upd_id {H : Hp} {p : Addr} {o : HO} (h : H p = some o) : upd H p o = H := by
  funext q
  by_cases e : q = p
  · rw [e, upd_same, h]
  · rw [upd_ne e]
theorem upd_upd {H : Hp} {p : Addr} {o u : HO} : upd (upd H p o) p u = upd H p u := by
  funext q
  by_cases e : q = p
  · rw [e, upd_same, upd_same]
  · rw [upd_ne e, upd_ne e, upd_ne e]
/-- all but b is as it was -/
def Sav (b : Addr) (H H' : Hp) : Prop := ∀ q o, q ≠ b → H q = some o → H' q = some o
theorem Sav.refl (b : Addr) (H : Hp) : Sav b H H := fun _ _ _ h => h
theorem Sav.trans {b : Addr} {H H1 H2 : Hp} (x : Sav b H H1) (y : Sav b H1 H2) : Sav b H H2 := fun q o n h => y q o n (x q o n h)
theorem Sav.of {b : Addr} {H H1 : Hp} (x : Same H H1) : Sav b H H1 := fun q o _ h => x q o h
theorem Sav.upd {b : Addr} {H : Hp} {o : HO} : Sav b H (upd H b o) := fun q x n h => by
  rw [upd_ne n]
  exact h
/-! ### the box of draws -/
def bxv (l : Addr) (i c s t : Int) : List V := [.ref l, .int i, .int c, .int s, .int t]
def Box (H : Hp) (b l : Addr) : Prop := ∃ (ns : List Int) (i c s t : Int),
  H b = some (.lst (bxv l i c s t)) ∧ H l = some (.lst (ns.map V.int)) ∧ 0 ≤ i ∧ 0 ≤ c ∧ 0 ≤ s ∧ s < 2147483629
theorem Box.ne {H : Hp} {b l : Addr} {ns : List Int} {i c s t : Int} (h1 : H b = some (.lst (bxv l i c s t))) (h2 : H l = some (.lst (ns.map V.int))) : l ≠ b := ne_of h2 h1 (by
  intro z
  cases ns with
  | nil => cases z
  | cons x r => cases z)
theorem Box.same {H H' : Hp} {b l : Addr} (h : Box H b l) (s : Same H H') : Box H' b l := by
  obtain ⟨ns, i, c, s0, t, h1, h2, r⟩ := h
  exact ⟨ns, i, c, s0, t, s _ _ h1, s _ _ h2, r⟩
theorem Box.new {H : Hp} {b l p : Addr} {o : HO} (h : Box H b l) (n : H p = none) : Box (upd H p o) b l := h.same (same_new n)
theorem Box.b1 {H : Hp} {b l p : Addr} (h : Box H b l) (n : H p = none) : p ≠ b := by
  obtain ⟨ns, i, c, s0, t, h1, h2, r⟩ := h
  exact (ne_of_none h1 n).symm
theorem Box.l1 {H : Hp} {b l p : Addr} (h : Box H b l) (n : H p = none) : p ≠ l := by
  obtain ⟨ns, i, c, s0, t, h1, h2, r⟩ := h
  exact (ne_of_none h2 n).symm
theorem Box.put {H : Hp} {b l p : Addr} {o : HO} (h : Box H b l) (n1 : p ≠ b) (n2 : p ≠ l) : Box (upd H p o) b l := by
  obtain ⟨ns, i, c, s0, t, h1, h2, r⟩ := h
  exact ⟨ns, i, c, s0, t, by rw [upd_ne n1.symm]; exact h1, by rw [upd_ne n2.symm]; exact h2, r⟩
/-- a draw below m: some number, the box turned on -/
def spDraw : Sp := fun vs H Q _ => ∃ (b l : Addr) (m : Int), vs = [.ref b, .int m] ∧ Box H b l ∧ 0 < m ∧ m.natAbs < 2 ^ 100 ∧
  ∀ (r : Int) (H' : Hp), 0 ≤ r → r < m → Sav b H H' → Box H' b l → Q (.int r) H'
end Dk
namespace Dk
open PySem L2
/-- a new box out of the script -/
def spBox (K : PySem.W.Frag) : Sp := fun vs H Q _ => ∃ (a : Addr) (ns : List Int), vs = [.ref a] ∧ SqL K H a (ns.map V.int) ∧
  ∀ (H' : Hp) (b l : Addr), Same H H' → H b = none → H l = none → Box H' b l → Q (.ref b) H'
/-- one of some -/
def spOf : Sp := fun vs H Q _ => ∃ (b l : Addr) (v : V), vs = [.ref b, v] ∧ Box H b l ∧
  ((∃ (p : Addr) (xs : List V), v = .ref p ∧ p ≠ b ∧ H p = some (.lst xs) ∧ 0 < xs.length ∧ xs.length ≤ 1000 ∧ ∀ (x : V) (H' : Hp), x ∈ xs → Sav b H H' → Box H' b l → Q x H') ∨
   (∃ z : Str, v = .str z ∧ 0 < z.length ∧ z.length ≤ 1000 ∧ ∀ (c : Nat) (H' : Hp), c ∈ z.cps.toList → Sav b H H' → Box H' b l → Q (.str ⟨#[c]⟩) H'))
theorem cut_ints (ns : List Int) (a b : Option Int) : ∃ ms : List Int, cutV (ns.map V.int) a b = ms.map V.int := by
  refine ⟨(ns.drop (HT.sIx (ns.map V.int).length 0 a)).take (HT.sIx (ns.map V.int).length (ns.map V.int).length b - HT.sIx (ns.map V.int).length 0 a), ?_⟩
  unfold cutV
  rw [List.map_take, List.map_drop]
theorem at_some {α : Type} {xs : List α} {r : Int} (h0 : 0 ≤ r) (h1 : r < (xs.length : Int)) : ∃ x, x ∈ xs ∧ atI xs r = some x := by
  have e : ((r.toNat : Nat) : Int) = r := Int.toNat_of_nonneg h0
  have hl : r.toNat < xs.length := by omega
  refine ⟨xs[r.toNat], List.getElem_mem hl, ?_⟩
  have z := atI_nat (List.getElem?_eq_getElem hl)
  rw [e] at z
  exact z
theorem small {n : Nat} (h : n ≤ 1000) : ((n : Nat) : Int).natAbs < 2 ^ 100 := by
  have e : ((n : Nat) : Int).natAbs = n := rfl
  rw [e]
  exact Nat.lt_of_le_of_lt h (by decide)
end Dk
namespace Dk
open PySem L2
/-- two values of the same plain data, n deep at most -/
def Lk : Nat → Hp → V → V → Prop
  | 0, _, _, _ => False
  | n + 1, H, v, u => (v = u ∧ flatV v = true) ∨ ∃ (a b : Addr) (xs ys : List V), v = .ref a ∧ u = .ref b ∧ xs.length = ys.length ∧ xs.length ≤ 1000 ∧
      (H a = some (.lst xs) ∧ H b = some (.lst ys) ∨ H a = some (.tup xs) ∧ H b = some (.tup ys)) ∧ ∀ (i : Nat) (x y : V), xs[i]? = some x → ys[i]? = some y → Lk n H x y
theorem Lk.same : ∀ {n : Nat} {H H' : Hp} {v u : V}, Same H H' → Lk n H v u → Lk n H' v u
  | 0, _, _, _, _, _, h => h
  | n + 1, H, H', v, u, s, h => by
    rcases h with h | ⟨a, b, xs, ys, e1, e2, e3, e4, e5, e6⟩
    · exact .inl h
    · refine .inr ⟨a, b, xs, ys, e1, e2, e3, e4, ?_, fun i x y h1 h2 => (e6 i x y h1 h2).same s⟩
      rcases e5 with ⟨x, y⟩ | ⟨x, y⟩
      · exact .inl ⟨s _ _ x, s _ _ y⟩
      · exact .inr ⟨s _ _ x, s _ _ y⟩
def spLike (n : Nat) : Sp := fun vs H Q _ => ∃ v u : V, vs = [v, u] ∧ Lk n H v u ∧ ∀ H', Same H H' → Q (.bl true) H'
theorem walk_zipT {K : PySem.W.Frag} {a b : Addr} {xs ys : List V} {n : Nat} (hn : n = min xs.length ys.length) : Walk (RZ.ItzT K a b) n (fun H => SqT K H a xs ∧ SqT K H b ys) (YPair (fun i => xs[i]?) (fun i => ys[i]?)) := by
  subst hn
  refine ⟨fun i H hi g => ?_, fun H g => ⟨xs, ys, g.1, g.2, by omega⟩, fun i H v H' _ g y => ?_⟩
  · have h1 : i < xs.length := by omega
    have h2 : i < ys.length := by omega
    exact ⟨xs, ys, _, _, g.1, g.2, List.getElem?_eq_getElem h1, List.getElem?_eq_getElem h2⟩
  · obtain ⟨T, x, z, h1, h2, h3, h4, h5⟩ := y
    exact ⟨T, x, z, h1, h2, h3, h4 _ g.1, h5 _ g.2⟩
theorem all_true (n : Nat) : (List.replicate n true).all id = true := by
  induction n with
  | zero => rfl
  | succ n ih =>
    rw [List.replicate_succ, List.all_cons, ih]
    rfl
end Dk
namespace Dk
open PySem L2
/-! ### names -/
def abc : Str := Str.ofString "abcdefghijklmnopqrstuvwxyz"
def isNm (z : Str) : Bool := decide (1 ≤ z.length ∧ z.length ≤ 8) && z.cps.toList.all fun c => decide (c ∈ abc.cps.toList)
def spName : Sp := fun vs H Q _ => ∃ z : Str, vs = [.str z] ∧ z.length ≤ 1000 ∧ ∀ H', Same H H' → Q (.bl (isNm z)) H'
theorem len_str (z : Str) : z.cps.toList.length = z.length := by simp [Str.length]
/-- the list that the comprehension over the signs leaves -/
def inAbc (z : Str) (i : Nat) : List Bool := (z.cps.toList.take i).map fun c => decide (c ∈ abc.cps.toList)
theorem inAbc_succ {z : Str} {i c : Nat} (h : z.cps[i]? = some c) : inAbc z (i + 1) = inAbc z i ++ [decide (c ∈ abc.cps.toList)] := by
  have e : z.cps.toList[i]? = some c := by
    rw [Array.getElem?_toList]
    exact h
  unfold inAbc
  rw [List.take_add_one, e, List.map_append]
  rfl
theorem inAbc_all (z : Str) : (inAbc z z.cps.size).all id = z.cps.toList.all fun c => decide (c ∈ abc.cps.toList) := by
  unfold inAbc
  rw [List.take_of_length_le (by simp), List.all_map]
  rfl
theorem inAbc_len {z : Str} {i : Nat} (h : z.length ≤ 1000) : ((inAbc z i).map V.bl).length < sizeLine := by
  unfold inAbc
  rw [List.length_map, List.length_map, List.length_take, len_str]
  exact small1000 (by omega)
theorem nm_in {z : Str} {b : Bool} (h : decide (1 ≤ z.length ∧ z.length ≤ 8) = b) : isNm z = (b && z.cps.toList.all fun c => decide (c ∈ abc.cps.toList)) := by
  unfold isNm
  rw [h]
/-- joined texts are no longer than their parts together -/
theorem join_len (sep : Str) : ∀ ys : List Str, (Str.join sep ys).length ≤ (ys.map (·.length)).sum + ys.length * sep.length
  | [] => Nat.zero_le _
  | [x] => by
    show x.length ≤ _
    simp
  | x :: y :: r => by
    have ih := join_len sep (y :: r)
    show (x ++ sep ++ Str.join sep (y :: r)).length ≤ _
    rw [Str.length_append, Str.length_append]
    simp only [List.map_cons, List.sum_cons, List.length_cons] at ih ⊢
    rw [Nat.add_mul (r.length + 1) 1, Nat.one_mul]
    omega
end Dk
namespace Dk
open PySem L2
/-! ### a text taken none or one time -/
section
variable {X : Cx}
theorem op_mul01 : OpR X (binaryOp .Mult) (fun x y H Q => ∃ (z : Str) (k : Int), x = .str z ∧ y = .int k ∧ (k = 0 ∨ k = 1) ∧ Q (.str (if k = 1 then z else Str.empty)) H) := by
  intro pins s σ H x y v u Q I rx ry h
  obtain ⟨z, k, rfl, rfl, hk, q⟩ := h
  obtain ⟨t, rfl⟩ := rx
  obtain ⟨t', rfl⟩ := ry
  rcases hk with rfl | rfl
  · exact PySem.P.mul_str_none (by decide) (by decide) ⟨.str Str.empty, H, I.tok _, ⟨_, rfl⟩, q⟩
  · exact PySem.P.mul_str rfl (fun _ e => by cases e) (fun _ e => by cases e) ⟨.str z, H, I, ⟨_, rfl⟩, q⟩
end
/-! ### drawn names -/
def sgn (a c : Int) (k : Nat) : Str := ⟨#[97 + ((a + c * k) % 26).toNat]⟩
def nmAt (a c : Int) (t : Str) (p : Int) (k : Nat) : Str :=
  if p = 0 then sgn a c k ++ t else if p = 1 then t ++ sgn a c k else sgn a c k ++ (if ((k : Int) % 2) = 1 then t else Str.empty)
def nms (a c : Int) (t : Str) (p : Int) (n : Nat) : List Str := (List.range n).map (nmAt a c t p)
theorem nms_succ (a c : Int) (t : Str) (p : Int) (n : Nat) : nms a c t p (n + 1) = nms a c t p n ++ [nmAt a c t p n] := by
  unfold nms
  rw [List.range_succ, List.map_append]
  rfl
theorem nms_len (a c : Int) (t : Str) (p : Int) (n : Nat) : (nms a c t p n).length = n := by
  unfold nms
  rw [List.length_map, List.length_range]
theorem abc_at : ∀ i : Nat, i < 26 → abc.cps.toList[i]? = some (97 + i) := by decide +kernel
theorem abc_mem {i : Nat} (h : i < 26) : 97 + i ∈ abc.cps.toList := List.mem_of_getElem? (abc_at i h)
theorem mod26 (x : Int) : (x % 26).toNat < 26 ∧ (((x % 26).toNat : Nat) : Int) = x % 26 := by
  have h1 : 0 ≤ x % 26 := Int.emod_nonneg _ (by decide)
  have h2 : x % 26 < 26 := Int.emod_lt_of_pos _ (by decide)
  omega
theorem isNm_of {z : Str} (h1 : 1 ≤ z.length) (h2 : z.length ≤ 8) (h3 : ∀ c ∈ z.cps.toList, c ∈ abc.cps.toList) : isNm z = true := by
  unfold isNm
  rw [decide_eq_true ⟨h1, h2⟩, Bool.true_and, List.all_eq_true]
  exact fun c hc => decide_eq_true (h3 c hc)
theorem cps_app (a b : Str) : (a ++ b).cps.toList = a.cps.toList ++ b.cps.toList := by
  rw [Str.cps_append, Array.toList_append]
/-- a drawn tail: at most seven small letters -/
def Tail (t : Str) : Prop := t.length ≤ 7 ∧ (∀ c ∈ t.cps.toList, c ∈ abc.cps.toList) ∧ t.length ≠ 5 ∧ t.length ≠ 6
theorem tail_empty : Tail Str.empty := ⟨by decide, (fun c hc => by cases hc), by decide, by decide⟩
theorem sgn_in (a c : Int) (k : Nat) : ∀ d ∈ (sgn a c k).cps.toList, d ∈ abc.cps.toList := by
  intro d hd
  have e : d = 97 + ((a + c * k) % 26).toNat := List.mem_singleton.mp hd
  rw [e]
  exact abc_mem (mod26 _).1
theorem nm_cat {x y : Str} (h : x.length + y.length ≤ 8) (h0 : 1 ≤ x.length + y.length) (hx : ∀ c ∈ x.cps.toList, c ∈ abc.cps.toList) (hy : ∀ c ∈ y.cps.toList, c ∈ abc.cps.toList) : isNm (x ++ y) = true := by
  refine isNm_of (by rw [Str.length_append]; exact h0) (by rw [Str.length_append]; exact h) ?_
  intro c hc
  rw [cps_app] at hc
  rcases List.mem_append.mp hc with h | h
  · exact hx c h
  · exact hy c h
theorem sgn_len (a c : Int) (k : Nat) : (sgn a c k).length = 1 := rfl
theorem nmAt_name {a c : Int} {t : Str} {p : Int} (k : Nat) (ht : Tail t) : isNm (nmAt a c t p k) = true := by
  obtain ⟨h1, h2, _⟩ := ht
  unfold nmAt
  split
  · exact nm_cat (by rw [sgn_len]; omega) (by rw [sgn_len]; omega) (sgn_in a c k) h2
  · split
    · exact nm_cat (by rw [sgn_len]; omega) (by rw [sgn_len]; omega) h2 (sgn_in a c k)
    · split
      · exact nm_cat (by rw [sgn_len]; omega) (by rw [sgn_len]; omega) (sgn_in a c k) h2
      · exact nm_cat (by rw [sgn_len]; show 1 + 0 ≤ 8; decide) (by rw [sgn_len]; show 1 ≤ 1 + 0; decide) (sgn_in a c k) (fun c hc => by cases hc)
theorem step_inj {a c : Int} (hc : c = 1 ∨ c = 3 ∨ c = 5 ∨ c = 7 ∨ c = 9 ∨ c = 11) {j k : Nat} (hj : j < 26) (hk : k < 26) (h : ((a + c * j) % 26).toNat = ((a + c * k) % 26).toNat) : j = k := by
  have h1 := (mod26 (a + c * j)).2
  have h2 := (mod26 (a + c * k)).2
  rcases hc with rfl | rfl | rfl | rfl | rfl | rfl <;> omega
theorem nmAt_inj {a c : Int} {t : Str} {p : Int} (hc : c = 1 ∨ c = 3 ∨ c = 5 ∨ c = 7 ∨ c = 9 ∨ c = 11) {j k : Nat} (hj : j < 26) (hk : k < 26) (h : nmAt a c t p j = nmAt a c t p k) : j = k := by
  have h' : (nmAt a c t p j).cps.toList = (nmAt a c t p k).cps.toList := by rw [h]
  unfold nmAt at h'
  refine step_inj hc hj hk (a := a) ?_
  have key : ∀ {x y : Nat} {r s : List Nat}, x :: r = y :: s → x = y := fun e => (List.cons.inj e).1
  by_cases p0 : p = 0
  · rw [if_pos p0, if_pos p0, cps_app, cps_app] at h'
    have := key h'
    omega
  · rw [if_neg p0, if_neg p0] at h'
    by_cases p1 : p = 1
    · rw [if_pos p1, if_pos p1, cps_app, cps_app] at h'
      have e := List.append_cancel_left h'
      have := key e
      omega
    · rw [if_neg p1, if_neg p1, cps_app, cps_app] at h'
      have := key h'
      omega
theorem nms_nodup {a c : Int} {t : Str} {p : Int} (hc : c = 1 ∨ c = 3 ∨ c = 5 ∨ c = 7 ∨ c = 9 ∨ c = 11) : ∀ {n : Nat}, n ≤ 26 → (nms a c t p n).Nodup
  | 0, _ => List.nodup_nil
  | n + 1, hn => by
    rw [nms_succ, List.nodup_append]
    refine ⟨nms_nodup hc (by omega), by simp, fun x hx y hy e => ?_⟩
    rw [List.mem_singleton.mp hy] at e
    unfold nms at hx
    obtain ⟨k, hk, rfl⟩ := List.mem_map.mp hx
    have h1 := List.mem_range.mp hk
    have h2 := nmAt_inj hc (by omega) (by omega) e
    omega
theorem nms_all {a c : Int} {t : Str} {p : Int} (ht : Tail t) (n : Nat) : ∀ z ∈ nms a c t p n, isNm z = true := by
  intro z hz
  unfold nms at hz
  obtain ⟨k, _, rfl⟩ := List.mem_map.mp hz
  exact nmAt_name k ht
/-- no drawn name has six or seven letters -/
def LenOk (z : Str) : Prop := z.length ≠ 6 ∧ z.length ≠ 7
theorem nms_lens {a c : Int} {t : Str} {p : Int} (ht : Tail t) (n : Nat) : ∀ z ∈ nms a c t p n, LenOk z := by
  intro z hz
  unfold nms at hz
  obtain ⟨k, _, rfl⟩ := List.mem_map.mp hz
  obtain ⟨h1, _, h3, h4⟩ := ht
  have e0 : Str.empty.length = 0 := rfl
  unfold LenOk nmAt
  split
  · rw [Str.length_append, sgn_len]
    omega
  · split
    · rw [Str.length_append, sgn_len]
      omega
    · rw [Str.length_append, sgn_len]
      split
      · omega
      · omega
theorem sgn_at (a c : Int) (i : Nat) : atI abc.cps.toList ((a + c * (0 + (i : Int))) % 26) = some (97 + ((a + c * i) % 26).toNat) := by
  obtain ⟨h1, h2⟩ := mod26 (a + c * i)
  have z := atI_nat (abc_at _ h1)
  rw [h2] at z
  rw [Int.zero_add]
  exact z
theorem pick3 {a c : Int} {t : Str} {p : Int} {i : Nat} (h0 : 0 ≤ p) (h1 : p < 3) : atI [V.str (sgn a c i ++ t), V.str (t ++ sgn a c i), V.str (sgn a c i ++ (if ((0 + (i : Int)) % 2) = 1 then t else Str.empty))] p = some (V.str (nmAt a c t p i)) := by
  rw [Int.zero_add]
  have e : p = 0 ∨ p = 1 ∨ p = 2 := by omega
  rcases e with rfl | rfl | rfl <;> rfl
theorem Sav.free {b : Addr} {H H' : Hp} (s : Sav b H H') {g : Addr} (n : g ≠ b) (h : H' g = none) : H g = none := by
  cases e : H g with
  | none => rfl
  | some z =>
    rw [s g z n e] at h
    cases h
theorem tail_len {t : Str} {a c : Int} {i : Nat} (h : Tail t) : (sgn a c i).length + t.length ≤ sizeLine ∧ t.length + (sgn a c i).length ≤ sizeLine := by
  have h1 := h.1
  rw [sgn_len]
  have h2 : 8 ≤ sizeLine := by decide
  omega
/-- a list of m unlike names -/
def Names (zs : List Str) : Prop := zs.Nodup ∧ ∀ z ∈ zs, isNm z = true
def spNames : Sp := fun vs H Q _ => ∃ (b l : Addr) (m : Int), vs = [.ref b, .int m] ∧ Box H b l ∧ 0 ≤ m ∧ m ≤ 26 ∧
  ∀ (H' : Hp) (p : Addr) (zs : List Str), Sav b H H' → Box H' b l → H p = none → H' p = some (.lst (zs.map V.str)) → zs.length = m.toNat → Names zs → (∀ z ∈ zs, LenOk z) → Q (.ref p) H'
end Dk
namespace Dk
open PySem L2
theorem Same.tup {K : PySem.W.Frag} {H H' : Hp} {a : Addr} {xs : List V} (e : Same H H') (h : SqT K H a xs) : SqT K H' a xs := by
  rcases h with (h | ⟨o, h⟩) | h
  · exact .inl (.inl (e _ _ h))
  · exact .inl (.inr ⟨o, e _ _ h⟩)
  · exact .inr h
/-- a list or a tuple -/
def Sq (K : PySem.W.Frag) (H : Hp) (a : Addr) (xs : List V) : Prop := SqL K H a xs ∨ SqT K H a xs
theorem Sq.same {K : PySem.W.Frag} {H H' : Hp} {a : Addr} {xs : List V} (h : Sq K H a xs) (e : Same H H') : Sq K H' a xs := by
  rcases h with h | h
  · exact .inl (e.seq h)
  · exact .inr (Same.tup e h)
/-! ### places -/
def plc (xs : List V) (n : Int) : V := xs.getD (n % (xs.length : Int)).toNat .non
def trn (xs : List V) : List V := (List.range xs.length).map fun (i : Nat) => plc xs (-(i : Int))
theorem modlen {n : Nat} (h : 0 < n) (x : Int) : (x % (n : Int)).toNat < n ∧ (((x % (n : Int)).toNat : Nat) : Int) = x % (n : Int) := by
  have h1 : 0 ≤ x % (n : Int) := Int.emod_nonneg _ (by omega)
  have h2 : x % (n : Int) < n := Int.emod_lt_of_pos _ (by omega)
  omega
theorem plc_at {xs : List V} (h : 0 < xs.length) (n : Int) : atI xs (n % (xs.length : Int)) = some (plc xs n) := by
  obtain ⟨h1, h2⟩ := modlen h n
  have e : xs[(n % (xs.length : Int)).toNat]? = some (plc xs n) := by
    unfold plc
    rw [List.getD_eq_getElem?_getD, List.getElem?_eq_getElem h1]
    rfl
  have z := atI_nat e
  rw [h2] at z
  exact z
theorem plc_mem {xs : List V} (h : 0 < xs.length) (n : Int) : plc xs n ∈ xs := by
  obtain ⟨h1, _⟩ := modlen h n
  unfold plc
  rw [List.getD_eq_getElem?_getD, List.getElem?_eq_getElem h1]
  exact List.getElem_mem h1
theorem trn_len (xs : List V) : (trn xs).length = xs.length := by
  unfold trn
  rw [List.length_map, List.length_range]
theorem trn_get {xs : List V} {i : Nat} (h : i < xs.length) : (trn xs)[i]? = some (plc xs (-(i : Int))) := by
  unfold trn
  rw [List.getElem?_map, List.getElem?_range h]
  rfl
theorem neg_neg_mod (b n : Int) : (-((-b) % n)) % n = b % n := by
  have h := Int.emod_add_mul_ediv (-b) n
  have e : -((-b) % n) = b + n * ((-b) / n) := by omega
  rw [e, Int.add_mul_emod_self_left]
theorem plc_trn {xs : List V} (h : 0 < xs.length) (b : Int) : plc (trn xs) (-b) = plc xs b := by
  obtain ⟨h1, h2⟩ := modlen h (-b)
  have e1 : plc (trn xs) (-b) = plc xs (-(((-b) % (xs.length : Int)).toNat : Int)) := by
    show (trn xs).getD ((-b) % ((trn xs).length : Int)).toNat .non = _
    rw [trn_len, List.getD_eq_getElem?_getD, trn_get h1]
    rfl
  rw [e1, h2]
  show xs.getD ((-((-b) % (xs.length : Int))) % (xs.length : Int)).toNat .non = xs.getD (b % (xs.length : Int)).toNat .non
  rw [neg_neg_mod]
theorem trn_cons (x : V) (r : List V) : trn (x :: r) = x :: r.reverse := by
  refine List.ext_getElem? fun i => ?_
  by_cases hi : i < (x :: r).length
  · rw [trn_get hi]
    cases i with
    | zero => rfl
    | succ j =>
      have hj : j < r.length := by simpa using hi
      have e : (-(((j + 1 : Nat)) : Int)) % (((x :: r).length : Nat) : Int) = ((r.length - j : Nat) : Int) := by
        have e2 : (-(((j + 1 : Nat)) : Int)) = ((r.length - j : Nat) : Int) + (((x :: r).length : Nat) : Int) * (-1) := by
          rw [List.length_cons]
          omega
        rw [e2, Int.add_mul_emod_self_left, Int.emod_eq_of_lt (by omega) (by rw [List.length_cons]; omega)]
      show some ((x :: r).getD ((-(((j + 1 : Nat)) : Int)) % (((x :: r).length : Nat) : Int)).toNat .non) = (x :: r.reverse)[j + 1]?
      rw [e, Int.toNat_natCast, List.getElem?_cons_succ, List.getElem?_reverse hj, List.getD_eq_getElem?_getD]
      have e3 : r.length - j = (r.length - 1 - j) + 1 := by omega
      rw [e3, List.getElem?_cons_succ, List.getElem?_eq_getElem (by omega)]
      rfl
  · rw [List.getElem?_eq_none (by rw [trn_len]; omega), List.getElem?_eq_none (by simp at hi ⊢; omega)]
theorem trn_trn : ∀ {xs : List V}, 0 < xs.length → trn (trn xs) = xs
  | [], h => by cases h
  | x :: r, _ => by rw [trn_cons, trn_cons, List.reverse_reverse]
/-! ### plain lists, equal ones -/
theorem Lk.flat {n : Nat} {H : Hp} {v : V} (h : flatV v = true) : Lk (n + 1) H v v := .inl ⟨rfl, h⟩
theorem Lk.lst {n : Nat} {H : Hp} {a b : Addr} {xs : List V} (ha : H a = some (.lst xs)) (hb : H b = some (.lst xs)) (hl : xs.length ≤ 1000) (hf : ∀ x ∈ xs, flatV x = true) : Lk (n + 2) H (.ref a) (.ref b) := by
  refine .inr ⟨a, b, xs, xs, rfl, rfl, rfl, hl, .inl ⟨ha, hb⟩, fun i x y hx hy => ?_⟩
  have e : x = y := Option.some.inj (hx.symm.trans hy)
  rw [← e]
  exact Lk.flat (hf x (List.mem_of_getElem? hx))
theorem Lk.tup {n : Nat} {H : Hp} {a b : Addr} {xs : List V} (ha : H a = some (.tup xs)) (hb : H b = some (.tup xs)) (hl : xs.length ≤ 1000) (hf : ∀ x ∈ xs, flatV x = true) : Lk (n + 2) H (.ref a) (.ref b) := by
  refine .inr ⟨a, b, xs, xs, rfl, rfl, rfl, hl, .inr ⟨ha, hb⟩, fun i x y hx hy => ?_⟩
  have e : x = y := Option.some.inj (hx.symm.trans hy)
  rw [← e]
  exact Lk.flat (hf x (List.mem_of_getElem? hx))
theorem flat_strs {zs : List Str} : ∀ x ∈ zs.map V.str, flatV x = true := by
  intro x hx
  obtain ⟨z, _, rfl⟩ := List.mem_map.mp hx
  rfl
theorem str_of {zs : List Str} {x : V} (h : x ∈ zs.map V.str) : ∃ z, z ∈ zs ∧ x = V.str z := by
  obtain ⟨z, hz, rfl⟩ := List.mem_map.mp h
  exact ⟨z, hz, rfl⟩
theorem dp_strs {K : PySem.W.Frag} {H : Hp} : ∀ zs : List Str, DpAll K H (zs.map V.str) (zs.map PyData.str)
  | [] => .nil
  | z :: r => .cons (.str z) (dp_strs r)
theorem nm_ok {z : Str} (h : isNm z = true) : PyData.strOk z = true := by
  unfold isNm at h
  rw [Bool.and_eq_true] at h
  have h2 := List.all_eq_true.mp h.2
  have key : ∀ c ∈ abc.cps.toList, 97 ≤ c ∧ c < 123 := by decide +kernel
  unfold PyData.strOk
  rw [Array.all_eq_true']
  intro c hc
  have h3 := key c (of_decide_eq_true (h2 c (Array.mem_toList_iff.mpr hc)))
  exact decide_eq_true (by omega)
theorem lay_strs : ∀ {zs : List Str}, (∀ z ∈ zs, PyData.strOk z = true) → PyData.canLayAll0 (zs.map PyData.str) = true ∧ PyData.depthAll (zs.map PyData.str) = 0
  | [], _ => ⟨rfl, rfl⟩
  | z :: r, h => by
    obtain ⟨h1, h2⟩ := lay_strs (zs := r) fun y hy => h y (List.mem_cons_of_mem _ hy)
    have h0 := h z List.mem_cons_self
    constructor
    · show (PyData.strOk z && PyData.canLayAll0 (r.map PyData.str)) = true
      rw [h0, h1]
      rfl
    · show max 0 (PyData.depthAll (r.map PyData.str)) = 0
      rw [h2]
      rfl
theorem shaped_strs {zs : List Str} (h : ∀ z ∈ zs, PyData.strOk z = true) : SeqAt.shaped (.tuple (zs.map PyData.str)) = true := by
  obtain ⟨h1, h2⟩ := lay_strs h
  unfold SeqAt.shaped
  have e1 : (PyData.tuple (zs.map PyData.str)).canLay0 = true := h1
  have e2 : (PyData.tuple (zs.map PyData.str)).depth = 1 := by
    show PyData.depthAll (zs.map PyData.str) + 1 = 1
    rw [h2]
  rw [e1, e2]
  rfl
end Dk
namespace Dk
open PySem L2
theorem cut_strs (zs : List Str) (a b : Option Int) : ∃ ms : List Str, cutV (zs.map V.str) a b = ms.map V.str ∧ (∀ m ∈ ms, m ∈ zs) ∧ ms.length ≤ zs.length := by
  refine ⟨(zs.drop (HT.sIx (zs.map V.str).length 0 a)).take (HT.sIx (zs.map V.str).length (zs.map V.str).length b - HT.sIx (zs.map V.str).length 0 a), ?_, ?_, ?_⟩
  · unfold cutV
    rw [List.map_take, List.map_drop]
  · intro m hm
    exact List.mem_of_mem_drop (List.mem_of_mem_take hm)
  · rw [List.length_take, List.length_drop]
    omega
theorem cut_tail (x : V) (r : List V) : cutV (x :: r) (some 1) none = r := by
  unfold cutV
  have h1 : HT.sIx (x :: r).length 0 (some 1) = 1 := by
    rw [show HT.sIx (x :: r).length 0 (some 1) = min 1 (x :: r).length from HT.sIx_nat (x :: r).length 0 1, List.length_cons]
    omega
  rw [h1, HT.sIx_none, List.length_cons]
  show r.take (r.length + 1 - 1) = r
  rw [Nat.add_sub_cancel, List.take_length]
theorem same2 {H : Hp} {p q : Addr} {o u : HO} (n1 : H p = none) (n2 : upd H p o q = none) : Same H (upd (upd H p o) q u) := (same_new n1).trans (same_new n2)
end Dk
namespace Dk
open PySem L2
theorem sign_of {x : V} (h : x ∈ [V.int (-1), V.int 1]) : ∃ i : Int, x = .int i ∧ (i = -1 ∨ i = 1) := by
  rcases List.mem_cons.mp h with rfl | h
  · exact ⟨_, rfl, .inl rfl⟩
  · rw [List.mem_singleton.mp h]
    exact ⟨_, rfl, .inr rfl⟩
theorem int_of {x : V} {m n : Int} (h : x ∈ [V.int m, V.int n]) : ∃ i : Int, x = .int i := by
  rcases List.mem_cons.mp h with rfl | h
  · exact ⟨_, rfl⟩
  · rw [List.mem_singleton.mp h]
    exact ⟨_, rfl⟩
end Dk
namespace Dk
open PySem L2
/-! ### pairs of texts -/
abbrev SS := Str × Str
def Pr (H : Hp) (x : V) (ab : SS) : Prop := ∃ q, x = V.ref q ∧ H q = some (.tup [.str ab.1, .str ab.2])
/-- values that are such pairs, one by one -/
def PL (H : Hp) (xs : List V) (ps : List SS) : Prop := xs.length = ps.length ∧ ∀ (i : Nat) (x : V) (ab : SS), xs[i]? = some x → ps[i]? = some ab → Pr H x ab
theorem Pr.same {H H' : Hp} {x : V} {ab : SS} (h : Pr H x ab) (e : Same H H') : Pr H' x ab := by
  obtain ⟨q, h1, h2⟩ := h
  exact ⟨q, h1, e _ _ h2⟩
theorem PL.same {H H' : Hp} {xs : List V} {ps : List SS} (h : PL H xs ps) (e : Same H H') : PL H' xs ps := ⟨h.1, fun i x ab h1 h2 => (h.2 i x ab h1 h2).same e⟩
/-- tuples stay where something else is written -/
def KeepT (H H' : Hp) : Prop := ∀ t xs, H t = some (.tup xs) → H' t = some (.tup xs)
theorem KeepT.of {H H' : Hp} (e : Same H H') : KeepT H H' := fun t xs h => e _ _ h
theorem KeepT.trans {H H1 H2 : Hp} (a : KeepT H H1) (b : KeepT H1 H2) : KeepT H H2 := fun t xs h => b t xs (a t xs h)
theorem KeepT.lst {H : Hp} {p : Addr} {o : HO} {xs : List V} (h : H p = some (.lst xs)) : KeepT H (upd H p o) := fun t ys e => by
  have n : t ≠ p := fun z => by
    rw [z, h] at e
    cases e
  rw [upd_ne n]
  exact e
theorem PL.keep {H H' : Hp} {xs : List V} {ps : List SS} (h : PL H xs ps) (e : KeepT H H') : PL H' xs ps := ⟨h.1, fun i x ab h1 h2 => by
  obtain ⟨q, h3, h4⟩ := h.2 i x ab h1 h2
  exact ⟨q, h3, e _ _ h4⟩⟩
theorem PL.nil {H : Hp} : PL H [] [] := ⟨rfl, fun i x ab h _ => by simp at h⟩
theorem PL.cons {H : Hp} {x : V} {ab : SS} {xs : List V} {ps : List SS} (h : Pr H x ab) (t : PL H xs ps) : PL H (x :: xs) (ab :: ps) := by
  refine ⟨by rw [List.length_cons, List.length_cons, t.1], fun i y cd h1 h2 => ?_⟩
  cases i with
  | zero =>
    rw [← Option.some.inj h1, ← Option.some.inj h2]
    exact h
  | succ i => exact t.2 i y cd h1 h2
theorem PL.tail {H : Hp} {x : V} {ab : SS} {xs : List V} {ps : List SS} (h : PL H (x :: xs) (ab :: ps)) : Pr H x ab ∧ PL H xs ps :=
  ⟨h.2 0 x ab rfl rfl, by have := h.1; simpa using this, fun i y cd h1 h2 => h.2 (i + 1) y cd h1 h2⟩
theorem PL.append {H : Hp} : ∀ {xs ys : List V} {ps qs : List SS}, PL H xs ps → PL H ys qs → PL H (xs ++ ys) (ps ++ qs)
  | [], _, [], _, _, h => h
  | [], _, _ :: _, _, h, _ => by cases h.1
  | _ :: _, _, [], _, h, _ => by cases h.1
  | x :: xs, ys, p :: ps, qs, h, h2 => PL.cons h.tail.1 (PL.append h.tail.2 h2)
theorem PL.snoc {H : Hp} {xs : List V} {ps : List SS} {x : V} {ab : SS} (h : PL H xs ps) (t : Pr H x ab) : PL H (xs ++ [x]) (ps ++ [ab]) := h.append (PL.cons t PL.nil)
theorem PL.at {H : Hp} {xs : List V} {ps : List SS} {i : Nat} {x : V} (h : PL H xs ps) (e : xs[i]? = some x) : ∃ ab, ps[i]? = some ab ∧ Pr H x ab := by
  have h1 : i < xs.length := (List.getElem?_eq_some_iff.mp e).1
  have h2 : i < ps.length := by rw [← h.1]; exact h1
  exact ⟨ps[i], List.getElem?_eq_getElem h2, h.2 i x _ e (List.getElem?_eq_getElem h2)⟩
/-! ### a pair among pairs -/
def pd (ab : SS) : PyData := .tuple [.str ab.1, .str ab.2]
theorem pr_dp {K : PySem.W.Frag} {H : Hp} {x : V} {ab : SS} (h : Pr H x ab) : Dp K H x (pd ab) := by
  obtain ⟨q, rfl, h2⟩ := h
  exact .tup (SqT.of h2) (.cons (.str _) (.cons (.str _) .nil))
theorem pl_dp {K : PySem.W.Frag} {H : Hp} : ∀ {xs : List V} {ps : List SS}, PL H xs ps → DpAll K H xs (ps.map pd)
  | [], [], _ => .nil
  | [], _ :: _, h => by cases h.1
  | _ :: _, [], h => by cases h.1
  | x :: xs, p :: ps, h => .cons (pr_dp h.tail.1) (pl_dp h.tail.2)
def okP (ab : SS) : Prop := PyData.strOk ab.1 = true ∧ PyData.strOk ab.2 = true
theorem pd_shaped {ab : SS} (h : okP ab) : SeqAt.shaped (pd ab) = true := shaped_strs (zs := [ab.1, ab.2]) (by
  intro z hz
  rcases List.mem_cons.mp hz with rfl | hz
  · exact h.1
  · rw [List.mem_singleton.mp hz]
    exact h.2)
theorem pds_lay : ∀ {ps : List SS}, (∀ p ∈ ps, okP p) → PyData.canLayAll0 (ps.map pd) = true ∧ PyData.depthAll (ps.map pd) ≤ 1
  | [], _ => ⟨rfl, Nat.zero_le _⟩
  | p :: r, h => by
    obtain ⟨h1, h2⟩ := pds_lay (ps := r) fun q hq => h q (List.mem_cons_of_mem _ hq)
    have h0 := h p List.mem_cons_self
    constructor
    · show ((pd p).canLay0 && PyData.canLayAll0 (r.map pd)) = true
      rw [h1, SeqAt.canLay_of_shaped (pd_shaped h0)]
      rfl
    · show max (pd p).depth (PyData.depthAll (r.map pd)) ≤ 1
      have e : (pd p).depth = 1 := rfl
      omega
theorem pds_shaped {ps : List SS} (h : ∀ p ∈ ps, okP p) : SeqAt.shaped (.list (ps.map pd)) = true := by
  obtain ⟨h1, h2⟩ := pds_lay h
  unfold SeqAt.shaped
  have e1 : (PyData.list (ps.map pd)).canLay0 = true := h1
  have e2 : (PyData.list (ps.map pd)).depth ≤ 64 := by
    show PyData.depthAll (ps.map pd) + 1 ≤ 64
    omega
  rw [e1, decide_eq_true e2]
  rfl
theorem eqv_pd (p q : SS) : PyData.eqv (pd p) (pd q) = decide (p = q) := by
  obtain ⟨a, b⟩ := p
  obtain ⟨c, d⟩ := q
  have e : PyData.eqv (pd (a, b)) (pd (c, d)) = ((a == c) && ((b == d) && true)) := by
    simp [pd, PyData.eqv, PyData.eqvAll]
  rw [e, Bool.and_true, Bool.eq_iff_iff, Bool.and_eq_true, beq_iff_eq, beq_iff_eq, decide_eq_true_eq, Prod.mk.injEq]
theorem any_pd (p : SS) : ∀ ps : List SS, ((ps.map pd).any fun z => PyData.eqv z (pd p)) = decide (p ∈ ps)
  | [] => by simp
  | q :: r => by
    rw [List.map_cons, List.any_cons, any_pd p r, eqv_pd, Bool.eq_iff_iff, Bool.or_eq_true, decide_eq_true_eq, decide_eq_true_eq, decide_eq_true_eq, List.mem_cons]
    constructor
    · rintro (h | h)
      · exact .inl h.symm
      · exact .inr h
    · rintro (h | h)
      · exact .inl h.symm
      · exact .inr h
/-! ### a text among texts -/
theorem in_strs (z : Str) : ∀ zs : List Str, inV (.str z) (zs.map V.str) = decide (z ∈ zs)
  | [] => by simp [inV]
  | y :: r => by
    have ih := in_strs z r
    unfold inV at ih ⊢
    rw [List.map_cons, List.any_cons, ih, Bool.eq_iff_iff, Bool.or_eq_true, decide_eq_true_eq, decide_eq_true_eq, List.mem_cons]
    show (y == z) = true ∨ _ ↔ _
    rw [beq_iff_eq]
    constructor
    · rintro (h | h)
      · exact .inl h.symm
      · exact .inr h
    · rintro (h | h)
      · exact .inl h.symm
      · exact .inr h
theorem flat_all (zs : List Str) : (zs.map V.str).all flatV = true := List.all_eq_true.mpr flat_strs
end Dk
namespace Dk
open PySem L2
/-! ### a dict of lists of texts, by the texts of a list -/
def kvs (zs : List Str) (as : List Addr) : List (Key × V) := (zs.zip as).map fun p => (Sum.inr p.1, V.ref p.2)
def LinkAt (H : Hp) (d : Addr) (zs : List Str) (f : Str → List Str) : Prop :=
  ∃ as : List Addr, as.length = zs.length ∧ H d = some (.dK (kvs zs as)) ∧ ∀ (i : Nat) (z : Str) (p : Addr), zs[i]? = some z → as[i]? = some p → H p = some (.lst ((f z).map V.str))
theorem LinkAt.same {H H' : Hp} {d : Addr} {zs : List Str} {f : Str → List Str} (h : LinkAt H d zs f) (e : Same H H') : LinkAt H' d zs f := by
  obtain ⟨as, h1, h2, h3⟩ := h
  exact ⟨as, h1, e _ _ h2, fun i z p a b => e _ _ (h3 i z p a b)⟩
theorem kvs_len (zs : List Str) (as : List Addr) (h : as.length = zs.length) : (kvs zs as).length = zs.length := by
  unfold kvs
  rw [List.length_map, List.length_zip, h, Nat.min_self]
theorem kvs_none {z : Str} : ∀ {zs : List Str} {as : List Addr}, z ∉ zs → valV (kvs zs as) (Sum.inr z : Key) = none
  | [], _, _ => rfl
  | _ :: _, [], _ => rfl
  | y :: zs, a :: as, h => by
    have h1 : ¬ ((Sum.inr y : Key) = Sum.inr z) := fun e => h (by rw [Sum.inr.inj e]; exact List.mem_cons_self)
    show valV ((Sum.inr y, V.ref a) :: kvs zs as) (Sum.inr z : Key) = none
    rw [valV_neg h1]
    exact kvs_none fun m => h (List.mem_cons_of_mem _ m)
theorem kvs_some : ∀ {zs : List Str} {as : List Addr} {i : Nat} {z : Str} {p : Addr}, zs.Nodup → zs[i]? = some z → as[i]? = some p → valV (kvs zs as) (Sum.inr z : Key) = some (V.ref p)
  | [], _, _, _, _, _, h, _ => by simp at h
  | _ :: _, [], _, _, _, _, _, h => by simp at h
  | y :: zs, a :: as, 0, z, p, _, h1, h2 => by
    have e1 : y = z := Option.some.inj h1
    have e2 : a = p := Option.some.inj h2
    subst e1
    subst e2
    exact valV_pos (p := ((Sum.inr y : Key), V.ref a)) rfl
  | y :: zs, a :: as, i + 1, z, p, nd, h1, h2 => by
    have hz : z ∈ zs := List.mem_of_getElem? (show zs[i]? = some z from h1)
    have h3 : ¬ ((Sum.inr y : Key) = Sum.inr z) := fun e => (List.nodup_cons.mp nd).1 (by rw [Sum.inr.inj e]; exact hz)
    show valV ((Sum.inr y, V.ref a) :: kvs zs as) (Sum.inr z : Key) = some (V.ref p)
    rw [valV_neg h3]
    exact kvs_some (List.nodup_cons.mp nd).2 h1 h2
theorem kvs_snoc {zs : List Str} {as : List Addr} (h : as.length = zs.length) (z : Str) (p : Addr) : kvs (zs ++ [z]) (as ++ [p]) = kvs zs as ++ [((Sum.inr z : Key), V.ref p)] := by
  unfold kvs
  rw [List.zip_append h.symm, List.map_append]
  rfl
theorem LinkAt.get {H : Hp} {d : Addr} {zs : List Str} {f : Str → List Str} {z : Str} (h : LinkAt H d zs f) (nd : zs.Nodup) (hz : z ∈ zs) : ∃ p : Addr, H p = some (.lst ((f z).map V.str)) ∧ ∀ H', Same H H' → DGet H' d (V.str z) (some (V.ref p)) := by
  obtain ⟨as, h1, h2, h3⟩ := h
  obtain ⟨i, hi, e⟩ := List.getElem_of_mem hz
  have hp : i < as.length := by rw [h1]; exact hi
  have e1 : zs[i]? = some z := by rw [List.getElem?_eq_getElem hi, e]
  have e2 : as[i]? = some as[i] := List.getElem?_eq_getElem hp
  refine ⟨as[i], h3 i z _ e1 e2, fun H' s => ?_⟩
  have g := DGet.k (k := (Sum.inr z : Key)) (s _ _ h2)
  rw [kvs_some nd e1 e2] at g
  exact g
/-! ### a loop over a list or a tuple -/
theorem for_sq {K : PySem.W.Frag} {j : Nat} {p : Addr} {xs : List V} {g : TG} {tb : TS} {D : Ends} {σ : L2.St} {H0 H : Hp} (hS : Sq K H0 p xs) (hv : σ[j]? = some (some (V.ref p))) (Pv : Nat → L2.St → Hp → Prop) (h0 : Pv 0 σ H) (hk : ∀ i σ H', Pv i σ H' → Same H0 H')
    (hs : ∀ i x σ H', xs[i]? = some x → Pv i σ H' → g x σ H' fun σ2 H2 => tb { D with nx := Pv (i + 1), ct := Pv (i + 1), bk := D.nx } σ2 H2) (hd : ∀ σ H', Pv xs.length σ H' → D.nx σ H') :
    tFor (fun σ H R => iList K (tVar j) σ H R ∨ iTup K (tVar j) σ H R) g tb D σ H := by
  have s0 := hk 0 σ H h0
  rcases hS with hS | hS
  · exact .inl ⟨_, hv, p, rfl, ⟨_, s0.seq hS⟩, for_list (K := K) (a := p) (xs := xs) Pv h0 (fun i σ H' _ h => (hk i σ H' h).seq hS) hs hd⟩
  · exact .inr ⟨_, hv, p, rfl, ⟨_, Same.tup s0 hS⟩, for_tup (K := K) (a := p) (xs := xs) Pv h0 (fun i σ H' _ h => Same.tup (hk i σ H' h) hS) hs hd⟩
theorem same_put {H H' : Hp} {p : Addr} {o : HO} (s : Same H H') (n : H p = none) : Same H (upd H' p o) := fun q x e => by
  rw [upd_ne (ne_of_none e n)]
  exact s _ _ e
theorem nodup_at {zs : List Str} (h : zs.Nodup) {i : Nat} {z : Str} (e : zs[i]? = some z) : z ∉ zs.take i := by
  intro hz
  obtain ⟨hi, ez⟩ := List.getElem?_eq_some_iff.mp e
  obtain ⟨j, hj, ej⟩ := List.getElem_of_mem hz
  rw [List.getElem_take] at ej
  have hji : j < i := by
    rw [List.length_take] at hj
    omega
  exact List.pairwise_iff_getElem.mp h j i (by omega) hi hji (by rw [ej, ez])
theorem take_snoc {zs : List Str} {i : Nat} {z : Str} (e : zs[i]? = some z) : zs.take (i + 1) = zs.take i ++ [z] := by
  rw [List.take_add_one, e]
  rfl
theorem str_at {zs : List Str} {i : Nat} {x : V} (e : (zs.map V.str)[i]? = some x) : ∃ z, zs[i]? = some z ∧ x = V.str z := by
  rw [List.getElem?_map] at e
  cases h : zs[i]? with
  | none =>
    rw [h] at e
    cases e
  | some z =>
    rw [h] at e
    exact ⟨z, rfl, (Option.some.inj e).symm⟩
section
variable {X : Cx}
theorem pi_any {tg iter : Expr} {w1 w2 : TI} (h1 : PI X tg iter w1) (h2 : PI X tg iter w2) : PI X tg iter (fun σ H R => w1 σ H R ∨ w2 σ H R) := ⟨fun pins s σ H R I h => h.elim (h1.run pins s σ H R I) (h2.run pins s σ H R I)⟩
end
/-! ### promises of the house's helpers -/
/-- an instance that has at least its names -/
def Nmd (C : Addr) (H : Hp) (h : Addr) (zs : List Str) : Prop := ∃ (dx n : Addr) (fs : List (Str × V)), H h = some (.ins C dx fs) ∧ fs.lookup ("names" : Str) = some (.ref n) ∧ fs.lookup ("has_room" : Str) = none ∧ H n = some (.lst (zs.map V.str))
theorem Nmd.same {C : Addr} {H H' : Hp} {h : Addr} {zs : List Str} (x : Nmd C H h zs) (e : Same H H') : Nmd C H' h zs := by
  obtain ⟨dx, n, fs, h1, h2, h3, h4⟩ := x
  exact ⟨dx, n, fs, e _ _ h1, h2, h3, e _ _ h4⟩
def spNewName : Sp := fun vs H Q _ => ∃ (z : Str) (o : Addr) (zs : List Str), vs = [.str z, .ref o] ∧ isNm z = true ∧ H o = some (.lst (zs.map V.str)) ∧ z ∉ zs ∧ ∀ H', Same H H' → Q .non H'
def spHas (C : Addr) : Sp := fun vs H Q _ => ∃ (h : Addr) (zs : List Str) (z : Str), vs = [.ref h, .str z] ∧ Nmd C H h zs ∧ Q (.bl (decide (z ∈ zs))) H
def spNeed (C : Addr) : Sp := fun vs H Q _ => ∃ (h : Addr) (zs : List Str) (z : Str), vs = [.ref h, .str z] ∧ Nmd C H h zs ∧ z ∈ zs ∧ Q .non H
def spNeeds (C : Addr) : Sp := fun vs H Q _ => ∃ (h : Addr) (zs : List Str) (y z : Str), vs = [.ref h, .str y, .str z] ∧ Nmd C H h zs ∧ y ∈ zs ∧ z ∈ zs ∧ Q .non H
def spNew (K : PySem.W.Frag) : Sp := fun vs H Q _ => ∃ (p : Addr) (zs : List Str), vs = [.ref p] ∧ Sq K H p (zs.map V.str) ∧ Names zs ∧ zs.length ≤ 1000 ∧ ∀ (H' : Hp) (n : Addr), Same H H' → H n = none → H' n = some (.lst (zs.map V.str)) → Q (.ref n) H'
def goodP (zs : List Str) (ab : SS) : Prop := ab.1 ∈ zs ∧ ab.2 ∈ zs ∧ ab.1 ≠ ab.2
def spNU (C : Addr) : Sp := fun vs H Q _ => ∃ (h : Addr) (zs : List Str) (y z : Str), vs = [.ref h, .str y, .str z] ∧ Nmd C H h zs ∧ y ∈ zs ∧ z ∈ zs ∧ y ≠ z ∧ Q .non H
def spUnlike (K : PySem.W.Frag) (C : Addr) : Sp := fun vs H Q _ => ∃ (h p : Addr) (zs : List Str) (xs : List V) (ps : List SS), vs = [.ref h, .ref p] ∧ Nmd C H h zs ∧ Sq K H p xs ∧ PL H xs ps ∧ xs.length ≤ 1000 ∧ (∀ ab ∈ ps, goodP zs ab) ∧
  ∀ (H' : Hp) (n : Addr) (ys : List V), Same H H' → H n = none → H' n = some (.lst ys) → PL H' ys ps → Q (.ref n) H'
/-- what of H' is new against H -/
def newPart (H H' : Hp) : Hp := fun x => match H x with
  | none => H' x
  | some _ => none
theorem new_at {H H' : Hp} {x : Addr} (h : H x = none) : newPart H H' x = H' x := by
  unfold newPart
  rw [h]
theorem new_old {H H' : Hp} {x : Addr} {o : HO} (h : H x = some o) : newPart H H' x = none := by
  unfold newPart
  rw [h]
theorem new_inv {H H' : Hp} {x : Addr} {o : HO} (h : newPart H H' x = some o) : H x = none ∧ H' x = some o := by
  cases e : H x with
  | none =>
    rw [new_at e] at h
    exact ⟨rfl, h⟩
  | some u =>
    rw [new_old e] at h
    cases h
theorem new_same (H H' : Hp) : Same (newPart H H') H' := fun q o h => (new_inv h).2
theorem new_up {H0 Ha Hb Hf : Hp} (s : Same H0 Ha) (h : ∀ q o, Ha q = none → Hb q = some o → Hf q = some o) : Same (newPart Ha Hb) (newPart H0 Hf) := fun q o e => by
  obtain ⟨h1, h2⟩ := new_inv e
  rw [new_at (s.free h1)]
  exact h q o h1 h2
def lnk (zs : List Str) (ps : List SS) (a : Str) : List Str := zs.filter fun b => decide ((a, b) ∈ ps)
def spLinked : Sp := fun vs H Q _ => ∃ (n p : Addr) (zs : List Str) (ys : List V) (ps : List SS), vs = [.ref n, .ref p] ∧ H n = some (.lst (zs.map V.str)) ∧ Names zs ∧ zs.length ≤ 1000 ∧ H p = some (.lst ys) ∧ PL H ys ps ∧ (∀ ab ∈ ps, okP ab) ∧
  ∀ (H' : Hp) (d : Addr), Same H H' → H d = none → LinkAt (newPart H H') d zs (lnk zs ps) → Q (.ref d) H'
theorem pred_ok {zs : List Str} (h : Names zs) {ab : SS} (g : goodP zs ab) : okP ab := ⟨nm_ok (h.2 _ g.1), nm_ok (h.2 _ g.2.1)⟩
theorem lnk_take {zs : List Str} {ps : List SS} {a b : Str} {i : Nat} (e : zs[i]? = some b) : lnk (zs.take (i + 1)) ps a = lnk (zs.take i) ps a ++ (if (a, b) ∈ ps then [b] else []) := by
  unfold lnk
  rw [List.take_add_one, e, List.filter_append]
  congr 1
  by_cases h : (a, b) ∈ ps
  · rw [if_pos h]
    show List.filter _ [b] = _
    simp [h]
  · rw [if_neg h]
    show List.filter _ [b] = _
    simp [h]
theorem lnk_len (zs : List Str) (ps : List SS) (a : Str) : (lnk zs ps a).length ≤ zs.length := List.length_filter_le _ _
end Dk
namespace Dk
open PySem L2
theorem nm_len {z : Str} (h : isNm z = true) : z.length ≤ 1000 := by
  unfold isNm at h
  rw [Bool.and_eq_true] at h
  have := (of_decide_eq_true h.1).2
  omega
end Dk
namespace Dk
open PySem L2
theorem dc_list {K : PySem.W.Frag} {a : Addr} {xs : List V} {g : TG} {tt : TT} {tk tv : TE} {vs : List Nat} {σ : L2.St} {H1 : Hp} {D : Addr} {Qd : Hp → Prop} (Pv : Nat → Hp → Prop) (h0 : Pv 0 (upd H1 D (.dK []))) (hl : ∀ i H, i ≤ xs.length → Pv i H → SqL K H a xs)
    (hs : ∀ i x H, xs[i]? = some x → Pv i H → g x (wipe σ vs) H fun s2 H2 => wipe s2 vs = wipe σ vs ∧ tt s2 H2 fun b H3 =>
      if b = true then tk s2 H3 fun y H4 => tv s2 H4 fun z H5 => ∃ ms k, y = kV k ∧ H5 D = some (.dK ms) ∧ ms.length < sizeLine ∧ Pv (i + 1) (upd H5 D (.dK (putK ms k z))) else Pv (i + 1) H3) (hd : ∀ H, Pv xs.length H → Qd H) :
    ∃ W : Nat → Nat → Hp → Prop, (∃ m, W 0 m (upd H1 D (.dK []))) ∧ ∀ i m H, W i m H →
      ((Itl K a).stop i H ∧ Qd H) ∨ ((Itl K a).go i H ∧ ∃ Nx : Hp → Prop, (∀ H', Nx H' → ∃ m', m' < m ∧ W (i + 1) m' H') ∧ ∀ x H', (Itl K a).yld i H x H' → g x (wipe σ vs) H' fun s2 H2 => wipe s2 vs = wipe σ vs ∧ tt s2 H2 fun b H3 =>
        if b = true then tk s2 H3 fun y H4 => tv s2 H4 fun z H5 => ∃ ms k, y = kV k ∧ H5 D = some (.dK ms) ∧ ms.length < sizeLine ∧ Nx (upd H5 D (.dK (putK ms k z))) else Nx H3) := by
  refine ⟨fun i m H => i + m = xs.length ∧ Pv i H, ⟨xs.length, by omega, h0⟩, ?_⟩
  rintro i m H ⟨em, p⟩
  have q := hl i H (by omega) p
  by_cases hlt : i < xs.length
  · refine .inr ⟨⟨xs, _, q, List.getElem?_eq_getElem hlt⟩, Pv (i + 1), fun H' p' => ⟨m - 1, by omega, by omega, p'⟩, fun x H' y => ?_⟩
    obtain ⟨e, y⟩ := y
    subst e
    exact hs i x _ (y xs q) p
  · have e : i = xs.length := by omega
    subst e
    exact .inl ⟨⟨xs, q, Nat.le_refl _⟩, hd H p⟩
end Dk
namespace Dk
open PySem L2
/-! ### a house as an object -/
def hf (n b v : Addr) : List (Str × V) := [(("names" : Str), V.ref n), (("behind" : Str), V.ref b), (("views" : Str), V.ref v)]
theorem nb_ : ¬ (("names" : Str) = "behind") := by decide +kernel
theorem nv_ : ¬ (("names" : Str) = "views") := by decide +kernel
theorem bv_ : ¬ (("behind" : Str) = "views") := by decide +kernel
theorem put_b (n b : Addr) : putF ("behind" : Str) (V.ref b) [(("names" : Str), V.ref n)] = [(("names" : Str), V.ref n), (("behind" : Str), V.ref b)] := by
  show (if ("names" : Str) = "behind" then _ else (("names" : Str), V.ref n) :: putF ("behind" : Str) (V.ref b) []) = _
  rw [if_neg nb_]
  rfl
theorem put_v (n b v : Addr) : putF ("views" : Str) (V.ref v) [(("names" : Str), V.ref n), (("behind" : Str), V.ref b)] = hf n b v := by
  show (if ("names" : Str) = "views" then _ else (("names" : Str), V.ref n) :: (if ("behind" : Str) = "views" then _ else (("behind" : Str), V.ref b) :: putF ("views" : Str) (V.ref v) [])) = _
  rw [if_neg nv_, if_neg bv_]
  rfl
theorem hf_n (n b v : Addr) : (hf n b v).lookup ("names" : Str) = some (V.ref n) := by
  rw [← put_v, lookup_putF, if_neg nv_, ← put_b, lookup_putF, if_neg nb_]
  exact List.lookup_cons_self
theorem hf_b (n b v : Addr) : (hf n b v).lookup ("behind" : Str) = some (V.ref b) := by
  rw [← put_v, lookup_putF, if_neg bv_, ← put_b, lookup_putF, if_pos rfl]
theorem hf_v (n b v : Addr) : (hf n b v).lookup ("views" : Str) = some (V.ref v) := by
  rw [← put_v, lookup_putF, if_pos rfl]
theorem one_no (n : Addr) {m : Str} (h1 : ¬ m = "names") : ([(("names" : Str), V.ref n)] : List (Str × V)).lookup m = none := by
  have e : putF ("names" : Str) (V.ref n) [] = [(("names" : Str), V.ref n)] := rfl
  rw [← e, lookup_putF, if_neg h1]
  rfl
theorem hf_no (n b v : Addr) {m : Str} (h1 : ¬ m = "names") (h2 : ¬ m = "behind") (h3 : ¬ m = "views") : (hf n b v).lookup m = none := by
  rw [← put_v, lookup_putF, if_neg h3, ← put_b, lookup_putF, if_neg h2]
  have e : putF ("names" : Str) (V.ref n) [] = [(("names" : Str), V.ref n)] := rfl
  rw [← e, lookup_putF, if_neg h1]
  rfl
/-- a whole house: its rooms, what is behind the doors of each, what each sees -/
def HouseAt (C : Addr) (H : Hp) (h : Addr) (zs : List Str) (bh vw : Str → List Str) : Prop :=
  ∃ dx n b v : Addr, H h = some (.ins C dx (hf n b v)) ∧ H n = some (.lst (zs.map V.str)) ∧ LinkAt H b zs bh ∧ LinkAt H v zs vw ∧ Names zs ∧ zs.length ≤ 8
theorem HouseAt.same {C : Addr} {H H' : Hp} {h : Addr} {zs : List Str} {bh vw : Str → List Str} (x : HouseAt C H h zs bh vw) (e : Same H H') : HouseAt C H' h zs bh vw := by
  obtain ⟨dx, n, b, v, h1, h2, h3, h4, h5⟩ := x
  exact ⟨dx, n, b, v, e _ _ h1, e _ _ h2, h3.same e, h4.same e, h5⟩
def swp (ps : List SS) : List SS := ps.map fun p => (p.2, p.1)
def both (ds : List SS) : List SS := ds ++ swp ds
def spInit (K : PySem.W.Frag) (C : Addr) : Sp := fun vs H Q _ => ∃ (H0 : Hp) (x dx r d s : Addr) (zs : List Str) (xs us : List V) (ds ss : List SS), vs = [.ref x, .ref r, .ref d, .ref s] ∧ Same H0 H ∧ H0 x = none ∧ H x = some (.ins C dx []) ∧
  Sq K H0 r (zs.map V.str) ∧ Names zs ∧ zs.length ≤ 8 ∧ Sq K H0 d xs ∧ PL H0 xs ds ∧ xs.length ≤ 400 ∧ (∀ ab ∈ ds, goodP zs ab) ∧ Sq K H0 s us ∧ PL H0 us ss ∧ us.length ≤ 400 ∧ (∀ ab ∈ ss, goodP zs ab) ∧
  ∀ H', Same H0 H' → HouseAt C (newPart H0 H') x zs (lnk zs (both ds)) (lnk zs ss) → Q .non H'
theorem LinkAt.put {H : Hp} {d x : Addr} {o : HO} {zs : List Str} {f : Str → List Str} (h : LinkAt H d zs f) {C dx : Addr} {fs : List (Str × V)} (hx : H x = some (.ins C dx fs)) : LinkAt (upd H x o) d zs f := by
  obtain ⟨as, h1, h2, h3⟩ := h
  refine ⟨as, h1, ?_, fun i z p a b => ?_⟩
  · rw [upd_ne (fun e => by rw [e, hx] at h2; cases h2)]
    exact h2
  · have h4 := h3 i z p a b
    rw [upd_ne (fun e => by rw [e, hx] at h4; cases h4)]
    exact h4
theorem KeepT.ins {H : Hp} {p C dx : Addr} {o : HO} {fs : List (Str × V)} (h : H p = some (.ins C dx fs)) : KeepT H (upd H p o) := fun t ys e => by
  have n : t ≠ p := fun z => by
    rw [z, h] at e
    cases e
  rw [upd_ne n]
  exact e
theorem swp_len (ps : List SS) : (swp ps).length = ps.length := by
  unfold swp
  rw [List.length_map]
end Dk
namespace Dk
open PySem L2
/-! ### comprehensions, any body -/
theorem it_any {J : It} {n : Nat} {G : Hp → Prop} {Y : Nat → Hp → V → Hp → Prop} (w : Walk J n G Y) {B : V → Hp → (Hp → Prop) → Prop} {Qd : Hp → Prop} {Hs : Hp} (Pv : Nat → Hp → Prop) (h0 : Pv 0 Hs) (hG : ∀ i H, i ≤ n → Pv i H → G H)
    (hs : ∀ i x H H', i < n → Pv i H → Y i H x H' → B x H' (Pv (i + 1))) (hd : ∀ H, Pv n H → Qd H) :
    ∃ W : Nat → Nat → Hp → Prop, (∃ m, W 0 m Hs) ∧ ∀ i m H, W i m H → (J.stop i H ∧ Qd H) ∨ (J.go i H ∧ ∃ Nx : Hp → Prop, (∀ H', Nx H' → ∃ m', m' < m ∧ W (i + 1) m' H') ∧ ∀ x H', J.yld i H x H' → B x H' Nx) := by
  refine ⟨fun i m H => i + m = n ∧ Pv i H, ⟨n, by omega, h0⟩, ?_⟩
  rintro i m H ⟨em, p⟩
  have q := hG i H (by omega) p
  by_cases hlt : i < n
  · exact .inr ⟨w.goes i H hlt q, Pv (i + 1), fun H' p' => ⟨m - 1, by omega, by omega, p'⟩, fun x H' y => hs i x H H' hlt p (w.yields i H x H' hlt q y)⟩
  · have e : i = n := by omega
    subst e
    exact .inl ⟨w.stops H q, hd H p⟩
/-! ### what a house tells -/
def dAt (zs : List Str) (bh : Str → List Str) (i : Nat) : List SS := match zs[i]? with
  | some a => ((zs.drop (i + 1)).filter fun b => decide (b ∈ bh a)).map fun b => (a, b)
  | none => []
def dUp (zs : List Str) (bh : Str → List Str) (n : Nat) : List SS := ((List.range n).map (dAt zs bh)).flatten
theorem dUp_succ (zs : List Str) (bh : Str → List Str) (n : Nat) : dUp zs bh (n + 1) = dUp zs bh n ++ dAt zs bh n := by
  unfold dUp
  rw [List.range_succ, List.map_append, List.flatten_append]
  simp
def sAt (zs : List Str) (vw : Str → List Str) (i : Nat) : List SS := match zs[i]? with
  | some a => (vw a).map fun b => (a, b)
  | none => []
def sUp (zs : List Str) (vw : Str → List Str) (n : Nat) : List SS := ((List.range n).map (sAt zs vw)).flatten
theorem sUp_succ (zs : List Str) (vw : Str → List Str) (n : Nat) : sUp zs vw (n + 1) = sUp zs vw n ++ sAt zs vw n := by
  unfold sUp
  rw [List.range_succ, List.map_append, List.flatten_append]
  simp
theorem dAt_some {zs : List Str} {bh : Str → List Str} {i : Nat} {a : Str} (e : zs[i]? = some a) : dAt zs bh i = ((zs.drop (i + 1)).filter fun b => decide (b ∈ bh a)).map fun b => (a, b) := by
  unfold dAt
  rw [e]
theorem sAt_some {zs : List Str} {vw : Str → List Str} {i : Nat} {a : Str} (e : zs[i]? = some a) : sAt zs vw i = (vw a).map fun b => (a, b) := by
  unfold sAt
  rw [e]
theorem dAt_len (zs : List Str) (bh : Str → List Str) (i : Nat) : (dAt zs bh i).length ≤ zs.length := by
  unfold dAt
  split
  · rw [List.length_map]
    refine Nat.le_trans (List.length_filter_le _ _) ?_
    rw [List.length_drop]
    omega
  · exact Nat.zero_le _
theorem dUp_len (zs : List Str) (bh : Str → List Str) : ∀ n : Nat, (dUp zs bh n).length ≤ n * zs.length
  | 0 => Nat.zero_le _
  | n + 1 => by
    rw [dUp_succ, List.length_append, Nat.succ_mul]
    have := dUp_len zs bh n
    have := dAt_len zs bh n
    omega
theorem sAt_len {zs : List Str} {vw : Str → List Str} (h : ∀ a, (vw a).length ≤ zs.length) (i : Nat) : (sAt zs vw i).length ≤ zs.length := by
  unfold sAt
  split
  · rw [List.length_map]
    exact h _
  · exact Nat.zero_le _
theorem sUp_len {zs : List Str} {vw : Str → List Str} (h : ∀ a, (vw a).length ≤ zs.length) : ∀ n : Nat, (sUp zs vw n).length ≤ n * zs.length
  | 0 => Nat.zero_le _
  | n + 1 => by
    rw [sUp_succ, List.length_append, Nat.succ_mul]
    have := sUp_len h n
    have := sAt_len h n
    omega
def dAll (zs : List Str) (bh : Str → List Str) : List SS := dUp zs bh zs.length
def sAll (zs : List Str) (vw : Str → List Str) : List SS := sUp zs vw zs.length
/-- a house whose lists are no longer than its rooms -/
def Hs (C : Addr) (H : Hp) (h : Addr) (zs : List Str) (bh vw : Str → List Str) : Prop := HouseAt C H h zs bh vw ∧ (∀ a, (bh a).length ≤ zs.length) ∧ (∀ a, (vw a).length ≤ zs.length) ∧ ∀ a b, b ∈ vw a → b ∈ zs
theorem Hs.same {C : Addr} {H H' : Hp} {h : Addr} {zs : List Str} {bh vw : Str → List Str} (x : Hs C H h zs bh vw) (e : Same H H') : Hs C H' h zs bh vw := ⟨x.1.same e, x.2⟩
def spRooms (C : Addr) : Sp := fun vs H Q _ => ∃ (h : Addr) (zs : List Str) (bh vw : Str → List Str), vs = [.ref h] ∧ Hs C H h zs bh vw ∧ ∀ (H' : Hp) (p : Addr), Same H H' → H p = none → H' p = some (.lst (zs.map V.str)) → Q (.ref p) H'
def spDoors (C : Addr) : Sp := fun vs H Q _ => ∃ (h : Addr) (zs : List Str) (bh vw : Str → List Str), vs = [.ref h] ∧ Hs C H h zs bh vw ∧ ∀ (H' : Hp) (p : Addr) (ys : List V), Same H H' → H p = none → H' p = some (.lst ys) → PL H' ys (dAll zs bh) → Q (.ref p) H'
def spSights (C : Addr) : Sp := fun vs H Q _ => ∃ (h : Addr) (zs : List Str) (bh vw : Str → List Str), vs = [.ref h] ∧ Hs C H h zs bh vw ∧ ∀ (H' : Hp) (p : Addr) (ys : List V), Same H H' → H p = none → H' p = some (.lst ys) → PL H' ys (sAll zs vw) → Q (.ref p) H'
def spLen (C : Addr) : Sp := fun vs H Q _ => ∃ (h : Addr) (zs : List Str) (bh vw : Str → List Str), vs = [.ref h] ∧ Hs C H h zs bh vw ∧ Q (.int (zs.length : Nat)) H
theorem cut_from {zs : List Str} (i : Nat) : cutV (zs.map V.str) (some ((i : Nat) : Int)) none = (zs.drop i).map V.str := by
  unfold cutV
  rw [show HT.sIx (zs.map V.str).length 0 (some ((i : Nat) : Int)) = min i (zs.map V.str).length from HT.sIx_nat _ 0 i, HT.sIx_none, List.length_map]
  by_cases h : i ≤ zs.length
  · rw [Nat.min_eq_left h, List.take_of_length_le (by rw [List.length_drop, List.length_map]; omega), List.map_drop]
  · rw [Nat.min_eq_right (by omega), List.drop_of_length_le (by rw [List.length_map]; omega), List.drop_of_length_le (by omega)]
    simp
theorem filter_take {zs : List Str} {f : Str → Bool} {b : Str} {i : Nat} (e : zs[i]? = some b) : (zs.take (i + 1)).filter f = (zs.take i).filter f ++ (if f b = true then [b] else []) := by
  rw [List.take_add_one, e, List.filter_append]
  congr 1
  cases h : f b with
  | true =>
    rw [if_pos rfl]
    show List.filter f [b] = _
    simp [h]
  | false =>
    rw [if_neg (by decide)]
    show List.filter f [b] = _
    simp [h]
end Dk
namespace Dk
open PySem L2
/-! ### equal houses -/
theorem eq_strs {K : PySem.W.Frag} {H : Hp} : ∀ zs : List Str, Paired (EqV K H 1) (zs.map V.str) (zs.map V.str)
  | [] => .nil
  | z :: r => .cons (.inl ⟨rfl, rfl⟩) (eq_strs r)
theorem eq_lists {K : PySem.W.Frag} {H : Hp} {p q : Addr} {zs : List Str} (h1 : H p = some (.lst (zs.map V.str))) (h2 : H q = some (.lst (zs.map V.str))) : EqR K H (EqV K H 1) (.ref p) (.ref q) :=
  .inl ⟨p, q, _, _, rfl, rfl, SqL.of h1, SqL.of h2, eq_strs zs⟩
theorem eq_links {K : PySem.W.Frag} {H : Hp} {d e : Addr} {zs : List Str} {f : Str → List Str} (nd : zs.Nodup) (h1 : LinkAt H d zs f) (h2 : LinkAt H e zs f) : EqR K H (EqV K H 2) (.ref d) (.ref e) := by
  obtain ⟨as, a1, a2, a3⟩ := h1
  obtain ⟨bs, b1, b2, b3⟩ := h2
  refine .inr ⟨d, e, _, _, rfl, rfl, a2, b2, by rw [kvs_len _ _ a1, kvs_len _ _ b1], fun p hp => ?_⟩
  unfold kvs at hp
  obtain ⟨⟨z, q⟩, hq, rfl⟩ := List.mem_map.mp hp
  obtain ⟨i, hi, ei⟩ := List.getElem_of_mem hq
  rw [List.length_zip] at hi
  rw [List.getElem_zip] at ei
  have ez : zs[i]? = some z := by
    rw [List.getElem?_eq_getElem (by omega)]
    exact congrArg some (Prod.mk.inj ei).1
  have eq' : as[i]? = some q := by
    rw [List.getElem?_eq_getElem (by omega)]
    exact congrArg some (Prod.mk.inj ei).2
  have eb : bs[i]? = some bs[i] := List.getElem?_eq_getElem (by omega)
  exact ⟨_, kvs_some nd ez eb, .inr (.inr (eq_lists (a3 i z q ez eq') (b3 i z _ ez eb)))⟩
def EqH (C : Addr) (a b : Addr) (H : Hp) : Prop := ∃ (zs : List Str) (bh vw : Str → List Str), Hs C H a zs bh vw ∧ Hs C H b zs bh vw
/-! ### rows of text -/
def rowR (z : Str) : Str := Str.empty ++ Str.ofString "room " ++ z
def rowD (p : SS) : Str := Str.empty ++ Str.ofString "door " ++ p.1 ++ Str.ofString " " ++ p.2
def rowS (p : SS) : Str := Str.empty ++ Str.ofString "sight " ++ p.1 ++ Str.ofString " " ++ p.2
def rowsH (zs : List Str) (ds ss : List SS) : List Str := zs.map rowR ++ ds.map rowD ++ ss.map rowS
def textH (zs : List Str) (ds ss : List SS) : Str := Txt.join (Str.ofString "\n") (rowsH zs ds ss)
def inZ (zs : List Str) (p : SS) : Prop := p.1 ∈ zs ∧ p.2 ∈ zs
theorem len8 {zs : List Str} (h : Names zs) {z : Str} (hz : z ∈ zs) : z.length ≤ 8 := by
  have := h.2 z hz
  unfold isNm at this
  rw [Bool.and_eq_true] at this
  exact (of_decide_eq_true this.1).2
theorem mem_flat {α : Type} {f : Nat → List α} {n : Nat} {x : α} (h : x ∈ ((List.range n).map f).flatten) : ∃ i, i < n ∧ x ∈ f i := by
  obtain ⟨l, hl, hx⟩ := List.mem_flatten.mp h
  obtain ⟨i, hi, rfl⟩ := List.mem_map.mp hl
  exact ⟨i, List.mem_range.mp hi, hx⟩
theorem dAll_in {zs : List Str} {bh : Str → List Str} {p : SS} (h : p ∈ dAll zs bh) : inZ zs p := by
  obtain ⟨i, hi, hp⟩ := mem_flat h
  rw [dAt_some (List.getElem?_eq_getElem hi)] at hp
  obtain ⟨b, hb, rfl⟩ := List.mem_map.mp hp
  exact ⟨List.getElem_mem hi, List.mem_of_mem_drop ((List.mem_filter.mp hb).1)⟩
theorem sAll_in {zs : List Str} {vw : Str → List Str} (hv : ∀ a b, b ∈ vw a → b ∈ zs) {p : SS} (h : p ∈ sAll zs vw) : inZ zs p := by
  obtain ⟨i, hi, hp⟩ := mem_flat h
  rw [sAt_some (List.getElem?_eq_getElem hi)] at hp
  obtain ⟨b, hb, rfl⟩ := List.mem_map.mp hp
  exact ⟨List.getElem_mem hi, hv _ _ hb⟩
theorem rowR_len {zs : List Str} (h : Names zs) {z : Str} (hz : z ∈ zs) : (rowR z).length ≤ 40 := by
  unfold rowR
  rw [Str.length_append, Str.length_append]
  have := len8 h hz
  have e1 : Str.empty.length = 0 := rfl
  have e2 : (Str.ofString "room ").length = 5 := by decide +kernel
  omega
theorem rowD_len {zs : List Str} (h : Names zs) {p : SS} (hp : inZ zs p) : (rowD p).length ≤ 40 := by
  unfold rowD
  rw [Str.length_append, Str.length_append, Str.length_append, Str.length_append]
  have := len8 h hp.1
  have := len8 h hp.2
  have e1 : Str.empty.length = 0 := rfl
  have e2 : (Str.ofString "door ").length = 5 := by decide +kernel
  have e3 : (Str.ofString " ").length = 1 := by decide +kernel
  omega
theorem rowS_len {zs : List Str} (h : Names zs) {p : SS} (hp : inZ zs p) : (rowS p).length ≤ 40 := by
  unfold rowS
  rw [Str.length_append, Str.length_append, Str.length_append, Str.length_append]
  have := len8 h hp.1
  have := len8 h hp.2
  have e1 : Str.empty.length = 0 := rfl
  have e2 : (Str.ofString "sight ").length = 6 := by decide +kernel
  have e3 : (Str.ofString " ").length = 1 := by decide +kernel
  omega
theorem sum_le : ∀ {ys : List Str}, (∀ y ∈ ys, y.length ≤ 40) → (ys.map (·.length)).sum ≤ ys.length * 40
  | [], _ => Nat.zero_le _
  | y :: r, h => by
    have h1 := sum_le (ys := r) fun x hx => h x (List.mem_cons_of_mem _ hx)
    have h2 := h y List.mem_cons_self
    simp only [List.map_cons, List.sum_cons, List.length_cons]
    omega
theorem rowsH_ok {zs : List Str} {ds ss : List SS} (h : Names zs) (hd : ∀ p ∈ ds, inZ zs p) (hs : ∀ p ∈ ss, inZ zs p) : ∀ y ∈ rowsH zs ds ss, y.length ≤ 40 := by
  intro y hy
  unfold rowsH at hy
  rcases List.mem_append.mp hy with hy | hy
  · rcases List.mem_append.mp hy with hy | hy
    · obtain ⟨z, hz, rfl⟩ := List.mem_map.mp hy
      exact rowR_len h hz
    · obtain ⟨p, hp, rfl⟩ := List.mem_map.mp hy
      exact rowD_len h (hd p hp)
  · obtain ⟨p, hp, rfl⟩ := List.mem_map.mp hy
    exact rowS_len h (hs p hp)
def spStr (C : Addr) : Sp := fun vs H Q _ => ∃ (h : Addr) (zs : List Str) (bh vw : Str → List Str), vs = [.ref h] ∧ Hs C H h zs bh vw ∧ ∀ H', Same H H' → Q (.str (textH zs (dAll zs bh) (sAll zs vw))) H'
def num (n : Nat) : Str := Str.ofString (toString ((n : Nat) : Int))
def reprH (a b c : Nat) : Str := Str.empty ++ Str.ofString "House(" ++ num a ++ Str.ofString " rooms, " ++ num b ++ Str.ofString " doors, " ++ num c ++ Str.ofString " sights)"
def spRepr (C : Addr) : Sp := fun vs H Q _ => ∃ (h : Addr) (zs : List Str) (bh vw : Str → List Str), vs = [.ref h] ∧ Hs C H h zs bh vw ∧ ∀ H', Same H H' → Q (.str (reprH zs.length (dAll zs bh).length (sAll zs vw).length)) H'
end Dk
namespace Dk
open PySem L2
/-! ### the law's own house: three lists in a tuple -/
def LHouse (H : Hp) (t : Addr) (zs : List Str) (ds ss : List SS) : Prop :=
  ∃ (r d s : Addr) (xs us : List V), H t = some (.tup [.ref r, .ref d, .ref s]) ∧ H r = some (.lst (zs.map V.str)) ∧ H d = some (.lst xs) ∧ PL H xs ds ∧ H s = some (.lst us) ∧ PL H us ss
theorem LHouse.same {H H' : Hp} {t : Addr} {zs : List Str} {ds ss : List SS} (h : LHouse H t zs ds ss) (e : Same H H') : LHouse H' t zs ds ss := by
  obtain ⟨r, d, s, xs, us, h1, h2, h3, h4, h5, h6⟩ := h
  exact ⟨r, d, s, xs, us, e _ _ h1, e _ _ h2, e _ _ h3, h4.same e, e _ _ h5, h6.same e⟩
/-- what such a house keeps to -/
structure Good (zs : List Str) (ds ss : List SS) : Prop where
  names : Names zs
  one : 1 ≤ zs.length
  eight : zs.length ≤ 8
  dg : ∀ p ∈ ds, goodP zs p
  sg : ∀ p ∈ ss, goodP zs p
  dl : ds.length ≤ 64
  sl : ss.length ≤ 64
  sn : ss.Nodup
  ln : ∀ z ∈ zs, LenOk z
theorem both_iff (ds : List SS) (a b : Str) : (a, b) ∈ both ds ↔ (a, b) ∈ ds ∨ (b, a) ∈ ds := by
  unfold both swp
  rw [List.mem_append, List.mem_map]
  constructor
  · rintro (h | ⟨p, hp, e⟩)
    · exact .inl h
    · obtain ⟨c, d⟩ := p
      have e1 := (Prod.mk.inj e).1
      have e2 := (Prod.mk.inj e).2
      simp only at e1 e2
      subst e1
      subst e2
      exact .inr hp
  · rintro (h | h)
    · exact .inl h
    · exact .inr ⟨(b, a), h, rfl⟩
theorem filter_filter {zs : List Str} {p : Str → Bool} : zs.filter (fun b => decide (b ∈ zs.filter p)) = zs.filter p := by
  refine List.filter_congr fun b hb => ?_
  rw [Bool.eq_iff_iff, decide_eq_true_eq, List.mem_filter]
  exact ⟨fun h => h.2, fun h => ⟨hb, h⟩⟩
def spLawNear : Sp := fun vs H Q _ => ∃ (t : Addr) (zs : List Str) (ds ss : List SS) (z : Str), vs = [.ref t, .str z] ∧ LHouse H t zs ds ss ∧ Good zs ds ss ∧ z ∈ zs ∧ ∀ (H' : Hp) (p : Addr), Same H H' → H p = none → H' p = some (.lst ((lnk zs (both ds) z).map V.str)) → Q (.ref p) H'
def spLawSees : Sp := fun vs H Q _ => ∃ (t : Addr) (zs : List Str) (ds ss : List SS) (z : Str), vs = [.ref t, .str z] ∧ LHouse H t zs ds ss ∧ Good zs ds ss ∧ z ∈ zs ∧ ∀ (H' : Hp) (p : Addr), Same H H' → H p = none → H' p = some (.lst ((lnk zs ss z).map V.str)) → Q (.ref p) H'
/-- three lists told -/
def Told (H : Hp) (p : Addr) (zs : List Str) (ds ss : List SS) : Prop :=
  ∃ (r d s : Addr) (xs us : List V), H p = some (.lst [.ref r, .ref d, .ref s]) ∧ H r = some (.lst (zs.map V.str)) ∧ H d = some (.lst xs) ∧ PL H xs ds ∧ H s = some (.lst us) ∧ PL H us ss
theorem Told.same {H H' : Hp} {t : Addr} {zs : List Str} {ds ss : List SS} (h : Told H t zs ds ss) (e : Same H H') : Told H' t zs ds ss := by
  obtain ⟨r, d, s, xs, us, h1, h2, h3, h4, h5, h6⟩ := h
  exact ⟨r, d, s, xs, us, e _ _ h1, e _ _ h2, e _ _ h3, h4.same e, e _ _ h5, h6.same e⟩
def spToldHouse : Sp := fun vs H Q _ => ∃ (t : Addr) (zs : List Str) (ds ss : List SS), vs = [.ref t] ∧ LHouse H t zs ds ss ∧ Good zs ds ss ∧ ∀ (H' : Hp) (p : Addr), Same H H' → H p = none → Told H' p zs (dAll zs (lnk zs (both ds))) (sAll zs (lnk zs ss)) → Q (.ref p) H'
/-- none of its lists is the box -/
def LHouseN (b : Addr) (H : Hp) (t : Addr) (zs : List Str) (ds ss : List SS) : Prop :=
  ∃ (r d s : Addr) (xs us : List V), r ≠ b ∧ d ≠ b ∧ s ≠ b ∧ H t = some (.tup [.ref r, .ref d, .ref s]) ∧ H r = some (.lst (zs.map V.str)) ∧ H d = some (.lst xs) ∧ PL H xs ds ∧ H s = some (.lst us) ∧ PL H us ss
theorem LHouseN.of {b : Addr} {H : Hp} {t : Addr} {zs : List Str} {ds ss : List SS} (h : LHouseN b H t zs ds ss) : LHouse H t zs ds ss := by
  obtain ⟨r, d, s, xs, us, _, _, _, h1⟩ := h
  exact ⟨r, d, s, xs, us, h1⟩
def spLawHouse : Sp := fun vs H Q _ => ∃ (b l : Addr) (m : Int), vs = [.ref b, .int m] ∧ Box H b l ∧ 1 ≤ m ∧ m ≤ 8 ∧
  ∀ (H' : Hp) (t : Addr) (zs : List Str) (ds ss : List SS), Sav b H H' → Box H' b l → H t = none → LHouseN b H' t zs ds ss → Good zs ds ss → (zs.length : Int) ≤ m → Q (.ref t) H'
end Dk
namespace Dk
open PySem L2
theorem Sav.keepT {b l : Addr} {H H' : Hp} (v : Sav b H H') (hB : Box H b l) : KeepT H H' := fun t xs e => by
  refine v t _ (fun z => ?_) e
  obtain ⟨ns, i, c, s, t', h1, _⟩ := hB
  rw [z, h1] at e
  cases e
theorem at_str {zs : List Str} {i : Nat} {a : Str} (e : zs[i]? = some a) {k : Int} (hk : k = (i : Nat)) : atI (zs.map V.str) k = some (.str a) := by
  rw [hk]
  exact atI_nat (by rw [List.getElem?_map, e]; rfl)
theorem two_at {x y : V} {q : Int} (h0 : 0 ≤ q) (h1 : q < 2) : ∃ v, atI [x, y] q = some v ∧ (v = x ∨ v = y) := by
  have e : q = 0 ∨ q = 1 := by omega
  rcases e with rfl | rfl
  · exact ⟨x, atI_nat (j := 0) rfl, .inl rfl⟩
  · exact ⟨y, atI_nat (j := 1) rfl, .inr rfl⟩
theorem Sav.put {b : Addr} {H H' : Hp} {p : Addr} {o : HO} (v : Sav b H H') (n : H p = none) : Sav b H (L2.upd H' p o) := fun q x nq e => by
  rw [upd_ne (ne_of_none e n)]
  exact v q x nq e
theorem LHouseN.sav {b l : Addr} {H H' : Hp} {t : Addr} {zs : List Str} {ds ss : List SS} (h : LHouseN b H t zs ds ss) (hB : Box H b l) (v : Sav b H H') : LHouseN b H' t zs ds ss := by
  obtain ⟨r, d, s, xs, us, n1, n2, n3, h1, h2, h3, h4, h5, h6⟩ := h
  have kt := v.keepT hB
  exact ⟨r, d, s, xs, us, n1, n2, n3, kt _ _ h1, v _ _ n1 h2, v _ _ n2 h3, h4.keep kt, v _ _ n3 h5, h6.keep kt⟩
end Dk
namespace Dk
open PySem L2
theorem take_more {zs : List Str} {i : Nat} {z : Str} (h : z ∈ zs.take i) : z ∈ zs.take (i + 1) := by
  rw [List.take_add_one]
  exact List.mem_append.mpr (.inl h)
theorem nodup_snoc {α : Type} {l : List α} {x : α} (h : l.Nodup) (n : x ∉ l) : (l ++ [x]).Nodup := by
  refine List.nodup_append.mpr ⟨h, List.nodup_cons.mpr ⟨by simp, List.nodup_nil⟩, fun a ha b hb e => ?_⟩
  rw [List.mem_singleton.mp hb] at e
  rw [e] at ha
  exact n ha
end Dk
namespace Dk
open PySem L2
section
variable {X : Cx} {n : Nat} {f C : Addr} {fd : FuncData} {ps : List Str} {sp : Sp} {pins : List (Addr × Obj)} {σ : L2.St} {H : Hp} {s : Shared} {Q : VK}
/-- a def called somewhere below, with room -/
theorem call_in (F : FnOk X.prog X.w X.K X.mg X.base CX0 n f fd ps sp) (hb : Binds X.K fd ps []) {A : Around} (hr : Room n A) (hf : A.frames = X.A.frames) (I : Inv X pins σ H s) {vs : List V} {us : List Value} (r : Vals vs us) (h : sp vs H Q E0) :
    wpAny (model X.prog X.w) A (call (.ref f) us) (EP X pins σ Q) X.xe s := by
  have e0 : Env0 X.prog X.w X.K X.mg X.base A X.stack s H := by
    have e := I.env0
    exact ⟨by rw [hf]; exact e.frames, e.mod, e.bs, e.bsz, e.funs, e.frf, e.hok, e.bare⟩
  have hl := F.len _ _ _ _ h
  have hl2 : us.length = ps.length := by rw [← r.length]; exact hl
  refine wpAny_call (codeAny_mono (F.run A X.stack s H ⟨us, []⟩ us vs Q E0 hr e0 (by
    have := hb s us I.kIn (by simpa using hl2)
    simpa using this) r h) fun z s' hq => ?_)
  cases z with
  | error e => exact False.elim hq
  | ok fl =>
    cases fl with
    | ret u => exact I.after hq
    | next => exact False.elim hq
    | brk => exact False.elim hq
    | cont => exact False.elim hq
theorem frames_in1 (A : Around) : A.in1.frames = A.frames := rfl
/-- len(x), x of a class with a __len__ of its own -/
theorem call_lenO (F : FnOk X.prog X.w X.K X.mg X.base CX0 n f fd ps sp) (hb : Binds X.K fd ps []) (hr : Room (n + 1) X.A) (hs : PySem.W.findIn X.K (.ref C) "__len__" = some (some (.ref f))) (hf : PySem.W.isFn X.K (.ref f) = true) :
    CallR X (.builtin "len") (fun xs H Q => ∃ h dx fs, xs = [V.ref h] ∧ H h = some (.ins C dx fs) ∧ sp [V.ref h] H (fun v H' => ∃ m : Nat, v = .int m ∧ m < 2 ^ 62 ∧ Q (.int m) H') E0) := by
  intro pins s σ H xs us Q I r h
  obtain ⟨h, dx, fs, rfl, hh, q⟩ := h
  obtain ⟨u, rfl, ru⟩ := vals1 r
  cases ru
  obtain ⟨mA, J, _⟩ := ins_get I.hok hh
  obtain ⟨od, J, _⟩ := J.look
  obtain ⟨m, hF⟩ := I.fr
  refine PySem.W.len_K hF I.ok.mod.kin J hs hf (wpAny_mono (call_in F hb hr.in1 rfl I (vs := [V.ref h]) (.cons rfl .nil) q) (fun v s' z => ?_) fun _ _ e => e)
  obtain ⟨v', H', I', rv, m, rfl, hm, q'⟩ := z
  obtain ⟨t, rfl⟩ := rv
  exact ⟨⟨by omega, by omega⟩, .int m, H', I'.tok _, ⟨_, rfl⟩, q'⟩
theorem call_reprO (F : FnOk X.prog X.w X.K X.mg X.base CX0 n f fd ps sp) (hb : Binds X.K fd ps []) (hr : Room (n + 1) X.A) (hs : PySem.W.findIn X.K (.ref C) "__repr__" = some (some (.ref f))) (hf : PySem.W.isFn X.K (.ref f) = true) :
    CallR X (.builtin "repr") (fun xs H Q => ∃ h dx fs, xs = [V.ref h] ∧ H h = some (.ins C dx fs) ∧ sp [V.ref h] H (fun v H' => ∃ z : Str, v = .str z ∧ Q (.str z) H') E0) := by
  intro pins s σ H xs us Q I r h
  obtain ⟨h, dx, fs, rfl, hh, q⟩ := h
  obtain ⟨u, rfl, ru⟩ := vals1 r
  cases ru
  obtain ⟨mA, J, _⟩ := ins_get I.hok hh
  obtain ⟨od, J, _⟩ := J.look
  obtain ⟨m, hF⟩ := I.fr
  refine PySem.W.repr_K hr.in1.units0 hF I.ok.mod.kin J hs hf (wpAny_mono (call_in F hb hr.in1 rfl I (vs := [V.ref h]) (.cons rfl .nil) q) (fun v s' z => ?_) fun _ _ e => e)
  obtain ⟨v', H', I', rv, y, rfl, q'⟩ := z
  obtain ⟨t, rfl⟩ := rv
  exact ⟨.str y, H', I', ⟨_, rfl⟩, q'⟩
theorem call_strO (F : FnOk X.prog X.w X.K X.mg X.base CX0 n f fd ps sp) (hb : Binds X.K fd ps []) (hr : Room (n + 2) X.A) (hs : PySem.W.findIn X.K (.ref C) "__str__" = some (some (.ref f))) (hf : PySem.W.isFn X.K (.ref f) = true) :
    CallR X (.type "str") (fun xs H Q => ∃ h dx fs, xs = [V.ref h] ∧ H h = some (.ins C dx fs) ∧ sp [V.ref h] H (fun v H' => ∃ z : Str, v = .str z ∧ Q (.str z) H') E0) := by
  intro pins s σ H xs us Q I r h
  obtain ⟨h, dx, fs, rfl, hh, q⟩ := h
  obtain ⟨u, rfl, ru⟩ := vals1 r
  cases ru
  obtain ⟨mA, J, _⟩ := ins_get I.hok hh
  obtain ⟨od, J, _⟩ := J.look
  refine PySem.W.kso_call hr.in1.in1.units0 I.kIn J hs hf (wpAny_mono (call_in F hb hr.in1.in1 rfl I (vs := [V.ref h]) (.cons rfl .nil) q) (fun v s' z => ?_) fun _ _ e => e)
  obtain ⟨v', H', I', rv, y, rfl, q'⟩ := z
  obtain ⟨t, rfl⟩ := rv
  exact ⟨.str y, H', I', ⟨_, rfl⟩, q'⟩
end
end Dk
namespace Dk
open PySem L2
section
variable {prog : Program} {w : World} {A : Around} {E : Value → Shared → Prop} {s : Shared} {K : PySem.W.Frag} {x C f : Addr} {ox : Obj} {od : Option Obj}
/-- the body of len, of an instance with its own -/
theorem len_body {Q : Value → Shared → Prop} (X : K.In s.heap) (I : PySem.W.InstAt s.heap x ox C od) (hs : PySem.W.findIn K (.ref C) "__len__" = some (some (.ref f))) (hf : PySem.W.isFn K (.ref f) = true)
    (h : wpAny (model prog w) A (call (.ref f) [.ref x]) (PySem.W.LenBack Q) E s) : wpAny (model prog w) A (Builtin.«len» ⟨[.ref x], []⟩) (fun fin s' => ∃ v, fin = .done (.ret v) ∧ Q v s') E s := by
  unfold Builtin.«len»
  refine wpAny_bind (m := oneArg "len" _) (wpAny_pure ?_)
  have z := PySem.W.special_fn (args := []) (Q := fun r s' => ∃ v, r = some v ∧ PySem.W.LenBack Q v s') X I hs (beq_iff_eq.mp hf) (wpAny_mono h (fun r s' hr => ⟨r, rfl, hr⟩) fun _ _ y => y)
  refine wpAny_bind (m := callSpecial? (.ref x) (Str.ofString "__len__")) (wpAny_mono z (fun r s' hr => ?_) fun _ _ y => y)
  obtain ⟨v, rfl, hr⟩ := hr
  cases v with
  | int k u =>
    obtain ⟨⟨h0, h1⟩, hq⟩ := hr
    refine wpAny_bind (wpAny_holding (wpAny_pure ?_))
    refine wpAny_bind (wpAny_letGo ?_)
    show wpAny _ _ (if k < 0 then _ else _) _ _ s'
    rw [if_neg (show ¬ k < 0 by omega)]
    show wpAny _ _ (if k ≥ 2 ^ 63 then _ else _) _ _ s'
    rw [if_neg (show ¬ k ≥ 2 ^ 63 by omega)]
    exact wpAny_bind (wpAny_mkInt (wpAny_pure ⟨_, rfl, hq⟩))
  | _ => exact False.elim hr
/-- the truth of an instance by its own __len__ -/
theorem truth_len {Q : Bool → Shared → Prop} (X : K.In s.heap) (I : PySem.W.InstAt s.heap x ox C od) (hb : PySem.W.findIn K (.ref C) "__bool__" = some none) (hs : PySem.W.findIn K (.ref C) "__len__" = some (some (.ref f))) (hf : PySem.W.isFn K (.ref f) = true)
    (h : wpAny (model prog w) A.in1 (call (.ref f) [.ref x]) (PySem.W.LenBack fun v s' => ∃ k t, v = .int k t ∧ Q (k != 0) s') E s) : wpAny (model prog w) A (truthy (.ref x)) Q E s := by
  have key : wpAny (model prog w) A (runValue (.builtin "len" ⟨[.ref x], []⟩)) (fun v s' => ∃ k t, v = .int k t ∧ Q (k != 0) s') E s := by
    refine wpAny_runValue (codeAny_builtin entry_len ?_)
    rw [Around.under_plainId plain_len ⟨[.ref x], []⟩]
    refine wpAny_mono (len_body X I hs hf h) (fun fin s' hv => ?_) fun _ _ e => e
    obtain ⟨v, rfl, hv⟩ := hv
    exact hv
  unfold truthy
  refine wpAny_bind (m := callSpecial? (.ref x) (Str.ofString "__bool__")) (wpAny_bind (wpAny_bind (I.type.here ((PySem.W.looks_findIn X hb).here (wpAny_pure ?_)))))
  refine wpAny_bind (m := specialOf (.ref x) (Str.ofString "__len__")) (wpAny_bind (I.type.here ((PySem.W.looks_findIn X hs).here ?_)))
  refine wpAny_bind (wpAny_mono key (fun v s' hv => ?_) fun _ _ e => e)
  obtain ⟨k, t, rfl, hq⟩ := hv
  exact wpAny_pure hq
/-- bool(v), by the truth of v -/
theorem bool_call {v : Value} {Q : Value → Shared → Prop} (h : wpAny (model prog w) A.in1.in1 (truthy v) (fun b s' => Q (.bool b) s') E s) : wpAny (model prog w) A (call (.type "bool") [v]) Q E s := by
  refine callType_codes (T := "bool") (Bi := Builtin.«object.__init__») (Q₁ := fun r s₁ => ∃ b, r = .bool b ∧ Q r s₁) PySem.F.called_bool (PySem.F.typeCall_bool_1 _) PySem.F.entry_object_init ?_ ?_
  · refine codeAny_of_tree ?_
    show wpAny _ A.in1.in1 (do checkBuiltinCall "bool.__new__" ⟨[.type "bool", v], []⟩; again (.builtin "bool.__new__" ⟨[.type "bool", v], []⟩)) _ _ s
    refine wpAny_bind (wpAny_of_eq (PySem.F.newCall_bool_1 v) (wpAny_pure ⟨plainId_quiet (by decide +kernel) _, codeAny_builtin PySem.F.entry_bool_new ?_⟩))
    rw [Around.under_plainId (by decide +kernel) _]
    have f1 := F.conv_sub_bool
    have fin : wpAny (model prog w) A.in1.in1 (truthy v) (fun b s' => wants (fun r s₁ => ∃ b, r = .bool b ∧ Q r s₁) E (.ok (.ret (.bool b))) s') (fun e s' => wants (fun r s₁ => ∃ b, r = .bool b ∧ Q r s₁) E (.error e) s') s := wpAny_mono h (fun b s' hq => ⟨b, rfl, hq⟩) fun _ _ e => e
    repeat (any_goals (first | assumption | (with_reducible refine wpAny_mono fin (fun b s' hq => ?_) (fun _ _ e => e)) | wp_step))
  · rintro obj s₁ ⟨b, rfl, hq⟩
    exact ⟨typeIs_bool _ _, PySem.F.args_object_init_2 _ _, object_init_meets PySem.F.called_bool.init.lookup PySem.F.called_bool.made (by decide) prog w A.in1 _ s₁ ⟨typeIs_bool _ _, rfl, hq⟩⟩
end
end Dk
namespace Dk
open PySem L2
section
variable {prog : Program} {w : World} {A : Around} {E : Value → Shared → Prop} {s : Shared} {K : PySem.W.Frag} {x y C f : Addr} {ox : Obj} {od : Option Obj}
/-- x != y where the class has its own __eq__ and object's __ne__ -/
theorem ne_own {Q : Value → Shared → Prop} (hu : A.units + 1 < cLine) (X : K.In s.heap) (I : PySem.W.InstAt s.heap x ox C od) (J : PySem.W.Looks (model prog w) s.heap (typeOf (.ref y)) (.ref C)) (hm : PySem.W.mroIn K C (.type "object") = some true)
    (hn : PySem.W.findIn K (.ref C) "__ne__" = some (some (.builtin "object.__ne__"))) (hs : PySem.W.findIn K (.ref C) "__eq__" = some (some (.ref f))) (hf : PySem.W.isFn K (.ref f) = true)
    (h : wpAny (model prog w) A.in1 (call (.ref f) [.ref x, .ref y]) (fun v s' => ∃ b, v = .bool b ∧ Q (.bool (!b)) s') E s) : wpAny (model prog w) A (compareOp .NotEq (.ref x) (.ref y)) Q E s := by
  have body : wpAny (model prog w) A (call (.builtin "object.__ne__") [.ref x, .ref y]) (fun v s' => ∃ b, v = .bool b ∧ Q v s') E s := by
    refine wpAny_call (codeAny_call_builtin (PySem.F.cmp_object).ne.plain PySem.F.cmpEntry_ne (PySem.W.check_slot (i := "object.__ne__") (owner := "object") (n := "__ne__") (by decide +kernel) (by decide +kernel) (I.type.andThen (PySem.W.looks_mroIn X hm)) (PySem.F.cmpArgs_ne _ _) ?_))
    unfold Builtin.«object.__ne__»
    refine wpAny_bind (m := slotArgs "__ne__" 1 _) (wpAny_pure ?_)
    refine wpAny_bind (m := cRoomFor _ _) (wpAny_cRoomFor hu ?_)
    refine wpAny_bind (m := callSpecialIfBound? (.ref x) (Str.ofString "__eq__") [.ref y]) (PySem.W.ifBound_K X I hs hf (wpAny_mono h (fun v s' hv => ?_) fun _ _ e => e))
    obtain ⟨b, rfl, hq⟩ := hv
    refine wpAny_bind (wpAny_truthy_bool ?_)
    exact wpAny_pure ⟨_, rfl, hq⟩
  have one : wpAny (model prog w) A (tryCompare (.ref x) "__ne__" (.ref y)) (fun r s' => ∃ b, r = some (.bool b) ∧ Q (.bool b) s') E s := by
    unfold tryCompare
    refine wpAny_bind (m := callSpecialIfBound? (.ref x) (Str.ofString "__ne__") [.ref y]) ?_
    simp only [callSpecialIfBound?, bindSpecialIfBound?]
    refine wpAny_holding (wpAny_bind (wpAny_bind (wpAny_bind (I.type.here ((PySem.W.looks_findIn X hn).here ?_)))))
    simp only [(PySem.F.cmp_object).ne.bind]
    refine wpAny_bind (wpAny_askSetting (wpAny_ite ?_))
    have fin : wpAny (model prog w) A (call (.builtin "object.__ne__") ([.ref x] ++ [.ref y]) >>= fun v => pure (some v)) (fun a s' => wpAny (model prog w) A (match a with
        | some Value.notImplemented => pure none
        | none => pure none
        | some r => pure (some r)) (fun r s' => ∃ b, r = some (.bool b) ∧ Q (.bool b) s') E s') E s := by
      refine wpAny_bind (wpAny_mono body (fun v s' hv => ?_) fun _ _ e => e)
      obtain ⟨b, rfl, hq⟩ := hv
      exact wpAny_pure (wpAny_pure ⟨b, rfl, hq⟩)
    split
    · exact wpAny_bind (wpAny_pure (wpAny_pure fin))
    · exact wpAny_tryCatch (wpAny_bind (wpAny_pure (wpAny_pure fin)))
  unfold compareOp richCompare
  simp only [oneThing_ref]
  refine wpAny_holding (wpAny_bind (wpAny_cRoomFor (Nat.lt_of_succ_lt hu) ?_))
  refine wpAny_bind (I.type.here (wpAny_bind (J.here ?_)))
  rw [show (Value.ref C != Value.ref C) = false from by simp]
  simp only [Bool.false_eq_true, if_false]
  refine wpAny_bind (wpAny_pure ?_)
  simp only [Bool.false_eq_true, if_false]
  refine wpAny_bind (wpAny_mono one (fun r s' z => ?_) fun _ _ e => e)
  obtain ⟨b, rfl, hq⟩ := z
  exact wpAny_pure hq
end
section
variable {X : Cx} {n : Nat} {f C : Addr} {fd : FuncData} {ps : List Str} {sp : Sp}
theorem op_neO (F : FnOk X.prog X.w X.K X.mg X.base CX0 n f fd ps sp) (hb : Binds X.K fd ps []) (hr : Room (n + 1) X.A) (hs : PySem.W.findIn X.K (.ref C) "__eq__" = some (some (.ref f))) (hf : PySem.W.isFn X.K (.ref f) = true)
    (hm : PySem.W.mroIn X.K C (.type "object") = some true) (hn : PySem.W.findIn X.K (.ref C) "__ne__" = some (some (.builtin "object.__ne__"))) :
    OpR X (compareOp .NotEq) (fun x y H Q => ∃ a b dx dy fs gs, x = V.ref a ∧ y = V.ref b ∧ H a = some (.ins C dx fs) ∧ H b = some (.ins C dy gs) ∧ sp [V.ref a, V.ref b] H (fun v H' => ∃ k, v = .bl k ∧ Q (.bl (!k)) H') E0) := by
  intro pins s σ H x y v u Q I rx ry h
  obtain ⟨a, b, dx, dy, fs, gs, rfl, rfl, ha, hb', q⟩ := h
  cases rx
  cases ry
  obtain ⟨mA, J, _⟩ := ins_get I.hok ha
  obtain ⟨mB, J', _⟩ := ins_get I.hok hb'
  obtain ⟨od, J, _⟩ := J.look
  obtain ⟨od', J', _⟩ := J'.look
  have hu : X.A.units + 1 < cLine := by
    have := hr.un
    omega
  refine ne_own hu I.kIn J J'.type hm hn hs hf (wpAny_mono (call_in F hb hr.in1 rfl I (vs := [V.ref a, V.ref b]) (.cons rfl (.cons rfl .nil)) q) (fun v s' z => ?_) fun _ _ e => e)
  obtain ⟨v', H', I', rv, k, rfl, q'⟩ := z
  cases rv
  exact ⟨k, rfl, .bl (!k), H', I', rfl, q'⟩
theorem call_boolO (F : FnOk X.prog X.w X.K X.mg X.base CX0 n f fd ps sp) (hb : Binds X.K fd ps []) (hr : Room (n + 3) X.A) (h0 : PySem.W.findIn X.K (.ref C) "__bool__" = some none) (hs : PySem.W.findIn X.K (.ref C) "__len__" = some (some (.ref f))) (hf : PySem.W.isFn X.K (.ref f) = true) :
    CallR X (.type "bool") (fun xs H Q => ∃ h dx fs, xs = [V.ref h] ∧ H h = some (.ins C dx fs) ∧ sp [V.ref h] H (fun v H' => ∃ m : Nat, v = .int m ∧ m < 2 ^ 62 ∧ Q (.bl ((m : Int) != 0)) H') E0) := by
  intro pins s σ H xs us Q I r h
  obtain ⟨h, dx, fs, rfl, hh, q⟩ := h
  obtain ⟨u, rfl, ru⟩ := vals1 r
  cases ru
  obtain ⟨mA, J, _⟩ := ins_get I.hok hh
  obtain ⟨od, J, _⟩ := J.look
  refine bool_call (truth_len I.kIn J h0 hs hf (wpAny_mono (call_in F hb hr.in1.in1.in1 rfl I (vs := [V.ref h]) (.cons rfl .nil) q) (fun v s' z => ?_) fun _ _ e => e))
  obtain ⟨v', H', I', rv, m, rfl, hm, q'⟩ := z
  obtain ⟨t, rfl⟩ := rv
  exact ⟨⟨by omega, by omega⟩, _, _, rfl, .bl _, H', I'.tok _, rfl, q'⟩
end
end Dk
namespace Dk
open PySem L2 PySem.Spec PyProof.Rows
section
variable {prog : Program} {w : World} {A : Around} {E : Value → Shared → Prop} {s : Shared}
theorem applied_back {sl : Addr} {vl vu vs : Value} {Q : Int × Int × Nat → Shared → Prop} (hs : s.heap.IsSliceOf sl vl vu vs) (pl : IsPart vl none) (pu : IsPart vu none) (ps : IsPart vs (some (-1)))
    (h : Q (1, -1, 2) s) : wpAny (model prog w) A (Builtin.Slice.sliceApplied (.ref sl) (pure ((2 : Nat) : Int))) Q E s := by
  obtain ⟨oS, hO, hC, hD⟩ := id hs
  unfold Builtin.Slice.sliceApplied Builtin.Slice.sliceFields
  refine wpAny_bind (wpAny_bind (wpAny_field hO hD (x := vl) rfl (wpAny_bind (wpAny_field hO hD (x := vu) rfl (wpAny_bind (wpAny_field hO hD (x := vs) rfl (wpAny_pure ?_)))))))
  refine wpAny_bind (HT.slicePart_ ps ?_)
  show wpAny _ _ (if ((-1 : Int) == 0) = true then _ else _) _ _ s
  rw [if_neg (by decide)]
  refine wpAny_bind (HT.slicePart_ pl (wpAny_bind (HT.slicePart_ pu (wpAny_bind (wpAny_pure ?_)))))
  exact wpAny_pure h
/-- t[::-1] of a pair -/
theorem pair_back {t sl : Addr} {a b : Value} {vl vu vs : Value} {Q : Value → Shared → Prop} (hT : IsTup s.heap t #[a, b]) (hs : s.heap.IsSliceOf sl vl vu vs) (pl : IsPart vl none) (pu : IsPart vu none) (ps : IsPart vs (some (-1)))
    (h : Q (.ref s.heap.objs.size) { s with heap := s.heap.push { cls := .type "tuple", data := .seq #[b, a] } }) : wpAny (model prog w) A (getItem (.ref t) (.ref sl)) Q E s := by
  obtain ⟨oS, hO, hC, hD⟩ := id hs
  have hTS : s.TypeIs (.ref sl) "slice" := ⟨oS, hO, hC⟩
  unfold getItem
  try with_reducible refine wpAny_holding ?_
  first | refine wpAny_bind (wpAny_pure ?_) | skip
  refine wpAny_bind (wpAny_sequenceKey hT.typeIs (by decide) ?_)
  refine wpAny_bind (wpAny_callSpecial?_slot (name := Str.ofString "__getitem__") hT.typeIs PyProof.Rows.slot_tuple_getitem (wpAny_call_entry PyProof.Rows.slot_tuple_getitem hT.typeIs entry_tuple_getitem ?_ (args_tuple_getitem _ _)))
  show wpAny _ _ (Builtin.Tuple.tupleItemsOf (.ref t) >>= _) _ _ s
  refine wpAny_bind (tupleItemsOf_ hT ?_)
  refine wpAny_bind (wpAny_typeOf hTS ?_)
  rw [if_pos (by decide)]
  refine wpAny_bind (applied_back hs pl pu ps ?_)
  show wpAny _ _ (if ((1 : Int) == 0 && (-1 : Int) == 1 && (2 : Nat) == 2) = true then _ else _) _ _ s
  rw [if_neg (by decide)]
  have hsz : sizeOk (.seq #[b, a]) := by
    show 2 ≤ sizeLine
    decide
  first
    | exact wpAny_bind (m := Builtin.Tuple.tupleExact _) (wpAny_newObj_type (wpAny_pure ⟨_, rfl, wpAny_pure h⟩) hsz)
    | exact wpAny_bind (wpAny_bind (m := Builtin.Tuple.tupleExact _) (wpAny_newObj_type (wpAny_pure ⟨_, rfl, wpAny_pure h⟩) hsz))
    | exact wpAny_bind (m := Builtin.Tuple.tupleExact _) (wpAny_newObj_type (wpAny_bind (wpAny_pure (wpAny_pure ⟨_, rfl, wpAny_pure h⟩))) hsz)
    | exact wpAny_bind (wpAny_bind (m := Builtin.Tuple.tupleExact _) (wpAny_newObj_type (wpAny_pure (wpAny_pure ⟨_, rfl, wpAny_pure h⟩)) hsz))
end
section
variable {X : Cx}
def tRevP (K : PySem.W.Frag) (te : TE) : TE := fun g H Q => te g H fun x G1 => ∃ a y z, x = .ref a ∧ SqT K G1 a [y, z] ∧ ∀ p, G1 p = none → Q (.ref p) (upd G1 p (.tup [z, y]))
theorem pe_revP {e : Expr} {te : TE} {k : Nat} {p1 p2 p3 pos : Pos} (he : PE X e te) : PE X (.Subscript e (.Slice none none (some (.UnaryOp .USub (.Constant (.int 1) k p1) p2)) p3) pos) (tRevP X.K te) := by
  refine ⟨fun pn s g H Q I h => ?_⟩
  refine Subscript_ (thn (he.run pn s g H _ I h) fun v s1 ⟨x, G1, J1, r1, q1⟩ => ?_)
  obtain ⟨a, y, z, ex, hx, q⟩ := q1
  subst ex
  cases r1
  have hst : PO X (some (.UnaryOp .USub (.Constant (.int 1) k p1) p2)) (tPart (tUn (rU fun i => .int (-i)) (tC (.int 1)))) := po_some (pe_un un_neg pe_int)
  refine wpAny_Slice (thn (po_none.run pn s1 g G1 (fun o G2 => o = none ∧ G2 = G1) J1 ⟨rfl, rfl⟩) fun vl s2 ⟨l, G2, J2, pl, el, e2⟩ => ?_)
  subst el e2
  refine thn (po_none.run pn s2 g G2 (fun o G3 => o = none ∧ G3 = G2) J2 ⟨rfl, rfl⟩) fun vu s3 ⟨u, G3, J3, pu, eu, e3⟩ => ?_
  subst eu e3
  refine thn (hst.run pn s3 g G3 (fun o G4 => o = some (-1) ∧ G4 = G3) J3 ⟨1, rfl, -1, rfl, rfl, rfl⟩) fun vs s4 ⟨o, G4, J4, ps, eo, e4⟩ => ?_
  subst eo e4
  have J5 : Inv X pn g G4 { s4 with heap := s4.heap.push { cls := .type "slice", data := .fields #[vl, vu, vs] } } := J4.kept (t' := s4.toks) fun b ob q => Heap.get?_push_of_some _ q
  obtain ⟨its, r, hT, hz⟩ := J5.tuple hx
  obtain ⟨u1, u2, rfl, r1, r2⟩ := vals2 r
  show wpAny (model X.prog X.w) X.A (subscriptTail e (.Slice none none (some (.UnaryOp .USub (.Constant (.int 1) k p1) p2)) p3) (.ref a) (.ref s4.heap.objs.size)) (EP X pn g Q) X.xe { s4 with heap := s4.heap.push { cls := .type "slice", data := .fields #[vl, vu, vs] } }
  refine tail_any (ops := [.ref a, .ref s4.heap.objs.size]) hT.typeIs (PyProof.Rows.slot_tuple_getitem.lookup) ?_ (by with_unfolding_all rfl)
  refine pair_back hT (Heap.IsSliceOf.new _ vl vu vs) pl pu ps ?_
  refine ⟨.ref _, _, J5.laid (t' := s4.toks) (o := .tup [z, y]) (fun b ob q => Heap.get?_push_of_some _ q) (Nat.le_refl _) ?_, rfl, q _ (J5.hok.fresh (Nat.le_refl _))⟩
  exact ⟨by show 2 ≤ sizeLine; decide, [u2, u1], .cons r2 (.cons r1 .nil), IsTup.new _ _⟩
end
end Dk
namespace Dk
open PySem L2
/-! ### doors told twice, either way about -/
def dTw (ms ds : List SS) : List SS := (ms ++ swp ms) ++ ds
def sTw (ss : List SS) : List SS := ss ++ ss.take 2
theorem swp_mem {ms : List SS} {a b : Str} : (a, b) ∈ swp ms ↔ (b, a) ∈ ms := by
  unfold swp
  rw [List.mem_map]
  constructor
  · rintro ⟨⟨c, d⟩, hp, e⟩
    have e1 : d = a := (Prod.mk.inj e).1
    have e2 : c = b := (Prod.mk.inj e).2
    rw [← e1, ← e2]
    exact hp
  · intro h
    exact ⟨(b, a), h, rfl⟩
theorem dTw_mem {ms ds : List SS} (h : ∀ p ∈ ms, p ∈ ds) {a b : Str} : (a, b) ∈ dTw ms ds → (a, b) ∈ ds ∨ (b, a) ∈ ds := by
  intro hp
  unfold dTw at hp
  rcases List.mem_append.mp hp with hp | hp
  · rcases List.mem_append.mp hp with hp | hp
    · exact .inl (h _ hp)
    · exact .inr (h _ (swp_mem.mp hp))
  · exact .inl hp
theorem lnk_congr {zs : List Str} {ps qs : List SS} (h : ∀ a b, (a, b) ∈ ps ↔ (a, b) ∈ qs) : lnk zs ps = lnk zs qs := by
  funext a
  unfold lnk
  refine List.filter_congr fun b _ => ?_
  rw [Bool.eq_iff_iff, decide_eq_true_eq, decide_eq_true_eq]
  exact h a b
theorem lnk_dTw {zs : List Str} {ms ds : List SS} (h : ∀ p ∈ ms, p ∈ ds) : lnk zs (both (dTw ms ds)) = lnk zs (both ds) := by
  refine lnk_congr fun a b => ?_
  rw [both_iff, both_iff]
  constructor
  · rintro (x | x)
    · exact dTw_mem h x
    · exact (dTw_mem h x).symm
  · rintro (x | x)
    · exact .inl (List.mem_append.mpr (.inr x))
    · exact .inr (List.mem_append.mpr (.inr x))
theorem lnk_sTw {zs : List Str} {ss : List SS} : lnk zs (sTw ss) = lnk zs ss := by
  refine lnk_congr fun a b => ?_
  unfold sTw
  rw [List.mem_append]
  exact ⟨fun h => h.elim id fun x => List.mem_of_mem_take x, .inl⟩
theorem dTw_good {zs : List Str} {ms ds : List SS} (h : ∀ p ∈ ms, p ∈ ds) (g : ∀ p ∈ ds, goodP zs p) : ∀ p ∈ dTw ms ds, goodP zs p := by
  rintro ⟨a, b⟩ hp
  rcases dTw_mem h hp with x | x
  · exact g _ x
  · have y := g _ x
    exact ⟨y.2.1, y.1, fun e => y.2.2 e.symm⟩
theorem sTw_good {zs : List Str} {ss : List SS} (g : ∀ p ∈ ss, goodP zs p) : ∀ p ∈ sTw ss, goodP zs p := by
  intro p hp
  rcases List.mem_append.mp hp with x | x
  · exact g _ x
  · exact g _ (List.mem_of_mem_take x)
theorem dTw_len (ms ds : List SS) : (dTw ms ds).length = ms.length + ms.length + ds.length := by
  unfold dTw
  rw [List.length_append, List.length_append, swp_len]
theorem sTw_len (ss : List SS) : (sTw ss).length ≤ ss.length + 2 := by
  unfold sTw
  rw [List.length_append, List.length_take]
  omega
theorem PL.take {H : Hp} {xs : List V} {ps : List SS} (h : PL H xs ps) (n : Nat) : PL H (xs.take n) (ps.take n) := by
  refine ⟨by rw [List.length_take, List.length_take, h.1], fun i x ab h1 h2 => ?_⟩
  rw [List.getElem?_take] at h1 h2
  split at h1
  · rename_i hi
    rw [if_pos hi] at h2
    exact h.2 i x ab h1 h2
  · cases h1
theorem cut_two (xs : List V) : cutV xs none (some 2) = xs.take 2 := by
  unfold cutV
  rw [HT.sIx_none, show HT.sIx xs.length xs.length (some 2) = min 2 xs.length from HT.sIx_nat _ _ 2]
  show (xs.drop 0).take (min 2 xs.length - 0) = _
  rw [List.drop_zero, Nat.sub_zero]
  by_cases h : 2 ≤ xs.length
  · rw [Nat.min_eq_left h]
  · rw [Nat.min_eq_right (by omega), List.take_length, List.take_of_length_le (by omega)]
/-! ### alike -/
theorem Lk.strs {n : Nat} {H : Hp} {a b : Addr} {zs : List Str} (ha : H a = some (.lst (zs.map V.str))) (hb : H b = some (.lst (zs.map V.str))) (hl : zs.length ≤ 1000) : Lk (n + 2) H (.ref a) (.ref b) := Lk.lst ha hb (by rw [List.length_map]; exact hl) flat_strs
theorem Lk.pair {n : Nat} {H : Hp} {x y : V} {p : SS} (h1 : Pr H x p) (h2 : Pr H y p) : Lk (n + 2) H x y := by
  obtain ⟨q, rfl, hq⟩ := h1
  obtain ⟨t, rfl, ht⟩ := h2
  refine Lk.tup hq ht (by show 2 ≤ 1000; decide) fun x hx => ?_
  rcases List.mem_cons.mp hx with rfl | hx
  · rfl
  · rw [List.mem_singleton.mp hx]
    rfl
theorem Lk.pairs {n : Nat} {H : Hp} {a b : Addr} {xs ys : List V} {ps : List SS} (ha : H a = some (.lst xs)) (hP : PL H xs ps) (hb : H b = some (.lst ys)) (hQ : PL H ys ps) (hl : ps.length ≤ 1000) : Lk (n + 3) H (.ref a) (.ref b) := by
  refine .inr ⟨a, b, xs, ys, rfl, rfl, by rw [hP.1, hQ.1], by rw [hP.1]; exact hl, .inl ⟨ha, hb⟩, fun i x y hx hy => ?_⟩
  obtain ⟨p, ep, pr⟩ := hP.at hx
  exact Lk.pair pr (hQ.2 i y p hy ep)
theorem Lk.told {H : Hp} {p q r d s : Addr} {zs : List Str} {ds ss : List SS} {xs us : List V} (hp : H p = some (.lst [.ref r, .ref d, .ref s])) (hr : H r = some (.lst (zs.map V.str))) (hd : H d = some (.lst xs)) (hP : PL H xs ds) (hs : H s = some (.lst us)) (hQ : PL H us ss) (t : Told H q zs ds ss)
    (l1 : zs.length ≤ 1000) (l2 : ds.length ≤ 1000) (l3 : ss.length ≤ 1000) : Lk 4 H (.ref p) (.ref q) := by
  obtain ⟨r', d', s', xs', us', h1, h2, h3, h4, h5, h6⟩ := t
  refine .inr ⟨p, q, [.ref r, .ref d, .ref s], [.ref r', .ref d', .ref s'], rfl, rfl, rfl, by show 3 ≤ 1000; decide, .inl ⟨hp, h1⟩, fun i x y hx hy => ?_⟩
  match i, hx, hy with
  | 0, hx, hy =>
    cases hx
    cases hy
    exact Lk.strs hr h2 l1
  | 1, hx, hy =>
    cases hx
    cases hy
    exact Lk.pairs hd hP h3 h4 l2
  | 2, hx, hy =>
    cases hx
    cases hy
    exact Lk.pairs hs hQ h5 h6 l3
/-! ### three lists as data -/
def hd3 (zs : List Str) (ds ss : List SS) : PyData := .list [.list (zs.map PyData.str), .list (ds.map pd), .list (ss.map pd)]
theorem hd3_dp {K : PySem.W.Frag} {H : Hp} {p r d s : Addr} {zs : List Str} {ds ss : List SS} {xs us : List V} (hp : H p = some (.lst [.ref r, .ref d, .ref s])) (hr : H r = some (.lst (zs.map V.str))) (hd : H d = some (.lst xs)) (hP : PL H xs ds) (hs : H s = some (.lst us)) (hQ : PL H us ss) : Dp K H (.ref p) (hd3 zs ds ss) :=
  .lst (SqL.of hp) (.cons (.lst (SqL.of hr) (dp_strs zs)) (.cons (.lst (SqL.of hd) (pl_dp hP)) (.cons (.lst (SqL.of hs) (pl_dp hQ)) .nil)))
theorem hd3_shaped {zs : List Str} {ds ss : List SS} (h1 : ∀ z ∈ zs, PyData.strOk z = true) (h2 : ∀ p ∈ ds, okP p) (h3 : ∀ p ∈ ss, okP p) : SeqAt.shaped (hd3 zs ds ss) = true := by
  obtain ⟨a1, a2⟩ := lay_strs h1
  obtain ⟨b1, b2⟩ := pds_lay h2
  obtain ⟨c1, c2⟩ := pds_lay h3
  unfold SeqAt.shaped
  have e1 : (hd3 zs ds ss).canLay0 = true := by
    show (PyData.canLayAll0 (zs.map PyData.str) && (PyData.canLayAll0 (ds.map pd) && (PyData.canLayAll0 (ss.map pd) && true))) = true
    rw [a1, b1, c1]
    rfl
  have e2 : (hd3 zs ds ss).depth ≤ 64 := by
    show max (PyData.depthAll (zs.map PyData.str) + 1) (max (PyData.depthAll (ds.map pd) + 1) (max (PyData.depthAll (ss.map pd) + 1) 0)) + 1 ≤ 64
    omega
  rw [e1, decide_eq_true e2]
  rfl
theorem Hs.of {C : Addr} {H : Hp} {h : Addr} {zs : List Str} {ps qs : List SS} (x : HouseAt C H h zs (lnk zs ps) (lnk zs qs)) : Hs C H h zs (lnk zs ps) (lnk zs qs) :=
  ⟨x, fun a => lnk_len zs ps a, fun a => lnk_len zs qs a, fun a b hb => (List.mem_filter.mp hb).1⟩
/-- what is new stays where something older is written -/
theorem new_put {Ha Hb H : Hp} {p : Addr} {o u : HO} (s : Same (newPart Ha Hb) H) (e : Ha p = some o) : Same (newPart Ha Hb) (upd H p u) := fun q x h => by
  have n : q ≠ p := fun z => by
    have h1 := (new_inv h).1
    rw [z, e] at h1
    cases h1
  rw [upd_ne n]
  exact s _ _ h
theorem PL.swap {H : Hp} {xs : List V} {ps : List SS} {i : Nat} {x : V} (h : PL H xs ps) (e : xs[i]? = some x) : ∃ ab : SS, ps[i]? = some ab ∧ ∃ q, x = .ref q ∧ H q = some (.tup [.str ab.1, .str ab.2]) := by
  obtain ⟨ab, h1, q, h2, h3⟩ := h.at e
  exact ⟨ab, h1, q, h2, h3⟩
theorem rowR_eq (z : Str) : Str.ofString "room " ++ z = rowR z := by
  unfold rowR
  rw [Str.empty_append]
theorem rowD_eq (a b : Str) : Str.ofString "door " ++ a ++ Str.ofString " " ++ b = rowD (a, b) := by
  unfold rowD
  rw [Str.empty_append]
theorem rowS_eq (a b : Str) : Str.ofString "sight " ++ a ++ Str.ofString " " ++ b = rowS (a, b) := by
  unfold rowS
  rw [Str.empty_append]
theorem repr_eq (a b c : Nat) : reprH a b c = Str.ofString "House(" ++ (num a ++ Str.ofString " rooms, " ++ num b ++ Str.ofString " doors, " ++ num c ++ Str.ofString " sights") ++ Str.ofString ")" := by
  unfold reprH
  have e : Str.ofString " sights)" = Str.ofString " sights" ++ Str.ofString ")" := by decide +kernel
  rw [e, Str.empty_append]
  simp only [Str.append_assoc]
theorem swp_take {ps : List SS} {i : Nat} {ab : SS} (e : ps[i]? = some ab) : swp (ps.take (i + 1)) = swp (ps.take i) ++ [(ab.2, ab.1)] := by
  unfold swp
  rw [List.take_add_one, e, List.map_append]
  rfl
end Dk
namespace Dk
open PySem L2
def top (i : Nat) : Stmt := PySem.Challenge.pw_darkthread_k02_houses_told.main.body.getD i (.Pass ⟨0, 0, 0, 0⟩)
abbrev sIsName : Stmt := top 13
abbrev sNewName : Stmt := top 14
abbrev sNeed : Stmt := top 15
abbrev sNeeds : Stmt := top 16
abbrev sNU : Stmt := top 17
abbrev sNew : Stmt := top 18
abbrev sUnlike : Stmt := top 19
abbrev sLinked : Stmt := top 20
abbrev sInit : Stmt := inClass (top 21) 0
abbrev sRooms : Stmt := inClass (top 21) 1
abbrev sDoors : Stmt := inClass (top 21) 2
abbrev sSights : Stmt := inClass (top 21) 3
abbrev sHas : Stmt := inClass (top 21) 4
abbrev sNear : Stmt := inClass (top 21) 5
abbrev sSees : Stmt := inClass (top 21) 6
abbrev sHasDoor : Stmt := inClass (top 21) 7
abbrev sHasSight : Stmt := inClass (top 21) 8
abbrev sAtHand : Stmt := inClass (top 21) 9
abbrev sLen : Stmt := inClass (top 21) 10
abbrev sEq : Stmt := inClass (top 21) 11
abbrev sStr : Stmt := inClass (top 21) 12
abbrev sRepr : Stmt := inClass (top 21) 13
abbrev sLawNear : Stmt := top 23
abbrev sLawSees : Stmt := top 24
abbrev sBox : Stmt := top 25
abbrev sDraw : Stmt := top 26
abbrev sOf : Stmt := top 27
abbrev sNames : Stmt := top 28
abbrev sLawHouse : Stmt := top 29
abbrev sLike : Stmt := top 30
abbrev sToldHouse : Stmt := top 31
abbrev sLaw : Stmt := top 32
end Dk
namespace Dk
open PySem L2
section
variable {P : Program} {w : World} {K : PySem.W.Frag} {mg : Str → Option Value} {base : Heap}
theorem scIs : FnScope ["text", "sign"] ["text"] (defScope sIsName) := ⟨rfl, rfl, rfl, by decide +kernel, rfl, by decide +kernel, by decide +kernel⟩
theorem ok_is {f : Addr} {fd : FuncData} (F : Fun K "is_name" "is_name" sIsName f fd) (ml : mg "len" = none) (ma : mg "all" = none) {t1 t2 : Tok} (g1 : mg "LONGEST_NAME" = some (.int 8 t1)) (g2 : mg "SMALL_LETTERS" = some (.str abc t2)) : FnOk P w K mg base CX0 1 f fd ["text"] spName := by
  refine F.ok scIs (fun vs H Q E h => ?_) (fun cdv A outer s H vs Q E hr h => ?_)
  · obtain ⟨z, rfl, _⟩ := h
    rfl
  · obtain ⟨z, rfl, hz, k⟩ := h
    refine ⟨_, pss_cons (ps_if (pt_not (pt_chain op_le op_le pe_int (pe_callB call_len_str (by rfl) ml PySem.boot_len (pa_cons (pv 0) pa_nil)) (pe_glob (v := .int 8) (by rfl) g1 ⟨_, rfl⟩))) (pss_one (ps_ret pe_bl)) pss_nil)
      (pss_one (ps_ret (pe_callB (cr_all rfl) (by rfl) ma (by decide +kernel) (pa_cons (pe_lc (own := [("sign", 1)]) (g := gName 1) (tt := tYes) rfl scIs.nd (pi_str (pv 0))
        (blkOk_by (N := ["text", "sign"]) (sc := defScope sIsName) (by decide +kernel)) (fun _ _ _ _ _ => pg_name (i := 1) scIs.nd rfl (Or.inl rfl)) (fun _ _ _ _ _ => pts_nil)
        (fun _ _ _ _ _ => pe_cmpR op_in_sign (pv 1) (pe_glob (v := .str abc) (by rfl) g2 ⟨_, rfl⟩) (by rfl))) pa_nil)))), ?_⟩
    refine ⟨_, rfl, z, rfl, Nat.le_of_lt (small1000 hz), _, _, rfl, rfl, _, rfl, ite2 (fun e => ?_) (fun e => ?_)⟩
    · refine ⟨_, _, rfl, rfl, _, rfl, ?_⟩
      have e1 : (1 : Int) ≤ (z.length : Int) := of_decide_eq_true e
      by_cases e2 : (z.length : Int) ≤ 8
      · rw [decide_eq_true e2]
        refine iteF ?_
        refine ⟨_, rfl, z, rfl, fun D nD => lc_it walk_str (fun i H' => Same H H' ∧ H' D = some (.lst ((inAbc z i).map V.bl))) ⟨same_new nD, upd_same⟩ (fun _ _ _ _ => trivial) ?_ ?_⟩
        · rintro i x H1 H2 hin ⟨s1, hD⟩ ⟨rfl, c, ec, rfl⟩
          refine ⟨rfl, ?_⟩
          refine ⟨_, rfl, c, abc, rfl, rfl, _, hD, inAbc_len hz, fun q o hq => ?_, ?_⟩
          · rw [upd_ne (ne_of_none hq nD)]
            exact s1 _ _ hq
          · rw [upd_same, inAbc_succ ec, List.map_append]
            rfl
        · rintro H1 ⟨s1, hD⟩
          refine ⟨D, _, rfl, SqL.of hD, ?_⟩
          rw [inAbc_all]
          have z1 := k H1 s1
          rw [nm_in (b := true) (decide_eq_true ⟨by omega, by omega⟩), Bool.true_and] at z1
          exact z1
      · rw [decide_eq_false e2]
        refine iteT ?_
        have z1 := k H (Same.refl H)
        rw [nm_in (b := false) (decide_eq_false (fun q => e2 (by omega))), Bool.false_and] at z1
        exact z1
    · refine ⟨false, rfl, ?_⟩
      refine iteT ?_
      have e1 : ¬ (1 : Int) ≤ (z.length : Int) := fun q => e (decide_eq_true q)
      have z1 := k H (Same.refl H)
      rw [nm_in (b := false) (decide_eq_false (fun q => e1 (by omega))), Bool.false_and] at z1
      exact z1
theorem scNewName : FnScope ["name", "others"] ["name", "others"] (defScope sNewName) := ⟨rfl, rfl, rfl, by decide +kernel, rfl, by decide +kernel, by decide +kernel⟩
theorem ok_newname {f fI : Addr} {fd fdI : FuncData} (F : Fun K "need_new_name" "need_new_name" sNewName f fd) (FI : Fun K "is_name" "is_name" sIsName fI fdI) (bI : Binds K fdI ["text"] []) (gI : mg "is_name" = some (.ref fI)) (GI : FnOk P w K mg base CX0 1 fI fdI ["text"] spName) :
    FnOk P w K mg base CX0 2 f fd ["name", "others"] spNewName := by
  refine F.ok scNewName (fun vs H Q E h => ?_) (fun cdv A outer s H vs Q E hr h => ?_)
  · obtain ⟨z, o, zs, rfl, _⟩ := h
    rfl
  · obtain ⟨z, o, zs, rfl, hN, ho, hz, k⟩ := h
    refine ⟨_, pss_cons (ps_if (pt_not (pt_val (pe_call GI hr (by rfl) gI FI.kp bI .nil pass0 (pa_cons (pv 0) pa_nil)))) (pss_one (ps_never)) pss_nil)
      (pss_one (ps_if (pt_cmpR op_in_seq (pv 0) (pv 1) (by rfl)) (pss_one (ps_never)) pss_nil)), ?_⟩
    refine ⟨_, rfl, z, rfl, nm_len hN, fun H1 s1 => ?_⟩
    rw [hN]
    refine ⟨true, rfl, iteF ?_⟩
    refine ⟨_, rfl, _, rfl, o, _, rfl, .inl (SqL.of (s1 _ _ ho)), rfl, flat_all zs, _, rfl, ?_⟩
    show if inV (.str z) (zs.map V.str) = true then _ else _
    rw [in_strs, decide_eq_false hz]
    exact iteF (k H1 s1)
theorem scHas : FnScope ["self", "name"] ["self", "name"] (defScope sHas) := ⟨rfl, rfl, rfl, by decide +kernel, rfl, by decide +kernel, by decide +kernel⟩
structure HTxt (K : PySem.W.Frag) (C : Addr) : Prop where
  cl : Cls K C
  nN : NoAttr K C "names"
  nB : NoAttr K C "behind"
  nV : NoAttr K C "views"
  ha : PySem.W.findIn K (.ref C) "__class__" = some (some (.builtin "object.__class__"))
  hn : PySem.W.specialIn K (.builtin "object.__class__") "__get__" = some (some (.builtin "getset_descriptor.__get__"))
  htk : PySem.W.takesIn K (.builtin "object.__class__") = some true
  hm : PySem.W.mroIn K C (.type "object") = some true
  k1 : PySem.W.kitOne K (.ref C) (.ref C) = some true
theorem ok_has {f C : Addr} {fd : FuncData} (F : Fun K "has_room" "House.has_room" sHas f fd) (T : HTxt K C) : FnOk P w K mg base CX0 1 f fd ["self", "name"] (spHas C) := by
  refine F.ok scHas (fun vs H Q E h => ?_) (fun cdv A outer s H vs Q E hr h => ?_)
  · obtain ⟨h, zs, z, rfl, _⟩ := h
    rfl
  · obtain ⟨h, zs, z, rfl, ⟨dx, n, fs, h1, h2, h3, h4⟩, k⟩ := h
    refine ⟨_, pss_one (ps_ret (pe_cmpR op_in_seq (pv 1) (pe_fld (pv 0) rfl) (by rfl))), ?_⟩
    refine ⟨_, rfl, _, rfl, h, C, dx, fs, _, rfl, h1, T.cl, T.nN, h2, n, _, rfl, .inl (SqL.of h4), rfl, flat_all zs, ?_⟩
    show Q (V.bl (inV (.str z) (zs.map V.str))) H
    rw [in_strs]
    exact k
theorem scNeed : FnScope ["house", "room"] ["house", "room"] (defScope sNeed) := ⟨rfl, rfl, rfl, by decide +kernel, rfl, by decide +kernel, by decide +kernel⟩
theorem ok_need {f fH C : Addr} {fd fdH : FuncData} (F : Fun K "need_room" "need_room" sNeed f fd) (T : HTxt K C) (mH : Meth K C "has_room" fH) (bH : Binds K fdH ["self", "name"] []) (GH : FnOk P w K mg base CX0 1 fH fdH ["self", "name"] (spHas C)) : FnOk P w K mg base CX0 2 f fd ["house", "room"] (spNeed C) := by
  refine F.ok scNeed (fun vs H Q E h => ?_) (fun cdv A outer s H vs Q E hr h => ?_)
  · obtain ⟨h, zs, z, rfl, _⟩ := h
    rfl
  · obtain ⟨h, zs, z, rfl, ⟨dx, n, fs, h1, h2, h3, h4⟩, hz, k⟩ := h
    refine ⟨_, pss_one (ps_if (pt_not (pt_val (pe_meth (pv 0) T.cl mH GH hr bH .nil pass0 (pa_cons (pv 1) pa_nil)))) (pss_one (ps_never)) pss_nil), ?_⟩
    refine ⟨_, rfl, h, dx, fs, rfl, h1, h3, _, rfl, h, zs, z, rfl, ⟨dx, n, fs, h1, h2, h3, h4⟩, ?_⟩
    rw [decide_eq_true hz]
    exact ⟨true, rfl, iteF k⟩
theorem scNeeds : FnScope ["house", "a", "b"] ["house", "a", "b"] (defScope sNeeds) := ⟨rfl, rfl, rfl, by decide +kernel, rfl, by decide +kernel, by decide +kernel⟩
theorem ok_needs {f fN C : Addr} {fd fdN : FuncData} (F : Fun K "need_rooms" "need_rooms" sNeeds f fd) (FN : Fun K "need_room" "need_room" sNeed fN fdN) (bN : Binds K fdN ["house", "room"] []) (gN : mg "need_room" = some (.ref fN)) (GN : FnOk P w K mg base CX0 2 fN fdN ["house", "room"] (spNeed C)) :
    FnOk P w K mg base CX0 3 f fd ["house", "a", "b"] (spNeeds C) := by
  refine F.ok scNeeds (fun vs H Q E h => ?_) (fun cdv A outer s H vs Q E hr h => ?_)
  · obtain ⟨h, zs, y, z, rfl, _⟩ := h
    rfl
  · obtain ⟨h, zs, y, z, rfl, hN, hy, hz, k⟩ := h
    refine ⟨_, pss_cons (ps_expr (pe_call GN hr (by rfl) gN FN.kp bN .nil pass0 (pa_cons (pv 0) (pa_cons (pv 1) pa_nil))))
      (pss_one (ps_expr (pe_call GN hr (by rfl) gN FN.kp bN .nil pass0 (pa_cons (pv 0) (pa_cons (pv 2) pa_nil))))), ?_⟩
    exact ⟨_, rfl, _, rfl, h, zs, y, rfl, hN, hy, _, rfl, _, rfl, h, zs, z, rfl, hN, hz, k⟩
end
end Dk
namespace Dk
open PySem L2
section
variable {P : Program} {w : World} {K : PySem.W.Frag} {mg : Str → Option Value} {base : Heap}
theorem scNew : FnScope ["names", "copied", "name"] ["names"] (defScope sNew) := ⟨rfl, rfl, rfl, by decide +kernel, rfl, by decide +kernel, by decide +kernel⟩
theorem ok_new {f fW : Addr} {fd fdW : FuncData} (F : Fun K "new_names" "new_names" sNew f fd) (FW : Fun K "need_new_name" "need_new_name" sNewName fW fdW) (bW : Binds K fdW ["name", "others"] []) (gW : mg "need_new_name" = some (.ref fW)) (GW : FnOk P w K mg base CX0 2 fW fdW ["name", "others"] spNewName) :
    FnOk P w K mg base CX0 3 f fd ["names"] (spNew K) := by
  refine F.ok scNew (fun vs H Q E h => ?_) (fun cdv A outer s H vs Q E hr h => ?_)
  · obtain ⟨p, zs, rfl, _⟩ := h
    rfl
  · obtain ⟨p, zs, rfl, hS, hN, hl, k⟩ := h
    refine ⟨_, pss_cons (ps_set (i := 1) scNew.nd rfl (Or.inl rfl) (pe_lst pa_nil))
      (pss_cons (ps_for PassesOwn.never rfl (pi_any (pi_list (pv 0)) (pi_tup (pv 0))) (pg_name (i := 2) scNew.nd rfl (Or.inl rfl))
      (pss_cons (ps_expr (pe_call GW hr (by rfl) gW FW.kp bW .nil pass0 (pa_cons (pv 2) (pa_cons (pv 1) pa_nil))))
      (pss_one (ps_expr (pe_bm PySem.F.plainAttrs_list PySem.F.slot_list_append PySem.F.type_list_append mt_append (pv 1) (pa_cons (pv 2) pa_nil))))))
      (pss_one (ps_ret (pv 1)))), ?_⟩
    refine ⟨Nat.zero_le _, fun o no => ?_⟩
    refine for_sq hS rfl (fun i σ H' => ∃ y2 : Option V, σ = [some (.ref p), some (.ref o), y2] ∧ Same H H' ∧ H' o = some (.lst ((zs.take i).map V.str))) ⟨_, rfl, same_new no, upd_same⟩ (fun i σ H' h => by obtain ⟨_, _, s1, _⟩ := h; exact s1) ?_ ?_
    · rintro i x σ H' hx ⟨y2, rfl, s1, ho⟩
      obtain ⟨z, ez, rfl⟩ := str_at hx
      have hi : i < zs.length := (List.getElem?_eq_some_iff.mp ez).1
      refine ⟨_, rfl, _, rfl, z, o, zs.take i, rfl, hN.2 z (List.mem_of_getElem? ez), ho, nodup_at hN.1 ez, fun H2 s2 => ?_⟩
      have ho2 := s2 _ _ ho
      refine ⟨_, rfl, .inl ⟨rfl, _, SqL.of ho2⟩, _, rfl, o, _, _, rfl, rfl, ho2, ?_, ?_⟩
      · rw [List.length_map, List.length_take]
        exact small1000 (by omega)
      · refine ⟨_, rfl, same_put (s1.trans s2) no, ?_⟩
        rw [upd_same, take_snoc ez, List.map_append]
        rfl
    · rintro σ H' ⟨y2, rfl, s1, ho⟩
      rw [List.length_map, List.take_length] at ho
      exact ⟨_, rfl, k H' o s1 no ho⟩
theorem scNU : FnScope ["house", "a", "b"] ["house", "a", "b"] (defScope sNU) := ⟨rfl, rfl, rfl, by decide +kernel, rfl, by decide +kernel, by decide +kernel⟩
theorem ok_nu {f fS C : Addr} {fd fdS : FuncData} (F : Fun K "need_unlike" "need_unlike" sNU f fd) (FS : Fun K "need_rooms" "need_rooms" sNeeds fS fdS) (bS : Binds K fdS ["house", "a", "b"] []) (gS : mg "need_rooms" = some (.ref fS)) (GS : FnOk P w K mg base CX0 3 fS fdS ["house", "a", "b"] (spNeeds C)) :
    FnOk P w K mg base CX0 4 f fd ["house", "a", "b"] (spNU C) := by
  refine F.ok scNU (fun vs H Q E h => ?_) (fun cdv A outer s H vs Q E hr h => ?_)
  · obtain ⟨h, zs, y, z, rfl, _⟩ := h
    rfl
  · obtain ⟨h, zs, y, z, rfl, hN, hy, hz, hu, k⟩ := h
    refine ⟨_, pss_cons (ps_expr (pe_call GS hr (by rfl) gS FS.kp bS .nil pass0 (pa_cons (pv 0) (pa_cons (pv 1) (pa_cons (pv 2) pa_nil)))))
      (pss_one (ps_if (pt_cmpR op_eq (pv 1) (pv 2) (nomark _)) (pss_one (ps_never)) pss_nil)), ?_⟩
    refine ⟨_, rfl, _, rfl, _, rfl, h, zs, y, z, rfl, hN, hy, hz, ?_⟩
    refine ⟨_, rfl, _, rfl, rfl, _, rfl, ?_⟩
    rw [decide_eq_false (fun e => hu (V.str.inj e))]
    exact iteF k
theorem scUnlike : FnScope ["house", "pairs", "copied", "a", "b"] ["house", "pairs"] (defScope sUnlike) := ⟨rfl, rfl, rfl, by decide +kernel, rfl, by decide +kernel, by decide +kernel⟩
theorem ok_unlike {f fS C : Addr} {fd fdS : FuncData} (F : Fun K "unlike_pairs" "unlike_pairs" sUnlike f fd) (FS : Fun K "need_unlike" "need_unlike" sNU fS fdS) (bS : Binds K fdS ["house", "a", "b"] []) (gS : mg "need_unlike" = some (.ref fS)) (GS : FnOk P w K mg base CX0 4 fS fdS ["house", "a", "b"] (spNU C)) :
    FnOk P w K mg base CX0 5 f fd ["house", "pairs"] (spUnlike K C) := by
  refine F.ok scUnlike (fun vs H Q E h => ?_) (fun cdv A outer s H vs Q E hr h => ?_)
  · obtain ⟨h, p, zs, xs, ps, rfl, _⟩ := h
    rfl
  · obtain ⟨h, p, zs, xs, ps, rfl, hN, hS, hP, hl, hg, k⟩ := h
    refine ⟨_, pss_cons (ps_set (i := 2) scUnlike.nd rfl (Or.inl rfl) (pe_lst pa_nil))
      (pss_cons (ps_for PassesOwn.never rfl (pi_any (pi_list (pv 1)) (pi_tup (pv 1))) (pg_tup rfl (pgs_cons (pg_name (i := 3) scUnlike.nd rfl (Or.inl rfl)) (pgs_cons (pg_name (i := 4) scUnlike.nd rfl (Or.inl rfl)) pgs_nil)))
      (pss_cons (ps_expr (pe_call GS hr (by rfl) gS FS.kp bS .nil pass0 (pa_cons (pv 0) (pa_cons (pv 3) (pa_cons (pv 4) pa_nil)))))
      (pss_one (ps_expr (pe_bm PySem.F.plainAttrs_list PySem.F.slot_list_append PySem.F.type_list_append mt_append (pv 2) (pa_cons (pe_tup (pa_cons (pv 3) (pa_cons (pv 4) pa_nil))) pa_nil))))))
      (pss_one (ps_ret (pv 2)))), ?_⟩
    refine ⟨Nat.zero_le _, fun o no => ?_⟩
    refine for_sq hS rfl (fun i σ H' => ∃ y3 y4 : Option V, σ = [some (.ref h), some (.ref p), some (.ref o), y3, y4] ∧ Same H H' ∧ ∃ ys, H' o = some (.lst ys) ∧ PL H' ys (ps.take i)) ⟨_, _, rfl, same_new no, [], upd_same, PL.nil⟩ (fun i σ H' h => by obtain ⟨_, _, _, s1, _⟩ := h; exact s1) ?_ ?_
    · rintro i x σ H' hx ⟨y3, y4, rfl, s1, ys, ho, hy⟩
      obtain ⟨⟨a, b⟩, eab, q, rfl, hq⟩ := hP.at hx
      have hi : i < ps.length := (List.getElem?_eq_some_iff.mp eab).1
      have hg1 := hg _ (List.mem_of_getElem? eab)
      refine ⟨q, _, rfl, SqT.of (s1 _ _ hq), rfl, _, _, rfl, _, _, rfl, rfl, ?_⟩
      refine ⟨_, rfl, _, rfl, _, rfl, h, zs, a, b, rfl, hN.same s1, hg1.1, hg1.2.1, hg1.2.2, ?_⟩
      refine ⟨_, rfl, .inl ⟨rfl, _, SqL.of ho⟩, _, rfl, _, rfl, by show 2 ≤ sizeLine; decide, fun t nt => ?_⟩
      have nto : o ≠ t := ne_of_none ho nt
      have s2 := same_new (o := .tup [.str a, .str b]) nt
      have ylen : ys.length ≤ 1000 := by
        rw [hy.1, List.length_take]
        have := hP.1
        omega
      refine ⟨o, _, _, rfl, rfl, by rw [upd_ne nto]; exact ho, small1000 ylen, ?_⟩
      refine ⟨_, _, rfl, same_put (s1.trans s2) no, ys ++ [.ref t], upd_same, ?_⟩
      have kt : KeepT H' (upd (upd H' t (.tup [.str a, .str b])) o (.lst (ys ++ [.ref t]))) := (KeepT.of s2).trans (KeepT.lst (s2 _ _ ho))
      rw [List.take_add_one, eab]
      exact (hy.keep kt).snoc ⟨t, rfl, by rw [upd_ne nto.symm, upd_same]⟩
    · rintro σ H' ⟨y3, y4, rfl, s1, ys, ho, hy⟩
      rw [hP.1, List.take_length] at hy
      exact ⟨_, rfl, k H' o ys s1 no ho hy⟩
end
end Dk
namespace Dk
open PySem L2
section
variable {P : Program} {w : World} {K : PySem.W.Frag} {mg : Str → Option Value} {base : Heap}
theorem scLinked : FnScope ["rooms", "pairs", "a", "b"] ["rooms", "pairs"] (defScope sLinked) := ⟨rfl, rfl, rfl, by decide +kernel, rfl, by decide +kernel, by decide +kernel⟩
theorem ok_linked {f : Addr} {fd : FuncData} (F : Fun K "linked" "linked" sLinked f fd) : FnOk P w K mg base CX0 1 f fd ["rooms", "pairs"] spLinked := by
  refine F.ok scLinked (fun vs H Q E h => ?_) (fun cdv A outer s H vs Q E hr h => ?_)
  · obtain ⟨n, p, zs, ys, ps, rfl, _⟩ := h
    rfl
  · obtain ⟨n, p, zs, ys, ps, rfl, hn, hN, hl, hp, hP, hok, k⟩ := h
    have hu65 : (A.deeper (PyProof.Rows.envOfC "linked" (defScope sLinked) s.heap.objs.size f cdv)).units + 65 < cLine := by
      have := hr.un
      omega
    refine ⟨_, pss_one (ps_ret (pe_dc (own := [("a", 2)]) (g := gName 2) (tt := tYes) (tv := tLc (iList K (tVar 0)) (gName 3) (tTest (tOp (rInD K) (tTup (tCons (tVar 2) (tCons (tVar 3) tNil))) (tVar 1))) (tVar 3) [3]) rfl scLinked.nd (pi_list (pv 0)) (blkOk_by (N := ["rooms", "pairs", "a", "b"]) (sc := defScope sLinked) (by decide +kernel)) (fun _ _ _ _ _ => (pg_name (i := 2) scLinked.nd rfl (Or.inr rfl))) (fun _ _ _ _ _ => pts_nil) (fun _ _ _ _ _ => (pv 2)) (fun _ _ _ _ _ => (pe_lc (own := [("b", 3)]) (g := gName 3)  rfl scLinked.nd (pi_list (pv 0)) (blkOk_by (N := ["rooms", "pairs", "a", "b"]) (sc := { kind := .function, names := [(".0", .local), ("a", .cell), ("pairs", .cell), ("rooms", .cell)], isGenerator := false, isCoroutine := false }) (by decide +kernel)) (fun _ _ _ _ _ => (pg_name (i := 3) scLinked.nd rfl (Or.inl rfl))) (fun _ _ _ _ _ => pts_one (pt_cmpR (op_inD hu65) (pe_tup (pa_cons (pv 2) (pa_cons (pv 3) pa_nil))) (pv 1) (by rfl))) (fun _ _ _ _ _ => (pv 3)))))), ?_⟩
    refine ⟨_, rfl, n, rfl, ⟨_, SqL.of hn⟩, fun D nD => ?_⟩
    refine dc_list (K := K) (a := n) (xs := zs.map V.str) (fun i H' => Same H H' ∧ ∃ as : List Addr, as.length = i ∧ H' D = some (.dK (kvs (zs.take i) as)) ∧ ∀ (j : Nat) (z : Str) (q : Addr), (zs.take i)[j]? = some z → as[j]? = some q → H q = none ∧ H' q = some (.lst ((lnk zs ps z).map V.str)))
      ⟨same_new nD, [], rfl, upd_same, fun j z q e _ => by simp at e⟩ (fun i H' _ h => SqL.of (h.1 _ _ hn)) ?_ ?_
    · rintro i x H' hx ⟨s1, as, el, hD, has⟩
      obtain ⟨z, ez, rfl⟩ := str_at hx
      have hi : i < zs.length := (List.getElem?_eq_some_iff.mp ez).1
      have hn1 := s1 _ _ hn
      refine ⟨rfl, ?_⟩
      refine ⟨_, rfl, _, rfl, n, rfl, ⟨_, SqL.of hn1⟩, fun B nB => ?_⟩
      have nBD : D ≠ B := ne_of_none hD nB
      have nBH : H B = none := s1.free nB
      refine lc_list (K := K) (a := n) (xs := zs.map V.str) (fun m H2 => Same H' H2 ∧ H2 B = some (.lst ((lnk (zs.take m) ps z).map V.str))) ⟨same_new nB, upd_same⟩ (fun m H2 _ h => SqL.of (h.1 _ _ hn1)) ?_ ?_
      · rintro m y H2 hy ⟨s2, hB⟩
        obtain ⟨b, eb, rfl⟩ := str_at hy
        refine ⟨rfl, ?_⟩
        refine ⟨_, rfl, _, rfl, by show 2 ≤ sizeLine; decide, fun t nt => ?_⟩
        have s3 := same_new (o := .tup [.str z, .str b]) nt
        have s123 := s1.trans (s2.trans s3)
        have hok2 : okP (z, b) := ⟨nm_ok (hN.2 _ (List.mem_of_getElem? ez)), nm_ok (hN.2 _ (List.mem_of_getElem? eb))⟩
        refine ⟨_, rfl, pd (z, b), ps.map pd, pr_dp ⟨t, rfl, upd_same⟩, .lst (SqL.of (s123 _ _ hp)) (pl_dp (hP.same s123)), pd_shaped hok2, pds_shaped hok, _, rfl, ?_⟩
        rw [any_pd]
        refine ite2 (fun e => ?_) (fun e => ?_)
        · have e1 : (z, b) ∈ ps := of_decide_eq_true e
          refine ⟨_, rfl, _, s3 _ _ hB, ?_, same_put (s2.trans s3) nB, ?_⟩
          · rw [List.length_map]
            have := lnk_len (zs.take m) ps z
            rw [List.length_take] at this
            exact small1000 (by omega)
          · rw [upd_same, lnk_take eb, if_pos e1, List.map_append]
            rfl
        · have e1 : ¬ (z, b) ∈ ps := fun q => e (decide_eq_true q)
          refine ⟨s2.trans s3, ?_⟩
          rw [s3 _ _ hB, lnk_take eb, if_neg e1, List.append_nil]
      · rintro H2 ⟨s2, hB⟩
        rw [List.length_map, List.take_length] at hB
        have hD2 := s2 _ _ hD
        have eT := take_snoc ez
        have hnz : valV (kvs (zs.take i) as) (Sum.inr z : Key) = none := kvs_none (nodup_at hN.1 ez)
        have hel : as.length = (zs.take i).length := by
          rw [el, List.length_take]
          omega
        refine ⟨_, (Sum.inr z : Key), rfl, hD2, ?_, same_put (s1.trans s2) nD, as ++ [B], ?_, ?_, ?_⟩
        · rw [kvs_len _ _ hel, List.length_take]
          exact small1000 (by omega)
        · rw [List.length_append, el]
          rfl
        · rw [upd_same, putK_new _ hnz, eT, kvs_snoc hel]
        · intro j y q h1 h2
          have nq : ∀ {q : Addr} {xs : List V}, H2 q = some (.lst xs) → q ≠ D := fun {q xs} hq e => by
            rw [e, hD2] at hq
            cases hq
          rw [eT] at h1
          by_cases hj : j < (zs.take i).length
          · rw [List.getElem?_append_left hj] at h1
            rw [List.getElem?_append_left (by omega)] at h2
            obtain ⟨h3n, h3o⟩ := has j y q h1 h2
            have h3 := s2 _ _ h3o
            rw [upd_ne (nq h3)]
            exact ⟨h3n, h3⟩
          · rw [List.getElem?_append_right (by omega)] at h1 h2
            have ej : j - (zs.take i).length = 0 := by
              have := (List.getElem?_eq_some_iff.mp h1).1
              simp at this
              omega
            rw [ej] at h1
            rw [hel, ej] at h2
            rw [← Option.some.inj h1, ← Option.some.inj h2, upd_ne (nq hB)]
            exact ⟨nBH, hB⟩
    · rintro H' ⟨s1, as, el, hD, has⟩
      rw [List.length_map, List.take_length] at hD has
      rw [List.length_map] at el
      exact k H' D s1 nD ⟨as, el, by rw [new_at nD]; exact hD, fun j z q a b => by rw [new_at (has j z q a b).1]; exact (has j z q a b).2⟩
end
end Dk
namespace Dk
open PySem L2
section
variable {P : Program} {w : World} {K : PySem.W.Frag} {mg : Str → Option Value} {base : Heap}
theorem scInit : FnScope ["self", "rooms", "doors", "sights", "door_pairs", "sight_pairs", "a", "b"] ["self", "rooms", "doors", "sights"] (defScope sInit) := ⟨rfl, rfl, rfl, by decide +kernel, rfl, by decide +kernel, by decide +kernel⟩
abbrev FunI (K : PySem.W.Frag) (dvs : List V) (f : Addr) (fd : FuncData) : Prop := FunD K "__init__" "House.__init__" (defArgs sInit) (defBody sInit) (defScope sInit) dvs [] f fd
theorem ok_init {f fW fU fK C : Addr} {fd fdW fdU fdK : FuncData} {dvs : List V} {tm : Tok} (F : FunI K dvs f fd) (T : HTxt K C) (ml : mg "len" = none) (gM : mg "MOST_ROOMS" = some (.int 8 tm))
    (FW : Fun K "new_names" "new_names" sNew fW fdW) (bW : Binds K fdW ["names"] []) (gW : mg "new_names" = some (.ref fW)) (GW : FnOk P w K mg base CX0 3 fW fdW ["names"] (spNew K))
    (FU : Fun K "unlike_pairs" "unlike_pairs" sUnlike fU fdU) (bU : Binds K fdU ["house", "pairs"] []) (gU : mg "unlike_pairs" = some (.ref fU)) (GU : FnOk P w K mg base CX0 5 fU fdU ["house", "pairs"] (spUnlike K C))
    (FK : Fun K "linked" "linked" sLinked fK fdK) (bK : Binds K fdK ["rooms", "pairs"] []) (gK : mg "linked" = some (.ref fK)) (GK : FnOk P w K mg base CX0 1 fK fdK ["rooms", "pairs"] spLinked) :
    FnOk P w K mg base CX0 6 f fd ["self", "rooms", "doors", "sights"] (spInit K C) := by
  refine F.ok scInit (fun vs H Q E h => ?_) (fun cdv A outer s H vs Q E hr h => ?_)
  · obtain ⟨H0, x, dx, r, d, s, zs, xs, us, ds, ss, rfl, _⟩ := h
    rfl
  · obtain ⟨H0, x, dx, r, d, u, zs, xs, us, ds, ss, rfl, s0, x0, hx, hr', hN, hl, hd, hD, hdl, hdg, hs, hS, hsl, hsg, k⟩ := h
    refine ⟨_, pss_cons (ps_if (pt_cmpR op_gt (pe_callB call_len_seq (by rfl) ml PySem.boot_len (pa_cons (pv 1) pa_nil)) (pe_glob (v := .int 8) (by rfl) gM ⟨_, rfl⟩) (nomark _)) (pss_one (ps_never)) pss_nil)
      (pss_cons (ps_fld (pv 0) (pe_call GW (hr.mono (by decide)) (by rfl) gW FW.kp bW .nil pass0 (pa_cons (pv 1) pa_nil)) rfl)
      (pss_cons (ps_set (i := 4) scInit.nd rfl (Or.inl rfl) (pe_call GU hr (by rfl) gU FU.kp bU .nil pass0 (pa_cons (pv 0) (pa_cons (pv 2) pa_nil))))
      (pss_cons (ps_set (i := 5) scInit.nd rfl (Or.inl rfl) (pe_call GU hr (by rfl) gU FU.kp bU .nil pass0 (pa_cons (pv 0) (pa_cons (pv 3) pa_nil))))
      (pss_cons (ps_fld (pv 0) (pe_call GK (hr.mono (by decide)) (by rfl) gK FK.kp bK .nil pass0 (pa_cons (pe_fld (pv 0) rfl) (pa_cons (pe_op op_cat (pv 4) (pe_lc (own := [("a", 6), ("b", 7)]) (g := gTup K 2 (gCons (gName 6) (gCons (gName 7) gNil))) (tt := tYes)  rfl scInit.nd (pi_list (pv 4)) (blkOk_by (N := ["self", "rooms", "doors", "sights", "door_pairs", "sight_pairs", "a", "b"]) (sc := defScope sInit) (by decide +kernel)) (fun _ _ _ _ _ => (pg_tup rfl (pgs_cons (pg_name (i := 6) scInit.nd rfl (Or.inl rfl)) (pgs_cons (pg_name (i := 7) scInit.nd rfl (Or.inl rfl)) pgs_nil)))) (fun _ _ _ _ _ => pts_nil) (fun _ _ _ _ _ => (pe_tup (pa_cons (pv 7) (pa_cons (pv 6) pa_nil)))))) pa_nil))) rfl)
      (pss_one (ps_fld (pv 0) (pe_call GK (hr.mono (by decide)) (by rfl) gK FK.kp bK .nil pass0 (pa_cons (pe_fld (pv 0) rfl) (pa_cons (pv 5) pa_nil))) rfl)))))), ?_⟩
    refine ⟨_, rfl, r, _, rfl, hr'.same s0, _, _, rfl, rfl, _, rfl, ?_⟩
    rw [List.length_map, decide_eq_false (show ¬ (8 : Int) < ((zs.length : Nat) : Int) by omega)]
    refine iteF ?_
    -- names
    refine ⟨_, rfl, r, zs, rfl, hr'.same s0, hN, by omega, fun H1 n s1 nn hn => ?_⟩
    have hx1 := s1 _ _ hx
    have nxn : n ≠ x := fun e => by
      rw [e, hx] at nn
      cases nn
    refine ⟨_, rfl, x, C, dx, [], rfl, hx1, T.cl, T.nN, by show 0 < 1000; decide, ?_⟩
    have s02 : Same H0 (upd H1 x (.ins C dx (putF "names" (.ref n) []))) := same_put (s0.trans s1) x0
    have hx2 : (upd H1 x (.ins C dx (putF "names" (.ref n) []))) x = some (.ins C dx [(("names" : Str), V.ref n)]) := upd_same
    have hn2 : (upd H1 x (.ins C dx (putF "names" (.ref n) []))) n = some (.lst (zs.map V.str)) := by
      rw [upd_ne nxn]
      exact hn
    generalize upd H1 x (.ins C dx (putF "names" (.ref n) [])) = H2 at s02 hx2 hn2
    have nmd : Nmd C H2 x zs := ⟨dx, n, _, hx2, List.lookup_cons_self, one_no n (by decide +kernel), hn2⟩
    -- pairs
    refine ⟨_, rfl, _, rfl, x, d, zs, xs, ds, rfl, nmd, hd.same s02, hD.same s02, by omega, hdg, fun H3 dp es s3 ndp hdp hes => ?_⟩
    refine ⟨_, rfl, _, rfl, x, u, zs, us, ss, rfl, nmd.same s3, hs.same (s02.trans s3), hS.same (s02.trans s3), by omega, hsg, fun H4 sp fs s4 nsp hsp hfs => ?_⟩
    have s24 := s3.trans s4
    have hx4 := s24 _ _ hx2
    have hn4 := s24 _ _ hn2
    have hdp4 := s4 _ _ hdp
    have hes4 := hes.same s4
    have nl4 : ([(("names" : Str), V.ref n)] : List (Str × V)).lookup ("names" : Str) = some (V.ref n) := List.lookup_cons_self
    -- behind
    refine ⟨_, rfl, x, C, dx, _, _, rfl, hx4, T.cl, T.nN, nl4, _, rfl, _, rfl, dp, rfl, ⟨_, SqL.of hdp4⟩, fun B nB => ?_⟩
    refine lc_list (K := K) (a := dp) (xs := es) (fun i H' => Same H4 H' ∧ ∃ ys, H' B = some (.lst ys) ∧ PL H' ys ((swp ds).take i)) ⟨same_new nB, [], upd_same, PL.nil⟩ (fun i H' _ h => SqL.of (h.1 _ _ hdp4)) ?_ ?_
    · rintro i y H' hy ⟨s5, ys, hB, hys⟩
      obtain ⟨⟨a, b⟩, eab, q, rfl, hq⟩ := hes4.at hy
      have hi : i < ds.length := (List.getElem?_eq_some_iff.mp eab).1
      refine ⟨q, _, rfl, SqT.of (s5 _ _ hq), rfl, _, _, rfl, _, _, rfl, rfl, rfl, ?_⟩
      refine ⟨_, rfl, _, rfl, by show 2 ≤ sizeLine; decide, fun t nt => ?_⟩
      have s6 := same_new (o := .tup [.str b, .str a]) nt
      have nBt : B ≠ t := ne_of_none hB nt
      have yl : ys.length ≤ 400 := by
        rw [hys.1, List.length_take, swp_len]
        have := hD.1
        omega
      refine ⟨_, s6 _ _ hB, small1000 (by omega), same_put (s5.trans s6) nB, ys ++ [.ref t], upd_same, ?_⟩
      have kt : KeepT H' (upd (upd H' t (.tup [.str b, .str a])) B (.lst (ys ++ [.ref t]))) := (KeepT.of s6).trans (KeepT.lst (s6 _ _ hB))
      have e2 : (swp ds)[i]? = some (b, a) := by
        unfold swp
        rw [List.getElem?_map, eab]
        rfl
      rw [List.take_add_one, e2]
      exact (hys.keep kt).snoc ⟨t, rfl, by rw [upd_ne nBt.symm, upd_same]⟩
    rintro H5 ⟨s5, ys, hB, hys⟩
    have eal : es.length = (swp ds).length := by rw [hes4.1, swp_len]
    rw [eal, List.take_length] at hys
    have el5 : es.length ≤ 400 := by
      rw [hes4.1]
      have := hD.1
      omega
    have yl5 : ys.length ≤ 400 := by
      rw [hys.1, ← eal]
      exact el5
    refine ⟨dp, B, _, _, rfl, rfl, s5 _ _ hdp4, hB, Nat.le_of_lt (small1000 (by omega)), fun b2 nb2 => ?_⟩
    have s6 := same_new (o := .lst (es ++ ys)) nb2
    have s46 := s5.trans s6
    have okd : ∀ ab ∈ both ds, okP ab := by
      intro ab hab
      rcases List.mem_append.mp hab with h | h
      · exact pred_ok hN (hdg ab h)
      · obtain ⟨cd, hcd, rfl⟩ := List.mem_map.mp h
        have := pred_ok hN (hdg cd hcd)
        exact ⟨this.2, this.1⟩
    refine ⟨n, b2, zs, es ++ ys, both ds, rfl, s46 _ _ hn4, hN, by omega, upd_same, ((hes4.same s5).append hys).same s6, okd, fun H7 bd s7 nbd hbd => ?_⟩
    have hx7 := s7 _ _ (s46 _ _ hx4)
    refine ⟨_, rfl, x, C, dx, _, rfl, hx7, T.cl, T.nB, by show 1 < 1000; decide, ?_⟩
    rw [put_b]
    have s07 := s02.trans (s24.trans (s46.trans s7))
    have s08 : Same H0 (upd H7 x (.ins C dx [(("names" : Str), V.ref n), (("behind" : Str), V.ref bd)])) := same_put s07 x0
    have hx8 : (upd H7 x (.ins C dx [(("names" : Str), V.ref n), (("behind" : Str), V.ref bd)])) x = some (.ins C dx [(("names" : Str), V.ref n), (("behind" : Str), V.ref bd)]) := upd_same
    have hn8 : (upd H7 x (.ins C dx [(("names" : Str), V.ref n), (("behind" : Str), V.ref bd)])) n = some (.lst (zs.map V.str)) := by
      rw [upd_ne nxn]
      exact s7 _ _ (s46 _ _ hn4)
    have hsp7 := s7 _ _ (s46 _ _ hsp)
    have hsp8 : (upd H7 x (.ins C dx [(("names" : Str), V.ref n), (("behind" : Str), V.ref bd)])) sp = some (.lst fs) := by
      rw [upd_ne (fun e => by rw [e, hx7] at hsp7; cases hsp7)]
      exact hsp7
    have hfs8 : PL (upd H7 x (.ins C dx [(("names" : Str), V.ref n), (("behind" : Str), V.ref bd)])) fs ss := (hfs.same (s46.trans s7)).keep (KeepT.ins hx7)
    have up8 : ∀ q o, newPart (upd H5 b2 (.lst (es ++ ys))) H7 q = some o → (upd H7 x (.ins C dx [(("names" : Str), V.ref n), (("behind" : Str), V.ref bd)])) q = some o := fun q o e => by
      obtain ⟨e1, e2⟩ := new_inv e
      rw [upd_ne (fun z => by rw [z, s46 _ _ hx4] at e1; cases e1)]
      exact e2
    generalize upd H7 x (.ins C dx [(("names" : Str), V.ref n), (("behind" : Str), V.ref bd)]) = H8 at s08 hx8 hn8 hsp8 hfs8 up8
    -- views
    refine ⟨_, rfl, x, C, dx, _, _, rfl, hx8, T.cl, T.nN, List.lookup_cons_self, _, rfl, n, sp, zs, fs, ss, rfl, hn8, hN, by omega, hsp8, hfs8, fun ab hab => pred_ok hN (hsg ab hab), fun H9 vd s9 nvd hvd => ?_⟩
    have hx9 := s9 _ _ hx8
    refine ⟨_, rfl, x, C, dx, _, rfl, hx9, T.cl, T.nV, by show 2 < 1000; decide, ?_⟩
    rw [put_v]
    have sF := same_put (o := .ins C dx (hf n bd vd)) (s08.trans s9) x0
    have n0 : H0 n = none := s0.free nn
    have s0a : Same H0 (upd H5 b2 (.lst (es ++ ys))) := s02.trans (s24.trans s46)
    have upF : ∀ {Ha : Hp} (q : Addr) (o : HO), Ha x ≠ none → Ha q = none → H9 q = some o → (upd H9 x (.ins C dx (hf n bd vd))) q = some o := fun {Ha} q o hx e1 e2 => by
      rw [upd_ne (fun z => hx (by rw [← z]; exact e1))]
      exact e2
    refine k _ sF ⟨dx, n, bd, vd, ?_, ?_, hbd.same (new_up s0a fun q o e1 e2 => ?_), hvd.same (new_up s08 fun q o e1 e2 => ?_), hN, hl⟩
    · rw [new_at x0, upd_same]
    · rw [new_at n0, upd_ne nxn]
      exact s9 _ _ hn8
    · exact upF (Ha := upd H5 b2 (.lst (es ++ ys))) q o (by rw [s46 _ _ hx4]; exact fun z => by cases z) e1 (s9 _ _ (up8 q o (by rw [new_at e1]; exact e2)))
    · exact upF (Ha := H8) q o (by rw [hx8]; exact fun z => by cases z) e1 e2
end
end Dk
namespace Dk
open PySem L2
section
variable {P : Program} {w : World} {K : PySem.W.Frag} {mg : Str → Option Value} {base : Heap}
theorem scRooms : FnScope ["self"] ["self"] (defScope sRooms) := ⟨rfl, rfl, rfl, by decide +kernel, rfl, by decide +kernel, by decide +kernel⟩
theorem ok_rooms {f C : Addr} {fd : FuncData} (F : Fun K "rooms" "House.rooms" sRooms f fd) (T : HTxt K C) (ml : mg "list" = none) : FnOk P w K mg base CX0 1 f fd ["self"] (spRooms C) := by
  refine F.ok scRooms (fun vs H Q E h => ?_) (fun cdv A outer s H vs Q E hr h => ?_)
  · obtain ⟨h, zs, bh, vw, rfl, _⟩ := h
    rfl
  · obtain ⟨h, zs, bh, vw, rfl, ⟨⟨dx, n, b, v, h1, h2, _⟩, _⟩, k⟩ := h
    refine ⟨_, pss_one (ps_ret (pe_callTy call_list_of (by rfl) ml (by decide +kernel) (pa_cons (pe_fld (pv 0) rfl) pa_nil))), ?_⟩
    refine ⟨_, rfl, h, C, dx, _, _, rfl, h1, T.cl, T.nN, hf_n _ _ _, n, _, rfl, .inl (SqL.of h2), fun p np => ?_⟩
    exact k _ p (same_new np) np upd_same
theorem scLen : FnScope ["self"] ["self"] (defScope sLen) := ⟨rfl, rfl, rfl, by decide +kernel, rfl, by decide +kernel, by decide +kernel⟩
theorem ok_len {f C : Addr} {fd : FuncData} (F : Fun K "__len__" "House.__len__" sLen f fd) (T : HTxt K C) (ml : mg "len" = none) : FnOk P w K mg base CX0 1 f fd ["self"] (spLen C) := by
  refine F.ok scLen (fun vs H Q E h => ?_) (fun cdv A outer s H vs Q E hr h => ?_)
  · obtain ⟨h, zs, bh, vw, rfl, _⟩ := h
    rfl
  · obtain ⟨h, zs, bh, vw, rfl, ⟨⟨dx, n, b, v, h1, h2, _⟩, _⟩, k⟩ := h
    refine ⟨_, pss_one (ps_ret (pe_callB call_len_seq (by rfl) ml PySem.boot_len (pa_cons (pe_fld (pv 0) rfl) pa_nil))), ?_⟩
    refine ⟨_, rfl, h, C, dx, _, _, rfl, h1, T.cl, T.nN, hf_n _ _ _, n, _, rfl, .inl (SqL.of h2), ?_⟩
    rw [List.length_map]
    exact k
end
end Dk
namespace Dk
open PySem L2
section
variable {P : Program} {w : World} {K : PySem.W.Frag} {mg : Str → Option Value} {base : Heap}
theorem scSights : FnScope ["self", "a", "b"] ["self"] (defScope sSights) := ⟨rfl, rfl, rfl, by decide +kernel, rfl, by decide +kernel, by decide +kernel⟩
theorem ok_sights {f C : Addr} {fd : FuncData} (F : Fun K "sights" "House.sights" sSights f fd) (T : HTxt K C) : FnOk P w K mg base CX0 1 f fd ["self"] (spSights C) := by
  refine F.ok scSights (fun vs H Q E h => ?_) (fun cdv A outer s H vs Q E hr h => ?_)
  · obtain ⟨h, zs, bh, vw, rfl, _⟩ := h
    rfl
  · obtain ⟨h, zs, bh, vw, rfl, ⟨⟨dx, n, b, v, h1, h2, h3, h4, hN, hl⟩, hb, hv, hin⟩, k⟩ := h
    refine ⟨_, pss_one (ps_ret (pe_lc2 (own := [("a", 1), ("b", 2)]) (vs1 := [2]) (g := gName 1) (tt := tYes) (g1 := gName 2) (wi1 := iList K (tDGet (tFld K (tVar 0) "views") (tVar 1))) (tt1 := tYes) rfl scSights.nd (pi_list (pe_fld (pv 0) rfl)) (blkOk_by (N := ["self", "a", "b"]) (sc := defScope sSights) (by decide +kernel)) (by decide) (fun _ _ _ _ _ => (pg_name (i := 1) scSights.nd rfl (Or.inl rfl))) (fun _ _ _ _ _ => pts_nil) (fun _ _ _ _ _ => (pi_list (pe_dget (hu_of hr) (pe_fld (pv 0) rfl) (pv 1) (fun _ _ => rfl)))) (fun _ _ _ _ _ => (pg_name (i := 2) scSights.nd rfl (Or.inl rfl))) (fun _ _ _ _ _ => pts_nil) (fun _ _ _ _ _ => (pe_tup (pa_cons (pv 1) (pa_cons (pv 2) pa_nil)))))), ?_⟩
    refine ⟨_, rfl, h, C, dx, _, _, rfl, h1, T.cl, T.nN, hf_n _ _ _, n, rfl, ⟨_, SqL.of h2⟩, fun D nD => ?_⟩
    refine it_any (walk_list (K := K) (a := n) (xs := zs.map V.str)) (fun i H' => Same H H' ∧ ∃ ys, H' D = some (.lst ys) ∧ PL H' ys (sUp zs vw i)) ⟨same_new nD, [], upd_same, PL.nil⟩ (fun i H' _ h => SqL.of (h.1 _ _ h2)) ?_ ?_
    · rintro i x H1 H2 hi ⟨s1, ys, hD, hP⟩ ⟨rfl, hx⟩
      obtain ⟨a, ea, rfl⟩ := str_at hx
      have hi8 : i < zs.length := (List.getElem?_eq_some_iff.mp ea).1
      refine ⟨rfl, ?_⟩
      obtain ⟨p, hp0, hg⟩ := h4.get hN.1 (List.mem_of_getElem? ea)
      have npD : p ≠ D := ne_of_none hp0 nD
      have hp := s1 _ _ hp0
      refine ⟨_, rfl, h, C, dx, _, _, rfl, s1 _ _ h1, T.cl, T.nV, hf_v _ _ _, _, rfl, v, _, rfl, hg _ s1, p, rfl, ⟨_, SqL.of hp⟩, ?_⟩
      refine it_any (walk_list (K := K) (a := p) (xs := (vw a).map V.str)) (fun j H' => Same H H' ∧ H' p = some (.lst ((vw a).map V.str)) ∧ ∃ ys, H' D = some (.lst ys) ∧ PL H' ys (sUp zs vw i ++ ((vw a).take j).map fun b => (a, b))) ⟨s1, hp, ys, hD, by rw [List.take_zero, List.map_nil, List.append_nil]; exact hP⟩ (fun j H' _ h => SqL.of h.2.1) ?_ ?_
      · rintro j x H3 H4 hj ⟨s3, hp3, ys3, hD3, hP3⟩ ⟨rfl, hx⟩
        obtain ⟨c, ec, rfl⟩ := str_at hx
        refine ⟨rfl, ?_⟩
        refine ⟨_, rfl, _, rfl, by show 2 ≤ sizeLine; decide, fun t nt => ?_⟩
        have s4 := same_new (o := .tup [.str a, .str c]) nt
        have nDt : D ≠ t := ne_of_none hD3 nt
        have yl : ys3.length ≤ 500 := by
          rw [hP3.1, List.length_append, List.length_map, List.length_take]
          have := sUp_len hv i
          have := hv a
          have : i * zs.length ≤ 8 * 8 := Nat.mul_le_mul (by omega) hl
          omega
        refine ⟨_, s4 _ _ hD3, small1000 (by omega), same_put (s3.trans s4) nD, ?_, ys3 ++ [.ref t], upd_same, ?_⟩
        · rw [upd_ne npD]
          exact s4 _ _ hp3
        · have kt : KeepT H4 (upd (upd H4 t (.tup [.str a, .str c])) D (.lst (ys3 ++ [.ref t]))) := (KeepT.of s4).trans (KeepT.lst (s4 _ _ hD3))
          rw [take_snoc ec, List.map_append, ← List.append_assoc]
          exact (hP3.keep kt).snoc ⟨t, rfl, by rw [upd_ne nDt.symm, upd_same]⟩
      · rintro H3 ⟨s3, hp3, ys3, hD3, hP3⟩
        rw [List.length_map, List.take_length] at hP3
        refine ⟨s3, ys3, hD3, ?_⟩
        rw [sUp_succ, sAt_some ea]
        exact hP3
    · rintro H1 ⟨s1, ys, hD, hP⟩
      rw [List.length_map] at hP
      exact k H1 D ys s1 nD hD hP
end
end Dk
namespace Dk
open PySem L2
section
variable {P : Program} {w : World} {K : PySem.W.Frag} {mg : Str → Option Value} {base : Heap}
theorem scDoors : FnScope ["self", "at", "a", "b"] ["self"] (defScope sDoors) := ⟨rfl, rfl, rfl, by decide +kernel, rfl, by decide +kernel, by decide +kernel⟩
theorem ok_doors {f C : Addr} {fd : FuncData} (F : Fun K "doors" "House.doors" sDoors f fd) (T : HTxt K C) (me : mg "enumerate" = none) : FnOk P w K mg base CX0 1 f fd ["self"] (spDoors C) := by
  refine F.ok scDoors (fun vs H Q E h => ?_) (fun cdv A outer s H vs Q E hr h => ?_)
  · obtain ⟨h, zs, bh, vw, rfl, _⟩ := h
    rfl
  · obtain ⟨h, zs, bh, vw, rfl, ⟨⟨dx, n, b, v, h1, h2, h3, h4, hN, hl⟩, hb, hv, hin⟩, k⟩ := h
    refine ⟨_, pss_one (ps_ret (pe_lc2 (own := [("at", 1), ("a", 2), ("b", 3)]) (vs1 := [3]) (g := gTup K 2 (gCons (gName 1) (gCons (gName 2) gNil))) (tt := tYes) (g1 := gName 3) (wi1 := iList K (tSl (rSlL K) (tFld K (tVar 0) "names") (tPart (tOp (rI0 fun i j => .int (i + j)) (tVar 1) (tC (.int 1)))) tNoPart)) (tt1 := tTest (tOp (rIn K false) (tVar 3) (tDGet (tFld K (tVar 0) "behind") (tVar 2)))) rfl scDoors.nd (pi_enum (by rfl) me (pa_cons (pe_fld (pv 0) rfl) pa_nil)) (blkOk_by (N := ["self", "at", "a", "b"]) (sc := defScope sDoors) (by decide +kernel)) (by decide) (fun _ _ _ _ _ => (pg_tup rfl (pgs_cons (pg_name (i := 1) scDoors.nd rfl (Or.inl rfl)) (pgs_cons (pg_name (i := 2) scDoors.nd rfl (Or.inl rfl)) pgs_nil)))) (fun _ _ _ _ _ => pts_nil) (fun _ _ _ _ _ => (pi_list (pe_slice sl_list (pe_fld (pv 0) rfl) (po_some (pe_op op_add (pv 1) pe_int)) po_none))) (fun _ _ _ _ _ => (pg_name (i := 3) scDoors.nd rfl (Or.inl rfl))) (fun _ _ _ _ _ => pts_one (pt_cmpR op_in_seq (pv 3) (pe_dget (hu_of hr) (pe_fld (pv 0) rfl) (pv 2) (fun _ _ => rfl)) (by rfl))) (fun _ _ _ _ _ => (pe_tup (pa_cons (pv 2) (pa_cons (pv 3) pa_nil)))))), ?_⟩
    refine ⟨_, rfl, h, C, dx, _, _, rfl, h1, T.cl, T.nN, hf_n _ _ _, n, _, rfl, SqL.of h2, fun D nD => ?_⟩
    refine it_any (walk_enum (K := K) (a := n) (xs := zs.map V.str)) (fun i H' => Same H H' ∧ ∃ ys, H' D = some (.lst ys) ∧ PL H' ys (dUp zs bh i)) ⟨same_new nD, [], upd_same, PL.nil⟩ (fun i H' _ h => SqL.of (h.1 _ _ h2)) ?_ ?_
    · rintro i x H1 H2 hi ⟨s1, ys, hD, hP⟩ ⟨tq, x1, y1, rfl, ntq, rfl, e1, e2⟩
      have e1' : x1 = .int (i : Nat) := (Option.some.inj e1).symm
      subst e1'
      obtain ⟨a, ea, rfl⟩ := str_at e2
      have hi8 : i < zs.length := (List.getElem?_eq_some_iff.mp ea).1
      have s12 := same_new (o := .tup [.int (i : Nat), .str a]) ntq
      have s2 := s1.trans s12
      refine ⟨tq, _, rfl, SqT.of upd_same, rfl, _, _, rfl, _, _, rfl, rfl, rfl, ?_⟩
      obtain ⟨p, hp0, hg⟩ := h3.get hN.1 (List.mem_of_getElem? ea)
      have npD : p ≠ D := ne_of_none hp0 nD
      refine ⟨_, rfl, h, C, dx, _, _, rfl, s2 _ _ h1, T.cl, T.nN, hf_n _ _ _, _, rfl, _, _, rfl, rfl, _, rfl, n, _, rfl, SqL.of (s2 _ _ h2), fun c nc => ?_⟩
      have ncD : c ≠ D := fun e => by
        rw [e, s12 _ _ hD] at nc
        cases nc
      have s3 := s2.trans (same_new (o := .lst (cutV (zs.map V.str) (some ((i : Int) + 1)) none)) nc)
      have ecut : cutV (zs.map V.str) (some ((i : Int) + 1)) none = (zs.drop (i + 1)).map V.str := cut_from (i + 1)
      refine ⟨c, rfl, ⟨_, SqL.of upd_same⟩, ?_⟩
      have hc0 : (upd (upd H1 tq (.tup [.int (i : Nat), .str a])) c (.lst (cutV (zs.map V.str) (some ((i : Int) + 1)) none))) c = some (.lst ((zs.drop (i + 1)).map V.str)) := by rw [upd_same, ecut]
      refine it_any (walk_list (K := K) (a := c) (xs := (zs.drop (i + 1)).map V.str)) (fun j H' => Same H H' ∧ H' c = some (.lst ((zs.drop (i + 1)).map V.str)) ∧ ∃ ys, H' D = some (.lst ys) ∧ PL H' ys (dUp zs bh i ++ (((zs.drop (i + 1)).take j).filter fun b => decide (b ∈ bh a)).map fun b => (a, b)))
        ⟨s3, hc0, ys, same_new nc _ _ (s12 _ _ hD), by rw [List.take_zero, List.filter_nil, List.map_nil, List.append_nil]; exact hP.same (s12.trans (same_new nc))⟩ (fun j H' _ h => SqL.of h.2.1) ?_ ?_
      · rintro j x H3 H4 hj ⟨s3, hc3, ys3, hD3, hP3⟩ ⟨rfl, hx⟩
        obtain ⟨c2, ec, rfl⟩ := str_at hx
        refine ⟨rfl, ?_⟩
        refine ⟨_, rfl, _, rfl, h, C, dx, _, _, rfl, s3 _ _ h1, T.cl, T.nB, hf_b _ _ _, _, rfl, b, _, rfl, hg _ s3, p, _, rfl, .inl (SqL.of (s3 _ _ hp0)), rfl, flat_all _, _, rfl, ?_⟩
        show if inV (.str c2) ((bh a).map V.str) = true then _ else _
        rw [in_strs]
        have yl : ys3.length ≤ 500 := by
          rw [hP3.1, List.length_append, List.length_map]
          have h5 := List.length_filter_le (fun b => decide (b ∈ bh a)) ((zs.drop (i + 1)).take j)
          rw [List.length_take, List.length_drop] at h5
          have := dUp_len zs bh i
          have : i * zs.length ≤ 8 * 8 := Nat.mul_le_mul (by omega) hl
          omega
        refine ite2 (fun e => ?_) (fun e => ?_)
        · refine ⟨_, rfl, _, rfl, by show 2 ≤ sizeLine; decide, fun t nt => ?_⟩
          have s4 := same_new (o := .tup [.str a, .str c2]) nt
          have nDt : D ≠ t := ne_of_none hD3 nt
          refine ⟨_, s4 _ _ hD3, small1000 (by omega), same_put (s3.trans s4) nD, ?_, ys3 ++ [.ref t], upd_same, ?_⟩
          · rw [upd_ne ncD]
            exact s4 _ _ hc3
          · have kt : KeepT H4 (upd (upd H4 t (.tup [.str a, .str c2])) D (.lst (ys3 ++ [.ref t]))) := (KeepT.of s4).trans (KeepT.lst (s4 _ _ hD3))
            rw [filter_take ec, if_pos e, List.map_append, ← List.append_assoc]
            exact (hP3.keep kt).snoc ⟨t, rfl, by rw [upd_ne nDt.symm, upd_same]⟩
        · refine ⟨s3, hc3, ys3, hD3, ?_⟩
          rw [filter_take ec, if_neg e, List.append_nil]
          exact hP3
      · rintro H3 ⟨s3, hc3, ys3, hD3, hP3⟩
        rw [List.length_map, List.take_length] at hP3
        refine ⟨s3, ys3, hD3, ?_⟩
        rw [dUp_succ, dAt_some ea]
        exact hP3
    · rintro H1 ⟨s1, ys, hD, hP⟩
      rw [List.length_map] at hP
      exact k H1 D ys s1 nD hD hP
end
end Dk
namespace Dk
open PySem L2
section
variable {P : Program} {w : World} {K : PySem.W.Frag} {mg : Str → Option Value} {base : Heap}
theorem scEq : FnScope ["self", "other"] ["self", "other"] (defScope sEq) := ⟨rfl, rfl, rfl, by decide +kernel, rfl, by decide +kernel, by decide +kernel⟩
theorem ok_eq {f C : Addr} {fd : FuncData} (F : Fun K "__eq__" "House.__eq__" sEq f fd) (T : HTxt K C) (mi : mg "isinstance" = none) (gC : mg "House" = some (.ref C)) : FnOk P w K mg base CX0 1 f fd ["self", "other"] (spEq (EqH C)) := by
  refine F.ok scEq (fun vs H Q E h => ?_) (fun cdv A outer s H vs Q E hr h => ?_)
  · obtain ⟨a, b, rfl, _⟩ := h
    rfl
  · obtain ⟨a, b, rfl, ⟨zs, bh, vw, ⟨⟨dx, n, d1, v, a1, a2, a3, a4, hN, _⟩, _⟩, ⟨⟨dy, m, d2, u, b1, b2, b3, b4, _⟩, _⟩⟩, k⟩ := h
    refine ⟨_, pss_one (ps_ret (pe_and (pe_callB call_isi (by rfl) mi (by decide +kernel) (pa_cons (pv 1) (pa_cons (pe_glob (v := .ref C) (by rfl) gC rfl) pa_nil))) (pe_and (pe_cmpR (op_eqV hr.units) (pe_fld (pv 0) rfl) (pe_fld (pv 1) rfl) (nomark _)) (pe_and (pe_cmpR (op_eqV hr.units) (pe_fld (pv 0) rfl) (pe_fld (pv 1) rfl) (nomark _)) (pe_one (pe_cmpR (op_eqV hr.units) (pe_fld (pv 0) rfl) (pe_fld (pv 1) rfl) (nomark _))))))), ?_⟩
    refine ⟨_, rfl, .ref b, .ref C, .ref C, .ref C, true, rfl, .own C, .base (.ins b1 T.cl T.ha T.hn T.htk T.hm), T.k1, true, rfl, iteT ?_⟩
    refine ⟨_, rfl, a, C, dx, _, _, rfl, a1, T.cl, T.nN, hf_n _ _ _, _, rfl, b, C, dy, _, _, rfl, b1, T.cl, T.nN, hf_n _ _ _, 1, by decide, eq_lists a2 b2, true, rfl, iteT ?_⟩
    refine ⟨_, rfl, a, C, dx, _, _, rfl, a1, T.cl, T.nB, hf_b _ _ _, _, rfl, b, C, dy, _, _, rfl, b1, T.cl, T.nB, hf_b _ _ _, 2, by decide, eq_links hN.1 a3 b3, true, rfl, iteT ?_⟩
    refine ⟨_, rfl, a, C, dx, _, _, rfl, a1, T.cl, T.nV, hf_v _ _ _, _, rfl, b, C, dy, _, _, rfl, b1, T.cl, T.nV, hf_v _ _ _, 2, by decide, eq_links hN.1 a4 b4, ?_⟩
    exact k H Ext.rfl'
end
end Dk
namespace Dk
open PySem L2
section
variable {P : Program} {w : World} {K : PySem.W.Frag} {mg : Str → Option Value} {base : Heap}
theorem scStr : FnScope ["self", "rows", "name", "a", "b"] ["self"] (defScope sStr) := ⟨rfl, rfl, rfl, by decide +kernel, rfl, by decide +kernel, by decide +kernel⟩
theorem ip_ext {X : Cx} : PIp X .Add rExt2 := fun pins s σ H x y v u Q I rx ry h => iop_ext pins s σ H x y v u Q I rx ry h
theorem ok_str {f fD fS C : Addr} {fd fdD fdS : FuncData} (F : Fun K "__str__" "House.__str__" sStr f fd) (T : HTxt K C) (mD : Meth K C "doors" fD) (bD : Binds K fdD ["self"] []) (GD : FnOk P w K mg base CX0 1 fD fdD ["self"] (spDoors C)) (mS : Meth K C "sights" fS) (bS : Binds K fdS ["self"] []) (GS : FnOk P w K mg base CX0 1 fS fdS ["self"] (spSights C)) : FnOk P w K mg base CX0 2 f fd ["self"] (spStr C) := by
  refine F.ok scStr (fun vs H Q E h => ?_) (fun cdv A outer s H vs Q E hr h => ?_)
  · obtain ⟨h, zs, bh, vw, rfl, _⟩ := h
    rfl
  · obtain ⟨h, zs, bh, vw, rfl, hH, k⟩ := h
    obtain ⟨⟨dx, n, b, v, h1, h2, h3, h4, hN, hl⟩, hb, hv, hin⟩ := id hH
    have dl : (dAll zs bh).length ≤ 64 := Nat.le_trans (dUp_len zs bh zs.length) (Nat.mul_le_mul hl hl)
    have sl : (sAll zs vw).length ≤ 64 := Nat.le_trans (sUp_len hv zs.length) (Nat.mul_le_mul hl hl)
    have L40 : 40 ≤ sizeLine := by decide
    have no1 : (hf n b v).lookup ("doors" : Str) = none := hf_no _ _ _ (by decide +kernel) (by decide +kernel) (by decide +kernel)
    have no2 : (hf n b v).lookup ("sights" : Str) = none := hf_no _ _ _ (by decide +kernel) (by decide +kernel) (by decide +kernel)
    refine ⟨_, pss_cons (ps_setLc (i := 1) (own := [("name", 2)]) (g := gName 2) (tt := tYes)  rfl scStr.nd rfl rfl (sw_true rfl rfl rfl (by decide +kernel)) (pi_list (pe_fld (pv 0) rfl)) (blkOk_by (N := ["self", "rows", "name", "a", "b"]) (sc := defScope sStr) (by decide +kernel)) (fun _ _ _ _ _ => (pg_name (i := 2) scStr.nd rfl (Or.inl rfl))) (fun _ _ _ _ _ => pts_nil) (fun _ _ _ _ _ => (pe_joined (PJ.cons pe_str (PJ.cons (pe_fmt (pv 2)) PJ.nil)))))
      (pss_cons (ps_aug (i := 1) scStr.nd rfl (Or.inl rfl) (pe_lc (own := [("a", 3), ("b", 4)]) (g := gTup K 2 (gCons (gName 3) (gCons (gName 4) gNil))) (tt := tYes)  rfl scStr.nd (pi_list (pe_meth0 (pv 0) T.cl mD GD hr bD .nil pass0)) (blkOk_by (N := ["self", "rows", "name", "a", "b"]) (sc := defScope sStr) (by decide +kernel)) (fun _ _ _ _ _ => (pg_tup rfl (pgs_cons (pg_name (i := 3) scStr.nd rfl (Or.inl rfl)) (pgs_cons (pg_name (i := 4) scStr.nd rfl (Or.inl rfl)) pgs_nil)))) (fun _ _ _ _ _ => pts_nil) (fun _ _ _ _ _ => (pe_joined (PJ.cons pe_str (PJ.cons (pe_fmt (pv 3)) (PJ.cons pe_str (PJ.cons (pe_fmt (pv 4)) PJ.nil))))))) ip_ext)
      (pss_cons (ps_aug (i := 1) scStr.nd rfl (Or.inl rfl) (pe_lc (own := [("a", 3), ("b", 4)]) (g := gTup K 2 (gCons (gName 3) (gCons (gName 4) gNil))) (tt := tYes)  rfl scStr.nd (pi_list (pe_meth0 (pv 0) T.cl mS GS hr bS .nil pass0)) (blkOk_by (N := ["self", "rows", "name", "a", "b"]) (sc := defScope sStr) (by decide +kernel)) (fun _ _ _ _ _ => (pg_tup rfl (pgs_cons (pg_name (i := 3) scStr.nd rfl (Or.inl rfl)) (pgs_cons (pg_name (i := 4) scStr.nd rfl (Or.inl rfl)) pgs_nil)))) (fun _ _ _ _ _ => pts_nil) (fun _ _ _ _ _ => (pe_joined (PJ.cons pe_str (PJ.cons (pe_fmt (pv 3)) (PJ.cons pe_str (PJ.cons (pe_fmt (pv 4)) PJ.nil))))))) ip_ext)
      (pss_one (ps_ret (pe_join pe_str (pv 1)))))), ?_⟩
    -- rooms
    refine ⟨_, rfl, h, C, dx, _, _, rfl, h1, T.cl, T.nN, hf_n _ _ _, n, rfl, ⟨_, SqL.of h2⟩, fun D nD => ?_⟩
    refine it_any (walk_list (K := K) (a := n) (xs := zs.map V.str)) (fun i H' => Same H H' ∧ H' D = some (.lst (((zs.take i).map rowR).map V.str))) ⟨same_new nD, upd_same⟩ (fun i H' _ h => SqL.of (h.1 _ _ h2)) ?_ ?_
    · rintro i x H1 H2 hi ⟨s1, hD⟩ ⟨rfl, hx⟩
      obtain ⟨z, ez, rfl⟩ := str_at hx
      have zl := len8 hN (List.mem_of_getElem? ez)
      have rl := rowR_len hN (List.mem_of_getElem? ez)
      refine ⟨rfl, ?_⟩
      refine ⟨_, rfl, by decide +kernel, _, rfl, .inl ⟨z, rfl, by omega, _, rfl, Nat.le_trans rl L40, ?_⟩⟩
      refine ⟨_, hD, by rw [List.length_map, List.length_map, List.length_take]; exact small1000 (by omega), same_put s1 nD, ?_⟩
      rw [upd_same, take_snoc ez, List.map_append, List.map_append]
      rfl
    rintro H1 ⟨s1, hD⟩
    rw [List.length_map, List.take_length] at hD
    -- doors
    refine ⟨_, rfl, _, rfl, h, dx, _, rfl, s1 _ _ h1, no1, h, zs, bh, vw, rfl, hH.same s1, fun H2 q ys s2 nq hq hP => ?_⟩
    have s12 := s1.trans s2
    refine ⟨q, rfl, ⟨_, SqL.of hq⟩, fun B nB => ?_⟩
    refine it_any (walk_list (K := K) (a := q) (xs := ys)) (fun i H' => Same H2 H' ∧ H' B = some (.lst ((((dAll zs bh).take i).map rowD).map V.str))) ⟨same_new nB, upd_same⟩ (fun i H' _ h => SqL.of (h.1 _ _ hq)) ?_ ?_
    · rintro i x H3 H4 hi ⟨s3, hB⟩ ⟨rfl, hx⟩
      obtain ⟨⟨a, c⟩, eac, t, rfl, ht⟩ := hP.at hx
      have hac := dAll_in (List.mem_of_getElem? eac)
      have al : a.length ≤ 8 := len8 hN hac.1
      have cl : c.length ≤ 8 := len8 hN hac.2
      have rl := rowD_len hN hac
      have rl2 : (Str.empty ++ Str.ofString "door " ++ a).length ≤ 40 ∧ (Str.empty ++ Str.ofString "door " ++ a ++ Str.ofString " ").length ≤ 40 := by
        have rl : (Str.empty ++ Str.ofString "door " ++ a ++ Str.ofString " " ++ c).length ≤ 40 := rl
        rw [Str.length_append] at rl
        constructor
        · rw [Str.length_append (Str.empty ++ Str.ofString "door " ++ a) (Str.ofString " ")] at rl
          omega
        · omega
      refine ⟨t, _, rfl, SqT.of (s3 _ _ ht), rfl, _, _, rfl, _, _, rfl, rfl, rfl, ?_⟩
      refine ⟨_, rfl, by decide +kernel, _, rfl, .inl ⟨a, rfl, by omega, _, rfl, Nat.le_trans rl2.1 L40, _, rfl, Nat.le_trans rl2.2 L40, _, rfl, .inl ⟨c, rfl, by omega, _, rfl, Nat.le_trans rl L40, ?_⟩⟩⟩
      refine ⟨_, hB, by rw [List.length_map, List.length_map, List.length_take]; exact small1000 (by omega), same_put s3 nB, ?_⟩
      rw [upd_same, List.take_add_one, eac, List.map_append, List.map_append]
      rfl
    rintro H3 ⟨s3, hB⟩
    rw [hP.1, List.take_length] at hB
    have s13 := s2.trans s3
    have hD3 := s13 _ _ hD
    have nDB : D ≠ B := ne_of_none (s2 _ _ hD) nB
    refine ⟨D, B, _, _, rfl, rfl, hD3, hB, Nat.le_of_lt (small1000 (by rw [List.length_map, List.length_map, List.length_map, List.length_map]; omega)), ?_⟩
    rw [← List.map_append]
    have s04 : Same H (upd H3 D (.lst ((zs.map rowR ++ (dAll zs bh).map rowD).map V.str))) := same_put (s1.trans s13) nD
    have hD4 : (upd H3 D (.lst ((zs.map rowR ++ (dAll zs bh).map rowD).map V.str))) D = some (.lst ((zs.map rowR ++ (dAll zs bh).map rowD).map V.str)) := upd_same
    generalize upd H3 D (.lst ((zs.map rowR ++ (dAll zs bh).map rowD).map V.str)) = H4 at s04 hD4
    -- sights
    refine ⟨_, rfl, _, rfl, h, dx, _, rfl, s04 _ _ h1, no2, h, zs, bh, vw, rfl, hH.same s04, fun H5 q2 ys2 s5 nq2 hq2 hP2 => ?_⟩
    refine ⟨q2, rfl, ⟨_, SqL.of hq2⟩, fun B2 nB2 => ?_⟩
    refine it_any (walk_list (K := K) (a := q2) (xs := ys2)) (fun i H' => Same H5 H' ∧ H' B2 = some (.lst ((((sAll zs vw).take i).map rowS).map V.str))) ⟨same_new nB2, upd_same⟩ (fun i H' _ h => SqL.of (h.1 _ _ hq2)) ?_ ?_
    · rintro i x H6 H7 hi ⟨s6, hB2⟩ ⟨rfl, hx⟩
      obtain ⟨⟨a, c⟩, eac, t, rfl, ht⟩ := hP2.at hx
      have hac := sAll_in hin (List.mem_of_getElem? eac)
      have al : a.length ≤ 8 := len8 hN hac.1
      have cl : c.length ≤ 8 := len8 hN hac.2
      have rl := rowS_len hN hac
      have rl2 : (Str.empty ++ Str.ofString "sight " ++ a).length ≤ 40 ∧ (Str.empty ++ Str.ofString "sight " ++ a ++ Str.ofString " ").length ≤ 40 := by
        have rl : (Str.empty ++ Str.ofString "sight " ++ a ++ Str.ofString " " ++ c).length ≤ 40 := rl
        rw [Str.length_append] at rl
        constructor
        · rw [Str.length_append (Str.empty ++ Str.ofString "sight " ++ a) (Str.ofString " ")] at rl
          omega
        · omega
      refine ⟨t, _, rfl, SqT.of (s6 _ _ ht), rfl, _, _, rfl, _, _, rfl, rfl, rfl, ?_⟩
      refine ⟨_, rfl, by decide +kernel, _, rfl, .inl ⟨a, rfl, by omega, _, rfl, Nat.le_trans rl2.1 L40, _, rfl, Nat.le_trans rl2.2 L40, _, rfl, .inl ⟨c, rfl, by omega, _, rfl, Nat.le_trans rl L40, ?_⟩⟩⟩
      refine ⟨_, hB2, by rw [List.length_map, List.length_map, List.length_take]; exact small1000 (by omega), same_put s6 nB2, ?_⟩
      rw [upd_same, List.take_add_one, eac, List.map_append, List.map_append]
      rfl
    rintro H6 ⟨s6, hB2⟩
    rw [hP2.1, List.take_length] at hB2
    have hD6 := s6 _ _ (s5 _ _ hD4)
    refine ⟨D, B2, _, _, rfl, rfl, hD6, hB2, Nat.le_of_lt (small1000 (by simp only [List.length_map, List.length_append]; omega)), ?_⟩
    rw [← List.map_append]
    -- all rows
    have ok := rowsH_ok hN (fun p hp => dAll_in hp) (fun p hp => sAll_in hin hp) (ds := dAll zs bh) (ss := sAll zs vw)
    have sm := sum_le ok
    have ln : (rowsH zs (dAll zs bh) (sAll zs vw)).length ≤ 136 := by
      unfold rowsH
      rw [List.length_append, List.length_append, List.length_map, List.length_map, List.length_map]
      omega
    refine ⟨⟨_, rfl⟩, _, rfl, _, D, rowsH zs (dAll zs bh) (sAll zs vw), rfl, rfl, .inl (SqL.of upd_same), ?_, ?_⟩
    · have e1 : (Str.ofString "\n").length = 1 := by decide +kernel
      rw [e1]
      omega
    · exact k _ (same_put (s04.trans (s5.trans s6)) nD)
end
end Dk
namespace Dk
open PySem L2
section
variable {P : Program} {w : World} {K : PySem.W.Frag} {mg : Str → Option Value} {base : Heap}
theorem scRepr : FnScope ["self"] ["self"] (defScope sRepr) := ⟨rfl, rfl, rfl, by decide +kernel, rfl, by decide +kernel, by decide +kernel⟩
theorem num_len : ∀ n : Nat, n < 65 → (num n).length ≤ 4 := by decide +kernel
theorem num_log {n : Nat} (h : n < 65) : ((n : Nat) : Int).natAbs.log2 < 1920 := by
  show n.log2 < 1920
  by_cases h0 : n = 0
  · subst h0
    decide
  · have h1 := (Nat.log2_lt h0 (k := 10)).mpr (by omega)
    omega
theorem ok_repr {f fD fS fL C : Addr} {fd fdD fdS fdL : FuncData} (F : Fun K "__repr__" "House.__repr__" sRepr f fd) (T : HTxt K C) (ml : mg "len" = none) (mD : Meth K C "doors" fD) (bD : Binds K fdD ["self"] []) (GD : FnOk P w K mg base CX0 1 fD fdD ["self"] (spDoors C)) (mS : Meth K C "sights" fS) (bS : Binds K fdS ["self"] []) (GS : FnOk P w K mg base CX0 1 fS fdS ["self"] (spSights C))
    (lL : PySem.W.findIn K (.ref C) "__len__" = some (some (.ref fL))) (iL : PySem.W.isFn K (.ref fL) = true) (bL : Binds K fdL ["self"] []) (GL : FnOk P w K mg base CX0 1 fL fdL ["self"] (spLen C)) : FnOk P w K mg base CX0 3 f fd ["self"] (spRepr C) := by
  refine F.ok scRepr (fun vs H Q E h => ?_) (fun cdv A outer s H vs Q E hr2 h => ?_)
  · obtain ⟨h, zs, bh, vw, rfl, _⟩ := h
    rfl
  · obtain ⟨h, zs, bh, vw, rfl, hH, k⟩ := h
    have hr := hr2
    obtain ⟨⟨dx, n, b, v, h1, h2, h3, h4, hN, hl⟩, hb, hv, hin⟩ := id hH
    have dl : (dAll zs bh).length ≤ 64 := Nat.le_trans (dUp_len zs bh zs.length) (Nat.mul_le_mul hl hl)
    have sl : (sAll zs vw).length ≤ 64 := Nat.le_trans (sUp_len hv zs.length) (Nat.mul_le_mul hl hl)
    have no1 : (hf n b v).lookup ("doors" : Str) = none := hf_no _ _ _ (by decide +kernel) (by decide +kernel) (by decide +kernel)
    have no2 : (hf n b v).lookup ("sights" : Str) = none := hf_no _ _ _ (by decide +kernel) (by decide +kernel) (by decide +kernel)
    refine ⟨_, pss_one (ps_ret (pe_joined (PJ.cons pe_str (PJ.cons (pe_fmt (pe_callB (call_lenO GL bL hr lL iL) (by rfl) ml PySem.boot_len (pa_cons (pv 0) pa_nil))) (PJ.cons pe_str (PJ.cons (pe_fmt (pe_callB call_len_seq (by rfl) ml PySem.boot_len (pa_cons (pe_meth0 (pv 0) T.cl mD GD (hr.mono (by decide)) bD .nil pass0) pa_nil))) (PJ.cons pe_str (PJ.cons (pe_fmt (pe_callB call_len_seq (by rfl) ml PySem.boot_len (pa_cons (pe_meth0 (pv 0) T.cl mS GS (hr.mono (by decide)) bS .nil pass0) pa_nil))) (PJ.cons pe_str PJ.nil))))))))), ?_⟩
    have n1 := num_len zs.length (by omega)
    have n2 := num_len (dAll zs bh).length (by omega)
    have n3 := num_len (sAll zs vw).length (by omega)
    have L1 : 100 ≤ sizeLine := by decide
    have e0 : Str.empty.length = 0 := rfl
    have e1 : (Str.ofString "House(").length = 6 := by decide +kernel
    have e2 : (Str.ofString " rooms, ").length = 8 := by decide +kernel
    have e3 : (Str.ofString " doors, ").length = 8 := by decide +kernel
    have e4 : (Str.ofString " sights)").length = 8 := by decide +kernel
    refine ⟨_, rfl, by rw [Str.length_append]; omega, _, rfl, h, dx, _, rfl, h1, h, zs, bh, vw, rfl, hH, zs.length, rfl, by omega, .inr ⟨_, rfl, num_log (by omega), num zs.length, rfl, by simp only [Str.length_append]; omega, ?_⟩⟩
    refine ⟨_, rfl, by simp only [Str.length_append]; omega, _, rfl, h, dx, _, rfl, h1, no1, h, zs, bh, vw, rfl, hH, fun H2 q ys s2 nq hq hP => ?_⟩
    refine ⟨q, _, rfl, .inl (SqL.of hq), .inr ⟨_, rfl, ?_, num (dAll zs bh).length, ?_, by simp only [Str.length_append]; omega, ?_⟩⟩
    · rw [hP.1]
      exact num_log (by omega)
    · rw [hP.1]
      rfl
    refine ⟨_, rfl, by simp only [Str.length_append]; omega, _, rfl, h, dx, _, rfl, s2 _ _ h1, no2, h, zs, bh, vw, rfl, hH.same s2, fun H3 q3 ys3 s3 nq3 hq3 hP3 => ?_⟩
    refine ⟨q3, _, rfl, .inl (SqL.of hq3), .inr ⟨_, rfl, ?_, num (sAll zs vw).length, ?_, by simp only [Str.length_append]; omega, ?_⟩⟩
    · rw [hP3.1]
      exact num_log (by omega)
    · rw [hP3.1]
      rfl
    refine ⟨_, rfl, by simp only [Str.length_append]; omega, ?_⟩
    exact k H3 (s2.trans s3)
end
end Dk
namespace Dk
open PySem L2
section
variable {P : Program} {w : World} {K : PySem.W.Frag} {mg : Str → Option Value} {base : Heap}
theorem scLawNear : FnScope ["_law_house_here", "_law_room", "_law_other"] ["_law_house_here", "_law_room"] (defScope sLawNear) := ⟨rfl, rfl, rfl, by decide +kernel, rfl, by decide +kernel, by decide +kernel⟩
theorem ok_lawnear {f : Addr} {fd : FuncData} (F : Fun K "_law_near" "_law_near" sLawNear f fd) : FnOk P w K mg base CX0 1 f fd ["_law_house_here", "_law_room"] spLawNear := by
  refine F.ok scLawNear (fun vs H Q E h => ?_) (fun cdv A outer s H vs Q E hr h => ?_)
  · obtain ⟨t, zs, ds, ss, z, rfl, _⟩ := h
    rfl
  · obtain ⟨t, zs, ds, ss, z, rfl, ⟨r, d, s', xs, us, h1, h2, h3, h4, h5, h6⟩, hg, hz, k⟩ := h
    have hu65 : (A.deeper (PyProof.Rows.envOfC "_law_near" (defScope sLawNear) s.heap.objs.size f cdv)).units + 65 < cLine := by
      have := hr.un
      omega
    refine ⟨_, pss_one (ps_ret (pe_lc (own := [("_law_other", 2)]) (g := gName 2) (tt := tOr (tTest (tOp (rInD K) (tTup (tCons (tVar 1) (tCons (tVar 2) tNil))) (tOp (rIxT K) (tVar 0) (tC (.int 1))))) (tTest (tOp (rInD K) (tTup (tCons (tVar 2) (tCons (tVar 1) tNil))) (tOp (rIxT K) (tVar 0) (tC (.int 1)))))) rfl scLawNear.nd (pi_list (pe_ix ix_tup (pv 0) pe_int (fun _ _ => rfl))) (blkOk_by (N := ["_law_house_here", "_law_room", "_law_other"]) (sc := defScope sLawNear) (by decide +kernel)) (fun _ _ _ _ _ => (pg_name (i := 2) scLawNear.nd rfl (Or.inl rfl))) (fun _ _ _ _ _ => pts_one (PW.pt (pw_or (pt_cmpR (op_inD hu65) (pe_tup (pa_cons (pv 1) (pa_cons (pv 2) pa_nil))) (pe_ix ix_tup (pv 0) pe_int (fun _ _ => rfl)) (by rfl)) (pw_or1 (pt_cmpR (op_inD hu65) (pe_tup (pa_cons (pv 2) (pa_cons (pv 1) pa_nil))) (pe_ix ix_tup (pv 0) pe_int (fun _ _ => rfl)) (by rfl)))))) (fun _ _ _ _ _ => (pv 2)))), ?_⟩
    refine ⟨_, rfl, t, _, 0, _, rfl, rfl, SqT.of h1, rfl, r, rfl, ⟨_, SqL.of h2⟩, fun D nD => ?_⟩
    refine it_any (walk_list (K := K) (a := r) (xs := zs.map V.str)) (fun i H' => Same H H' ∧ H' D = some (.lst ((lnk (zs.take i) (both ds) z).map V.str))) ⟨same_new nD, upd_same⟩ (fun i H' _ h => SqL.of (h.1 _ _ h2)) ?_ ?_
    · rintro i x H1 H2 hi ⟨s1, hD⟩ ⟨rfl, hx⟩
      obtain ⟨c, ec, rfl⟩ := str_at hx
      have hi8 : i < zs.length := (List.getElem?_eq_some_iff.mp ec).1
      have okz := nm_ok (hg.names.2 _ hz)
      have okc := nm_ok (hg.names.2 _ (List.mem_of_getElem? ec))
      have okd : ∀ ab ∈ ds, okP ab := fun ab hab => pred_ok hg.names (hg.dg ab hab)
      have oks : ∀ ab ∈ ss, okP ab := fun ab hab => pred_ok hg.names (hg.sg ab hab)
      have ll := lnk_len (zs.take i) (both ds) z
      rw [List.length_take] at ll
      have e8 := hg.eight
      have hit : ∀ H3 : Hp, Same H2 H3 → (z, c) ∈ (both ds) → ∃ acc, H3 D = some (.lst acc) ∧ acc.length < sizeLine ∧ Same H (upd H3 D (.lst (acc ++ [.str c]))) ∧ (upd H3 D (.lst (acc ++ [.str c]))) D = some (.lst ((lnk (zs.take (i + 1)) (both ds) z).map V.str)) := fun H3 s3 hm => by
        refine ⟨_, s3 _ _ hD, by rw [List.length_map]; exact small1000 (by omega), same_put (s1.trans s3) nD, ?_⟩
        rw [upd_same, lnk_take ec, if_pos hm, List.map_append]
        rfl
      have miss : ∀ H3 : Hp, Same H2 H3 → ¬ (z, c) ∈ (both ds) → Same H H3 ∧ H3 D = some (.lst ((lnk (zs.take (i + 1)) (both ds) z).map V.str)) := fun H3 s3 hm => by
        refine ⟨s1.trans s3, ?_⟩
        rw [lnk_take ec, if_neg hm, List.append_nil]
        exact s3 _ _ hD
      refine ⟨rfl, ?_⟩
      refine ⟨_, rfl, _, rfl, by show 2 ≤ sizeLine; decide, fun q nq => ?_⟩
      have s2 := same_new (o := .tup [.str z, .str c]) nq
      have sH := s1.trans s2
      refine ⟨_, rfl, t, _, 1, _, rfl, rfl, SqT.of (sH _ _ h1), rfl, pd (z, c), ds.map pd, pr_dp ⟨q, rfl, upd_same⟩, .lst (SqL.of (sH _ _ h3)) (pl_dp (h4.same sH)), pd_shaped ⟨okz, okc⟩, pds_shaped okd, _, rfl, ?_⟩
      rw [any_pd]
      refine ite2 (fun e => ?_) (fun e => ?_)
      · exact ⟨_, rfl, hit _ s2 ((both_iff ds z c).mpr (.inl (of_decide_eq_true e)))⟩
      · refine ⟨_, rfl, _, rfl, by show 2 ≤ sizeLine; decide, fun q2 nq2 => ?_⟩
        have s3 := same_new (o := .tup [.str c, .str z]) nq2
        have sH3 := sH.trans s3
        refine ⟨_, rfl, t, _, 1, _, rfl, rfl, SqT.of (sH3 _ _ h1), rfl, pd (c, z), ds.map pd, pr_dp ⟨q2, rfl, upd_same⟩, .lst (SqL.of (sH3 _ _ h3)) (pl_dp (h4.same sH3)), pd_shaped ⟨okc, okz⟩, pds_shaped okd, _, rfl, ?_⟩
        rw [any_pd]
        refine ite2 (fun e2 => ?_) (fun e2 => ?_)
        · exact ⟨_, rfl, hit _ (s2.trans s3) ((both_iff ds z c).mpr (.inr (of_decide_eq_true e2)))⟩
        · refine miss _ (s2.trans s3) fun hm => ?_
          rcases (both_iff ds z c).mp hm with h | h
          · exact e (decide_eq_true h)
          · exact e2 (decide_eq_true h)
    · rintro H1 ⟨s1, hD⟩
      rw [List.length_map, List.take_length] at hD
      exact k H1 D s1 nD hD
theorem scLawSees : FnScope ["_law_house_here", "_law_room", "_law_other"] ["_law_house_here", "_law_room"] (defScope sLawSees) := ⟨rfl, rfl, rfl, by decide +kernel, rfl, by decide +kernel, by decide +kernel⟩
theorem ok_lawsees {f : Addr} {fd : FuncData} (F : Fun K "_law_sees" "_law_sees" sLawSees f fd) : FnOk P w K mg base CX0 1 f fd ["_law_house_here", "_law_room"] spLawSees := by
  refine F.ok scLawSees (fun vs H Q E h => ?_) (fun cdv A outer s H vs Q E hr h => ?_)
  · obtain ⟨t, zs, ds, ss, z, rfl, _⟩ := h
    rfl
  · obtain ⟨t, zs, ds, ss, z, rfl, ⟨r, d, s', xs, us, h1, h2, h3, h4, h5, h6⟩, hg, hz, k⟩ := h
    have hu65 : (A.deeper (PyProof.Rows.envOfC "_law_sees" (defScope sLawSees) s.heap.objs.size f cdv)).units + 65 < cLine := by
      have := hr.un
      omega
    refine ⟨_, pss_one (ps_ret (pe_lc (own := [("_law_other", 2)]) (g := gName 2) (tt := (tTest (tOp (rInD K) (tTup (tCons (tVar 1) (tCons (tVar 2) tNil))) (tOp (rIxT K) (tVar 0) (tC (.int 2)))))) rfl scLawSees.nd (pi_list (pe_ix ix_tup (pv 0) pe_int (fun _ _ => rfl))) (blkOk_by (N := ["_law_house_here", "_law_room", "_law_other"]) (sc := defScope sLawSees) (by decide +kernel)) (fun _ _ _ _ _ => (pg_name (i := 2) scLawSees.nd rfl (Or.inl rfl))) (fun _ _ _ _ _ => pts_one (pt_cmpR (op_inD hu65) (pe_tup (pa_cons (pv 1) (pa_cons (pv 2) pa_nil))) (pe_ix ix_tup (pv 0) pe_int (fun _ _ => rfl)) (by rfl))) (fun _ _ _ _ _ => (pv 2)))), ?_⟩
    refine ⟨_, rfl, t, _, 0, _, rfl, rfl, SqT.of h1, rfl, r, rfl, ⟨_, SqL.of h2⟩, fun D nD => ?_⟩
    refine it_any (walk_list (K := K) (a := r) (xs := zs.map V.str)) (fun i H' => Same H H' ∧ H' D = some (.lst ((lnk (zs.take i) ss z).map V.str))) ⟨same_new nD, upd_same⟩ (fun i H' _ h => SqL.of (h.1 _ _ h2)) ?_ ?_
    · rintro i x H1 H2 hi ⟨s1, hD⟩ ⟨rfl, hx⟩
      obtain ⟨c, ec, rfl⟩ := str_at hx
      have hi8 : i < zs.length := (List.getElem?_eq_some_iff.mp ec).1
      have okz := nm_ok (hg.names.2 _ hz)
      have okc := nm_ok (hg.names.2 _ (List.mem_of_getElem? ec))
      have okd : ∀ ab ∈ ds, okP ab := fun ab hab => pred_ok hg.names (hg.dg ab hab)
      have oks : ∀ ab ∈ ss, okP ab := fun ab hab => pred_ok hg.names (hg.sg ab hab)
      have ll := lnk_len (zs.take i) ss z
      rw [List.length_take] at ll
      have e8 := hg.eight
      have hit : ∀ H3 : Hp, Same H2 H3 → (z, c) ∈ ss → ∃ acc, H3 D = some (.lst acc) ∧ acc.length < sizeLine ∧ Same H (upd H3 D (.lst (acc ++ [.str c]))) ∧ (upd H3 D (.lst (acc ++ [.str c]))) D = some (.lst ((lnk (zs.take (i + 1)) ss z).map V.str)) := fun H3 s3 hm => by
        refine ⟨_, s3 _ _ hD, by rw [List.length_map]; exact small1000 (by omega), same_put (s1.trans s3) nD, ?_⟩
        rw [upd_same, lnk_take ec, if_pos hm, List.map_append]
        rfl
      have miss : ∀ H3 : Hp, Same H2 H3 → ¬ (z, c) ∈ ss → Same H H3 ∧ H3 D = some (.lst ((lnk (zs.take (i + 1)) ss z).map V.str)) := fun H3 s3 hm => by
        refine ⟨s1.trans s3, ?_⟩
        rw [lnk_take ec, if_neg hm, List.append_nil]
        exact s3 _ _ hD
      refine ⟨rfl, ?_⟩
      refine ⟨_, rfl, _, rfl, by show 2 ≤ sizeLine; decide, fun q nq => ?_⟩
      have s2 := same_new (o := .tup [.str z, .str c]) nq
      have sH := s1.trans s2
      refine ⟨_, rfl, t, _, 2, _, rfl, rfl, SqT.of (sH _ _ h1), rfl, pd (z, c), ss.map pd, pr_dp ⟨q, rfl, upd_same⟩, .lst (SqL.of (sH _ _ h5)) (pl_dp (h6.same sH)), pd_shaped ⟨okz, okc⟩, pds_shaped oks, _, rfl, ?_⟩
      rw [any_pd]
      refine ite2 (fun e => ?_) (fun e => ?_)
      · exact ⟨_, rfl, hit _ s2 (of_decide_eq_true e)⟩
      · exact miss _ s2 fun hm => e (decide_eq_true hm)
    · rintro H1 ⟨s1, hD⟩
      rw [List.length_map, List.take_length] at hD
      exact k H1 D s1 nD hD
end
end Dk
namespace Dk
open PySem L2
section
variable {P : Program} {w : World} {K : PySem.W.Frag} {mg : Str → Option Value} {base : Heap}
theorem scDraw : FnScope ["_law_box_here", "_law_many", "_law_cell", "_law_got"] ["_law_box_here", "_law_many"] (defScope sDraw) := ⟨rfl, rfl, rfl, by decide +kernel, rfl, by decide +kernel, by decide +kernel⟩
theorem ok_draw {f : Addr} {fd : FuncData} (F : Fun K "_law_draw" "_law_draw" sDraw f fd) (ml : mg "len" = none) (mx : mg "max" = none) : FnOk P w K mg base CX0 1 f fd ["_law_box_here", "_law_many"] spDraw := by
  refine F.ok scDraw (fun vs H Q E h => ?_) (fun cdv A outer s H vs Q E hr h => ?_)
  · obtain ⟨b, l, m, rfl, _⟩ := h
    rfl
  · obtain ⟨b, l, m, rfl, ⟨ns, i, c, s0, t, hb, hl, hi, hc, hs0, hs1⟩, hm, hm2, k⟩ := h
    refine ⟨_, pss_cons (ps_mid (ps_if (PW.pt (pw_and (pt_cmpR op_lt (pe_ix ix_list (pv 0) pe_int (fun _ _ => rfl)) pe_int (nomark _))
          (pw_and1 (pt_cmpR op_lt (pe_ix ix_list (pv 0) pe_int (fun _ _ => rfl)) (pe_callB call_len_seq (by rfl) ml PySem.boot_len (pa_cons (pe_ix ix_list (pv 0) pe_int (fun _ _ => rfl)) pa_nil)) (nomark _)))))
        (pss_cons (ps_set (i := 2) scDraw.nd rfl (Or.inl rfl) (pe_ix ix_list (pe_ix ix_list (pv 0) pe_int (fun _ _ => rfl)) (pe_ix ix_list (pv 0) pe_int (fun _ _ => rfl)) (fun _ _ => rfl)))
        (pss_cons (ps_asg (pe_op op_add (pe_ix ix_list (pv 0) pe_int (fun _ _ => rfl)) pe_int) (pg_sub (pv 0) pe_int set_list))
        (pss_cons (ps_asg (pe_callB (call_max2 rfl) (by rfl) mx (by decide +kernel) (pa_cons pe_int (pa_cons (pe_op op_sub (pv 2) (pe_op op_pow pe_int pe_int)) pa_nil))) (pg_sub (pv 0) pe_int set_list))
        (pss_one (ps_asg (pe_op op_mod (pe_op op_add (pe_op op_add (pe_op op_mul (pe_ix ix_list (pv 0) pe_int (fun _ _ => rfl)) pe_int) (pe_op op_mul (pe_op op_mod (pv 2) pe_int) pe_int)) pe_int) pe_int) (pg_sub (pv 0) pe_int set_list))))))
        pss_nil))
      (pss_cons (ps_if (pt_cmpR op_gt (pe_ix ix_list (pv 0) pe_int (fun _ _ => rfl)) pe_int (nomark _))
        (pss_cons (ps_set (i := 3) scDraw.nd rfl (Or.inl rfl) (pe_op op_mod (pe_ix ix_list (pv 0) pe_int (fun _ _ => rfl)) (pv 1)))
        (pss_cons (ps_asg (pe_op op_fdivW (pe_ix ix_list (pv 0) pe_int (fun _ _ => rfl)) (pv 1)) (pg_sub (pv 0) pe_int set_list))
        (pss_one (ps_ret (pv 3)))))
        pss_nil)
      (pss_cons (ps_asg (pe_op op_add (pe_ix ix_list (pv 0) pe_int (fun _ _ => rfl)) pe_int) (pg_sub (pv 0) pe_int set_list))
      (pss_cons (ps_asg (pe_op op_mod (pe_op op_add (pe_op op_add (pe_op op_pow (pe_ix ix_list (pv 0) pe_int (fun _ _ => rfl)) pe_int) (pe_op op_mul pe_int (pe_ix ix_list (pv 0) pe_int (fun _ _ => rfl)))) pe_int) pe_int) (pg_sub (pv 0) pe_int set_list))
      (pss_one (ps_ret (pe_op op_mod (pe_op op_fdiv (pe_ix ix_list (pv 0) pe_int (fun _ _ => rfl)) pe_int) (pv 1))))))), ?_⟩
    have nlb : l ≠ b := Box.ne hb hl
    have mk : ∀ (i c s0 t : Int), 0 ≤ i → 0 ≤ c → 0 ≤ s0 → s0 < 2147483629 → Box (upd H b (.lst (bxv l i c s0 t))) b l := fun i c s0 t h1 h2 h3 h4 =>
      ⟨ns, i, c, s0, t, upd_same, by rw [upd_ne nlb]; exact hl, h1, h2, h3, h4⟩
    refine ⟨fun σ H1 => ∃ (y : Option V) (i c s0 : Int), σ = [some (.ref b), some (.int m), y, none] ∧ H1 = upd H b (.lst (bxv l i c s0 t)) ∧ 0 ≤ i ∧ 0 ≤ c ∧ 0 ≤ s0 ∧ s0 < 2147483629, ?_, ?_⟩
    · refine ⟨_, rfl, b, _, _, _, rfl, rfl, SqL.of hb, rfl, _, _, rfl, rfl, _, rfl, ite2 (fun _ => ?_) (fun _ => ?_)⟩
      · refine ⟨_, rfl, b, _, _, _, rfl, rfl, SqL.of hb, rfl, _, rfl, b, _, _, _, rfl, rfl, SqL.of hb, rfl, l, _, rfl, .inl (SqL.of hl), _, _, rfl, rfl, _, rfl, ite2 (fun e => ?_) (fun _ => ?_)⟩
        · have e1 : i < ((ns.map V.int).length : Int) := of_decide_eq_true e
          rw [List.length_map] at e1
          have hx : atI (ns.map V.int) i = some (.int (ns.getD i.toNat 0)) := by
            have e2 : ((i.toNat : Nat) : Int) = i := Int.toNat_of_nonneg hi
            have e3 : i.toNat < ns.length := by omega
            have e4 : (ns.map V.int)[i.toNat]? = some (.int (ns.getD i.toNat 0)) := by
              rw [List.getElem?_map, List.getElem?_eq_getElem e3]
              simp [e3]
            have e5 := atI_nat e4
            rw [e2] at e5
            exact e5
          refine ⟨_, rfl, b, _, _, _, rfl, rfl, SqL.of hb, rfl, _, rfl, b, _, _, _, rfl, rfl, SqL.of hb, rfl, l, _, _, _, rfl, rfl, SqL.of hl, hx, ?_⟩
          refine ⟨_, rfl, b, _, _, _, rfl, rfl, SqL.of hb, rfl, _, _, rfl, rfl, _, rfl, b, _, _, _, rfl, rfl, hb, rfl, ?_⟩
          refine ⟨_, rfl, _, _, rfl, rfl, ⟨by decide, by decide, by decide⟩, _, _, rfl, rfl, _, _, rfl, _, rfl, b, _, _, _, rfl, rfl, upd_same, rfl, ?_⟩
          refine ⟨_, rfl, b, _, _, _, rfl, rfl, SqL.of upd_same, rfl, _, _, rfl, rfl, .inr ⟨by decide, by decide⟩, _, rfl, _, _, rfl, rfl, (by show (0 : Int) < 2147483629; decide), _, _, rfl, rfl, .inr ⟨by decide, by decide⟩, _, _, rfl, rfl, _, _, rfl, rfl, _, _, rfl, rfl, (by show (0 : Int) < 2147483629; decide), _, rfl, b, _, _, _, rfl, rfl, upd_same, rfl, ?_⟩
          refine ⟨_, _, _, _, rfl, by rw [upd_upd, upd_upd]; rfl, by omega, ?_, Int.emod_nonneg _ (by decide), Int.emod_lt_of_pos _ (by decide)⟩
          split <;> omega
        · exact ⟨none, i, c, s0, rfl, (upd_id hb).symm, hi, hc, hs0, hs1⟩
      · exact ⟨none, i, c, s0, rfl, (upd_id hb).symm, hi, hc, hs0, hs1⟩
    · rintro σ H1 ⟨y, i, c, s0, rfl, rfl, hi, hc, hs0, hs1⟩
      have hm3 : CDivW c m := wide_div hm hm2 (by decide) (by decide)
      refine ⟨_, rfl, b, _, _, _, rfl, rfl, SqL.of upd_same, rfl, _, _, rfl, rfl, _, rfl, ite2 (fun _ => ?_) (fun _ => ?_)⟩
      · refine ⟨_, rfl, b, _, _, _, rfl, rfl, SqL.of upd_same, rfl, _, rfl, _, _, rfl, rfl, hm, ?_⟩
        refine ⟨_, rfl, b, _, _, _, rfl, rfl, SqL.of upd_same, rfl, _, rfl, _, _, rfl, rfl, hm3, _, rfl, b, _, _, _, rfl, rfl, upd_same, rfl, ?_⟩
        refine ⟨_, rfl, ?_⟩
        rw [upd_upd]
        exact k _ _ (Int.emod_nonneg _ (by omega)) (Int.emod_lt_of_pos _ hm) Sav.upd (mk _ _ _ _ hi (Int.ediv_nonneg hc (by omega)) hs0 hs1)
      · refine ⟨_, rfl, b, _, _, _, rfl, rfl, SqL.of upd_same, rfl, _, _, rfl, rfl, _, rfl, b, _, _, _, rfl, rfl, upd_same, rfl, ?_⟩
        refine ⟨_, rfl, b, _, _, _, rfl, rfl, SqL.of upd_same, rfl, _, _, rfl, rfl, ⟨by decide, by decide, ?_⟩, _, rfl, b, _, _, _, rfl, rfl, SqL.of upd_same, rfl, _, _, rfl, rfl, .inl ⟨by decide, by decide⟩, _, _, rfl, rfl, _, _, rfl, rfl, _, _, rfl, rfl, (by show (0 : Int) < 2147483629; decide), _, rfl, b, _, _, _, rfl, rfl, upd_same, rfl, ?_⟩
        · omega
        · refine ⟨_, rfl, b, _, _, _, rfl, rfl, SqL.of upd_same, rfl, _, _, rfl, rfl, ⟨by decide, by decide⟩, _, rfl, _, _, rfl, rfl, hm, ?_⟩
          rw [upd_upd, upd_upd]
          exact k _ _ (Int.emod_nonneg _ (by omega)) (Int.emod_lt_of_pos _ hm) Sav.upd (mk _ _ _ _ hi hc (Int.emod_nonneg _ (by decide)) (Int.emod_lt_of_pos _ (by decide)))
theorem scBox : FnScope ["_law_script"] ["_law_script"] (defScope sBox) := ⟨rfl, rfl, rfl, by decide +kernel, rfl, by decide +kernel, by decide +kernel⟩
theorem ok_box {f : Addr} {fd : FuncData} (F : Fun K "_law_box" "_law_box" sBox f fd) (ml : mg "list" = none) : FnOk P w K mg base CX0 1 f fd ["_law_script"] (spBox K) := by
  refine F.ok scBox (fun vs H Q E h => ?_) (fun cdv A outer s H vs Q E hr h => ?_)
  · obtain ⟨a, ns, rfl, _⟩ := h
    rfl
  · obtain ⟨a, ns, rfl, hS, k⟩ := h
    refine ⟨_, pss_one (ps_ret (pe_lst (pa_cons (pe_callTy call_list_of (by rfl) ml (by decide +kernel) (pa_cons (pe_slice sl_list (pv 0) po_none (po_some pe_int)) pa_nil)) (pa_cons pe_int (pa_cons pe_int (pa_cons pe_int (pa_cons pe_int pa_nil))))))), ?_⟩
    obtain ⟨ms, em⟩ := cut_ints ns none (some 63)
    refine ⟨_, rfl, 63, rfl, a, _, rfl, hS, fun c nc => ?_⟩
    refine ⟨c, _, rfl, .inl (SqL.of upd_same), fun l nl => ?_⟩
    refine ⟨by show 5 ≤ sizeLine; decide, fun b nb => ?_⟩
    have nlb : l ≠ b := ne_of_none upd_same nb
    have s1 := same_new (o := .lst (cutV (ns.map V.int) none (some 63))) nc
    have s2 := same_new (o := .lst (cutV (ns.map V.int) none (some 63))) nl
    have s3 := same_new (o := .lst [V.ref l, .int 0, .int 0, .int 29, .int 0]) nb
    have s12 := s1.trans s2
    refine k _ b l (s12.trans s3) (s12.free nb) (s1.free nl) ⟨ms, 0, 0, 29, 0, upd_same, ?_, by decide, by decide, by decide, by decide⟩
    rw [upd_ne nlb, upd_same, em]
theorem scOf : FnScope ["_law_box_here", "_law_some"] ["_law_box_here", "_law_some"] (defScope sOf) := ⟨rfl, rfl, rfl, by decide +kernel, rfl, by decide +kernel, by decide +kernel⟩
theorem ok_of {f fD : Addr} {fd fdD : FuncData} (F : Fun K "_law_of" "_law_of" sOf f fd) (FD : Fun K "_law_draw" "_law_draw" sDraw fD fdD) (bD : Binds K fdD ["_law_box_here", "_law_many"] []) (gD : mg "_law_draw" = some (.ref fD)) (ml : mg "len" = none) (mx : mg "max" = none) :
    FnOk P w K mg base CX0 2 f fd ["_law_box_here", "_law_some"] spOf := by
  have GD : FnOk P w K mg base CX0 1 fD fdD ["_law_box_here", "_law_many"] spDraw := ok_draw FD ml mx
  refine F.ok scOf (fun vs H Q E h => ?_) (fun cdv A outer s H vs Q E hr h => ?_)
  · obtain ⟨b, l, v, rfl, _⟩ := h
    rfl
  · obtain ⟨b, l, v, rfl, hB, h⟩ := h
    refine ⟨_, pss_one (ps_ret (pe_ix ix_seq (pv 1) (pe_call GD hr (by rfl) gD FD.kp bD .nil pass0 (pa_cons (pv 0) (pa_cons (pe_callB call_len (by rfl) ml PySem.boot_len (pa_cons (pv 1) pa_nil)) pa_nil))) (fun _ _ => rfl))), ?_⟩
    rcases h with ⟨p, xs, rfl, npb, hp, h0, h1, k⟩ | ⟨z, rfl, h0, h1, k⟩
    · refine ⟨_, rfl, _, rfl, _, rfl, _, xs.length, rfl, .inl ⟨xs, SqL.of hp, rfl⟩, b, l, _, rfl, hB, by omega, small h1, fun r H' hr0 hr1 sv hB' => ?_⟩
      obtain ⟨x, hx, ha⟩ := at_some hr0 hr1
      exact .inl ⟨p, xs, r, x, rfl, rfl, SqL.of (sv _ _ npb hp), ha, k x H' hx sv hB'⟩
    · refine ⟨_, rfl, _, rfl, _, rfl, _, z.length, rfl, ⟨Nat.le_of_lt (small1000 h1), rfl⟩, b, l, _, rfl, hB, by omega, small h1, fun r H' hr0 hr1 sv hB' => ?_⟩
      have el : z.cps.toList.length = z.length := by simp [Str.length]
      obtain ⟨c, hc, ha⟩ := at_some (xs := z.cps.toList) hr0 (by rw [el]; exact hr1)
      exact .inr (.inr ⟨z, r, c, rfl, rfl, Nat.le_of_lt (small1000 h1), ha, k c H' hc sv hB'⟩)
theorem scNames : FnScope ["_law_box_here", "_law_many", "_law_letters", "_law_start", "_law_step", "_law_tail", "_law_pick", "_law_found", "_law_k", "_law_sign"] ["_law_box_here", "_law_many"] (defScope sNames) := ⟨rfl, rfl, rfl, by decide +kernel, rfl, by decide +kernel, by decide +kernel⟩
theorem ok_names {f fD fO : Addr} {fd fdD fdO : FuncData} (F : Fun K "_law_names" "_law_names" sNames f fd) (FD : Fun K "_law_draw" "_law_draw" sDraw fD fdD) (bD : Binds K fdD ["_law_box_here", "_law_many"] []) (gD : mg "_law_draw" = some (.ref fD))
    (FO : Fun K "_law_of" "_law_of" sOf fO fdO) (bO : Binds K fdO ["_law_box_here", "_law_some"] []) (gO : mg "_law_of" = some (.ref fO)) (ml : mg "len" = none) (mx : mg "max" = none) (mr : mg "range" = none) :
    FnOk P w K mg base CX0 3 f fd ["_law_box_here", "_law_many"] spNames := by
  have GD : FnOk P w K mg base CX0 1 fD fdD ["_law_box_here", "_law_many"] spDraw := ok_draw FD ml mx
  have GO : FnOk P w K mg base CX0 2 fO fdO ["_law_box_here", "_law_some"] spOf := ok_of FO FD bD gD ml mx
  refine F.ok scNames (fun vs H Q E h => ?_) (fun cdv A outer s H vs Q E hr h => ?_)
  · obtain ⟨b, l, m, rfl, _⟩ := h
    rfl
  · obtain ⟨b, l, m, rfl, hB, hm0, hm1, k⟩ := h
    have hr1 : Room 1 _ := hr.mono (by decide)
    refine ⟨_, pss_cons (ps_set (i := 2) scNames.nd rfl (Or.inl rfl) pe_str)
      (pss_cons (ps_par (i := 3) (j := 4) (by rfl) scNames.nd rfl rfl (by decide) rfl rfl
        (pa_cons (pe_call GD hr1 (by rfl) gD FD.kp bD .nil pass0 (pa_cons (pv 0) (pa_cons pe_int pa_nil)))
        (pa_cons (pe_call GO hr (by rfl) gO FO.kp bO .nil pass0 (pa_cons (pv 0) (pa_cons (pe_lst (pa_cons pe_int (pa_cons pe_int (pa_cons pe_int (pa_cons pe_int (pa_cons pe_int (pa_cons pe_int pa_nil))))))) pa_nil))) pa_nil)) (by rfl))
      (pss_cons (ps_par (i := 5) (j := 6) (by rfl) scNames.nd rfl rfl (by decide) rfl rfl
        (pa_cons (pe_call GO hr (by rfl) gO FO.kp bO .nil pass0 (pa_cons (pv 0) (pa_cons (pe_lst (pa_cons pe_str (pa_cons pe_str (pa_cons pe_str (pa_cons pe_str (pa_cons pe_str pa_nil)))))) pa_nil)))
        (pa_cons (pe_call GD hr1 (by rfl) gD FD.kp bD .nil pass0 (pa_cons (pv 0) (pa_cons pe_int pa_nil))) pa_nil)) (by rfl))
      (pss_cons (ps_set (i := 7) scNames.nd rfl (Or.inl rfl) (pe_lst pa_nil))
      (pss_cons (ps_for PassesOwn.never rfl (pi_range1 (by rfl) mr (pa_cons (pv 1) pa_nil)) (pg_name (i := 8) scNames.nd rfl (Or.inl rfl))
        (pss_cons (ps_set (i := 9) scNames.nd rfl (Or.inl rfl) (pe_ix ix_str (pv 2) (pe_op op_mod (pe_op op_add (pv 3) (pe_op op_mul (pv 4) (pv 8))) pe_int) (fun _ _ => rfl)))
        (pss_one (ps_expr (pe_bm PySem.F.plainAttrs_list PySem.F.slot_list_append PySem.F.type_list_append mt_append (pv 7)
          (pa_cons (pe_ix ix_list (pe_lst (pa_cons (pe_op op_add_str (pv 9) (pv 5)) (pa_cons (pe_op op_add_str (pv 5) (pv 9)) (pa_cons (pe_op op_add_str (pv 9) (pe_op op_mul01 (pv 5) (pe_op op_mod (pv 8) pe_int))) pa_nil)))) (pv 6) (fun _ _ => rfl)) pa_nil))))))
      (pss_one (ps_ret (pv 7))))))), ?_⟩
    refine ⟨_, rfl, b, l, 26, rfl, hB, by decide, by decide, fun a H1 ha0 ha1 v1 hB1 => ?_⟩
    refine ⟨_, rfl, by show 6 ≤ sizeLine; decide, fun q1 nq1 => ?_⟩
    refine ⟨b, l, _, rfl, hB1.new nq1, .inl ⟨q1, _, rfl, hB1.b1 nq1, upd_same, by decide, by decide, fun x H2 hx v2 hB2 => ?_⟩⟩
    have hc : ∃ c : Int, x = .int c ∧ (c = 1 ∨ c = 3 ∨ c = 5 ∨ c = 7 ∨ c = 9 ∨ c = 11) := by
      simp only [List.mem_cons, List.mem_nil_iff, or_false] at hx
      rcases hx with rfl | rfl | rfl | rfl | rfl | rfl <;> exact ⟨_, rfl, by decide⟩
    obtain ⟨c, rfl, hc⟩ := hc
    refine ⟨_, _, rfl, ?_⟩
    refine ⟨_, rfl, by show 5 ≤ sizeLine; decide, fun q2 nq2 => ?_⟩
    refine ⟨b, l, _, rfl, hB2.new nq2, .inl ⟨q2, _, rfl, hB2.b1 nq2, upd_same, by decide, by decide, fun x H3 hx v3 hB3 => ?_⟩⟩
    have ht : ∃ t : Str, x = .str t ∧ Tail t := by
      simp only [List.mem_cons, List.mem_nil_iff, or_false] at hx
      rcases hx with rfl | rfl | rfl | rfl | rfl <;> exact ⟨_, rfl, by decide +kernel, by decide +kernel, by decide +kernel, by decide +kernel⟩
    obtain ⟨t, rfl, ht⟩ := ht
    refine ⟨_, rfl, b, l, 3, rfl, hB3, by decide, by decide, fun p H4 hp0 hp1 v4 hB4 => ?_⟩
    refine ⟨_, _, rfl, ?_⟩
    refine ⟨Nat.zero_le _, fun g ng => ?_⟩
    have sv0 := v1.trans ((Sav.of (same_new nq1)).trans (v2.trans ((Sav.of (same_new nq2)).trans (v3.trans v4))))
    have ngb := hB4.b1 ng
    have ngl := hB4.l1 ng
    have ngH : H g = none := sv0.free ngb ng
    have sv := sv0.trans (Sav.of (same_new (o := .lst []) ng))
    refine ⟨_, rfl, m, rfl, by omega, by omega, for_range (n := m.toNat) (fun i σ H' => ∃ y8 y9 : Option V, σ = [some (.ref b), some (.int m), some (.str abc), some (.int a), some (.int c), some (.str t), some (.int p), some (.ref g), y8, y9] ∧ Sav b H H' ∧ Box H' b l ∧ H' g = some (.lst ((nms a c t p i).map V.str)))
      ⟨none, none, rfl, sv, hB4.new ng, upd_same⟩ ?_ ?_⟩
    · rintro i σ H1 hi ⟨y8, y9, rfl, s1, hB1, hg⟩
      have hc1 : -(2 ^ 64) < c ∧ c < 2 ^ 64 := by omega
      refine ⟨_, rfl, _, rfl, _, rfl, _, rfl, _, _, rfl, rfl, .inl hc1, _, _, rfl, rfl, _, _, rfl, rfl, (by show (0 : Int) < 26; decide), _, _, _, rfl, rfl, by decide +kernel, sgn_at a c i, ?_⟩
      have tl := tail_len (a := a) (c := c) (i := i) ht
      have hk2 : (0 + (i : Int)) % 2 = 0 ∨ (0 + (i : Int)) % 2 = 1 := by omega
      refine ⟨_, rfl, .inl ⟨rfl, _, SqL.of hg⟩, ?_⟩
      refine ⟨_, rfl, _, rfl, _, _, rfl, rfl, tl.1, _, rfl, _, rfl, _, _, rfl, rfl, tl.2, _, rfl, _, rfl, _, rfl, _, _, rfl, rfl, (by show (0 : Int) < 2; decide), _, _, rfl, rfl, hk2, _, _, rfl, rfl, ?_, ?_⟩
      · split
        · exact tl.1
        · show 1 + 0 ≤ sizeLine
          decide
      · refine ⟨by show 3 ≤ sizeLine; decide, fun q nq => ?_⟩
        have ngq : g ≠ q := ne_of_none hg nq
        refine ⟨_, rfl, q, _, p, _, rfl, rfl, SqL.of upd_same, pick3 hp0 hp1, ?_⟩
        refine ⟨g, _, _, rfl, rfl, by rw [upd_ne ngq]; exact hg, ?_, ?_⟩
        · rw [List.length_map, nms_len]
          exact small1000 (by omega)
        · refine ⟨_, _, rfl, fun x o n hx => ?_, (hB1.new nq).put ngb ngl, ?_⟩
          · have nx : x ≠ g := fun e => by
              rw [e, ngH] at hx
              cases hx
            rw [upd_ne nx]
            exact same_new nq _ _ (s1 x o n hx)
          · rw [upd_same, nms_succ, List.map_append]
            rfl
    · rintro σ H1 ⟨y8, y9, rfl, s1, hB1, hg⟩
      exact ⟨_, rfl, k H1 g _ s1 hB1 ngH hg (nms_len _ _ _ _ _) ⟨nms_nodup hc (by omega), nms_all ht _⟩ (nms_lens ht _)⟩
end
end Dk
namespace Dk
open PySem L2
section
variable {P : Program} {w : World} {K : PySem.W.Frag} {mg : Str → Option Value} {base : Heap}
theorem scLawHouse : FnScope ["_law_box_here", "_law_limit", "_law_rooms", "_law_thick", "_law_doors", "_law_sights", "_law_at", "_law_to", "_law_one", "_law_other"] ["_law_box_here", "_law_limit"] (defScope sLawHouse) := ⟨rfl, rfl, rfl, by decide +kernel, rfl, by decide +kernel, by decide +kernel⟩
theorem ok_lawhouse {f fN fD : Addr} {fd fdN fdD : FuncData} (F : Fun K "_law_house" "_law_house" sLawHouse f fd) (m_len : mg "len" = none) (m_range : mg "range" = none)
    (FN : Fun K "_law_names" "_law_names" sNames fN fdN) (bN : Binds K fdN ["_law_box_here", "_law_many"] []) (gN : mg "_law_names" = some (.ref fN)) (GN : FnOk P w K mg base CX0 3 fN fdN ["_law_box_here", "_law_many"] spNames)
    (FD : Fun K "_law_draw" "_law_draw" sDraw fD fdD) (bD : Binds K fdD ["_law_box_here", "_law_many"] []) (gD : mg "_law_draw" = some (.ref fD)) (GD : FnOk P w K mg base CX0 1 fD fdD ["_law_box_here", "_law_many"] spDraw) :
    FnOk P w K mg base CX0 4 f fd ["_law_box_here", "_law_limit"] spLawHouse := by
  refine F.ok scLawHouse (fun vs H Q E h => ?_) (fun cdv A outer s H vs Q E hr h => ?_)
  · obtain ⟨b, l, m, rfl, _⟩ := h
    rfl
  · obtain ⟨b, l, m, rfl, hB, hm0, hm1, k⟩ := h
    refine ⟨_, pss_cons (ps_set (i := 2) scLawHouse.nd rfl (Or.inl rfl) (pe_call GN hr (by rfl) gN FN.kp bN .nil pass0 (pa_cons (pv 0) (pa_cons (pe_op op_add pe_int (pe_call GD (hr.mono (by decide)) (by rfl) gD FD.kp bD .nil pass0 (pa_cons (pv 0) (pa_cons (pv 1) pa_nil)))) pa_nil))))
      (pss_cons (ps_par3 (i := 3) (j := 4) (l := 5) (by rfl) scLawHouse.nd rfl rfl rfl (by decide) (by decide) (by decide) rfl rfl rfl (pa_cons (pe_call GD (hr.mono (by decide)) (by rfl) gD FD.kp bD .nil pass0 (pa_cons (pv 0) (pa_cons pe_int pa_nil))) (pa_cons (pe_lst pa_nil) (pa_cons (pe_lst pa_nil) pa_nil))) (by rfl))
      (pss_cons (ps_for PassesOwn.never rfl (pi_range1 (by rfl) m_range (pa_cons (pe_callB call_len_seq (by rfl) m_len PySem.boot_len (pa_cons (pv 2) pa_nil)) pa_nil)) (pg_name (i := 6) scLawHouse.nd rfl (Or.inl rfl))
      (pss_one (ps_for PassesOwn.never rfl (pi_range2 (by rfl) m_range (pa_cons (pe_op op_add (pv 6) pe_int) (pa_cons (pe_callB call_len_seq (by rfl) m_len PySem.boot_len (pa_cons (pv 2) pa_nil)) pa_nil))) (pg_name (i := 7) scLawHouse.nd rfl (Or.inl rfl))
      (pss_one (ps_if (pt_mid (PW.pt (pw_or (PW.pt (pw_and (pt_cmpR op_eq (pv 7) (pe_op op_add (pv 6) pe_int) (nomark _)) (pw_and1 (pt_cmpR op_gt (pe_call GD (hr.mono (by decide)) (by rfl) gD FD.kp bD .nil pass0 (pa_cons (pv 0) (pa_cons pe_int pa_nil))) pe_int (nomark _))))) (pw_or1 (pt_cmpR op_lt (pe_call GD (hr.mono (by decide)) (by rfl) gD FD.kp bD .nil pass0 (pa_cons (pv 0) (pa_cons pe_int pa_nil))) (pv 3) (nomark _)))))) (pss_one (ps_expr (pe_bm PySem.F.plainAttrs_list PySem.F.slot_list_append PySem.F.type_list_append mt_append (pv 4) (pa_cons (pe_ix ix_list (pe_lst (pa_cons (pe_tup (pa_cons (pe_ix ix_list (pv 2) (pv 6) (fun _ _ => rfl)) (pa_cons (pe_ix ix_list (pv 2) (pv 7) (fun _ _ => rfl)) pa_nil))) (pa_cons (pe_tup (pa_cons (pe_ix ix_list (pv 2) (pv 7) (fun _ _ => rfl)) (pa_cons (pe_ix ix_list (pv 2) (pv 6) (fun _ _ => rfl)) pa_nil))) pa_nil))) (pe_call GD (hr.mono (by decide)) (by rfl) gD FD.kp bD .nil pass0 (pa_cons (pv 0) (pa_cons pe_int pa_nil))) (fun _ _ => rfl)) pa_nil)))) pss_nil)))))
      (pss_cons (ps_for PassesOwn.never rfl (pi_list (pv 2)) (pg_name (i := 8) scLawHouse.nd rfl (Or.inr rfl))
      (pss_one (ps_set (i := 5) scLawHouse.nd rfl (Or.inl rfl) (pe_op op_cat (pv 5) (pe_lc (own := [("_law_other", 9)]) (g := gName 9)  rfl scLawHouse.nd (pi_list (pv 2)) (blkOk_by (N := ["_law_box_here", "_law_limit", "_law_rooms", "_law_thick", "_law_doors", "_law_sights", "_law_at", "_law_to", "_law_one", "_law_other"]) (sc := defScope sLawHouse) (by decide +kernel)) (fun _ _ _ _ _ => (pg_name (i := 9) scLawHouse.nd rfl (Or.inl rfl))) (fun _ _ _ _ _ => pts_one (pt_mid (PW.pt (pw_and (pt_cmpR op_ne (pv 9) (pv 8) (nomark _)) (pw_and1 (pt_cmpR op_eq (pe_call GD (hr.mono (by decide)) (by rfl) gD FD.kp bD .nil pass0 (pa_cons (pv 0) (pa_cons pe_int pa_nil))) pe_int (nomark _))))))) (fun _ _ _ _ _ => (pe_tup (pa_cons (pv 8) (pa_cons (pv 9) pa_nil)))))))))
      (pss_one (ps_ret (pe_tup (pa_cons (pv 2) (pa_cons (pv 4) (pa_cons (pv 5) pa_nil))))))))), ?_⟩
    refine ⟨_, rfl, _, rfl, _, rfl, b, l, m, rfl, hB, by omega, ?_, fun r0 H1 h00 h01 v1 hB1 => ?_⟩
    · exact Nat.lt_of_le_of_lt (show m.natAbs ≤ 8 by omega) (by decide)
    refine ⟨_, _, rfl, rfl, b, l, _, rfl, hB1, by omega, by omega, fun H2 r zs v2 hB2 nr hr2 hzl hN hLn => ?_⟩
    have nrb : r ≠ b := hB1.b1 nr
    have hz8 : zs.length ≤ 8 := by omega
    have hz1 : 1 ≤ zs.length := by omega
    -- thick, doors, sights
    refine ⟨_, rfl, b, l, 4, rfl, hB2, by decide, by decide, fun th H3 _ _ v3 hB3 => ?_⟩
    have hr3 := v3 _ _ nrb hr2
    refine ⟨Nat.zero_le _, fun d nd => ⟨Nat.zero_le _, fun s nsd => ?_⟩⟩
    have ndb : d ≠ b := hB3.b1 nd
    have ndl : d ≠ l := hB3.l1 nd
    have nds : d ≠ s := ne_of_none upd_same nsd
    have nrd : r ≠ d := ne_of_none hr3 nd
    have sv3 := v1.trans (v2.trans v3)
    have ndH : H d = none := sv3.free ndb nd
    have hB4 := (hB3.new (o := .lst []) nd).new (o := .lst []) nsd
    have nsb : s ≠ b := (hB3.new nd).b1 nsd
    have sv4 := sv3.trans (Sav.of ((same_new (o := .lst []) nd).trans (same_new (o := .lst []) nsd)))
    have hr4 := same_new (o := .lst []) nsd _ _ (same_new (o := .lst []) nd _ _ hr3)
    refine ⟨_, _, _, rfl, ?_⟩
    have hd4 := same_new (o := .lst []) nsd _ _ (upd_same (H := H3) (a := d) (o := .lst []))
    have hs4 : (upd (upd H3 d (.lst [])) s (.lst [])) s = some (.lst []) := upd_same
    generalize upd (upd H3 d (.lst [])) s (.lst []) = H4 at hB4 sv4 hr4 hd4 hs4
    -- doors
    refine ⟨_, rfl, r, _, rfl, .inl (SqL.of hr4), _, rfl, by rw [List.length_map]; omega, by rw [List.length_map]; omega, ?_⟩
    rw [List.length_map, Int.toNat_natCast]
    refine for_range (n := zs.length) (fun i σ H' => ∃ y6 y7 y8 : Option V, σ = [some (.ref b), some (.int m), some (.ref r), some (.int th), some (.ref d), some (.ref s), y6, y7, y8, none] ∧ Sav b H H' ∧ Box H' b l ∧ H' r = some (.lst (zs.map V.str)) ∧ H' s = some (.lst []) ∧ ∃ xs ds, H' d = some (.lst xs) ∧ PL H' xs ds ∧ (∀ p ∈ ds, goodP zs p) ∧ ds.length ≤ i * 8)
      ⟨_, _, _, rfl, sv4, hB4, hr4, hs4, [], [], hd4, PL.nil, (fun p hp => by cases hp), Nat.le_refl _⟩ ?_ ?_
    · rintro i σ H5 hi ⟨y6, y7, y8, rfl, sv5, hB5, hr5, hs5, xs5, ds5, hd5, hP5, hg5, hl5⟩
      refine ⟨_, rfl, _, _, rfl, rfl, _, rfl, r, _, rfl, .inl (SqL.of hr5), _, _, rfl, ⟨by omega, by omega, by rw [List.length_map]; omega, by rw [List.length_map]; omega⟩, ?_⟩
      rw [List.length_map]
      refine for_range (lo := 0 + (i : Int) + 1) (n := (((zs.length : Nat) : Int) - (0 + (i : Int) + 1)).toNat) (fun j σ H' => ∃ y7 y8 : Option V, σ = [some (.ref b), some (.int m), some (.ref r), some (.int th), some (.ref d), some (.ref s), some (.int (0 + (i : Int))), y7, y8, none] ∧ Sav b H H' ∧ Box H' b l ∧ H' r = some (.lst (zs.map V.str)) ∧ H' s = some (.lst []) ∧ ∃ xs ds, H' d = some (.lst xs) ∧ PL H' xs ds ∧ (∀ p ∈ ds, goodP zs p) ∧ ds.length ≤ i * 8 + j)
        ⟨_, _, rfl, sv5, hB5, hr5, hs5, xs5, ds5, hd5, hP5, hg5, hl5⟩ ?_ ?_
      · rintro j σ H6 hj ⟨y7, y8, rfl, sv6, hB6, hr6, hs6, xs6, ds6, hd6, hP6, hg6, hl6⟩
        have hij : i + 1 + j < zs.length := by omega
        -- the test, whatever it comes to
        refine ⟨fun _ H' => Sav b H6 H' ∧ Box H' b l, ?_, ?_⟩
        · refine ⟨_, rfl, _, rfl, _, _, rfl, rfl, rfl, _, rfl, ite2 (fun _ => ?_) (fun _ => ?_)⟩
          · refine ⟨_, rfl, b, l, 8, rfl, hB6, by decide, by decide, fun q1 H7 _ _ v7 hB7 => ?_⟩
            refine ⟨_, _, rfl, rfl, _, rfl, ite2 (fun _ => ⟨v7, hB7⟩) (fun _ => ?_)⟩
            refine ⟨_, rfl, b, l, 6, rfl, hB7, by decide, by decide, fun q2 H8 _ _ v8 hB8 => ?_⟩
            exact ⟨_, rfl, _, _, rfl, rfl, _, rfl, v7.trans v8, hB8⟩
          · refine ⟨_, rfl, b, l, 6, rfl, hB6, by decide, by decide, fun q2 H8 _ _ v8 hB8 => ?_⟩
            exact ⟨_, rfl, _, _, rfl, rfl, _, rfl, v8, hB8⟩
        rintro bb H7 ⟨v7, hB7⟩
        have hr7 := v7 _ _ nrb hr6
        have hs7 := v7 _ _ nsb hs6
        have hd7 := v7 _ _ ndb hd6
        have hP7 := hP6.keep (v7.keepT hB6)
        have sv7 := sv6.trans v7
        cases bb with
        | false => exact ⟨_, _, rfl, sv7, hB7, hr7, hs7, xs6, ds6, hd7, hP7, hg6, by omega⟩
        | true =>
          have e1 : zs[i]? = some zs[i] := List.getElem?_eq_getElem (by omega)
          have e2 : zs[i + 1 + j]? = some zs[i + 1 + j] := List.getElem?_eq_getElem hij
          have ha := at_str e1 (k := 0 + (i : Int)) (by omega)
          have hc := at_str e2 (k := 0 + (i : Int) + 1 + (j : Int)) (by omega)
          have hne : zs[i] ≠ zs[i + 1 + j] := List.pairwise_iff_getElem.mp hN.1 i (i + 1 + j) (by omega) hij (by omega)
          refine ⟨_, rfl, .inl ⟨rfl, _, SqL.of hd7⟩, ?_⟩
          refine ⟨_, rfl, _, rfl, r, _, _, _, rfl, rfl, SqL.of hr7, ha, _, rfl, _, rfl, r, _, _, _, rfl, rfl, SqL.of hr7, hc, by show 2 ≤ sizeLine; decide, fun t1 n1 => ?_⟩
          have hr8 := same_new (o := .tup [.str zs[i], .str zs[i + 1 + j]]) n1 _ _ hr7
          refine ⟨_, rfl, _, rfl, r, _, _, _, rfl, rfl, SqL.of hr8, hc, _, rfl, _, rfl, r, _, _, _, rfl, rfl, SqL.of hr8, ha, by show 2 ≤ sizeLine; decide, fun t2 n2 => ?_⟩
          refine ⟨by show 2 ≤ sizeLine; decide, fun g ng => ?_⟩
          have s9 := (same_new (o := .tup [.str zs[i], .str zs[i + 1 + j]]) n1).trans ((same_new (o := .tup [.str zs[i + 1 + j], .str zs[i]]) n2).trans (same_new (o := .lst [V.ref t1, V.ref t2]) ng))
          have ht1 := (same_new (o := .lst [V.ref t1, V.ref t2]) ng) _ _ ((same_new (o := .tup [.str zs[i + 1 + j], .str zs[i]]) n2) _ _ (upd_same (H := H7) (a := t1) (o := .tup [.str zs[i], .str zs[i + 1 + j]])))
          have ht2 := (same_new (o := .lst [V.ref t1, V.ref t2]) ng) _ _ (upd_same (H := upd H7 t1 (.tup [.str zs[i], .str zs[i + 1 + j]])) (a := t2) (o := .tup [.str zs[i + 1 + j], .str zs[i]]))
          have hB9 := hB7.same s9
          have ngb : g ≠ b := fun z => by
            obtain ⟨ns, a1, a2, a3, a4, hb1, _⟩ := hB7
            have := ((same_new (o := .tup [.str zs[i], .str zs[i + 1 + j]]) n1).trans (same_new (o := .tup [.str zs[i + 1 + j], .str zs[i]]) n2)) _ _ hb1
            rw [z, this] at ng
            cases ng
          refine ⟨_, rfl, b, l, 2, rfl, hB9, by decide, by decide, fun q H10 hq0 hq1 v10 hB10 => ?_⟩
          obtain ⟨v, hv, hvv⟩ := two_at (x := V.ref t1) (y := V.ref t2) hq0 hq1
          have hd10 := v10 _ _ ndb (s9 _ _ hd7)
          have kt10 := v10.keepT hB9
          have ht1' := kt10 _ _ ht1
          have ht2' := kt10 _ _ ht2
          refine ⟨g, _, q, v, rfl, rfl, SqL.of (v10 _ _ ngb upd_same), hv, ?_⟩
          have hxl : xs6.length ≤ 100 := by
            rw [hP6.1]
            omega
          refine ⟨d, _, _, rfl, rfl, hd10, small1000 (by omega), ?_⟩
          have kt11 : KeepT H10 (upd H10 d (.lst (xs6 ++ [v]))) := KeepT.lst hd10
          have hP10 := (((hP7.same s9).keep kt10).keep kt11)
          have sv10 := (sv7.trans (Sav.of s9)).trans v10
          have hv2 : ∃ p : SS, goodP zs p ∧ Pr (upd H10 d (.lst (xs6 ++ [v]))) v p := by
            rcases hvv with rfl | rfl
            · exact ⟨(zs[i], zs[i + 1 + j]), ⟨List.getElem_mem _, List.getElem_mem _, hne⟩, t1, rfl, kt11 _ _ ht1'⟩
            · exact ⟨(zs[i + 1 + j], zs[i]), ⟨List.getElem_mem _, List.getElem_mem _, fun e => hne e.symm⟩, t2, rfl, kt11 _ _ ht2'⟩
          obtain ⟨p, hpg, hpv⟩ := hv2
          refine ⟨_, _, rfl, sv10.put ndH, hB10.put ndb ndl, ?_, ?_, xs6 ++ [v], ds6 ++ [p], upd_same, hP10.snoc hpv, ?_, ?_⟩
          · rw [upd_ne nrd]
            exact v10 _ _ nrb (s9 _ _ hr7)
          · rw [upd_ne nds.symm]
            exact v10 _ _ nsb (s9 _ _ hs7)
          · intro q hq
            rcases List.mem_append.mp hq with h | h
            · exact hg6 q h
            · rw [List.mem_singleton.mp h]
              exact hpg
          · rw [List.length_append]
            show ds6.length + 1 ≤ i * 8 + (j + 1)
            omega
      · rintro σ H6 ⟨y7, y8, rfl, sv6, hB6, hr6, hs6, xs6, ds6, hd6, hP6, hg6, hl6⟩
        refine ⟨_, _, _, rfl, sv6, hB6, hr6, hs6, xs6, ds6, hd6, hP6, hg6, ?_⟩
        rw [Nat.succ_mul]
        omega
    rintro σ H5 ⟨y6, y7, y8, rfl, sv5, hB5, hr5, hs5, xs5, ds5, hd5, hP5, hg5, hl5⟩
    -- sights
    refine ⟨_, rfl, r, rfl, ⟨_, SqL.of hr5⟩, for_list (K := K) (a := r) (xs := zs.map V.str) (fun i σ H' => ∃ (y6 y7 y8 : Option V) (s : Addr), σ = [some (.ref b), some (.int m), some (.ref r), some (.int th), some (.ref d), some (.ref s), y6, y7, y8, none] ∧ Sav b H5 H' ∧ Box H' b l ∧ s ≠ b ∧ ∃ us ss, H' s = some (.lst us) ∧ PL H' us ss ∧ (∀ p ∈ ss, goodP zs p) ∧ ss.length ≤ i * 8 ∧ (∀ p ∈ ss, p.1 ∈ zs.take i) ∧ ss.Nodup)
      ⟨_, _, _, s, rfl, Sav.refl _ _, hB5, nsb, [], [], hs5, PL.nil, (fun p hp => by cases hp), Nat.le_refl _, (fun p hp => by cases hp), List.nodup_nil⟩ (fun i σ H' _ h => by obtain ⟨_, _, _, _, _, v, _⟩ := h; exact SqL.of (v _ _ nrb hr5)) ?_ ?_⟩
    · rintro i x σ H6 hx ⟨y6, y7, y8, s, rfl, v6, hB6, nsb, us6, ss6, hs6, hP6, hg6, hl6, hf6, hn6⟩
      obtain ⟨a, ea, rfl⟩ := str_at hx
      have hi8 : i < zs.length := (List.getElem?_eq_some_iff.mp ea).1
      have hr6 := v6 _ _ nrb hr5
      refine ⟨_, rfl, _, rfl, r, rfl, ⟨_, SqL.of hr6⟩, fun D nD => ?_⟩
      have nDb := hB6.b1 nD
      have nDl := hB6.l1 nD
      refine it_any (walk_list (K := K) (a := r) (xs := zs.map V.str)) (fun j H' => Sav b H6 H' ∧ Box H' b l ∧ ∃ ys qs, H' D = some (.lst ys) ∧ PL H' ys qs ∧ (∀ p ∈ qs, goodP zs p) ∧ qs.length ≤ j ∧ (∀ p ∈ qs, p.1 = a ∧ p.2 ∈ zs.take j) ∧ qs.Nodup) ⟨Sav.of (same_new nD), hB6.new nD, [], [], upd_same, PL.nil, (fun p hp => by cases hp), Nat.le_refl _, (fun p hp => by cases hp), List.nodup_nil⟩ (fun j H' _ h => SqL.of (h.1 _ _ nrb hr6)) ?_ ?_
      · rintro j x H7 H8 hj ⟨v7, hB7, ys, qs, hD, hPq, hgq, hlq, hfq, hnq⟩ ⟨rfl, hx⟩
        obtain ⟨c, ec, rfl⟩ := str_at hx
        have hj8 : j < zs.length := (List.getElem?_eq_some_iff.mp ec).1
        refine ⟨rfl, ?_⟩
        refine ⟨fun bb H' => Sav b H8 H' ∧ Box H' b l ∧ (bb = true → c ≠ a), ?_, ?_⟩
        · refine ⟨_, rfl, _, rfl, rfl, _, rfl, ?_⟩
          by_cases hca : c = a
          · rw [decide_eq_true (show V.str c = V.str a by rw [hca])]
            exact ⟨Sav.refl _ _, hB7, fun h => by cases h⟩
          · rw [decide_eq_false (fun e => hca (V.str.inj e))]
            refine iteT ?_
            refine ⟨_, rfl, b, l, 5, rfl, hB7, by decide, by decide, fun q H9 _ _ v9 hB9 => ?_⟩
            exact ⟨rfl, _, rfl, v9, hB9, fun _ => hca⟩
        rintro bb H9 ⟨v9, hB9, hbb⟩
        have hD9 := v9 _ _ nDb hD
        have hP9 := hPq.keep (v9.keepT hB7)
        cases bb with
        | false => exact ⟨v7.trans v9, hB9, ys, qs, hD9, hP9, hgq, by omega, (fun p hp => ⟨(hfq p hp).1, take_more (hfq p hp).2⟩), hnq⟩
        | true =>
          have hca := hbb rfl
          refine ⟨_, rfl, _, rfl, by show 2 ≤ sizeLine; decide, fun t nt => ?_⟩
          have s10 := same_new (o := .tup [.str a, .str c]) nt
          have nDt : D ≠ t := ne_of_none hD9 nt
          have yl : ys.length ≤ 100 := by
            rw [hPq.1]
            omega
          have kt : KeepT H9 (upd (upd H9 t (.tup [.str a, .str c])) D (.lst (ys ++ [.ref t]))) := (KeepT.of s10).trans (KeepT.lst (s10 _ _ hD9))
          refine ⟨_, s10 _ _ hD9, small1000 (by omega), ((v7.trans v9).trans (Sav.of s10)).put nD, (hB9.new nt).put nDb nDl, ys ++ [.ref t], qs ++ [(a, c)], upd_same, (hP9.keep kt).snoc ⟨t, rfl, by rw [upd_ne nDt.symm, upd_same]⟩, ?_, ?_, ?_, ?_⟩
          · intro q hq
            rcases List.mem_append.mp hq with h | h
            · exact hgq q h
            · rw [List.mem_singleton.mp h]
              exact ⟨List.mem_of_getElem? ea, List.mem_of_getElem? ec, fun e => hca e.symm⟩
          · rw [List.length_append]
            show qs.length + 1 ≤ j + 1
            omega
          · intro q hq
            rcases List.mem_append.mp hq with h | h
            · exact ⟨(hfq q h).1, take_more (hfq q h).2⟩
            · rw [List.mem_singleton.mp h]
              refine ⟨rfl, ?_⟩
              rw [take_snoc ec]
              exact List.mem_append.mpr (.inr (List.mem_singleton.mpr rfl))
          · refine nodup_snoc hnq fun hm => ?_
            exact nodup_at hN.1 ec (hfq _ hm).2
      rintro H7 ⟨v7, hB7, ys, qs, hD, hPq, hgq, hlq, hfq, hnq⟩
      rw [List.length_map] at hlq
      have hs7 := v7 _ _ nsb hs6
      have hP7 := hP6.keep (v7.keepT hB6)
      have ul : us6.length ≤ 100 := by
        rw [hP6.1]
        omega
      have yl : ys.length ≤ 100 := by
        rw [hPq.1]
        omega
      refine ⟨s, D, _, _, rfl, rfl, hs7, hD, Nat.le_of_lt (small1000 (by omega)), fun g ng => ?_⟩
      have s8 := same_new (o := .lst (us6 ++ ys)) ng
      refine ⟨_, _, _, g, rfl, (v6.trans v7).trans (Sav.of s8), hB7.new ng, hB7.b1 ng, us6 ++ ys, ss6 ++ qs, upd_same, (hP7.same s8).append (hPq.same s8), ?_, ?_, ?_, ?_⟩
      · intro q hq
        rcases List.mem_append.mp hq with h | h
        · exact hg6 q h
        · exact hgq q h
      · rw [List.length_append, Nat.succ_mul]
        omega
      · intro q hq
        rcases List.mem_append.mp hq with h | h
        · exact take_more (hf6 q h)
        · rw [(hfq q h).1, take_snoc ea]
          exact List.mem_append.mpr (.inr (List.mem_singleton.mpr rfl))
      · refine List.nodup_append.mpr ⟨hn6, hnq, fun x hx y hy e => ?_⟩
        subst e
        have h1 := hf6 _ hx
        rw [(hfq _ hy).1] at h1
        exact nodup_at hN.1 ea h1
    rintro σ H6 ⟨y6, y7, y8, s, rfl, v6, hB6, nsb, us6, ss6, hs6, hP6, hg6, hl6, hf6, hn6⟩
    rw [List.length_map] at hl6
    refine ⟨_, rfl, _, rfl, _, rfl, by show 3 ≤ sizeLine; decide, fun t nt => ?_⟩
    have s7 := same_new (o := .tup [V.ref r, V.ref d, V.ref s]) nt
    have sv6 := sv5.trans v6
    have ntb := hB6.b1 nt
    refine k _ t zs ds5 ss6 (sv6.trans (Sav.of s7)) (hB6.new nt) (sv6.free ntb nt) ⟨r, d, s, xs5, us6, nrb, ndb, nsb, upd_same, s7 _ _ (v6 _ _ nrb hr5), s7 _ _ (v6 _ _ ndb hd5), (hP5.keep (v6.keepT hB5)).same s7, s7 _ _ hs6, hP6.same s7⟩ ⟨hN, hz1, hz8, hg5, hg6, ?_, ?_, hn6, hLn⟩ (by omega)
    · have : zs.length * 8 ≤ 8 * 8 := Nat.mul_le_mul_right 8 hz8
      omega
    · have : zs.length * 8 ≤ 8 * 8 := Nat.mul_le_mul_right 8 hz8
      omega
end
end Dk
namespace Dk
open PySem L2
section
variable {P : Program} {w : World} {K : PySem.W.Frag} {mg : Str → Option Value} {base : Heap}
theorem scTold : FnScope ["_law_house_here", "_law_rooms", "_law_doors", "_law_sights", "_law_at", "_law_other"] ["_law_house_here"] (defScope sToldHouse) := ⟨rfl, rfl, rfl, by decide +kernel, rfl, by decide +kernel, by decide +kernel⟩
theorem ok_told {f fN fS : Addr} {fd fdN fdS : FuncData} (F : Fun K "_law_told_house" "_law_told_house" sToldHouse f fd) (m_len : mg "len" = none) (m_range : mg "range" = none) (m_list : mg "list" = none)
    (FN : Fun K "_law_near" "_law_near" sLawNear fN fdN) (bN : Binds K fdN ["_law_house_here", "_law_room"] []) (gN : mg "_law_near" = some (.ref fN)) (GN : FnOk P w K mg base CX0 1 fN fdN ["_law_house_here", "_law_room"] spLawNear)
    (FS : Fun K "_law_sees" "_law_sees" sLawSees fS fdS) (bS : Binds K fdS ["_law_house_here", "_law_room"] []) (gS : mg "_law_sees" = some (.ref fS)) (GS : FnOk P w K mg base CX0 1 fS fdS ["_law_house_here", "_law_room"] spLawSees) :
    FnOk P w K mg base CX0 2 f fd ["_law_house_here"] spToldHouse := by
  refine F.ok scTold (fun vs H Q E h => ?_) (fun cdv A outer s H vs Q E hr h => ?_)
  · obtain ⟨t, zs, ds, ss, rfl, _⟩ := h
    rfl
  · obtain ⟨t, zs, ds, ss, rfl, ⟨r, d, s', xs, us, h1, h2, h3, h4, h5, h6⟩, hg, k⟩ := h
    refine ⟨_, pss_cons (ps_set (i := 1) scTold.nd rfl (Or.inr rfl) (pe_ix ix_tup (pv 0) pe_int (fun _ _ => rfl)))
      (pss_cons (ps_par (i := 2) (j := 3) (by rfl) scTold.nd rfl rfl (by decide) rfl rfl (pa_cons (pe_lst pa_nil) (pa_cons (pe_lst pa_nil) pa_nil)) (by rfl))
      (pss_cons (ps_for PassesOwn.never rfl (pi_range1 (by rfl) m_range (pa_cons (pe_callB call_len_seq (by rfl) m_len PySem.boot_len (pa_cons (pv 1) pa_nil)) pa_nil)) (pg_name (i := 4) scTold.nd rfl (Or.inr rfl))
      (pss_cons (ps_set (i := 2) scTold.nd rfl (Or.inl rfl) (pe_op op_cat (pv 2) (pe_lc (own := [("_law_other", 5)]) (g := gName 5) (tt := tTest (tOp (rIn K false) (tVar 5) (tCall spLawNear [] E0 (tCons (tVar 0) (tCons (tOp (rIxL K) (tVar 1) (tVar 4)) tNil))))) (te := tTup (tCons (tOp (rIxL K) (tVar 1) (tVar 4)) (tCons (tVar 5) tNil))) rfl scTold.nd (pi_list (pe_slice sl_list (pv 1) (po_some (pe_op op_add (pv 4) pe_int)) po_none)) (blkOk_by (N := ["_law_house_here", "_law_rooms", "_law_doors", "_law_sights", "_law_at", "_law_other"]) (sc := defScope sToldHouse) (by decide +kernel)) (fun _ _ _ _ _ => (pg_name (i := 5) scTold.nd rfl (Or.inl rfl))) (fun _ _ _ _ _ => pts_one (pt_cmpR op_in_seq (pv 5) (pe_call GN hr (by rfl) gN FN.kp bN .nil pass0 (pa_cons (pv 0) (pa_cons (pe_ix ix_list (pv 1) (pv 4) (fun _ _ => rfl)) pa_nil))) (by rfl))) (fun _ _ _ _ _ => (pe_tup (pa_cons (pe_ix ix_list (pv 1) (pv 4) (fun _ _ => rfl)) (pa_cons (pv 5) pa_nil)))))))
      (pss_one (ps_set (i := 3) scTold.nd rfl (Or.inl rfl) (pe_op op_cat (pv 3) (pe_lc (own := [("_law_other", 5)]) (g := gName 5) (tt := tTest (tOp (rIn K false) (tVar 5) (tCall spLawSees [] E0 (tCons (tVar 0) (tCons (tOp (rIxL K) (tVar 1) (tVar 4)) tNil))))) (te := tTup (tCons (tOp (rIxL K) (tVar 1) (tVar 4)) (tCons (tVar 5) tNil))) rfl scTold.nd (pi_list (pv 1)) (blkOk_by (N := ["_law_house_here", "_law_rooms", "_law_doors", "_law_sights", "_law_at", "_law_other"]) (sc := defScope sToldHouse) (by decide +kernel)) (fun _ _ _ _ _ => (pg_name (i := 5) scTold.nd rfl (Or.inl rfl))) (fun _ _ _ _ _ => pts_one (pt_cmpR op_in_seq (pv 5) (pe_call GS hr (by rfl) gS FS.kp bS .nil pass0 (pa_cons (pv 0) (pa_cons (pe_ix ix_list (pv 1) (pv 4) (fun _ _ => rfl)) pa_nil))) (by rfl))) (fun _ _ _ _ _ => (pe_tup (pa_cons (pe_ix ix_list (pv 1) (pv 4) (fun _ _ => rfl)) (pa_cons (pv 5) pa_nil))))))))))
      (pss_one (ps_ret (pe_lst (pa_cons (pe_callTy call_list_of (by rfl) m_list (by decide +kernel) (pa_cons (pv 1) pa_nil)) (pa_cons (pv 2) (pa_cons (pv 3) pa_nil)))))))), ?_⟩
    have e8 := hg.eight
    refine ⟨_, rfl, t, _, 0, _, rfl, rfl, SqT.of h1, rfl, ?_⟩
    refine ⟨Nat.zero_le _, fun d0 nd0 => ⟨Nat.zero_le _, fun s0 ns0 => ⟨_, _, rfl, ?_⟩⟩⟩
    have s1 := (same_new (o := .lst []) nd0).trans (same_new (o := .lst []) ns0)
    have hd0 := same_new (o := .lst []) ns0 _ _ (upd_same (H := H) (a := d0) (o := .lst []))
    refine ⟨_, rfl, r, _, rfl, .inl (SqL.of (s1 _ _ h2)), _, rfl, by rw [List.length_map]; omega, by rw [List.length_map]; omega, ?_⟩
    rw [List.length_map, Int.toNat_natCast]
    refine for_range (n := zs.length) (fun i σ H' => ∃ (y4 : Option V) (dd sd : Addr), σ = [some (.ref t), some (.ref r), some (.ref dd), some (.ref sd), y4, none] ∧ Same H H' ∧ (∃ xs, H' dd = some (.lst xs) ∧ PL H' xs (dUp zs (lnk zs (both ds)) i)) ∧ ∃ us, H' sd = some (.lst us) ∧ PL H' us (sUp zs (lnk zs ss) i))
      ⟨_, d0, s0, rfl, s1, ⟨[], hd0, PL.nil⟩, [], upd_same, PL.nil⟩ ?_ ?_
    · rintro i σ H1 hi ⟨y4, dd, sd, rfl, s1, ⟨xs1, hd1, hP1⟩, us1, hs1, hQ1⟩
      have ea : zs[i]? = some zs[i] := List.getElem?_eq_getElem hi
      have hat := at_str ea (k := 0 + (i : Int)) (by omega)
      have haz : zs[i] ∈ zs := List.getElem_mem hi
      generalize zs[i] = a at ea hat haz
      have hr1 := s1 _ _ h2
      have L1 : LHouse H1 t zs ds ss := LHouse.same ⟨r, d, s', xs, us, h1, h2, h3, h4, h5, h6⟩ s1
      have dl := dUp_len zs (lnk zs (both ds)) i
      have sl := sUp_len (zs := zs) (vw := lnk zs ss) (fun x => lnk_len zs ss x) i
      have i64 : i * zs.length ≤ 8 * 8 := Nat.mul_le_mul (by omega) e8
      -- doors
      refine ⟨_, rfl, _, rfl, _, rfl, _, _, rfl, rfl, _, rfl, r, _, rfl, SqL.of hr1, fun c nc => ?_⟩
      have ecut : cutV (zs.map V.str) (some (0 + (i : Int) + 1)) none = (zs.drop (i + 1)).map V.str := by
        rw [show (0 + (i : Int) + 1) = ((i + 1 : Nat) : Int) by omega]
        exact cut_from (i + 1)
      have s2 := s1.trans (same_new (o := .lst (cutV (zs.map V.str) (some (0 + (i : Int) + 1)) none)) nc)
      have hc : (upd H1 c (.lst (cutV (zs.map V.str) (some (0 + (i : Int) + 1)) none))) c = some (.lst ((zs.drop (i + 1)).map V.str)) := by rw [upd_same, ecut]
      have hd2 := same_new (o := .lst (cutV (zs.map V.str) (some (0 + (i : Int) + 1)) none)) nc _ _ hd1
      have hs2 := same_new (o := .lst (cutV (zs.map V.str) (some (0 + (i : Int) + 1)) none)) nc _ _ hs1
      have hP2 := hP1.same (same_new (o := .lst (cutV (zs.map V.str) (some (0 + (i : Int) + 1)) none)) nc)
      have hQ2 := hQ1.same (same_new (o := .lst (cutV (zs.map V.str) (some (0 + (i : Int) + 1)) none)) nc)
      have L2h := L1.same (same_new (o := .lst (cutV (zs.map V.str) (some (0 + (i : Int) + 1)) none)) nc)
      generalize upd H1 c (.lst (cutV (zs.map V.str) (some (0 + (i : Int) + 1)) none)) = H2 at s2 hc hd2 hs2 hP2 hQ2 L2h
      refine ⟨c, rfl, ⟨_, SqL.of hc⟩, fun D nD => ?_⟩
      refine it_any (walk_list (K := K) (a := c) (xs := (zs.drop (i + 1)).map V.str)) (fun j H' => Same H2 H' ∧ ∃ ys, H' D = some (.lst ys) ∧ PL H' ys ((((zs.drop (i + 1)).take j).filter fun b => decide (b ∈ lnk zs (both ds) a)).map fun b => (a, b))) ⟨same_new nD, [], upd_same, PL.nil⟩ (fun j H' _ h => SqL.of (h.1 _ _ hc)) ?_ ?_
      · rintro j x H3 H4 hj ⟨s3, ys, hD, hP⟩ ⟨rfl, hx⟩
        obtain ⟨e, ee, rfl⟩ := str_at hx
        have hr3 := s3 _ _ (s2 _ _ h2)
        refine ⟨rfl, ?_⟩
        refine ⟨_, rfl, _, rfl, _, rfl, _, rfl, r, _, _, _, rfl, rfl, SqL.of hr3, hat, t, zs, ds, ss, a, rfl, L2h.same s3, hg, haz, fun H5 p s5 np hp => ?_⟩
        refine ⟨p, _, rfl, .inl (SqL.of hp), rfl, flat_all _, _, rfl, ?_⟩
        show if inV (.str e) ((lnk zs (both ds) a).map V.str) = true then _ else _
        rw [in_strs]
        have yl : ys.length ≤ 100 := by
          rw [hP.1, List.length_map]
          have h9 := List.length_filter_le (fun b => decide (b ∈ lnk zs (both ds) a)) ((zs.drop (i + 1)).take j)
          rw [List.length_take, List.length_drop] at h9
          omega
        refine ite2 (fun q => ?_) (fun q => ?_)
        · refine ⟨_, rfl, _, rfl, r, _, _, _, rfl, rfl, SqL.of (s5 _ _ hr3), hat, _, rfl, by show 2 ≤ sizeLine; decide, fun tq ntq => ?_⟩
          have s6 := same_new (o := .tup [.str a, .str e]) ntq
          have hD6 := s6 _ _ (s5 _ _ hD)
          have nDt : D ≠ tq := ne_of_none (s5 _ _ hD) ntq
          have kt : KeepT H4 (upd (upd H5 tq (.tup [.str a, .str e])) D (.lst (ys ++ [.ref tq]))) := (KeepT.of (s5.trans s6)).trans (KeepT.lst hD6)
          refine ⟨_, hD6, small1000 (by omega), same_put (s3.trans (s5.trans s6)) nD, ys ++ [.ref tq], upd_same, ?_⟩
          rw [filter_take ee, if_pos q, List.map_append]
          exact (hP.keep kt).snoc ⟨tq, rfl, by rw [upd_ne nDt.symm, upd_same]⟩
        · refine ⟨s3.trans s5, ys, s5 _ _ hD, ?_⟩
          rw [filter_take ee, if_neg q, List.append_nil]
          exact hP.same s5
      rintro H3 ⟨s3, ys3, hD3, hP3⟩
      rw [List.length_map, List.take_length] at hP3
      have yl3 : ys3.length ≤ 100 := by
        rw [hP3.1, List.length_map]
        have h9 := List.length_filter_le (fun b => decide (b ∈ lnk zs (both ds) a)) (zs.drop (i + 1))
        rw [List.length_drop] at h9
        omega
      have xl : xs1.length ≤ 100 := by
        rw [hP1.1]
        omega
      refine ⟨dd, D, _, _, rfl, rfl, s3 _ _ hd2, hD3, Nat.le_of_lt (small1000 (by omega)), fun g ng => ?_⟩
      have s4 := same_new (o := .lst (xs1 ++ ys3)) ng
      have hPg : PL (upd H3 g (.lst (xs1 ++ ys3))) (xs1 ++ ys3) (dUp zs (lnk zs (both ds)) (i + 1)) := by
        rw [dUp_succ, dAt_some ea]
        exact ((hP2.same s3).same s4).append (hP3.same s4)
      have hg4 : (upd H3 g (.lst (xs1 ++ ys3))) g = some (.lst (xs1 ++ ys3)) := upd_same
      have s04 := s2.trans (s3.trans s4)
      have hs4 := s4 _ _ (s3 _ _ hs2)
      have hQ4 := (hQ2.same s3).same s4
      have L4 := (L2h.same s3).same s4
      generalize upd H3 g (.lst (xs1 ++ ys3)) = H4 at hPg hg4 s04 hs4 hQ4 L4
      -- sights
      have hr4 := s04 _ _ h2
      refine ⟨_, rfl, _, rfl, r, rfl, ⟨_, SqL.of hr4⟩, fun B nB => ?_⟩
      refine it_any (walk_list (K := K) (a := r) (xs := zs.map V.str)) (fun j H' => Same H4 H' ∧ ∃ ys, H' B = some (.lst ys) ∧ PL H' ys (((zs.take j).filter fun b => decide (b ∈ lnk zs ss a)).map fun b => (a, b))) ⟨same_new nB, [], upd_same, PL.nil⟩ (fun j H' _ h => SqL.of (h.1 _ _ hr4)) ?_ ?_
      · rintro j x H5 H6 hj ⟨s5, ys, hD, hP⟩ ⟨rfl, hx⟩
        obtain ⟨e, ee, rfl⟩ := str_at hx
        have hr5 := s5 _ _ hr4
        refine ⟨rfl, ?_⟩
        refine ⟨_, rfl, _, rfl, _, rfl, _, rfl, r, _, _, _, rfl, rfl, SqL.of hr5, hat, t, zs, ds, ss, a, rfl, L4.same s5, hg, haz, fun H7 p s7 np hp => ?_⟩
        refine ⟨p, _, rfl, .inl (SqL.of hp), rfl, flat_all _, _, rfl, ?_⟩
        show if inV (.str e) ((lnk zs ss a).map V.str) = true then _ else _
        rw [in_strs]
        have yl : ys.length ≤ 100 := by
          rw [hP.1, List.length_map]
          have h9 := List.length_filter_le (fun b => decide (b ∈ lnk zs ss a)) (zs.take j)
          rw [List.length_take] at h9
          omega
        refine ite2 (fun q => ?_) (fun q => ?_)
        · refine ⟨_, rfl, _, rfl, r, _, _, _, rfl, rfl, SqL.of (s7 _ _ hr5), hat, _, rfl, by show 2 ≤ sizeLine; decide, fun tq ntq => ?_⟩
          have s8 := same_new (o := .tup [.str a, .str e]) ntq
          have hD8 := s8 _ _ (s7 _ _ hD)
          have nDt : B ≠ tq := ne_of_none (s7 _ _ hD) ntq
          have kt : KeepT H6 (upd (upd H7 tq (.tup [.str a, .str e])) B (.lst (ys ++ [.ref tq]))) := (KeepT.of (s7.trans s8)).trans (KeepT.lst hD8)
          refine ⟨_, hD8, small1000 (by omega), same_put (s5.trans (s7.trans s8)) nB, ys ++ [.ref tq], upd_same, ?_⟩
          rw [filter_take ee, if_pos q, List.map_append]
          exact (hP.keep kt).snoc ⟨tq, rfl, by rw [upd_ne nDt.symm, upd_same]⟩
        · refine ⟨s5.trans s7, ys, s7 _ _ hD, ?_⟩
          rw [filter_take ee, if_neg q, List.append_nil]
          exact hP.same s7
      rintro H5 ⟨s5, ys5, hB5, hP5⟩
      rw [List.length_map, List.take_length] at hP5
      have yl5 : ys5.length ≤ 100 := by
        rw [hP5.1, List.length_map]
        have h9 := List.length_filter_le (fun b => decide (b ∈ lnk zs ss a)) zs
        omega
      have ul : us1.length ≤ 100 := by
        rw [hQ1.1]
        omega
      refine ⟨sd, B, _, _, rfl, rfl, s5 _ _ hs4, hB5, Nat.le_of_lt (small1000 (by omega)), fun g2 ng2 => ?_⟩
      have s6 := same_new (o := .lst (us1 ++ ys5)) ng2
      refine ⟨_, g, g2, rfl, s04.trans (s5.trans s6), ⟨_, s6 _ _ (s5 _ _ hg4), (hPg.same s5).same s6⟩, us1 ++ ys5, upd_same, ?_⟩
      rw [sUp_succ, sAt_some ea]
      have ef : zs.filter (fun b => decide (b ∈ lnk zs ss a)) = lnk zs ss a := filter_filter
      rw [ef] at hP5
      exact ((hQ4.same s5).same s6).append (hP5.same s6)
    · rintro σ H1 ⟨y4, dd, sd, rfl, s1, ⟨xs1, hd1, hP1⟩, us1, hs1, hQ1⟩
      refine ⟨_, rfl, r, _, rfl, .inl (SqL.of (s1 _ _ h2)), fun c nc => ?_⟩
      have s2 := same_new (o := .lst (zs.map V.str)) nc
      refine ⟨_, rfl, _, rfl, by show 3 ≤ sizeLine; decide, fun p np => ?_⟩
      have s3 := same_new (o := .lst [V.ref c, V.ref dd, V.ref sd]) np
      have s13 := s1.trans (s2.trans s3)
      exact k _ p s13 ((s1.trans s2).free np) ⟨c, dd, sd, xs1, us1, upd_same, s3 _ _ upd_same, s3 _ _ (s2 _ _ hd1), (hP1.same s2).same s3, s3 _ _ (s2 _ _ hs1), (hQ1.same s2).same s3⟩
end
end Dk
namespace Dk
open PySem L2
section
variable {P : Program} {w : World} {K : PySem.W.Frag} {mg : Str → Option Value} {base : Heap}
theorem scLike : FnScope ["_law_found", "_law_due", "_law_one", "_law_other"] ["_law_found", "_law_due"] (defScope sLike) := ⟨rfl, rfl, rfl, by decide +kernel, rfl, by decide +kernel, by decide +kernel⟩
structure LikeT (mg : Str → Option Value) (f : Addr) : Prop where
  isi : mg "isinstance" = none
  list : mg "list" = none
  tuple : mg "tuple" = none
  len : mg "len" = none
  all : mg "all" = none
  zip : mg "zip" = none
  bool : mg "bool" = none
  int : mg "int" = none
  str : mg "str" = none
  me : mg "_law_like" = some (.ref f)
theorem ok_like {f : Addr} {fd : FuncData} (F : Fun K "_law_like" "_law_like" sLike f fd) (bF : Binds K fd ["_law_found", "_law_due"] []) (T : LikeT mg f) : ∀ n : Nat, FnOk P w K mg base CX0 n f fd ["_law_found", "_law_due"] (spLike n)
  | 0 => ⟨fun vs H Q E h => by obtain ⟨v, u, _, z, _⟩ := h; exact z.elim, fun A outer s H args us vs Q E _ _ _ _ h => by obtain ⟨v, u, _, z, _⟩ := h; exact z.elim⟩
  | n + 1 => by
    have G := ok_like F bF T n
    refine F.ok scLike (fun vs H Q E h => ?_) (fun cdv A outer s H vs Q E hr h => ?_)
    · obtain ⟨v, u, rfl, _⟩ := h
      rfl
    · obtain ⟨v, u, rfl, hL, k⟩ := h
      refine ⟨_, pss_cons (ps_if (pt_val (pe_callB call_isiT (by rfl) T.isi (by decide +kernel) (pa_cons (pv 1) (pa_cons (pe_tup (pa_cons (pe_bltn (v := .ty "list") (by rfl) T.list (by decide +kernel) rfl) (pa_cons (pe_bltn (v := .ty "tuple") (by rfl) T.tuple (by decide +kernel) rfl) pa_nil))) pa_nil))))
          (pss_cons (ps_if (PW.pt (pw_or (pt_cmpR op_ne (pe_callB call_isi (by rfl) T.isi (by decide +kernel) (pa_cons (pv 0) (pa_cons (pe_bltn (v := .ty "list") (by rfl) T.list (by decide +kernel) rfl) pa_nil))) (pe_callB call_isi (by rfl) T.isi (by decide +kernel) (pa_cons (pv 1) (pa_cons (pe_bltn (v := .ty "list") (by rfl) T.list (by decide +kernel) rfl) pa_nil))) (nomark _))
              (pw_or1 (pt_cmpR op_ne (pe_callB call_isi (by rfl) T.isi (by decide +kernel) (pa_cons (pv 0) (pa_cons (pe_bltn (v := .ty "tuple") (by rfl) T.tuple (by decide +kernel) rfl) pa_nil))) (pe_callB call_isi (by rfl) T.isi (by decide +kernel) (pa_cons (pv 1) (pa_cons (pe_bltn (v := .ty "tuple") (by rfl) T.tuple (by decide +kernel) rfl) pa_nil))) (nomark _)))))
            (pss_one (ps_ret pe_bl)) pss_nil)
          (pss_one (ps_ret (pe_and (pe_cmpR op_eq (pe_callB call_len_seq (by rfl) T.len PySem.boot_len (pa_cons (pv 0) pa_nil)) (pe_callB call_len_seq (by rfl) T.len PySem.boot_len (pa_cons (pv 1) pa_nil)) (nomark _))
            (pe_one (pe_callB (cr_all rfl) (by rfl) T.all (by decide +kernel) (pa_cons (pe_lc (own := [("_law_one", 2), ("_law_other", 3)]) (g := gTup K 2 (gCons (gName 2) (gCons (gName 3) gNil))) (tt := tYes) rfl scLike.nd (RZ.pi_zipA (by rfl) T.zip (pa_cons (pv 0) (pa_cons (pv 1) pa_nil)))
              (blkOk_by (N := ["_law_found", "_law_due", "_law_one", "_law_other"]) (sc := defScope sLike) (by decide +kernel))
              (fun _ _ _ _ _ => pg_tup rfl (pgs_cons (pg_name (i := 2) scLike.nd rfl (Or.inl rfl)) (pgs_cons (pg_name (i := 3) scLike.nd rfl (Or.inl rfl)) pgs_nil))) (fun _ _ _ _ _ => pts_nil)
              (fun _ _ _ _ _ => pe_call G hr (by rfl) T.me F.kp bF .nil pass0 (pa_cons (pv 2) (pa_cons (pv 3) pa_nil)))) pa_nil)))))))
          pss_nil)
        (pss_cons (ps_if (PW.pt (pw_or (pt_cmpR op_isN (pv 0) pe_non (nomark _)) (pw_or1 (pt_cmpR op_isN (pv 1) pe_non (nomark _)))))
          (pss_one (ps_ret (pe_and (pe_cmpR op_isN (pv 0) pe_non (nomark _)) (pe_one (pe_cmpR op_isN (pv 1) pe_non (nomark _)))))) pss_nil)
        (pss_cons (ps_if (PW.pt (pw_or (pt_cmpR op_ne (pe_callB call_isi (by rfl) T.isi (by decide +kernel) (pa_cons (pv 0) (pa_cons (pe_bltn (v := .ty "bool") (by rfl) T.bool (by decide +kernel) rfl) pa_nil))) (pe_callB call_isi (by rfl) T.isi (by decide +kernel) (pa_cons (pv 1) (pa_cons (pe_bltn (v := .ty "bool") (by rfl) T.bool (by decide +kernel) rfl) pa_nil))) (nomark _))
              (pw_or1 (pt_cmpR op_ne (pe_callB call_isi (by rfl) T.isi (by decide +kernel) (pa_cons (pv 0) (pa_cons (pe_bltn (v := .ty "int") (by rfl) T.int (by decide +kernel) rfl) pa_nil))) (pe_callB call_isi (by rfl) T.isi (by decide +kernel) (pa_cons (pv 1) (pa_cons (pe_bltn (v := .ty "int") (by rfl) T.int (by decide +kernel) rfl) pa_nil))) (nomark _)))))
          (pss_one (ps_ret pe_bl)) pss_nil)
        (pss_one (ps_ret (pe_and (pe_cmpR op_eq (pe_callB call_isi (by rfl) T.isi (by decide +kernel) (pa_cons (pv 0) (pa_cons (pe_bltn (v := .ty "str") (by rfl) T.str (by decide +kernel) rfl) pa_nil))) (pe_callB call_isi (by rfl) T.isi (by decide +kernel) (pa_cons (pv 1) (pa_cons (pe_bltn (v := .ty "str") (by rfl) T.str (by decide +kernel) rfl) pa_nil))) (nomark _))
          (pe_one (pe_cmpR op_eq (pv 0) (pv 1) (nomark _)))))))), ?_⟩
      have kit2 : ∀ (s : String) (r : Bool), kitB s "list" = some r → kitB s "tuple" = some (!r) → PySem.W.kitAny K (.type s) [.type "list", .type "tuple"] = some true := fun s r h1 h2 =>
        kitAny_cons (kit_ty h1) (fun e => kitAny_cons (kit_ty h2) (fun e2 => by rw [e] at e2; cases e2) (fun _ => rfl)) (fun _ => rfl)
      have kit0 : ∀ (s : String), kitB s "list" = some false → kitB s "tuple" = some false → PySem.W.kitAny K (.type s) [.type "list", .type "tuple"] = some false := fun s h1 h2 =>
        kitAny_cons (kit_ty h1) (fun _ => kitAny_cons (kit_ty h2) (fun _ => kitAny_nil) (fun e => by cases e)) (fun e => by cases e)
      rcases hL with ⟨rfl, fl⟩ | ⟨a, b, xs, ys, rfl, rfl, el, e1000, hab, hi⟩
      · -- plain values
        have ty : ∃ s : String, (∀ H : Hp, TyX K H v (.type s)) ∧ (s = "NoneType" ∧ v = .non ∨ v ≠ .non ∧ (s = "bool" ∨ s = "int" ∨ s = "str")) ∧ scal v v = true := by
          cases v with
          | non => exact ⟨"NoneType", fun _ => .base .non, .inl ⟨rfl, rfl⟩, rfl⟩
          | bl x => exact ⟨"bool", fun _ => .base (.bl x), .inr ⟨(fun z => nomatch z), .inl rfl⟩, rfl⟩
          | int x => exact ⟨"int", fun _ => .base (.int x), .inr ⟨(fun z => nomatch z), .inr (.inl rfl)⟩, rfl⟩
          | str x => exact ⟨"str", fun _ => .base (.str x), .inr ⟨(fun z => nomatch z), .inr (.inr rfl)⟩, rfl⟩
          | _ => cases fl
        obtain ⟨s, ts, hs, hsc⟩ := ty
        have kL : kitB s "list" = some false := by
          rcases hs with ⟨rfl, _⟩ | ⟨_, rfl | rfl | rfl⟩ <;> decide +kernel
        have kT : kitB s "tuple" = some false := by
          rcases hs with ⟨rfl, _⟩ | ⟨_, rfl | rfl | rfl⟩ <;> decide +kernel
        refine ⟨_, rfl, by show 2 ≤ sizeLine; decide, fun tp ntp => ?_⟩
        have sm := same_new (o := .tup [V.ty "list", V.ty "tuple"]) ntp
        refine ⟨v, tp, _, _, [.type "list", .type "tuple"], false, rfl, upd_same, .cons (.ty _) (.cons (.ty _) .nil), ts _, kit0 s kL kT, false, rfl, iteF ?_⟩
        refine ⟨_, rfl, rfl, _, rfl, ite2 (fun e => ?_) (fun e => ?_)⟩
        · have ev : v = .non := of_decide_eq_true e
          refine iteT ?_
          refine ⟨_, rfl, rfl, _, rfl, ?_⟩
          rw [decide_eq_true ev]
          refine iteT ⟨_, rfl, rfl, ?_⟩
          rw [decide_eq_true ev]
          exact k _ sm
        · have ev : ¬ v = .non := fun z => e (decide_eq_true z)
          have kBI : ∃ r q p, kitB s "bool" = some r ∧ kitB s "int" = some q ∧ kitB s "str" = some p := by
            rcases hs with ⟨_, z⟩ | ⟨_, rfl | rfl | rfl⟩
            · exact absurd z ev
            · exact ⟨true, true, false, by decide +kernel, by decide +kernel, by decide +kernel⟩
            · exact ⟨false, true, false, by decide +kernel, by decide +kernel, by decide +kernel⟩
            · exact ⟨false, false, true, by decide +kernel, by decide +kernel, by decide +kernel⟩
          obtain ⟨r, q, p, kb, ki, ks⟩ := kBI
          refine ⟨_, rfl, rfl, _, rfl, ite2 (fun z => absurd (of_decide_eq_true z) ev) (fun _ => ?_)⟩
          refine ⟨_, rfl, v, _, _, _, r, rfl, .ty _, ts _, kit_ty kb, _, rfl, v, _, _, _, r, rfl, .ty _, ts _, kit_ty kb, rfl, _, rfl, ?_⟩
          rw [decide_eq_true (show V.bl r = V.bl r from rfl)]
          refine iteF ?_
          refine ⟨_, rfl, v, _, _, _, q, rfl, .ty _, ts _, kit_ty ki, _, rfl, v, _, _, _, q, rfl, .ty _, ts _, kit_ty ki, rfl, _, rfl, ?_⟩
          rw [decide_eq_true (show V.bl q = V.bl q from rfl)]
          refine iteF ?_
          refine ⟨_, rfl, v, _, _, _, p, rfl, .ty _, ts _, kit_ty ks, _, rfl, v, _, _, _, p, rfl, .ty _, ts _, kit_ty ks, rfl, _, rfl, ?_⟩
          rw [decide_eq_true (show V.bl p = V.bl p from rfl)]
          refine iteT ⟨_, rfl, _, rfl, hsc, ?_⟩
          rw [decide_eq_true (show v = v from rfl)]
          exact k _ sm
      · -- a list or a tuple
        have both : ∃ (s : String) (r : Bool), (s = "list" ∧ r = true ∨ s = "tuple" ∧ r = false) ∧ (∀ H' : Hp, Same H H' → TyX K H' (.ref a) (.type s) ∧ TyX K H' (.ref b) (.type s)) ∧
            (∀ H' : Hp, Same H H' → (SqL K H' a xs ∨ SqT K H' a xs) ∧ (SqL K H' b ys ∨ SqT K H' b ys)) := by
          rcases hab with ⟨ha, hb⟩ | ⟨ha, hb⟩
          · exact ⟨"list", true, .inl ⟨rfl, rfl⟩, fun H' sm => ⟨.base (.lst (sm _ _ ha)), .base (.lst (sm _ _ hb))⟩, fun H' sm => ⟨.inl (SqL.of (sm _ _ ha)), .inl (SqL.of (sm _ _ hb))⟩⟩
          · exact ⟨"tuple", false, .inr ⟨rfl, rfl⟩, fun H' sm => ⟨.base (.tup (sm _ _ ha)), .base (.tup (sm _ _ hb))⟩, fun H' sm => ⟨.inr (SqT.of (sm _ _ ha)), .inr (SqT.of (sm _ _ hb))⟩⟩
        obtain ⟨s, r, hsr, ts, sq⟩ := both
        have kL : kitB s "list" = some r := by
          rcases hsr with ⟨rfl, rfl⟩ | ⟨rfl, rfl⟩ <;> decide +kernel
        have kT : kitB s "tuple" = some (!r) := by
          rcases hsr with ⟨rfl, rfl⟩ | ⟨rfl, rfl⟩ <;> decide +kernel
        refine ⟨_, rfl, by show 2 ≤ sizeLine; decide, fun tp ntp => ?_⟩
        have sm := same_new (o := .tup [V.ty "list", V.ty "tuple"]) ntp
        refine ⟨.ref b, tp, _, _, [.type "list", .type "tuple"], true, rfl, upd_same, .cons (.ty _) (.cons (.ty _) .nil), (ts _ sm).2, kit2 s r kL kT, true, rfl, iteT ?_⟩
        refine ⟨_, rfl, _, _, _, _, r, rfl, .ty _, (ts _ sm).1, kit_ty kL, _, rfl, _, _, _, _, r, rfl, .ty _, (ts _ sm).2, kit_ty kL, rfl, _, rfl, ?_⟩
        rw [decide_eq_true (show V.bl r = V.bl r from rfl)]
        refine iteF ?_
        refine ⟨_, rfl, _, _, _, _, (!r), rfl, .ty _, (ts _ sm).1, kit_ty kT, _, rfl, _, _, _, _, (!r), rfl, .ty _, (ts _ sm).2, kit_ty kT, rfl, _, rfl, ?_⟩
        rw [decide_eq_true (show V.bl (!r) = V.bl (!r) from rfl)]
        refine iteF ?_
        refine ⟨_, rfl, a, xs, rfl, (sq _ sm).1, _, rfl, b, ys, rfl, (sq _ sm).2, rfl, _, rfl, ?_⟩
        rw [decide_eq_true (show V.int (xs.length : Nat) = V.int (ys.length : Nat) by rw [el])]
        refine iteT ?_
        -- the comprehension
        refine ⟨_, rfl, _, rfl, a, b, xs, ys, rfl, ?_⟩
        rcases hab with ⟨ha, hb⟩ | ⟨ha, hb⟩
        · refine .inl ⟨SqL.of (sm _ _ ha), SqL.of (sm _ _ hb), fun D nD => lc_it (walk_zip (n := xs.length) (xs := xs) (ys := ys) (by rw [← el, Nat.min_self])) (fun i H' => Same (upd H tp (.tup [V.ty "list", V.ty "tuple"])) H' ∧ H' D = some (.lst ((List.replicate i true).map V.bl))) ?_ ?_ ?_ ?_⟩
          · exact ⟨same_new nD, upd_same⟩
          · exact fun i H' _ h => ⟨SqL.of (h.1 _ _ (sm _ _ ha)), SqL.of (h.1 _ _ (sm _ _ hb))⟩
          · rintro i x H1 H2 hin ⟨s1, hD⟩ ⟨tq, x1, y1, rfl, ntq, rfl, f1, f2⟩
            have s2 := same_new (o := .tup [x1, y1]) ntq
            refine ⟨tq, [x1, y1], rfl, SqT.of upd_same, rfl, x1, [y1], rfl, y1, [], rfl, rfl, rfl, ?_⟩
            refine ⟨x1, rfl, y1, rfl, x1, y1, rfl, (hi i x1 y1 f1 f2).same (sm.trans (s1.trans s2)), fun H3 s3 => ?_⟩
            have hD3 : H3 D = some (.lst ((List.replicate i true).map V.bl)) := s3 _ _ (s2 _ _ hD)
            refine ⟨_, hD3, ?_, fun q o hq => ?_, ?_⟩
            · rw [List.length_map, List.length_replicate]
              exact small1000 (by omega)
            · have nq : q ≠ D := fun z => by
                rw [z, nD] at hq
                cases hq
              rw [upd_ne nq]
              exact s3 _ _ (s2 _ _ (s1 _ _ hq))
            · rw [upd_same, List.replicate_succ', List.map_append]
              rfl
          · rintro H1 ⟨s1, hD⟩
            refine ⟨D, _, rfl, SqL.of hD, ?_⟩
            rw [all_true]
            exact k _ (sm.trans s1)
        · refine .inr ⟨SqT.of (sm _ _ ha), SqT.of (sm _ _ hb), fun D nD => lc_it (walk_zipT (n := xs.length) (xs := xs) (ys := ys) (by rw [← el, Nat.min_self])) (fun i H' => Same (upd H tp (.tup [V.ty "list", V.ty "tuple"])) H' ∧ H' D = some (.lst ((List.replicate i true).map V.bl))) ?_ ?_ ?_ ?_⟩
          · exact ⟨same_new nD, upd_same⟩
          · exact fun i H' _ h => ⟨SqT.of (h.1 _ _ (sm _ _ ha)), SqT.of (h.1 _ _ (sm _ _ hb))⟩
          · rintro i x H1 H2 hin ⟨s1, hD⟩ ⟨tq, x1, y1, rfl, ntq, rfl, f1, f2⟩
            have s2 := same_new (o := .tup [x1, y1]) ntq
            refine ⟨tq, [x1, y1], rfl, SqT.of upd_same, rfl, x1, [y1], rfl, y1, [], rfl, rfl, rfl, ?_⟩
            refine ⟨x1, rfl, y1, rfl, x1, y1, rfl, (hi i x1 y1 f1 f2).same (sm.trans (s1.trans s2)), fun H3 s3 => ?_⟩
            have hD3 : H3 D = some (.lst ((List.replicate i true).map V.bl)) := s3 _ _ (s2 _ _ hD)
            refine ⟨_, hD3, ?_, fun q o hq => ?_, ?_⟩
            · rw [List.length_map, List.length_replicate]
              exact small1000 (by omega)
            · have nq : q ≠ D := fun z => by
                rw [z, nD] at hq
                cases hq
              rw [upd_ne nq]
              exact s3 _ _ (s2 _ _ (s1 _ _ hq))
            · rw [upd_same, List.replicate_succ', List.map_append]
              rfl
          · rintro H1 ⟨s1, hD⟩
            refine ⟨D, _, rfl, SqL.of hD, ?_⟩
            rw [all_true]
            exact k _ (sm.trans s1)
end
end Dk
namespace Dk
open PySem L2
section
variable {P : Program} {w : World} {K : PySem.W.Frag} {mg : Str → Option Value} {base : Heap}
theorem bind_init0 {t1 t2 t3 f : Addr} {fd : FuncData} (F : FunI K [V.ref t1, V.ref t2, V.ref t3] f fd) : ∃ ds, Vals [V.ref t1, V.ref t2, V.ref t3] ds ∧ Binds K fd ["self", "rooms", "doors", "sights"] ds := by
  refine FunD.binds1 F 1 0 (by simp) rfl ?_
  intro T kV doc pm an cdv ct us its h1 h2
  match us, h1, its, h2 with
  | [_], _, [_, _, _], _ => exact ⟨_, rfl, rfl⟩
theorem bind_init {t1 t2 t3 f : Addr} {fd : FuncData} (F : FunI K [V.ref t1, V.ref t2, V.ref t3] f fd) : Binds K fd ["self", "rooms", "doors", "sights"] [] := by
  obtain ⟨ds, v, b⟩ := FunD.binds1 (ps := ["self", "rooms", "doors", "sights"]) F 4 3 (by simp) rfl (by
    intro T kV doc pm an cdv ct us its h1 h2
    match us, h1, its, h2 with
    | [_, _, _, _], _, [_, _, _], _ => exact ⟨_, rfl, rfl⟩)
  cases v
  exact b
end
end Dk
namespace Dk
open PySem L2
section
variable {P : Program} {w : World} {K : PySem.W.Frag} {mg : Str → Option Value} {base : Heap}
theorem scLaw : FnScope ["_law_script", "_law_box_here", "_law_turn", "_law_house_here", "_law_more", "_law_handed", "_law_kept", "_law_made", "_law_due", "_law_again", "_law_told", "_law_rows", "_law_text", "_law_many", "_law_counts", "_law_pair", "_law_one", "_law_room", "_law_a", "_law_b"] ["_law_script"] (defScope sLaw) := ⟨rfl, rfl, rfl, by decide +kernel, rfl, by decide +kernel, by decide +kernel⟩
def spLaw (K : PySem.W.Frag) : Sp := fun vs H Q _ => ∃ (a : Addr) (ns : List Int), vs = [.ref a] ∧ SqL K H a (ns.map V.int) ∧ ns.length ≤ 63 ∧ ∀ H', Q (.bl true) H'
theorem ok_law {f fB fD fH fT fL C fI fR fO fS fN fE fX fY e1 e2 e3 : Addr} {fd dB dD dH dT dL dI dR dO dS dN dE dX dY : FuncData} {ds0 : List Value} (F : Fun K "law" "law" sLaw f fd)
    (GB : FnOk P w K mg base CX0 1 fB dB ["_law_script"] (spBox K)) (gB : mg "_law_box" = some (.ref fB)) (kB : PySem.W.keepIn K (.ref fB) = true) (bB : Binds K dB ["_law_script"] [])
    (GD : FnOk P w K mg base CX0 1 fD dD ["_law_box_here", "_law_many"] spDraw) (gD : mg "_law_draw" = some (.ref fD)) (kD : PySem.W.keepIn K (.ref fD) = true) (bD : Binds K dD ["_law_box_here", "_law_many"] [])
    (GH : FnOk P w K mg base CX0 4 fH dH ["_law_box_here", "_law_limit"] spLawHouse) (gH : mg "_law_house" = some (.ref fH)) (kH : PySem.W.keepIn K (.ref fH) = true) (bH : Binds K dH ["_law_box_here", "_law_limit"] [])
    (GT : FnOk P w K mg base CX0 2 fT dT ["_law_house_here"] spToldHouse) (gT : mg "_law_told_house" = some (.ref fT)) (kT : PySem.W.keepIn K (.ref fT) = true) (bT : Binds K dT ["_law_house_here"] [])
    (GL : FnOk P w K mg base CX0 4 fL dL ["_law_found", "_law_due"] (spLike 4)) (gL : mg "_law_like" = some (.ref fL)) (kL : PySem.W.keepIn K (.ref fL) = true) (bL : Binds K dL ["_law_found", "_law_due"] [])
    (cl : Cls K C) (mk : Mk K C fI) (GI : FnOk P w K mg base CX0 6 fI dI ["self", "rooms", "doors", "sights"] (spInit K C)) (gC : mg "House" = some (.ref C)) (bI : Binds K dI ["self", "rooms", "doors", "sights"] [])
    (bI0 : Binds K dI ["self", "rooms", "doors", "sights"] ds0) (v0 : Vals [V.ref e1, V.ref e2, V.ref e3] ds0) (z1 : ∀ H, SqT K H e1 []) (z2 : ∀ H, SqT K H e2 []) (z3 : ∀ H, SqT K H e3 [])
    (GR : FnOk P w K mg base CX0 1 fR dR ["self"] (spRooms C)) (mR : Meth K C "rooms" fR) (bR : Binds K dR ["self"] [])
    (GO : FnOk P w K mg base CX0 1 fO dO ["self"] (spDoors C)) (mO : Meth K C "doors" fO) (bO : Binds K dO ["self"] [])
    (GS : FnOk P w K mg base CX0 1 fS dS ["self"] (spSights C)) (mS : Meth K C "sights" fS) (bS : Binds K dS ["self"] [])
    (GN : FnOk P w K mg base CX0 1 fN dN ["self"] (spLen C)) (lN : PySem.W.findIn K (.ref C) "__len__" = some (some (.ref fN))) (iN : PySem.W.isFn K (.ref fN) = true) (bN : Binds K dN ["self"] [])
    (GE : FnOk P w K mg base CX0 1 fE dE ["self", "other"] (spEq (EqH C))) (lE : PySem.W.findIn K (.ref C) "__eq__" = some (some (.ref fE))) (iE : PySem.W.isFn K (.ref fE) = true) (bE : Binds K dE ["self", "other"] [])
    (GX : FnOk P w K mg base CX0 2 fX dX ["self"] (spStr C)) (lX : PySem.W.findIn K (.ref C) "__str__" = some (some (.ref fX))) (iX : PySem.W.isFn K (.ref fX) = true) (bX : Binds K dX ["self"] [])
    (GY : FnOk P w K mg base CX0 3 fY dY ["self"] (spRepr C)) (lY : PySem.W.findIn K (.ref C) "__repr__" = some (some (.ref fY))) (iY : PySem.W.isFn K (.ref fY) = true) (bY : Binds K dY ["self"] [])
    (hm : PySem.W.mroIn K C (.type "object") = some true) (hn : PySem.W.findIn K (.ref C) "__ne__" = some (some (.builtin "object.__ne__"))) (nBo : PySem.W.findIn K (.ref C) "__bool__" = some none)
    (m_list : mg "list" = none) (m_tuple : mg "tuple" = none) (m_len : mg "len" = none) (m_str : mg "str" = none) (m_bool : mg "bool" = none) (m_repr : mg "repr" = none) (m_range : mg "range" = none) (m_isinstance : mg "isinstance" = none) : FnOk P w K mg base CX0 8 f fd ["_law_script"] (spLaw K) := by
  refine F.ok scLaw (fun vs H Q E h => ?_) (fun cdv A outer s H vs Q E hr h => ?_)
  · obtain ⟨a, ns, rfl, _⟩ := h
    rfl
  · obtain ⟨a, ns, rfl, hS, hlen, k⟩ := h
    refine ⟨_, pss_cons (ps_set (i := 1) scLaw.nd rfl (Or.inr rfl) (pe_call GB (hr.mono (by decide)) (by rfl) gB kB bB .nil pass0 (pa_cons (pv 0) pa_nil)))
      (pss_cons (ps_for PassesOwn.never rfl (pi_range1 (by rfl) m_range (pa_cons pe_int pa_nil)) (pg_name (i := 2) scLaw.nd rfl (Or.inl rfl))
      (pss_cons (ps_set (i := 3) scLaw.nd rfl (Or.inl rfl) (pe_call GH (hr.mono (by decide)) (by rfl) gH kH bH .nil pass0 (pa_cons (pv 1) (pa_cons pe_int pa_nil))))
      (pss_cons (ps_setLc (i := 4) (own := [("_law_pair", 15)]) (g := gName 15)  rfl scLaw.nd rfl rfl (sw_true rfl rfl rfl (by decide +kernel)) (pi_list (pe_ix ix_tup (pv 3) pe_int (fun _ _ => rfl))) (blkOk_by (N := ["_law_script", "_law_box_here", "_law_turn", "_law_house_here", "_law_more", "_law_handed", "_law_kept", "_law_made", "_law_due", "_law_again", "_law_told", "_law_rows", "_law_text", "_law_many", "_law_counts", "_law_pair", "_law_one", "_law_room", "_law_a", "_law_b"]) (sc := defScope sLaw) (by decide +kernel)) (fun _ _ _ _ _ => (pg_name (i := 15) scLaw.nd rfl (Or.inl rfl))) (fun _ _ _ _ _ => pts_one (pt_cmpR op_eq (pe_call GD (hr.mono (by decide)) (by rfl) gD kD bD .nil pass0 (pa_cons (pv 1) (pa_cons pe_int pa_nil))) pe_int (nomark _))) (fun _ _ _ _ _ => (pv 15)))
      (pss_cons (ps_set (i := 5) scLaw.nd rfl (Or.inl rfl) (pe_lst (pa_cons (pe_callTy call_list_of (by rfl) m_list (by decide +kernel) (pa_cons (pe_ix ix_tup (pv 3) pe_int (fun _ _ => rfl)) pa_nil)) (pa_cons (pe_op op_cat (pe_op op_cat (pv 4) (pe_lc (own := [("_law_pair", 15)]) (g := gName 15) (tt := tYes) (te := tRevP K (tVar 15)) rfl scLaw.nd (pi_list (pv 4)) (blkOk_by (N := ["_law_script", "_law_box_here", "_law_turn", "_law_house_here", "_law_more", "_law_handed", "_law_kept", "_law_made", "_law_due", "_law_again", "_law_told", "_law_rows", "_law_text", "_law_many", "_law_counts", "_law_pair", "_law_one", "_law_room", "_law_a", "_law_b"]) (sc := defScope sLaw) (by decide +kernel)) (fun _ _ _ _ _ => (pg_name (i := 15) scLaw.nd rfl (Or.inl rfl))) (fun _ _ _ _ _ => pts_nil) (fun _ _ _ _ _ => (pe_revP (pv 15))))) (pe_ix ix_tup (pv 3) pe_int (fun _ _ => rfl))) (pa_cons (pe_op op_cat (pe_ix ix_tup (pv 3) pe_int (fun _ _ => rfl)) (pe_slice sl_list (pe_ix ix_tup (pv 3) pe_int (fun _ _ => rfl)) po_none (po_some pe_int))) pa_nil)))))
      (pss_cons (ps_setLc (i := 6) (own := [("_law_one", 16)]) (g := gName 16) (tt := tYes) (te := tCB (fun xs H Q => ∃ p ys, xs = [V.ref p] ∧ (SqL K H p ys ∨ SqT K H p ys) ∧ ∀ l, H l = none → Q (.ref l) (upd H l (.lst ys))) (tCons (tVar 16) tNil)) rfl scLaw.nd rfl rfl (sw_true rfl rfl rfl (by decide +kernel)) (pi_list (pv 5)) (blkOk_by (N := ["_law_script", "_law_box_here", "_law_turn", "_law_house_here", "_law_more", "_law_handed", "_law_kept", "_law_made", "_law_due", "_law_again", "_law_told", "_law_rows", "_law_text", "_law_many", "_law_counts", "_law_pair", "_law_one", "_law_room", "_law_a", "_law_b"]) (sc := defScope sLaw) (by decide +kernel)) (fun _ _ _ _ _ => (pg_name (i := 16) scLaw.nd rfl (Or.inl rfl))) (fun _ _ _ _ _ => pts_nil) (fun _ _ _ _ _ => (pe_callTy call_list_of (by rfl) m_list (by decide +kernel) (pa_cons (pv 16) pa_nil))))
      (pss_cons (ps_set (i := 7) scLaw.nd rfl (Or.inl rfl) (pe_make mk GI hr (by rfl) gC bI .nil pass0 (pa_cons (pe_ix ix_list (pv 5) pe_int (fun _ _ => rfl)) (pa_cons (pe_callTy call_tuple_of (by rfl) m_tuple (by decide +kernel) (pa_cons (pe_ix ix_list (pv 5) pe_int (fun _ _ => rfl)) pa_nil)) (pa_cons (pe_ix ix_list (pv 5) pe_int (fun _ _ => rfl)) pa_nil)))))
      (pss_cons (ps_if (PW.pt (pw_or (pt_cmpR (op_neD hr.units) (pv 5) (pv 6) (nomark _)) (pw_or1 (pt_cmpR (op_neO GE bE (hr.mono (by decide)) lE iE hm hn) (pe_make mk GI hr (by rfl) gC bI .nil pass0 (pa_cons (pe_callTy call_tuple_of (by rfl) m_tuple (by decide +kernel) (pa_cons (pe_ix ix_list (pv 6) pe_int (fun _ _ => rfl)) pa_nil)) (pa_cons (pe_ix ix_list (pv 6) pe_int (fun _ _ => rfl)) (pa_cons (pe_callTy call_tuple_of (by rfl) m_tuple (by decide +kernel) (pa_cons (pe_ix ix_list (pv 6) pe_int (fun _ _ => rfl)) pa_nil)) pa_nil)))) (pv 7) (nomark _))))) (pss_one (ps_ret pe_bl)) pss_nil)
      (pss_cons (ps_expr (pe_bm PySem.F.plainAttrs_list PySem.F.slot_list_append PySem.F.type_list_append mt_append (pe_ix ix_list (pv 5) pe_int (fun _ _ => rfl)) (pa_cons pe_str pa_nil)))
      (pss_cons (ps_expr (pe_bm0 PySem.F.plainAttrs_list PySem.F.slot_list_clear PySem.F.type_list_clear mt_clear (pe_ix ix_list (pv 5) pe_int (fun _ _ => rfl))))
      (pss_cons (ps_set (i := 8) scLaw.nd rfl (Or.inl rfl) (pe_call GT (hr.mono (by decide)) (by rfl) gT kT bT .nil pass0 (pa_cons (pv 3) pa_nil)))
      (pss_cons (ps_for PassesOwn.never rfl (pi_range1 (by rfl) m_range (pa_cons pe_int pa_nil)) (pg_name (i := 9) scLaw.nd rfl (Or.inl rfl))
      (pss_cons (ps_set (i := 10) scLaw.nd rfl (Or.inl rfl) (pe_lst (pa_cons (pe_meth0 (pv 7) cl mR GR (hr.mono (by decide)) bR .nil pass0) (pa_cons (pe_meth0 (pv 7) cl mO GO (hr.mono (by decide)) bO .nil pass0) (pa_cons (pe_meth0 (pv 7) cl mS GS (hr.mono (by decide)) bS .nil pass0) pa_nil)))))
      (pss_cons (ps_if (pt_not (pt_val (pe_call GL (hr.mono (by decide)) (by rfl) gL kL bL .nil pass0 (pa_cons (pv 10) (pa_cons (pv 8) pa_nil))))) (pss_one (ps_ret pe_bl)) pss_nil)
      (pss_cons (ps_expr (pe_bm0 PySem.F.plainAttrs_list PySem.F.slot_list_reverse PySem.F.type_list_reverse mt_reverse (pe_ix ix_list (pv 10) pe_int (fun _ _ => rfl))))
      (pss_cons (ps_expr (pe_bm PySem.F.plainAttrs_list PySem.F.slot_list_append PySem.F.type_list_append mt_append (pe_ix ix_list (pv 10) pe_int (fun _ _ => rfl)) (pa_cons (pe_tup (pa_cons pe_str (pa_cons pe_str pa_nil))) pa_nil)))
      (pss_one (ps_expr (pe_bm0 PySem.F.plainAttrs_list PySem.F.slot_list_clear PySem.F.type_list_clear mt_clear (pe_ix ix_list (pv 10) pe_int (fun _ _ => rfl))))))))))
      (pss_cons (ps_set (i := 11) scLaw.nd rfl (Or.inl rfl) (pe_op op_cat (pe_lc (own := [("_law_room", 17)]) (g := gName 17) (tt := tYes)  rfl scLaw.nd (pi_list (pe_ix ix_list (pv 8) pe_int (fun _ _ => rfl))) (blkOk_by (N := ["_law_script", "_law_box_here", "_law_turn", "_law_house_here", "_law_more", "_law_handed", "_law_kept", "_law_made", "_law_due", "_law_again", "_law_told", "_law_rows", "_law_text", "_law_many", "_law_counts", "_law_pair", "_law_one", "_law_room", "_law_a", "_law_b"]) (sc := defScope sLaw) (by decide +kernel)) (fun _ _ _ _ _ => (pg_name (i := 17) scLaw.nd rfl (Or.inl rfl))) (fun _ _ _ _ _ => pts_nil) (fun _ _ _ _ _ => (pe_op op_add_str pe_str (pv 17)))) (pe_lc (own := [("_law_a", 18), ("_law_b", 19)]) (g := gTup K 2 (gCons (gName 18) (gCons (gName 19) gNil))) (tt := tYes)  rfl scLaw.nd (pi_list (pe_ix ix_list (pv 8) pe_int (fun _ _ => rfl))) (blkOk_by (N := ["_law_script", "_law_box_here", "_law_turn", "_law_house_here", "_law_more", "_law_handed", "_law_kept", "_law_made", "_law_due", "_law_again", "_law_told", "_law_rows", "_law_text", "_law_many", "_law_counts", "_law_pair", "_law_one", "_law_room", "_law_a", "_law_b"]) (sc := defScope sLaw) (by decide +kernel)) (fun _ _ _ _ _ => (pg_tup rfl (pgs_cons (pg_name (i := 18) scLaw.nd rfl (Or.inl rfl)) (pgs_cons (pg_name (i := 19) scLaw.nd rfl (Or.inl rfl)) pgs_nil)))) (fun _ _ _ _ _ => pts_nil) (fun _ _ _ _ _ => (pe_op op_add_str (pe_op op_add_str (pe_op op_add_str pe_str (pv 18)) pe_str) (pv 19))))))
      (pss_cons (ps_set (i := 12) scLaw.nd rfl (Or.inl rfl) (pe_join pe_str (pe_op op_cat (pv 11) (pe_lc (own := [("_law_a", 18), ("_law_b", 19)]) (g := gTup K 2 (gCons (gName 18) (gCons (gName 19) gNil))) (tt := tYes)  rfl scLaw.nd (pi_list (pe_ix ix_list (pv 8) pe_int (fun _ _ => rfl))) (blkOk_by (N := ["_law_script", "_law_box_here", "_law_turn", "_law_house_here", "_law_more", "_law_handed", "_law_kept", "_law_made", "_law_due", "_law_again", "_law_told", "_law_rows", "_law_text", "_law_many", "_law_counts", "_law_pair", "_law_one", "_law_room", "_law_a", "_law_b"]) (sc := defScope sLaw) (by decide +kernel)) (fun _ _ _ _ _ => (pg_tup rfl (pgs_cons (pg_name (i := 18) scLaw.nd rfl (Or.inl rfl)) (pgs_cons (pg_name (i := 19) scLaw.nd rfl (Or.inl rfl)) pgs_nil)))) (fun _ _ _ _ _ => pts_nil) (fun _ _ _ _ _ => (pe_op op_add_str (pe_op op_add_str (pe_op op_add_str pe_str (pv 18)) pe_str) (pv 19)))))))
      (pss_cons (ps_setLc (i := 13) (own := [("_law_one", 16)]) (g := gName 16) (tt := tYes) (te := tCB (fun xs H Q => ∃ i, xs = [V.int i] ∧ i.natAbs.log2 < 1920 ∧ Q (.str (toString i)) H) (tCons (tCB (fun xs H Q => ∃ p ys, xs = [V.ref p] ∧ (SqL K H p ys ∨ SqT K H p ys) ∧ Q (.int ys.length) H) (tCons (tVar 16) tNil)) tNil)) rfl scLaw.nd rfl rfl (sw_true rfl rfl rfl (by decide +kernel)) (pi_list (pv 8)) (blkOk_by (N := ["_law_script", "_law_box_here", "_law_turn", "_law_house_here", "_law_more", "_law_handed", "_law_kept", "_law_made", "_law_due", "_law_again", "_law_told", "_law_rows", "_law_text", "_law_many", "_law_counts", "_law_pair", "_law_one", "_law_room", "_law_a", "_law_b"]) (sc := defScope sLaw) (by decide +kernel)) (fun _ _ _ _ _ => (pg_name (i := 16) scLaw.nd rfl (Or.inl rfl))) (fun _ _ _ _ _ => pts_nil) (fun _ _ _ _ _ => (pe_callTy call_str_int (by rfl) m_str (by decide +kernel) (pa_cons (pe_callB call_len_seq (by rfl) m_len PySem.boot_len (pa_cons (pv 16) pa_nil)) pa_nil))))
      (pss_cons (ps_set (i := 14) scLaw.nd rfl (Or.inl rfl) (pe_op op_add_str (pe_op op_add_str (pe_op op_add_str (pe_op op_add_str (pe_op op_add_str (pe_ix ix_list (pv 13) pe_int (fun _ _ => rfl)) pe_str) (pe_ix ix_list (pv 13) pe_int (fun _ _ => rfl))) pe_str) (pe_ix ix_list (pv 13) pe_int (fun _ _ => rfl))) pe_str))
      (pss_cons (ps_if (pt_not (pt_val (pe_call GL (hr.mono (by decide)) (by rfl) gL kL bL .nil pass0 (pa_cons (pe_lst (pa_cons (pe_callB (call_lenO GN bN (hr.mono (by decide)) lN iN) (by rfl) m_len PySem.boot_len (pa_cons (pv 7) pa_nil)) (pa_cons (pe_callTy (call_boolO GN bN (hr.mono (by decide)) nBo lN iN) (by rfl) m_bool (by decide +kernel) (pa_cons (pv 7) pa_nil)) (pa_cons (pe_callTy (call_strO GX bX (hr.mono (by decide)) lX iX) (by rfl) m_str (by decide +kernel) (pa_cons (pv 7) pa_nil)) pa_nil)))) (pa_cons (pe_lst (pa_cons (pe_callB call_len_seq (by rfl) m_len PySem.boot_len (pa_cons (pe_ix ix_list (pv 8) pe_int (fun _ _ => rfl)) pa_nil)) (pa_cons pe_bl (pa_cons (pv 12) pa_nil)))) pa_nil))))) (pss_one (ps_ret pe_bl)) pss_nil)
      (pss_one (ps_if (pt_cmpR op_ne (pe_callB (call_reprO GY bY (hr.mono (by decide)) lY iY) (by rfl) m_repr (by decide +kernel) (pa_cons (pv 7) pa_nil)) (pe_op op_add_str (pe_op op_add_str pe_str (pv 14)) pe_str) (nomark _)) (pss_one (ps_ret pe_bl)) pss_nil))))))))))))))))))
      (pss_one (ps_ret (pe_call GL (hr.mono (by decide)) (by rfl) gL kL bL .nil pass0 (pa_cons (pe_lst (pa_cons (pe_meth0 (pe_make0 mk GI hr (by rfl) gC bI0 v0 pass0) cl mR GR (hr.mono (by decide)) bR .nil pass0 (mcall_of (abase_call (by decide)) (fun _ => rfl))) (pa_cons (pe_callB (call_lenO GN bN (hr.mono (by decide)) lN iN) (by rfl) m_len PySem.boot_len (pa_cons (pe_make0 mk GI hr (by rfl) gC bI0 v0 pass0) pa_nil)) (pa_cons (pe_callTy (call_strO GX bX (hr.mono (by decide)) lX iX) (by rfl) m_str (by decide +kernel) (pa_cons (pe_make0 mk GI hr (by rfl) gC bI0 v0 pass0) pa_nil)) pa_nil)))) (pa_cons (pe_lst (pa_cons (pe_lst pa_nil) (pa_cons pe_int (pa_cons pe_str pa_nil)))) pa_nil)))))), ?_⟩
    refine ⟨_, rfl, a, ns, rfl, hS, fun H1 b l s1 nb nl hB => ?_⟩
    refine ⟨3, rfl, by decide, by decide, for_range (n := 3) (fun i σ H' => ∃ y2 y3 y4 y5 y6 y7 y8 y9 y10 y11 y12 y13 y14 : Option V, σ = [some (.ref a), some (.ref b), y2, y3, y4, y5, y6, y7, y8, y9, y10, y11, y12, y13, y14, none, none, none, none, none] ∧ Box H' b l) ⟨_, _, _, _, _, _, _, _, _, _, _, _, _, rfl, hB⟩ ?_ ?_⟩
    · rintro i σ H2 hi3 ⟨y2, y3, y4, y5, y6, y7, y8, y9, y10, y11, y12, y13, y14, rfl, hB⟩
      refine ⟨_, rfl, b, l, 8, rfl, hB, by decide, by decide, fun H3 t zs ds ss v3 hB3 nt hL hg hz => ?_⟩
      obtain ⟨r, d, s', xs, us, nr, nd, ns', h1, h2, h3, h4, h5, h6⟩ := hL
      -- more
      refine ⟨_, rfl, t, _, 1, _, rfl, rfl, SqT.of h1, rfl, d, rfl, ⟨_, SqL.of h3⟩, fun D nD => ?_⟩
      have nDb := hB3.b1 nD
      have nDl := hB3.l1 nD
      refine it_any (walk_list (K := K) (a := d) (xs := xs)) (fun j H' => Sav b H3 H' ∧ Box H' b l ∧ ∃ ys qs, H' D = some (.lst ys) ∧ PL H' ys qs ∧ (∀ p ∈ qs, p ∈ ds) ∧ qs.length ≤ j) ⟨Sav.of (same_new nD), hB3.new nD, [], [], upd_same, PL.nil, (fun p hp => by cases hp), Nat.le_refl _⟩ (fun j H' _ h => SqL.of (h.1 _ _ nd h3)) ?_ ?_
      · rintro j x H4 H5 hj ⟨v4, hB4, ys, qs, hD, hPq, hgq, hlq⟩ ⟨rfl, hx⟩
        obtain ⟨ab, eab, hpr⟩ := h4.at hx
        have hj64 : j < ds.length := (List.getElem?_eq_some_iff.mp eab).1
        have dl := hg.dl
        refine ⟨rfl, ?_⟩
        refine ⟨_, rfl, b, l, 3, rfl, hB4, by decide, by decide, fun q H6 _ _ v6 hB6 => ?_⟩
        have hD6 := v6 _ _ nDb hD
        have hP6 := hPq.keep (v6.keepT hB4)
        refine ⟨rfl, _, rfl, ?_⟩
        refine ite2 (fun _ => ?_) (fun _ => ?_)
        · have yl : ys.length ≤ 100 := by
            rw [hPq.1]
            omega
          obtain ⟨tq, rfl, htq⟩ := hpr
          have htq6 := ((v4.trans v6).keepT hB3) _ _ htq
          have kt : KeepT H6 (upd H6 D (.lst (ys ++ [.ref tq]))) := KeepT.lst hD6
          refine ⟨_, rfl, _, hD6, small1000 (by omega), (v4.trans v6).put nD, hB6.put nDb nDl, ys ++ [.ref tq], qs ++ [ab], upd_same, (hP6.keep kt).snoc ⟨tq, rfl, kt _ _ htq6⟩, ?_, ?_⟩
          · intro p hp
            rcases List.mem_append.mp hp with h | h
            · exact hgq p h
            · rw [List.mem_singleton.mp h]
              exact List.mem_of_getElem? eab
          · rw [List.length_append]
            show qs.length + 1 ≤ j + 1
            omega
        · exact ⟨v4.trans v6, hB6, ys, qs, hD6, hP6, hgq, by omega⟩
      rintro H4 ⟨v4, hB4, ms, mp, hM, hPm, hmd, hml⟩
      have kt4 := v4.keepT hB3
      have g1 := kt4 _ _ h1
      have g2 := v4 _ _ nr h2
      have g3 := v4 _ _ nd h3
      have g4 := h4.keep kt4
      have g5 := v4 _ _ ns' h5
      have g6 := h6.keep kt4
      rw [h4.1] at hml
      have dl := hg.dl
      have sl := hg.sl
      have e8 := hg.eight
      have hN := hg.names
      clear h1
      -- handed
      have hM0 := hM
      refine ⟨_, rfl, t, _, 0, _, rfl, rfl, SqT.of g1, rfl, r, _, rfl, .inl (SqL.of g2), fun r1 nr1 => ?_⟩
      have s5 := same_new (o := .lst (zs.map V.str)) nr1
      have hr5 : (upd H4 r1 (.lst (zs.map V.str))) r1 = some (.lst (zs.map V.str)) := upd_same
      generalize upd H4 r1 (.lst (zs.map V.str)) = H5 at s5 hr5
      have hM5 := s5 _ _ hM
      refine ⟨_, rfl, _, rfl, D, rfl, ⟨_, SqL.of hM5⟩, fun E1 nE1 => ?_⟩
      refine it_any (walk_list (K := K) (a := D) (xs := ms)) (fun j H' => Same H5 H' ∧ ∃ ys, H' E1 = some (.lst ys) ∧ PL H' ys (swp (mp.take j))) ⟨same_new nE1, [], upd_same, PL.nil⟩ (fun j H' _ h => SqL.of (h.1 _ _ hM5)) ?_ ?_
      · rintro j x H6 H7 hj ⟨s6, ys, hE, hPe⟩ ⟨rfl, hx⟩
        obtain ⟨ab, eab, q, rfl, hq⟩ := (hPm.same (s5.trans s6)).swap hx
        have hjm : j < mp.length := (List.getElem?_eq_some_iff.mp eab).1
        have yl : ys.length ≤ 100 := by
          rw [hPe.1, swp_len, List.length_take]
          omega
        refine ⟨rfl, _, rfl, q, _, _, rfl, SqT.of hq, fun p np => ?_⟩
        have s7 := same_new (o := .tup [.str ab.2, .str ab.1]) np
        have nEp : E1 ≠ p := ne_of_none hE np
        have kt : KeepT H7 (upd (upd H7 p (.tup [.str ab.2, .str ab.1])) E1 (.lst (ys ++ [.ref p]))) := (KeepT.of s7).trans (KeepT.lst (s7 _ _ hE))
        refine ⟨_, s7 _ _ hE, small1000 (by omega), same_put (s6.trans s7) nE1, ys ++ [.ref p], upd_same, ?_⟩
        rw [swp_take eab]
        exact (hPe.keep kt).snoc ⟨p, rfl, by rw [upd_ne nEp.symm, upd_same]⟩
      rintro H6 ⟨s6, es, hE, hPe⟩
      rw [hPm.1, List.take_length] at hPe
      have s46 := s5.trans s6
      have ml : ms.length ≤ 100 := by
        rw [hPm.1]
        omega
      have el : es.length ≤ 100 := by
        rw [hPe.1, swp_len]
        omega
      have xl : xs.length ≤ 100 := by
        rw [h4.1]
        omega
      have ul : us.length ≤ 100 := by
        rw [h6.1]
        omega
      refine ⟨D, E1, _, _, rfl, rfl, s6 _ _ hM5, hE, Nat.le_of_lt (small1000 (by omega)), fun g ng => ?_⟩
      have s7 := same_new (o := .lst (ms ++ es)) ng
      have s47 := s46.trans s7
      refine ⟨_, rfl, t, _, 1, _, rfl, rfl, SqT.of (s47 _ _ g1), rfl, g, d, _, _, rfl, rfl, upd_same, s47 _ _ g3, Nat.le_of_lt (small1000 (by rw [List.length_append]; omega)), fun d1 nd1 => ?_⟩
      have s8 := same_new (o := .lst (ms ++ es ++ xs)) nd1
      have s48 := s47.trans s8
      have hd8 : (upd (upd H6 g (.lst (ms ++ es))) d1 (.lst (ms ++ es ++ xs))) d1 = some (.lst (ms ++ es ++ xs)) := upd_same
      have hPd : PL (upd (upd H6 g (.lst (ms ++ es))) d1 (.lst (ms ++ es ++ xs))) (ms ++ es ++ xs) (dTw mp ds) := ((hPm.same s48).append (hPe.same (s7.trans s8))).append (g4.same s48)
      have hr8 := (s6.trans (s7.trans s8)) _ _ hr5
      generalize upd (upd H6 g (.lst (ms ++ es))) d1 (.lst (ms ++ es ++ xs)) = H8 at s48 hd8 hPd hr8
      have dxl : (ms ++ es ++ xs).length ≤ 300 := by
        rw [List.length_append, List.length_append]
        omega
      have nr18 := ne_of_none g2 nr1
      clear s8 nd1 s7 ng hE hPe s6 nE1
      generalize ms ++ es ++ xs = dv at hd8 hPd dxl
      refine ⟨_, rfl, t, _, 2, _, rfl, rfl, SqT.of (s48 _ _ g1), rfl, _, rfl, t, _, 2, _, rfl, rfl, SqT.of (s48 _ _ g1), rfl, 2, rfl, s', _, rfl, SqL.of (s48 _ _ g5), fun c nc => ?_⟩
      rw [cut_two]
      have s9 := same_new (o := .lst (us.take 2)) nc
      refine ⟨s', c, _, _, rfl, rfl, s9 _ _ (s48 _ _ g5), upd_same, Nat.le_of_lt (small1000 (by rw [List.length_take]; omega)), fun sv nsv => ?_⟩
      have s10 := s9.trans (same_new (o := .lst (us ++ us.take 2)) nsv)
      have hs10 : (upd (upd H8 c (.lst (us.take 2))) sv (.lst (us ++ us.take 2))) sv = some (.lst (us ++ us.take 2)) := upd_same
      have hPs : PL (upd (upd H8 c (.lst (us.take 2))) sv (.lst (us ++ us.take 2))) (us ++ us.take 2) (sTw ss) := ((g6.same (s48.trans s10)).append ((g6.same (s48.trans s10)).take 2))
      have svl : (us ++ us.take 2).length ≤ 300 := by
        rw [List.length_append, List.length_take]
        omega
      generalize upd (upd H8 c (.lst (us.take 2))) sv (.lst (us ++ us.take 2)) = H10 at s10 hs10 hPs
      generalize us ++ us.take 2 = sw at hs10 hPs svl
      have n1 : r1 ≠ sv := ne_of_none (s9 _ _ hr8) nsv
      have nsv4 := (s48.trans s9).free nsv
      clear s9 nc nsv
      refine ⟨by show 3 ≤ sizeLine; decide, fun hn1 nhn => ?_⟩
      have n2 : r1 ≠ hn1 := ne_of_none (s10 _ _ hr8) nhn
      have s11 := same_new (o := .lst [V.ref r1, V.ref d1, V.ref sv]) nhn
      have hh11 : (upd H10 hn1 (.lst [V.ref r1, V.ref d1, V.ref sv])) hn1 = some (.lst [V.ref r1, V.ref d1, V.ref sv]) := upd_same
      have s411 := s48.trans (s10.trans s11)
      have hr11 := (s10.trans s11) _ _ hr8
      have hd11 := (s10.trans s11) _ _ hd8
      have hPd11 := hPd.same (s10.trans s11)
      have hs11 := s11 _ _ hs10
      have hPs11 := hPs.same s11
      generalize upd H10 hn1 (.lst [V.ref r1, V.ref d1, V.ref sv]) = H11 at hh11 s411 hr11 hd11 hPd11 hs11 hPs11
      clear s11 nhn s10 s48 hr8 hd8 hPd hs10 hPs
      have hgd := dTw_good hmd hg.dg
      have hgs := sTw_good hg.sg
      -- kept
      refine ⟨_, rfl, hn1, rfl, ⟨_, SqL.of hh11⟩, fun Kp nKp => ?_⟩
      have key : ∀ (j : Nat) (x : V), [V.ref r1, V.ref d1, V.ref sv][j]? = some x → ∃ (q : Addr) (c : List V), x = .ref q ∧ H11 q = some (.lst c) ∧ [zs.map V.str, dv, sw][j]? = some c ∧ j < 3 := by
        intro j x hx
        match j, hx with
        | 0, hx =>
          cases hx
          exact ⟨_, _, rfl, hr11, rfl, by decide⟩
        | 1, hx =>
          cases hx
          exact ⟨_, _, rfl, hd11, rfl, by decide⟩
        | 2, hx =>
          cases hx
          exact ⟨_, _, rfl, hs11, rfl, by decide⟩
      refine it_any (walk_list (K := K) (a := hn1) (xs := [V.ref r1, V.ref d1, V.ref sv])) (fun j H' => Same H11 H' ∧ ∃ as : List Addr, as.length = j ∧ H' Kp = some (.lst (as.map V.ref)) ∧ ∀ (n : Nat) (p : Addr) (c : List V), as[n]? = some p → [zs.map V.str, dv, sw][n]? = some c → H' p = some (.lst c) ∧ p ≠ Kp) ⟨same_new nKp, [], rfl, upd_same, (fun n p c h _ => by simp at h)⟩ (fun j H' _ h => SqL.of (h.1 _ _ hh11)) ?_ ?_
      · rintro j x H12 H13 hj ⟨s12, as, hal, hK, hAs⟩ ⟨rfl, hx⟩
        obtain ⟨q, c, rfl, hq, hc, hj3⟩ := key j x hx
        refine ⟨rfl, _, rfl, q, c, rfl, .inl (SqL.of (s12 _ _ hq)), fun p np => ?_⟩
        have s13 := same_new (o := .lst c) np
        have nKp2 : Kp ≠ p := ne_of_none hK np
        refine ⟨_, s13 _ _ hK, small1000 (by rw [List.length_map]; omega), same_put (s12.trans s13) nKp, as ++ [p], by rw [List.length_append, hal]; rfl, by rw [upd_same, List.map_append]; rfl, fun n p' c' hp' hc' => ?_⟩
        by_cases hn : n < as.length
        · rw [List.getElem?_append_left hn] at hp'
          obtain ⟨h9, h10⟩ := hAs n p' c' hp' hc'
          refine ⟨?_, h10⟩
          rw [upd_ne h10]
          exact s13 _ _ h9
        · rw [List.getElem?_append_right (by omega)] at hp'
          have en : n - as.length = 0 := by
            cases e : n - as.length with
            | zero => rfl
            | succ k =>
              rw [e] at hp'
              simp at hp'
          rw [en] at hp'
          cases hp'
          have en2 : n = j := by omega
          rw [en2, hc] at hc'
          cases hc'
          refine ⟨?_, nKp2.symm⟩
          rw [upd_ne nKp2.symm, upd_same]
      rintro H12 ⟨s12, as, hal, hK, hAs⟩
      obtain ⟨p1, p2, p3, rfl⟩ : ∃ p1 p2 p3, as = [p1, p2, p3] := by
        match as, hal with
        | [p1, p2, p3], _ => exact ⟨p1, p2, p3, rfl⟩
      have k1 := (hAs 0 _ _ rfl rfl).1
      have k2 := (hAs 1 _ _ rfl rfl).1
      have k3 := (hAs 2 _ _ rfl rfl).1
      clear hAs key nKp
      have hh12 := s12 _ _ hh11
      have hr12 := s12 _ _ hr11
      have hd12 := s12 _ _ hd11
      have hs12 := s12 _ _ hs11
      have hPd12 := hPd11.same s12
      have hPs12 := hPs11.same s12
      have s412 := s411.trans s12
      -- made
      refine ⟨_, rfl, hn1, _, 0, _, rfl, rfl, SqL.of hh12, atI_nat (j := 0) rfl, _, rfl, hn1, _, 1, _, rfl, rfl, SqL.of hh12, atI_nat (j := 1) rfl, d1, _, rfl, .inl ⟨SqL.of hd12, fun td ntd => ?_⟩⟩
      have s13 := same_new (o := .tup dv) ntd
      have htd : (upd H12 td (.tup dv)) td = some (.tup dv) := upd_same
      generalize upd H12 td (.tup dv) = H13 at s13 htd
      refine ⟨_, rfl, hn1, _, 2, _, rfl, rfl, SqL.of (s13 _ _ hh12), atI_nat (j := 2) rfl, fun x dx nx ndx ndxx => ?_⟩
      refine ⟨H13, x, dx, r1, td, sv, zs, dv, sw, dTw mp ds, sTw ss, rfl, (same_new ndx).trans (same_new (by rw [upd_ne ndxx.symm]; exact nx)), nx, upd_same, .inl (SqL.of (s13 _ _ hr12)), hN, e8, .inr (SqT.of htd), hPd12.same s13, by omega, hgd, .inl (SqL.of (s13 _ _ hs12)), hPs12.same s13, by omega, hgs, fun H14 s14 hH14 => ⟨rfl, ?_⟩⟩
      rw [lnk_dTw hmd, lnk_sTw] at hH14
      have hHs := Hs.of hH14
      have sF := new_same H13 H14
      clear hH14
      have s24 := s13.trans s14
      have okz : ∀ z ∈ zs, PyData.strOk z = true := fun z hz => nm_ok (hN.2 z hz)
      have okd : ∀ p ∈ dTw mp ds, okP p := fun p hp => pred_ok hN (hgd p hp)
      have oks : ∀ p ∈ sTw ss, okP p := fun p hp => pred_ok hN (hgs p hp)
      have sh := hd3_shaped okz okd oks
      refine ⟨_, rfl, _, rfl, hd3 zs (dTw mp ds) (sTw ss), hd3 zs (dTw mp ds) (sTw ss), hd3_dp (s24 _ _ hh12) (s24 _ _ hr12) (s24 _ _ hd12) (hPd12.same s24) (s24 _ _ hs12) (hPs12.same s24), hd3_dp (s24 _ _ hK) (s24 _ _ k1) (s24 _ _ k2) (hPd12.same s24) (s24 _ _ k3) (hPs12.same s24), sh, sh, _, rfl, ?_⟩
      rw [SeqAt.eqv_refl _ (SeqAt.canLay_of_shaped sh)]
      refine iteF ?_
      clear sh okz okd oks
      -- made again
      have hK14 := s24 _ _ hK
      refine ⟨_, rfl, Kp, _, 0, _, rfl, rfl, SqL.of hK14, atI_nat (j := 0) rfl, p1, _, rfl, .inl ⟨SqL.of (s24 _ _ k1), fun t1 nt1 => ?_⟩⟩
      have s15 := same_new (o := .tup (zs.map V.str)) nt1
      have ht1 : (upd H14 t1 (.tup (zs.map V.str))) t1 = some (.tup (zs.map V.str)) := upd_same
      generalize upd H14 t1 (.tup (zs.map V.str)) = H15 at s15 ht1
      have hK15 := s15 _ _ hK14
      have s25 := s24.trans s15
      refine ⟨_, rfl, Kp, _, 1, _, rfl, rfl, SqL.of hK15, atI_nat (j := 1) rfl, _, rfl, Kp, _, 2, _, rfl, rfl, SqL.of hK15, atI_nat (j := 2) rfl, p3, _, rfl, .inl ⟨SqL.of (s25 _ _ k3), fun t3 nt3 => ?_⟩⟩
      have s16 := same_new (o := .tup sw) nt3
      have ht3 : (upd H15 t3 (.tup sw)) t3 = some (.tup sw) := upd_same
      generalize upd H15 t3 (.tup sw) = H16 at s16 ht3
      have s26 := s25.trans s16
      intro x2 dx2 nx2 ndx2 nn2
      refine ⟨H16, x2, dx2, t1, p2, t3, zs, dv, sw, dTw mp ds, sTw ss, rfl, (same_new ndx2).trans (same_new (by rw [upd_ne nn2.symm]; exact nx2)), nx2, upd_same, .inr (SqT.of (s16 _ _ ht1)), hN, e8, .inl (SqL.of (s26 _ _ k2)), hPd12.same s26, by omega, hgd, .inr (SqT.of ht3), hPs12.same s26, by omega, hgs, fun H17 s17 hH17 => ⟨rfl, ?_⟩⟩
      rw [lnk_dTw hmd, lnk_sTw] at hH17
      have hHs2 := (Hs.of hH17).same (new_same H16 H17)
      clear hH17
      have s147 := s15.trans (s16.trans s17)
      have hHs7 := hHs.same (sF.trans s147)
      obtain ⟨⟨dxa, na, ba, va, ha1, _⟩, _⟩ := id hHs7
      obtain ⟨⟨dxb, nb2, bb2, vb2, hb1, _⟩, _⟩ := id hHs2
      refine ⟨_, rfl, x2, x, dxb, dxa, _, _, rfl, rfl, hb1, ha1, x2, x, rfl, ⟨zs, _, _, hHs2, hHs7⟩, fun H18 s18 => ⟨true, rfl, _, rfl, iteF ?_⟩⟩
      have s148 : Same H14 H18 := s147.trans s18
      have sF8 := sF.trans s148
      have s418 := s412.trans (s24.trans s148)
      have s1218 := s24.trans s148
      clear hHs7 hHs2 s17 s16 s15
      -- the handed ones changed
      have hh18 := s1218 _ _ hh12
      have hr18 := s1218 _ _ hr12
      have hs18 := s1218 _ _ hs12
      refine ⟨_, rfl, hn1, _, 0, _, rfl, rfl, SqL.of hh18, atI_nat (j := 0) rfl, .inl ⟨rfl, _, SqL.of hr18⟩, r1, _, _, rfl, rfl, hr18, small1000 (by rw [List.length_map]; omega), ?_⟩
      have s19 := same_put (o := .lst (zs.map V.str ++ [.str (Str.ofString "other")])) s418 nr1
      have sF9 := new_put (u := .lst (zs.map V.str ++ [.str (Str.ofString "other")])) sF8 (s13 _ _ hr12)
      have hh19 : (upd H18 r1 (.lst (zs.map V.str ++ [.str (Str.ofString "other")]))) hn1 = some (.lst [V.ref r1, V.ref d1, V.ref sv]) := by
        rw [upd_ne n2.symm]
        exact hh18
      have hs19 : (upd H18 r1 (.lst (zs.map V.str ++ [.str (Str.ofString "other")]))) sv = some (.lst sw) := by
        rw [upd_ne n1.symm]
        exact hs18
      generalize upd H18 r1 (.lst (zs.map V.str ++ [.str (Str.ofString "other")])) = H19 at s19 sF9 hh19 hs19
      refine ⟨_, rfl, hn1, _, 2, _, rfl, rfl, SqL.of hh19, atI_nat (j := 2) rfl, .inl ⟨rfl, _, SqL.of hs19⟩, sv, _, rfl, rfl, hs19, ?_⟩
      have s20 := same_put (o := .lst []) s19 nsv4
      have sF20 := new_put (u := .lst []) sF9 (s13 _ _ hs12)
      generalize upd H19 sv (.lst []) = H20 at s20 sF20
      clear hh19 hs19 hh18 hr18 hs18 sF9 s19 sF8 s418 s1218
      -- due
      refine ⟨_, rfl, t, zs, ds, ss, rfl, ⟨r, d, s', xs, us, s20 _ _ g1, s20 _ _ g2, s20 _ _ g3, g4.same s20, s20 _ _ g5, g6.same s20⟩, hg, fun H21 du s21 ndu hT => ?_⟩
      have hB21 := hB4.same (s20.trans s21)
      have hH21 := hHs.same (sF20.trans s21)
      clear hHs sF20 s20 s21 sF
      have dAl : (dAll zs (lnk zs (both ds))).length ≤ 64 := Nat.le_trans (dUp_len zs _ zs.length) (Nat.mul_le_mul e8 e8)
      have sAl : (sAll zs (lnk zs ss)).length ≤ 64 := Nat.le_trans (sUp_len (fun x => lnk_len zs ss x) zs.length) (Nat.mul_le_mul e8 e8)
      have dIn : ∀ p ∈ dAll zs (lnk zs (both ds)), inZ zs p := fun p hp => dAll_in hp
      have sIn : ∀ p ∈ sAll zs (lnk zs ss), inZ zs p := fun p hp => sAll_in hH21.2.2.2 hp
      have z1' := hg.one
      have tDef : textH zs (dAll zs (lnk zs (both ds))) (sAll zs (lnk zs ss)) = textH zs (dAll zs (lnk zs (both ds))) (sAll zs (lnk zs ss)) := rfl
      generalize lnk zs (both ds) = bh at *
      generalize lnk zs ss = vw at *
      refine ⟨2, rfl, by decide, by decide, for_range (n := 2) (fun i' σ H' => ∃ y9 y10 : Option V, σ = [some (.ref a), some (.ref b), some (.int (0 + (i : Int))), some (.ref t), some (.ref D), some (.ref hn1), some (.ref Kp), some (.ref x), some (.ref du), y9, y10, y11, y12, y13, y14, none, none, none, none, none] ∧ Same H21 H') ⟨_, _, rfl, fun _ _ h => h⟩ ?_ ?_⟩
      · rintro i2 σ K1 hi2 ⟨y9, y10, rfl, sK⟩
        have hHk := hH21.same sK
        obtain ⟨⟨dxk, nk, bk, vk, hx1, _⟩, _⟩ := id hHk
        have no0 : (hf nk bk vk).lookup ("rooms" : Str) = none := hf_no _ _ _ (by decide +kernel) (by decide +kernel) (by decide +kernel)
        have no1 : (hf nk bk vk).lookup ("doors" : Str) = none := hf_no _ _ _ (by decide +kernel) (by decide +kernel) (by decide +kernel)
        have no2 : (hf nk bk vk).lookup ("sights" : Str) = none := hf_no _ _ _ (by decide +kernel) (by decide +kernel) (by decide +kernel)
        refine ⟨_, rfl, x, dxk, _, rfl, hx1, no0, x, zs, bh, vw, rfl, hHk, fun K2 q1 u2 nq1 hq1 => ?_⟩
        refine ⟨_, rfl, x, dxk, _, rfl, u2 _ _ hx1, no1, x, zs, bh, vw, rfl, hHk.same u2, fun K3 q2 ys2 u3 nq2 hq2 hP2 => ?_⟩
        have u23 := u2.trans u3
        refine ⟨_, rfl, x, dxk, _, rfl, u23 _ _ hx1, no2, x, zs, bh, vw, rfl, hHk.same u23, fun K4 q3 ys3 u4 nq3 hq3 hP3 => ?_⟩
        have u24 := u23.trans u4
        refine ⟨by show 3 ≤ sizeLine; decide, fun tl ntl => ?_⟩
        have u5 := same_new (o := .lst [V.ref q1, V.ref q2, V.ref q3]) ntl
        have htl : (upd K4 tl (.lst [V.ref q1, V.ref q2, V.ref q3])) tl = some (.lst [V.ref q1, V.ref q2, V.ref q3]) := upd_same
        have m12 : q1 ≠ q2 := ne_of_none hq1 nq2
        have m13 : q1 ≠ q3 := ne_of_none (u3 _ _ hq1) nq3
        have m23 : q2 ≠ q3 := ne_of_none hq2 nq3
        have m1t : q1 ≠ tl := ne_of_none (u4 _ _ (u3 _ _ hq1)) ntl
        have m2t : q2 ≠ tl := ne_of_none (u4 _ _ hq2) ntl
        have m3t : q3 ≠ tl := ne_of_none hq3 ntl
        generalize upd K4 tl (.lst [V.ref q1, V.ref q2, V.ref q3]) = K5 at u5 htl
        have u15 := u24.trans u5
        have hq15 := (u3.trans (u4.trans u5)) _ _ hq1
        have hq25 := (u4.trans u5) _ _ hq2
        have hP25 := hP2.same (u4.trans u5)
        have hq35 := u5 _ _ hq3
        have hP35 := hP3.same u5
        refine ⟨_, rfl, _, rfl, _, _, rfl, Lk.told htl hq15 hq25 hP25 hq35 hP35 (hT.same (sK.trans u15)) (by omega) (by omega) (by omega), fun K6 u6 => ⟨true, rfl, iteF ?_⟩⟩
        have u16 := u15.trans u6
        have f1 : H21 q1 = none := sK.free nq1
        have f2 : H21 q2 = none := (sK.trans u2).free nq2
        have f3 : H21 q3 = none := (sK.trans u23).free nq3
        have w1 := u6 _ _ hq15
        have w2 := u6 _ _ hq25
        have w3 := u6 _ _ hq35
        have wt := u6 _ _ htl
        have sK6 := sK.trans u16
        clear u2 u3 u4 u5 u23 u24 u15 u16 u6
        refine ⟨_, rfl, tl, _, 0, _, rfl, rfl, SqL.of wt, atI_nat (j := 0) rfl, .inl ⟨rfl, _, SqL.of w1⟩, q1, _, rfl, rfl, w1, ?_⟩
        have sK7 := same_put (o := .lst (zs.map V.str).reverse) sK6 f1
        have wt7 : (upd K6 q1 (.lst (zs.map V.str).reverse)) tl = some (.lst [V.ref q1, V.ref q2, V.ref q3]) := by
          rw [upd_ne m1t.symm]
          exact wt
        have w27 : (upd K6 q1 (.lst (zs.map V.str).reverse)) q2 = some (.lst ys2) := by
          rw [upd_ne m12.symm]
          exact w2
        have w37 : (upd K6 q1 (.lst (zs.map V.str).reverse)) q3 = some (.lst ys3) := by
          rw [upd_ne m13.symm]
          exact w3
        generalize upd K6 q1 (.lst (zs.map V.str).reverse) = K7 at sK7 wt7 w27 w37
        refine ⟨_, rfl, tl, _, 1, _, rfl, rfl, SqL.of wt7, atI_nat (j := 1) rfl, .inl ⟨rfl, _, SqL.of w27⟩, by show 2 ≤ sizeLine; decide, fun tq ntq => ?_⟩
        have u8 := same_new (o := .tup [V.str (Str.ofString ""), V.str (Str.ofString "")]) ntq
        refine ⟨q2, ys2, _, rfl, rfl, u8 _ _ w27, small1000 (by rw [hP2.1]; omega), ?_⟩
        have sK8 := same_put (o := .lst (ys2 ++ [V.ref tq])) (sK7.trans u8) f2
        have wt8 : (upd (upd K7 tq (.tup [V.str (Str.ofString ""), V.str (Str.ofString "")])) q2 (.lst (ys2 ++ [V.ref tq]))) tl = some (.lst [V.ref q1, V.ref q2, V.ref q3]) := by
          rw [upd_ne m2t.symm]
          exact u8 _ _ wt7
        have w38 : (upd (upd K7 tq (.tup [V.str (Str.ofString ""), V.str (Str.ofString "")])) q2 (.lst (ys2 ++ [V.ref tq]))) q3 = some (.lst ys3) := by
          rw [upd_ne m23.symm]
          exact u8 _ _ w37
        refine ⟨_, rfl, tl, _, 2, _, rfl, rfl, SqL.of wt8, atI_nat (j := 2) rfl, .inl ⟨rfl, _, SqL.of w38⟩, q3, _, rfl, rfl, w38, ?_⟩
        exact ⟨_, _, rfl, same_put sK8 f3⟩
      rintro σ K1 ⟨y9, y10, rfl, sK⟩
      have hHk := hH21.same sK
      have hB1 := hB21.same sK
      have hTk := hT.same sK
      clear hH21 hB21 hT sK
      obtain ⟨rr, dd, sd, xd, ud, t1', t2', t3', t4', t5', t6'⟩ := hTk
      have L40 : 40 ≤ sizeLine := by decide
      -- rows
      refine ⟨_, rfl, du, _, 0, _, rfl, rfl, SqL.of t1', atI_nat (j := 0) rfl, rr, rfl, ⟨_, SqL.of t2'⟩, fun E1 nE1 => ?_⟩
      refine it_any (walk_list (K := K) (a := rr) (xs := zs.map V.str)) (fun j H' => Same K1 H' ∧ H' E1 = some (.lst (((zs.take j).map rowR).map V.str))) ⟨same_new nE1, upd_same⟩ (fun j H' _ h => SqL.of (h.1 _ _ t2')) ?_ ?_
      · rintro j v K2 K3 hj ⟨u2, hE⟩ ⟨rfl, hv⟩
        obtain ⟨z, ez, rfl⟩ := str_at hv
        have rl := rowR_len hN (List.mem_of_getElem? ez)
        rw [← rowR_eq] at rl
        refine ⟨rfl, _, rfl, _, z, rfl, rfl, Nat.le_trans (by rw [← Str.length_append]; exact rl) L40, _, hE, by rw [List.length_map, List.length_map, List.length_take]; exact small1000 (by omega), same_put u2 nE1, ?_⟩
        rw [upd_same, take_snoc ez, List.map_append, List.map_append, rowR_eq]
        rfl
      rintro K2 ⟨u2, hE1⟩
      rw [List.length_map, List.take_length] at hE1
      refine ⟨_, rfl, du, _, 1, _, rfl, rfl, SqL.of (u2 _ _ t1'), atI_nat (j := 1) rfl, dd, rfl, ⟨_, SqL.of (u2 _ _ t3')⟩, fun E2 nE2 => ?_⟩
      refine it_any (walk_list (K := K) (a := dd) (xs := xd)) (fun j H' => Same K2 H' ∧ H' E2 = some (.lst ((((dAll zs bh).take j).map rowD).map V.str))) ⟨same_new nE2, upd_same⟩ (fun j H' _ h => SqL.of (h.1 _ _ (u2 _ _ t3'))) ?_ ?_
      · rintro j v K3 K4 hj ⟨u3, hE⟩ ⟨rfl, hv⟩
        obtain ⟨⟨p, q⟩, epq, tq, rfl, htq⟩ := (t4'.same (u2.trans u3)).at hv
        have hpq := dIn _ (List.mem_of_getElem? epq)
        have rl := rowD_len hN hpq
        rw [← rowD_eq] at rl
        have rl0 := rl
        rw [Str.length_append, Str.length_append] at rl0
        refine ⟨tq, _, rfl, SqT.of htq, rfl, _, _, rfl, _, _, rfl, rfl, rfl, ?_⟩
        refine ⟨_, rfl, _, p, rfl, rfl, Nat.le_trans (by rw [← Str.length_append]; omega) L40, _, _, rfl, rfl, Nat.le_trans (by rw [← Str.length_append] at rl0 ⊢; omega) L40, _, rfl, _, q, rfl, rfl, Nat.le_trans (by rw [← Str.length_append]; exact rl) L40, ?_⟩
        refine ⟨_, hE, by rw [List.length_map, List.length_map, List.length_take]; exact small1000 (by omega), same_put u3 nE2, ?_⟩
        rw [upd_same, List.take_add_one, epq, List.map_append, List.map_append, rowD_eq]
        rfl
      rintro K3 ⟨u3, hE2⟩
      rw [t4'.1, List.take_length] at hE2
      refine ⟨E1, E2, _, _, rfl, rfl, u3 _ _ hE1, hE2, Nat.le_of_lt (small1000 (by simp only [List.length_map]; omega)), fun ro nro => ?_⟩
      have u4 := (u2.trans u3).trans (same_new (o := .lst ((zs.map rowR).map V.str ++ ((dAll zs bh).map rowD).map V.str)) nro)
      have hro : (upd K3 ro (.lst ((zs.map rowR).map V.str ++ ((dAll zs bh).map rowD).map V.str))) ro = some (.lst ((zs.map rowR ++ (dAll zs bh).map rowD).map V.str)) := by
        rw [upd_same, List.map_append]
      generalize upd K3 ro (.lst ((zs.map rowR).map V.str ++ ((dAll zs bh).map rowD).map V.str)) = K4 at u4 hro
      clear u2 u3 hE1 hE2 nE1 nE2 nro
      -- text
      refine ⟨⟨_, rfl⟩, _, rfl, _, rfl, du, _, 2, _, rfl, rfl, SqL.of (u4 _ _ t1'), atI_nat (j := 2) rfl, sd, rfl, ⟨_, SqL.of (u4 _ _ t5')⟩, fun E3 nE3 => ?_⟩
      refine it_any (walk_list (K := K) (a := sd) (xs := ud)) (fun j H' => Same K4 H' ∧ H' E3 = some (.lst ((((sAll zs vw).take j).map rowS).map V.str))) ⟨same_new nE3, upd_same⟩ (fun j H' _ h => SqL.of (h.1 _ _ (u4 _ _ t5'))) ?_ ?_
      · rintro j v K5 K6 hj ⟨u5, hE⟩ ⟨rfl, hv⟩
        obtain ⟨⟨p, q⟩, epq, tq, rfl, htq⟩ := (t6'.same (u4.trans u5)).at hv
        have hpq := sIn _ (List.mem_of_getElem? epq)
        have rl := rowS_len hN hpq
        rw [← rowS_eq] at rl
        have rl0 := rl
        rw [Str.length_append, Str.length_append] at rl0
        refine ⟨tq, _, rfl, SqT.of htq, rfl, _, _, rfl, _, _, rfl, rfl, rfl, ?_⟩
        refine ⟨_, rfl, _, p, rfl, rfl, Nat.le_trans (by rw [← Str.length_append]; omega) L40, _, _, rfl, rfl, Nat.le_trans (by rw [← Str.length_append] at rl0 ⊢; omega) L40, _, rfl, _, q, rfl, rfl, Nat.le_trans (by rw [← Str.length_append]; exact rl) L40, ?_⟩
        refine ⟨_, hE, by rw [List.length_map, List.length_map, List.length_take]; exact small1000 (by omega), same_put u5 nE3, ?_⟩
        rw [upd_same, List.take_add_one, epq, List.map_append, List.map_append, rowS_eq]
        rfl
      rintro K5 ⟨u5, hE3⟩
      rw [t6'.1, List.take_length] at hE3
      refine ⟨ro, E3, _, _, rfl, rfl, u5 _ _ hro, hE3, Nat.le_of_lt (small1000 (by simp only [List.length_map, List.length_append]; omega)), fun rw' nrw => ?_⟩
      rw [← List.map_append]
      have ok := rowsH_ok hN dIn sIn
      have sm := sum_le ok
      have ln : (rowsH zs (dAll zs bh) (sAll zs vw)).length ≤ 136 := by
        unfold rowsH
        rw [List.length_append, List.length_append, List.length_map, List.length_map, List.length_map]
        omega
      refine ⟨_, rw', rowsH zs (dAll zs bh) (sAll zs vw), rfl, rfl, .inl (SqL.of upd_same), ?_, ?_⟩
      · have e1 : (Str.ofString "\n").length = 1 := by decide +kernel
        rw [e1]
        omega
      have u6 := (u4.trans u5).trans (same_new (o := .lst (List.map V.str (zs.map rowR ++ (dAll zs bh).map rowD ++ (sAll zs vw).map rowS))) nrw)
      generalize upd K5 rw' (.lst (List.map V.str (zs.map rowR ++ (dAll zs bh).map rowD ++ (sAll zs vw).map rowS))) = K6 at u6
      clear ok sm ln u4 u5 hro hE3 nE3 nrw
      -- many
      have t16 := u6 _ _ t1'
      have key : ∀ (j : Nat) (v : V), [V.ref rr, V.ref dd, V.ref sd][j]? = some v → ∃ (q : Addr) (c : List V), v = .ref q ∧ K6 q = some (.lst c) ∧ [zs.length, (dAll zs bh).length, (sAll zs vw).length][j]? = some c.length ∧ c.length < 65 := by
        intro j v hv
        match j, hv with
        | 0, hv =>
          cases hv
          exact ⟨_, _, rfl, u6 _ _ t2', by rw [List.length_map]; rfl, by rw [List.length_map]; omega⟩
        | 1, hv =>
          cases hv
          exact ⟨_, _, rfl, u6 _ _ t3', by rw [t4'.1]; rfl, by rw [t4'.1]; omega⟩
        | 2, hv =>
          cases hv
          exact ⟨_, _, rfl, u6 _ _ t5', by rw [t6'.1]; rfl, by rw [t6'.1]; omega⟩
      refine ⟨_, rfl, du, rfl, ⟨_, SqL.of t16⟩, fun E4 nE4 => ?_⟩
      refine it_any (walk_list (K := K) (a := du) (xs := [V.ref rr, V.ref dd, V.ref sd])) (fun j H' => Same K6 H' ∧ H' E4 = some (.lst ((([zs.length, (dAll zs bh).length, (sAll zs vw).length].take j).map num).map V.str))) ⟨same_new nE4, upd_same⟩ (fun j H' _ h => SqL.of (h.1 _ _ t16)) ?_ ?_
      · rintro j v K7 K8 hj ⟨u7, hE⟩ ⟨rfl, hv⟩
        obtain ⟨q, c, rfl, hq, hc, hlt⟩ := key j v hv
        refine ⟨rfl, _, rfl, q, c, rfl, .inl (SqL.of (u7 _ _ hq)), _, rfl, num_log hlt, ?_⟩
        refine ⟨_, hE, by rw [List.length_map, List.length_map, List.length_take]; exact small1000 (by show min j 3 ≤ 1000; omega), same_put u7 nE4, ?_⟩
        rw [upd_same, List.take_add_one, hc, List.map_append, List.map_append]
        rfl
      rintro K7 ⟨u7, hE4⟩
      have hE4' : K7 E4 = some (.lst [.str (num zs.length), .str (num (dAll zs bh).length), .str (num (sAll zs vw).length)]) := hE4
      clear hE4 key
      have u17 := u6.trans u7
      have n1' := num_len zs.length (by omega)
      have n2' := num_len (dAll zs bh).length (by omega)
      have n3' := num_len (sAll zs vw).length (by omega)
      have L1 : 100 ≤ sizeLine := by decide
      have e2 : (Str.ofString " rooms, ").length = 8 := by decide +kernel
      have e3 : (Str.ofString " doors, ").length = 8 := by decide +kernel
      have e4 : (Str.ofString " sights").length = 7 := by decide +kernel
      have e5 : (Str.ofString "House(").length = 6 := by decide +kernel
      have e6 : (Str.ofString ")").length = 1 := by decide +kernel
      refine ⟨_, rfl, E4, _, 0, _, rfl, rfl, SqL.of hE4', atI_nat (j := 0) rfl, _, _, rfl, rfl, by omega, ?_⟩
      refine ⟨_, rfl, E4, _, 1, _, rfl, rfl, SqL.of hE4', atI_nat (j := 1) rfl, _, _, rfl, rfl, by simp only [Str.length_append]; omega, ?_⟩
      refine ⟨_, _, rfl, rfl, by simp only [Str.length_append]; omega, ?_⟩
      refine ⟨_, rfl, E4, _, 2, _, rfl, rfl, SqL.of hE4', atI_nat (j := 2) rfl, _, _, rfl, rfl, by simp only [Str.length_append]; omega, ?_⟩
      refine ⟨_, _, rfl, rfl, by simp only [Str.length_append]; omega, ?_⟩
      -- len, bool, str
      have hH7 := hHk.same u17
      obtain ⟨⟨dxk, nk, bk, vk, hx1, _⟩, _⟩ := id hH7
      refine ⟨_, rfl, x, dxk, _, rfl, hx1, x, zs, bh, vw, rfl, hH7, zs.length, rfl, by omega, ?_⟩
      refine ⟨_, rfl, x, dxk, _, rfl, hx1, x, zs, bh, vw, rfl, hH7, zs.length, rfl, by omega, ?_⟩
      refine ⟨_, rfl, x, dxk, _, rfl, hx1, x, zs, bh, vw, rfl, hH7, fun K8 u8 => ⟨_, rfl, by show 3 ≤ sizeLine; decide, fun l1 nl1 => ?_⟩⟩
      have u9 := same_new (o := .lst [V.int zs.length, V.bl ((zs.length : Int) != 0), V.str (textH zs (dAll zs bh) (sAll zs vw))]) nl1
      have hl1 : (upd K8 l1 (.lst [V.int zs.length, V.bl ((zs.length : Int) != 0), V.str (textH zs (dAll zs bh) (sAll zs vw))])) l1 = some (.lst [V.int zs.length, V.bl true, V.str (textH zs (dAll zs bh) (sAll zs vw))]) := by
        rw [upd_same]
        have eb : ((zs.length : Int) != 0) = true := bne_iff_ne.mpr (by omega)
        rw [eb]
      generalize upd K8 l1 (.lst [V.int zs.length, V.bl ((zs.length : Int) != 0), V.str (textH zs (dAll zs bh) (sAll zs vw))]) = K9 at u9 hl1
      have u19 := u17.trans (u8.trans u9)
      refine ⟨_, rfl, du, _, 0, _, rfl, rfl, SqL.of (u19 _ _ t1'), atI_nat (j := 0) rfl, rr, _, rfl, .inl (SqL.of (u19 _ _ t2')), _, rfl, by show 3 ≤ sizeLine; decide, fun l2 nl2 => ?_⟩
      have u10 := same_new (o := .lst [V.int (zs.map V.str).length, V.bl true, V.str (textH zs (dAll zs bh) (sAll zs vw))]) nl2
      refine ⟨_, _, rfl, Lk.lst (n := 2) (u10 _ _ hl1) (by rw [List.length_map]; exact upd_same) (by show 3 ≤ 1000; decide) ?_, fun K10 u11 => ⟨true, rfl, iteF ?_⟩⟩
      · intro y hy
        rcases List.mem_cons.mp hy with rfl | hy
        · rfl
        rcases List.mem_cons.mp hy with rfl | hy
        · rfl
        rw [List.mem_singleton.mp hy]
        rfl
      have u110 := u19.trans (u10.trans u11)
      clear u10 u11 u9 u8
      -- repr
      have hH10 := hHk.same u110
      obtain ⟨⟨dxk, nk, bk, vk, hx1, _⟩, _⟩ := id hH10
      refine ⟨_, rfl, x, dxk, _, rfl, hx1, x, zs, bh, vw, rfl, hH10, fun K11 u12 => ⟨_, rfl, ?_⟩⟩
      refine ⟨_, rfl, _, _, rfl, rfl, by simp only [Str.length_append]; omega, _, _, rfl, rfl, by simp only [Str.length_append]; omega, ?_⟩
      refine ⟨rfl, _, rfl, ?_⟩
      rw [decide_eq_true (show V.str _ = V.str _ from congrArg V.str (repr_eq _ _ _))]
      refine iteF ?_
      exact ⟨_, _, _, _, _, _, _, _, _, _, _, _, _, rfl, hB1.same (u110.trans u12)⟩
    · rintro σ H2 ⟨y2, y3, y4, y5, y6, y7, y8, y9, y10, y11, y12, y13, y14, rfl, hB⟩
      have nD0 : Names [] := ⟨List.nodup_nil, (fun z hz => by cases hz)⟩
      have mkd : ∀ (H3 : Hp) (x dx : Addr) (Q : Hp → Prop), H3 x = none → H3 dx = none → dx ≠ x → (∀ H4, Same H3 H4 → Hs C H4 x [] (lnk [] (both [])) (lnk [] []) → Q H4) → spInit K C [V.ref x, V.ref e1, V.ref e2, V.ref e3] (upd (upd H3 dx (.own x)) x (.ins C dx [])) (fun v H4 => v = .non ∧ Q H4) E0 := by
        intro H3 x dx Q nx ndx ne hq
        refine ⟨H3, x, dx, e1, e2, e3, [], [], [], [], [], rfl, (same_new ndx).trans (same_new (by rw [upd_ne ne.symm]; exact nx)), nx, upd_same, .inr (z1 _), nD0, by decide, .inr (z2 _), PL.nil, by decide, (fun p hp => by cases hp), .inr (z3 _), PL.nil, by decide, (fun p hp => by cases hp), fun H4 s4 hH4 => ⟨rfl, hq H4 s4 ((Hs.of hH4).same (new_same H3 H4))⟩⟩
      intro x dx nx ndx ne
      refine mkd H2 x dx _ nx ndx ne fun H3 s3 hH3 => ?_
      obtain ⟨⟨dxk, nk, bk, vk, hx1, _⟩, _⟩ := id hH3
      have no0 : (hf nk bk vk).lookup ("rooms" : Str) = none := hf_no _ _ _ (by decide +kernel) (by decide +kernel) (by decide +kernel)
      refine ⟨x, dxk, _, rfl, hx1, no0, x, [], _, _, rfl, hH3, fun H4 q s4 nq hq => ?_⟩
      intro x2 dx2 nx2 ndx2 ne2
      refine mkd H4 x2 dx2 _ nx2 ndx2 ne2 fun H5 s5 hH5 => ?_
      obtain ⟨⟨dxk2, nk2, bk2, vk2, hx2, _⟩, _⟩ := id hH5
      refine ⟨x2, dxk2, _, rfl, hx2, x2, [], _, _, rfl, hH5, 0, rfl, by decide, ?_⟩
      intro x3 dx3 nx3 ndx3 ne3
      refine mkd H5 x3 dx3 _ nx3 ndx3 ne3 fun H6 s6 hH6 => ?_
      obtain ⟨⟨dxk3, nk3, bk3, vk3, hx3, _⟩, _⟩ := id hH6
      refine ⟨x3, dxk3, _, rfl, hx3, x3, [], _, _, rfl, hH6, fun H7 s7 => ⟨_, rfl, by show 3 ≤ sizeLine; decide, fun p np => ?_⟩⟩
      have eT : textH [] (dAll [] (lnk [] (both []))) (sAll [] (lnk [] [])) = Str.ofString "" := by decide +kernel
      rw [eT] at *
      have s8 := same_new (o := .lst [V.ref q, V.int 0, V.str (Str.ofString "")]) np
      have hp : (upd H7 p (.lst [V.ref q, V.int 0, V.str (Str.ofString "")])) p = some (.lst [V.ref q, V.int 0, V.str (Str.ofString "")]) := upd_same
      have hq8 := (s5.trans (s6.trans (s7.trans s8))) _ _ hq
      refine ⟨Nat.zero_le _, fun q2 nq2 => ?_⟩
      have s9 := same_new (o := .lst []) nq2
      refine ⟨by show 3 ≤ sizeLine; decide, fun p2 np2 => ?_⟩
      have s10 := same_new (o := .lst [V.ref q2, V.int 0, V.str (Str.ofString "")]) np2
      refine ⟨_, _, rfl, .inr ⟨p, p2, [V.ref q, V.int 0, V.str (Str.ofString "")], [V.ref q2, V.int 0, V.str (Str.ofString "")], rfl, rfl, rfl, by show 3 ≤ 1000; decide, .inl ⟨s10 _ _ (s9 _ _ hp), upd_same⟩, fun i x y hx hy => ?_⟩, fun H9 s11 => k _⟩
      match i, hx, hy with
      | 0, hx, hy =>
        cases hx
        cases hy
        exact Lk.strs (zs := []) (n := 1) (s10 _ _ (s9 _ _ hq8)) (s10 _ _ upd_same) (by decide)
      | 1, hx, hy =>
        cases hx
        cases hy
        exact Lk.flat rfl
      | 2, hx, hy =>
        cases hx
        cases hy
        exact Lk.flat rfl
end
end Dk
namespace Dk
open PySem L2
theorem all_mk {l : PySem.W.OpenLaw} {w : World} {K : PySem.W.Frag} {h : Heap} {mg : Str → Option Value} {fa f0 f1 f2 f3 f4 f5 f6 f7 f8 f9 f10 f11 f12 f13 f14 f15 f16 f17 C fi Tt t1 t2 t3 fm0 fm1 fm2 fm3 fm4 fm5 fm6 fm7 : Addr} (X : K.In h) (G : h.Ns mainGlobals mg) (hfa : mg "law" = some (.ref fa))
    {od0 an0 : Option Addr} {sl0 : Array (Option Value)} {oc0 kV0 dc0 pm0 cd0 ct0 : Value}
    {od1 an1 : Option Addr} {sl1 : Array (Option Value)} {oc1 kV1 dc1 pm1 cd1 ct1 : Value}
    {od2 an2 : Option Addr} {sl2 : Array (Option Value)} {oc2 kV2 dc2 pm2 cd2 ct2 : Value}
    {od3 an3 : Option Addr} {sl3 : Array (Option Value)} {oc3 kV3 dc3 pm3 cd3 ct3 : Value}
    {od4 an4 : Option Addr} {sl4 : Array (Option Value)} {oc4 kV4 dc4 pm4 cd4 ct4 : Value}
    {od5 an5 : Option Addr} {sl5 : Array (Option Value)} {oc5 kV5 dc5 pm5 cd5 ct5 : Value}
    {od6 an6 : Option Addr} {sl6 : Array (Option Value)} {oc6 kV6 dc6 pm6 cd6 ct6 : Value}
    {od7 an7 : Option Addr} {sl7 : Array (Option Value)} {oc7 kV7 dc7 pm7 cd7 ct7 : Value}
    {od8 an8 : Option Addr} {sl8 : Array (Option Value)} {oc8 kV8 dc8 pm8 cd8 ct8 : Value}
    {od9 an9 : Option Addr} {sl9 : Array (Option Value)} {oc9 kV9 dc9 pm9 cd9 ct9 : Value}
    {od10 an10 : Option Addr} {sl10 : Array (Option Value)} {oc10 kV10 dc10 pm10 cd10 ct10 : Value}
    {od11 an11 : Option Addr} {sl11 : Array (Option Value)} {oc11 kV11 dc11 pm11 cd11 ct11 : Value}
    {od12 an12 : Option Addr} {sl12 : Array (Option Value)} {oc12 kV12 dc12 pm12 cd12 ct12 : Value}
    {od13 an13 : Option Addr} {sl13 : Array (Option Value)} {oc13 kV13 dc13 pm13 cd13 ct13 : Value}
    {od14 an14 : Option Addr} {sl14 : Array (Option Value)} {oc14 kV14 dc14 pm14 cd14 ct14 : Value}
    {od15 an15 : Option Addr} {sl15 : Array (Option Value)} {oc15 kV15 dc15 pm15 cd15 ct15 : Value}
    {od16 an16 : Option Addr} {sl16 : Array (Option Value)} {oc16 kV16 dc16 pm16 cd16 ct16 : Value}
    {od17 an17 : Option Addr} {sl17 : Array (Option Value)} {oc17 kV17 dc17 pm17 cd17 ct17 : Value}
    {odi ani : Option Addr} {sli : Array (Option Value)} {oci kVi dci pmi cdi cti : Value}
    {ocT : Value} {odT : Option Addr} {slT : Array (Option Value)} {nT : Nat}
    {ot1 : Option Addr} {st1 : Array (Option Value)} {nt1 : Nat}
    {ot2 : Option Addr} {st2 : Array (Option Value)} {nt2 : Nat}
    {ot3 : Option Addr} {st3 : Array (Option Value)} {nt3 : Nat}
    {odm0 anm0 : Option Addr} {slm0 : Array (Option Value)} {ocm0 kVm0 dcm0 pmm0 cdm0 ctm0 : Value}
    {odm1 anm1 : Option Addr} {slm1 : Array (Option Value)} {ocm1 kVm1 dcm1 pmm1 cdm1 ctm1 : Value}
    {odm2 anm2 : Option Addr} {slm2 : Array (Option Value)} {ocm2 kVm2 dcm2 pmm2 cdm2 ctm2 : Value}
    {odm3 anm3 : Option Addr} {slm3 : Array (Option Value)} {ocm3 kVm3 dcm3 pmm3 cdm3 ctm3 : Value}
    {odm4 anm4 : Option Addr} {slm4 : Array (Option Value)} {ocm4 kVm4 dcm4 pmm4 cdm4 ctm4 : Value}
    {odm5 anm5 : Option Addr} {slm5 : Array (Option Value)} {ocm5 kVm5 dcm5 pmm5 cdm5 ctm5 : Value}
    {odm6 anm6 : Option Addr} {slm6 : Array (Option Value)} {ocm6 kVm6 dcm6 pmm6 cdm6 ctm6 : Value}
    {odm7 anm7 : Option Addr} {slm7 : Array (Option Value)} {ocm7 kVm7 dcm7 pmm7 cdm7 ctm7 : Value}
    {tk_LONGEST_NAME tk_SMALL_LETTERS tk_MOST_ROOMS : Tok}
    (a0 : PySem.W.nsIn K mainGlobals "_law_box" = some (some (.ref f0)))
    (l0 : K.lookup f0 = some ⟨oc0, od0, .func (PySem.W.fnOf "_law_box" "_law_box" (defArgs sBox) (defBody sBox) (defScope sBox) .none kV0 dc0 pm0 an0 cd0 ct0), sl0⟩)
    (c0 : PySem.W.codeIn K cd0 "_law_box" = true)
    (k0 : PySem.W.keepIn K (.ref f0) = true)
    (a1 : PySem.W.nsIn K mainGlobals "_law_draw" = some (some (.ref f1)))
    (l1 : K.lookup f1 = some ⟨oc1, od1, .func (PySem.W.fnOf "_law_draw" "_law_draw" (defArgs sDraw) (defBody sDraw) (defScope sDraw) .none kV1 dc1 pm1 an1 cd1 ct1), sl1⟩)
    (c1 : PySem.W.codeIn K cd1 "_law_draw" = true)
    (k1 : PySem.W.keepIn K (.ref f1) = true)
    (a2 : PySem.W.nsIn K mainGlobals "_law_of" = some (some (.ref f2)))
    (l2 : K.lookup f2 = some ⟨oc2, od2, .func (PySem.W.fnOf "_law_of" "_law_of" (defArgs sOf) (defBody sOf) (defScope sOf) .none kV2 dc2 pm2 an2 cd2 ct2), sl2⟩)
    (c2 : PySem.W.codeIn K cd2 "_law_of" = true)
    (k2 : PySem.W.keepIn K (.ref f2) = true)
    (a3 : PySem.W.nsIn K mainGlobals "_law_names" = some (some (.ref f3)))
    (l3 : K.lookup f3 = some ⟨oc3, od3, .func (PySem.W.fnOf "_law_names" "_law_names" (defArgs sNames) (defBody sNames) (defScope sNames) .none kV3 dc3 pm3 an3 cd3 ct3), sl3⟩)
    (c3 : PySem.W.codeIn K cd3 "_law_names" = true)
    (k3 : PySem.W.keepIn K (.ref f3) = true)
    (a4 : PySem.W.nsIn K mainGlobals "_law_like" = some (some (.ref f4)))
    (l4 : K.lookup f4 = some ⟨oc4, od4, .func (PySem.W.fnOf "_law_like" "_law_like" (defArgs sLike) (defBody sLike) (defScope sLike) .none kV4 dc4 pm4 an4 cd4 ct4), sl4⟩)
    (c4 : PySem.W.codeIn K cd4 "_law_like" = true)
    (k4 : PySem.W.keepIn K (.ref f4) = true)
    (a5 : PySem.W.nsIn K mainGlobals "_law_near" = some (some (.ref f5)))
    (l5 : K.lookup f5 = some ⟨oc5, od5, .func (PySem.W.fnOf "_law_near" "_law_near" (defArgs sLawNear) (defBody sLawNear) (defScope sLawNear) .none kV5 dc5 pm5 an5 cd5 ct5), sl5⟩)
    (c5 : PySem.W.codeIn K cd5 "_law_near" = true)
    (k5 : PySem.W.keepIn K (.ref f5) = true)
    (a6 : PySem.W.nsIn K mainGlobals "_law_sees" = some (some (.ref f6)))
    (l6 : K.lookup f6 = some ⟨oc6, od6, .func (PySem.W.fnOf "_law_sees" "_law_sees" (defArgs sLawSees) (defBody sLawSees) (defScope sLawSees) .none kV6 dc6 pm6 an6 cd6 ct6), sl6⟩)
    (c6 : PySem.W.codeIn K cd6 "_law_sees" = true)
    (k6 : PySem.W.keepIn K (.ref f6) = true)
    (a7 : PySem.W.nsIn K mainGlobals "_law_house" = some (some (.ref f7)))
    (l7 : K.lookup f7 = some ⟨oc7, od7, .func (PySem.W.fnOf "_law_house" "_law_house" (defArgs sLawHouse) (defBody sLawHouse) (defScope sLawHouse) .none kV7 dc7 pm7 an7 cd7 ct7), sl7⟩)
    (c7 : PySem.W.codeIn K cd7 "_law_house" = true)
    (k7 : PySem.W.keepIn K (.ref f7) = true)
    (a8 : PySem.W.nsIn K mainGlobals "_law_told_house" = some (some (.ref f8)))
    (l8 : K.lookup f8 = some ⟨oc8, od8, .func (PySem.W.fnOf "_law_told_house" "_law_told_house" (defArgs sToldHouse) (defBody sToldHouse) (defScope sToldHouse) .none kV8 dc8 pm8 an8 cd8 ct8), sl8⟩)
    (c8 : PySem.W.codeIn K cd8 "_law_told_house" = true)
    (k8 : PySem.W.keepIn K (.ref f8) = true)
    (a9 : PySem.W.nsIn K mainGlobals "is_name" = some (some (.ref f9)))
    (l9 : K.lookup f9 = some ⟨oc9, od9, .func (PySem.W.fnOf "is_name" "is_name" (defArgs sIsName) (defBody sIsName) (defScope sIsName) .none kV9 dc9 pm9 an9 cd9 ct9), sl9⟩)
    (c9 : PySem.W.codeIn K cd9 "is_name" = true)
    (k9 : PySem.W.keepIn K (.ref f9) = true)
    (a10 : PySem.W.nsIn K mainGlobals "need_new_name" = some (some (.ref f10)))
    (l10 : K.lookup f10 = some ⟨oc10, od10, .func (PySem.W.fnOf "need_new_name" "need_new_name" (defArgs sNewName) (defBody sNewName) (defScope sNewName) .none kV10 dc10 pm10 an10 cd10 ct10), sl10⟩)
    (c10 : PySem.W.codeIn K cd10 "need_new_name" = true)
    (k10 : PySem.W.keepIn K (.ref f10) = true)
    (a11 : PySem.W.nsIn K mainGlobals "need_room" = some (some (.ref f11)))
    (l11 : K.lookup f11 = some ⟨oc11, od11, .func (PySem.W.fnOf "need_room" "need_room" (defArgs sNeed) (defBody sNeed) (defScope sNeed) .none kV11 dc11 pm11 an11 cd11 ct11), sl11⟩)
    (c11 : PySem.W.codeIn K cd11 "need_room" = true)
    (k11 : PySem.W.keepIn K (.ref f11) = true)
    (a12 : PySem.W.nsIn K mainGlobals "need_rooms" = some (some (.ref f12)))
    (l12 : K.lookup f12 = some ⟨oc12, od12, .func (PySem.W.fnOf "need_rooms" "need_rooms" (defArgs sNeeds) (defBody sNeeds) (defScope sNeeds) .none kV12 dc12 pm12 an12 cd12 ct12), sl12⟩)
    (c12 : PySem.W.codeIn K cd12 "need_rooms" = true)
    (k12 : PySem.W.keepIn K (.ref f12) = true)
    (a13 : PySem.W.nsIn K mainGlobals "need_unlike" = some (some (.ref f13)))
    (l13 : K.lookup f13 = some ⟨oc13, od13, .func (PySem.W.fnOf "need_unlike" "need_unlike" (defArgs sNU) (defBody sNU) (defScope sNU) .none kV13 dc13 pm13 an13 cd13 ct13), sl13⟩)
    (c13 : PySem.W.codeIn K cd13 "need_unlike" = true)
    (k13 : PySem.W.keepIn K (.ref f13) = true)
    (a14 : PySem.W.nsIn K mainGlobals "new_names" = some (some (.ref f14)))
    (l14 : K.lookup f14 = some ⟨oc14, od14, .func (PySem.W.fnOf "new_names" "new_names" (defArgs sNew) (defBody sNew) (defScope sNew) .none kV14 dc14 pm14 an14 cd14 ct14), sl14⟩)
    (c14 : PySem.W.codeIn K cd14 "new_names" = true)
    (k14 : PySem.W.keepIn K (.ref f14) = true)
    (a15 : PySem.W.nsIn K mainGlobals "unlike_pairs" = some (some (.ref f15)))
    (l15 : K.lookup f15 = some ⟨oc15, od15, .func (PySem.W.fnOf "unlike_pairs" "unlike_pairs" (defArgs sUnlike) (defBody sUnlike) (defScope sUnlike) .none kV15 dc15 pm15 an15 cd15 ct15), sl15⟩)
    (c15 : PySem.W.codeIn K cd15 "unlike_pairs" = true)
    (k15 : PySem.W.keepIn K (.ref f15) = true)
    (a16 : PySem.W.nsIn K mainGlobals "linked" = some (some (.ref f16)))
    (l16 : K.lookup f16 = some ⟨oc16, od16, .func (PySem.W.fnOf "linked" "linked" (defArgs sLinked) (defBody sLinked) (defScope sLinked) .none kV16 dc16 pm16 an16 cd16 ct16), sl16⟩)
    (c16 : PySem.W.codeIn K cd16 "linked" = true)
    (k16 : PySem.W.keepIn K (.ref f16) = true)
    (a17 : PySem.W.nsIn K mainGlobals "law" = some (some (.ref f17)))
    (l17 : K.lookup f17 = some ⟨oc17, od17, .func (PySem.W.fnOf "law" "law" (defArgs sLaw) (defBody sLaw) (defScope sLaw) .none kV17 dc17 pm17 an17 cd17 ct17), sl17⟩)
    (c17 : PySem.W.codeIn K cd17 "law" = true)
    (k17 : PySem.W.keepIn K (.ref f17) = true)
    (aC : PySem.W.nsIn K mainGlobals "House" = some (some (.ref C)))
    (ai : PySem.W.findIn K (.ref C) "__init__" = some (some (.ref fi)))
    (ii : PySem.W.isFn K (.ref fi) = true)
    (li : K.lookup fi = some ⟨oci, odi, .func (PySem.W.fnOf "__init__" "House.__init__" (defArgs sInit) (defBody sInit) (defScope sInit) (.ref Tt) kVi dci pmi ani cdi cti), sli⟩)
    (ci : PySem.W.codeIn K cdi "House.__init__" = true)
    (ki : PySem.W.keepIn K (.ref fi) = true)
    (lT : K.lookup Tt = some ⟨ocT, odT, .seq #[.ref t1, .ref t2, .ref t3] nT, slT⟩)
    (lt1 : K.lookup t1 = some ⟨.type "tuple", ot1, .seq #[] nt1, st1⟩)
    (lt2 : K.lookup t2 = some ⟨.type "tuple", ot2, .seq #[] nt2, st2⟩)
    (lt3 : K.lookup t3 = some ⟨.type "tuple", ot3, .seq #[] nt3, st3⟩)
    (am0 : PySem.W.findIn K (.ref C) "rooms" = some (some (.ref fm0)))
    (im0 : PySem.W.isFn K (.ref fm0) = true)
    (lm0 : K.lookup fm0 = some ⟨ocm0, odm0, .func (PySem.W.fnOf "rooms" "House.rooms" (defArgs sRooms) (defBody sRooms) (defScope sRooms) .none kVm0 dcm0 pmm0 anm0 cdm0 ctm0), slm0⟩)
    (cm0 : PySem.W.codeIn K cdm0 "House.rooms" = true)
    (km0 : PySem.W.keepIn K (.ref fm0) = true)
    (am1 : PySem.W.findIn K (.ref C) "doors" = some (some (.ref fm1)))
    (im1 : PySem.W.isFn K (.ref fm1) = true)
    (lm1 : K.lookup fm1 = some ⟨ocm1, odm1, .func (PySem.W.fnOf "doors" "House.doors" (defArgs sDoors) (defBody sDoors) (defScope sDoors) .none kVm1 dcm1 pmm1 anm1 cdm1 ctm1), slm1⟩)
    (cm1 : PySem.W.codeIn K cdm1 "House.doors" = true)
    (km1 : PySem.W.keepIn K (.ref fm1) = true)
    (am2 : PySem.W.findIn K (.ref C) "sights" = some (some (.ref fm2)))
    (im2 : PySem.W.isFn K (.ref fm2) = true)
    (lm2 : K.lookup fm2 = some ⟨ocm2, odm2, .func (PySem.W.fnOf "sights" "House.sights" (defArgs sSights) (defBody sSights) (defScope sSights) .none kVm2 dcm2 pmm2 anm2 cdm2 ctm2), slm2⟩)
    (cm2 : PySem.W.codeIn K cdm2 "House.sights" = true)
    (km2 : PySem.W.keepIn K (.ref fm2) = true)
    (am3 : PySem.W.findIn K (.ref C) "has_room" = some (some (.ref fm3)))
    (im3 : PySem.W.isFn K (.ref fm3) = true)
    (lm3 : K.lookup fm3 = some ⟨ocm3, odm3, .func (PySem.W.fnOf "has_room" "House.has_room" (defArgs sHas) (defBody sHas) (defScope sHas) .none kVm3 dcm3 pmm3 anm3 cdm3 ctm3), slm3⟩)
    (cm3 : PySem.W.codeIn K cdm3 "House.has_room" = true)
    (km3 : PySem.W.keepIn K (.ref fm3) = true)
    (am4 : PySem.W.findIn K (.ref C) "__len__" = some (some (.ref fm4)))
    (im4 : PySem.W.isFn K (.ref fm4) = true)
    (lm4 : K.lookup fm4 = some ⟨ocm4, odm4, .func (PySem.W.fnOf "__len__" "House.__len__" (defArgs sLen) (defBody sLen) (defScope sLen) .none kVm4 dcm4 pmm4 anm4 cdm4 ctm4), slm4⟩)
    (cm4 : PySem.W.codeIn K cdm4 "House.__len__" = true)
    (km4 : PySem.W.keepIn K (.ref fm4) = true)
    (am5 : PySem.W.findIn K (.ref C) "__eq__" = some (some (.ref fm5)))
    (im5 : PySem.W.isFn K (.ref fm5) = true)
    (lm5 : K.lookup fm5 = some ⟨ocm5, odm5, .func (PySem.W.fnOf "__eq__" "House.__eq__" (defArgs sEq) (defBody sEq) (defScope sEq) .none kVm5 dcm5 pmm5 anm5 cdm5 ctm5), slm5⟩)
    (cm5 : PySem.W.codeIn K cdm5 "House.__eq__" = true)
    (km5 : PySem.W.keepIn K (.ref fm5) = true)
    (am6 : PySem.W.findIn K (.ref C) "__str__" = some (some (.ref fm6)))
    (im6 : PySem.W.isFn K (.ref fm6) = true)
    (lm6 : K.lookup fm6 = some ⟨ocm6, odm6, .func (PySem.W.fnOf "__str__" "House.__str__" (defArgs sStr) (defBody sStr) (defScope sStr) .none kVm6 dcm6 pmm6 anm6 cdm6 ctm6), slm6⟩)
    (cm6 : PySem.W.codeIn K cdm6 "House.__str__" = true)
    (km6 : PySem.W.keepIn K (.ref fm6) = true)
    (am7 : PySem.W.findIn K (.ref C) "__repr__" = some (some (.ref fm7)))
    (im7 : PySem.W.isFn K (.ref fm7) = true)
    (lm7 : K.lookup fm7 = some ⟨ocm7, odm7, .func (PySem.W.fnOf "__repr__" "House.__repr__" (defArgs sRepr) (defBody sRepr) (defScope sRepr) .none kVm7 dcm7 pmm7 anm7 cdm7 ctm7), slm7⟩)
    (cm7 : PySem.W.codeIn K cdm7 "House.__repr__" = true)
    (km7 : PySem.W.keepIn K (.ref fm7) = true)
    (pg : PySem.W.plainGet K C Str.empty = true)
    (hd : PySem.W.hasDictIn K C = true)
    (po : PySem.W.plainOver K C = true)
    (sa : PySem.W.findIn K (.ref C) "__setattr__" = some (some (.builtin "object.__setattr__")))
    (mkC : PySem.W.makesIn K C = true)
    (kc : PySem.W.keepIn K (.ref C) = true)
    (no_names : PySem.W.findIn K (.ref C) "names" = some none)
    (no_behind : PySem.W.findIn K (.ref C) "behind" = some none)
    (no_views : PySem.W.findIn K (.ref C) "views" = some none)
    (no___bool__ : PySem.W.findIn K (.ref C) "__bool__" = some none)
    (ha : PySem.W.findIn K (.ref C) "__class__" = some (some (.builtin "object.__class__")))
    (hn : PySem.W.specialIn K (.builtin "object.__class__") "__get__" = some (some (.builtin "getset_descriptor.__get__")))
    (htk : PySem.W.takesIn K (.builtin "object.__class__") = some true)
    (hm : PySem.W.mroIn K C (.type "object") = some true)
    (hne : PySem.W.findIn K (.ref C) "__ne__" = some (some (.builtin "object.__ne__")))
    (z_list : PySem.W.nsIn K mainGlobals "list" = some none)
    (z_len : PySem.W.nsIn K mainGlobals "len" = some none)
    (z_max : PySem.W.nsIn K mainGlobals "max" = some none)
    (z_isinstance : PySem.W.nsIn K mainGlobals "isinstance" = some none)
    (z_tuple : PySem.W.nsIn K mainGlobals "tuple" = some none)
    (z_all : PySem.W.nsIn K mainGlobals "all" = some none)
    (z_zip : PySem.W.nsIn K mainGlobals "zip" = some none)
    (z_bool : PySem.W.nsIn K mainGlobals "bool" = some none)
    (z_int : PySem.W.nsIn K mainGlobals "int" = some none)
    (z_str : PySem.W.nsIn K mainGlobals "str" = some none)
    (z_range : PySem.W.nsIn K mainGlobals "range" = some none)
    (z_repr : PySem.W.nsIn K mainGlobals "repr" = some none)
    (z_enumerate : PySem.W.nsIn K mainGlobals "enumerate" = some none)
    (q_LONGEST_NAME : PySem.W.nsIn K mainGlobals "LONGEST_NAME" = some (some (.int 8 tk_LONGEST_NAME)))
    (q_SMALL_LETTERS : PySem.W.nsIn K mainGlobals "SMALL_LETTERS" = some (some (.str abc tk_SMALL_LETTERS)))
    (q_MOST_ROOMS : PySem.W.nsIn K mainGlobals "MOST_ROOMS" = some (some (.int 8 tk_MOST_ROOMS)))
    : ∃ fd : FuncData, (∀ (s : Shared) (v : Value), BindsTo s fd ⟨[v], []⟩ [("_law_script", v)]) ∧ ∀ base : Heap, K.In base → base.Ns mainGlobals mg → FnOk l.prog w K mg base CX0 8 fa fd ["_law_script"] (spLaw K) := by
  have e := hfa.symm.trans (PySem.W.mg_of X G a17)
  cases e
  have F0 := fun_mk (st := sBox) l0 c0 k0
  have b0 := F0.binds (ps := ["_law_script"]) fun _ _ _ _ _ _ us hl => match us, hl with | [_], _ => rfl
  have g0 := PySem.W.mg_of X G a0
  have F1 := fun_mk (st := sDraw) l1 c1 k1
  have b1 := F1.binds (ps := ["_law_box_here", "_law_many"]) fun _ _ _ _ _ _ us hl => match us, hl with | [_, _], _ => rfl
  have g1 := PySem.W.mg_of X G a1
  have F2 := fun_mk (st := sOf) l2 c2 k2
  have b2 := F2.binds (ps := ["_law_box_here", "_law_some"]) fun _ _ _ _ _ _ us hl => match us, hl with | [_, _], _ => rfl
  have g2 := PySem.W.mg_of X G a2
  have F3 := fun_mk (st := sNames) l3 c3 k3
  have b3 := F3.binds (ps := ["_law_box_here", "_law_many"]) fun _ _ _ _ _ _ us hl => match us, hl with | [_, _], _ => rfl
  have g3 := PySem.W.mg_of X G a3
  have F4 := fun_mk (st := sLike) l4 c4 k4
  have b4 := F4.binds (ps := ["_law_found", "_law_due"]) fun _ _ _ _ _ _ us hl => match us, hl with | [_, _], _ => rfl
  have g4 := PySem.W.mg_of X G a4
  have F5 := fun_mk (st := sLawNear) l5 c5 k5
  have b5 := F5.binds (ps := ["_law_house_here", "_law_room"]) fun _ _ _ _ _ _ us hl => match us, hl with | [_, _], _ => rfl
  have g5 := PySem.W.mg_of X G a5
  have F6 := fun_mk (st := sLawSees) l6 c6 k6
  have b6 := F6.binds (ps := ["_law_house_here", "_law_room"]) fun _ _ _ _ _ _ us hl => match us, hl with | [_, _], _ => rfl
  have g6 := PySem.W.mg_of X G a6
  have F7 := fun_mk (st := sLawHouse) l7 c7 k7
  have b7 := F7.binds (ps := ["_law_box_here", "_law_limit"]) fun _ _ _ _ _ _ us hl => match us, hl with | [_, _], _ => rfl
  have g7 := PySem.W.mg_of X G a7
  have F8 := fun_mk (st := sToldHouse) l8 c8 k8
  have b8 := F8.binds (ps := ["_law_house_here"]) fun _ _ _ _ _ _ us hl => match us, hl with | [_], _ => rfl
  have g8 := PySem.W.mg_of X G a8
  have F9 := fun_mk (st := sIsName) l9 c9 k9
  have b9 := F9.binds (ps := ["text"]) fun _ _ _ _ _ _ us hl => match us, hl with | [_], _ => rfl
  have g9 := PySem.W.mg_of X G a9
  have F10 := fun_mk (st := sNewName) l10 c10 k10
  have b10 := F10.binds (ps := ["name", "others"]) fun _ _ _ _ _ _ us hl => match us, hl with | [_, _], _ => rfl
  have g10 := PySem.W.mg_of X G a10
  have F11 := fun_mk (st := sNeed) l11 c11 k11
  have b11 := F11.binds (ps := ["house", "room"]) fun _ _ _ _ _ _ us hl => match us, hl with | [_, _], _ => rfl
  have g11 := PySem.W.mg_of X G a11
  have F12 := fun_mk (st := sNeeds) l12 c12 k12
  have b12 := F12.binds (ps := ["house", "a", "b"]) fun _ _ _ _ _ _ us hl => match us, hl with | [_, _, _], _ => rfl
  have g12 := PySem.W.mg_of X G a12
  have F13 := fun_mk (st := sNU) l13 c13 k13
  have b13 := F13.binds (ps := ["house", "a", "b"]) fun _ _ _ _ _ _ us hl => match us, hl with | [_, _, _], _ => rfl
  have g13 := PySem.W.mg_of X G a13
  have F14 := fun_mk (st := sNew) l14 c14 k14
  have b14 := F14.binds (ps := ["names"]) fun _ _ _ _ _ _ us hl => match us, hl with | [_], _ => rfl
  have g14 := PySem.W.mg_of X G a14
  have F15 := fun_mk (st := sUnlike) l15 c15 k15
  have b15 := F15.binds (ps := ["house", "pairs"]) fun _ _ _ _ _ _ us hl => match us, hl with | [_, _], _ => rfl
  have g15 := PySem.W.mg_of X G a15
  have F16 := fun_mk (st := sLinked) l16 c16 k16
  have b16 := F16.binds (ps := ["rooms", "pairs"]) fun _ _ _ _ _ _ us hl => match us, hl with | [_, _], _ => rfl
  have g16 := PySem.W.mg_of X G a16
  have F17 := fun_mk (st := sLaw) l17 c17 k17
  have gC := PySem.W.mg_of X G aC
  have Fi : FunD K "__init__" "House.__init__" (defArgs sInit) (defBody sInit) (defScope sInit) [V.ref t1, V.ref t2, V.ref t3] [] fi _ := ⟨⟨_, _, _, _, _, _, _, _, _, _, rfl, li, ci, .inr ⟨by simp, Tt, _, [Value.ref t1, Value.ref t2, Value.ref t3], _, rfl, lT, rfl, .cons rfl (.cons rfl (.cons rfl (.nil)))⟩, .inl rfl⟩, ki⟩
  have zt1 : ∀ H, SqT K H t1 [] := fun H => .inr ⟨_, _, _, lt1, rfl, rfl, Nat.zero_le _, .nil⟩
  have zt2 : ∀ H, SqT K H t2 [] := fun H => .inr ⟨_, _, _, lt2, rfl, rfl, Nat.zero_le _, .nil⟩
  have zt3 : ∀ H, SqT K H t3 [] := fun H => .inr ⟨_, _, _, lt3, rfl, rfl, Nat.zero_le _, .nil⟩
  have Fm0 := fun_mk (st := sRooms) lm0 cm0 km0
  have bm0 := Fm0.binds (ps := ["self"]) fun _ _ _ _ _ _ us hl => match us, hl with | [_], _ => rfl
  have M0 : Meth K C "rooms" fm0 := ⟨am0, im0, km0⟩
  have Fm1 := fun_mk (st := sDoors) lm1 cm1 km1
  have bm1 := Fm1.binds (ps := ["self"]) fun _ _ _ _ _ _ us hl => match us, hl with | [_], _ => rfl
  have M1 : Meth K C "doors" fm1 := ⟨am1, im1, km1⟩
  have Fm2 := fun_mk (st := sSights) lm2 cm2 km2
  have bm2 := Fm2.binds (ps := ["self"]) fun _ _ _ _ _ _ us hl => match us, hl with | [_], _ => rfl
  have M2 : Meth K C "sights" fm2 := ⟨am2, im2, km2⟩
  have Fm3 := fun_mk (st := sHas) lm3 cm3 km3
  have bm3 := Fm3.binds (ps := ["self", "name"]) fun _ _ _ _ _ _ us hl => match us, hl with | [_, _], _ => rfl
  have M3 : Meth K C "has_room" fm3 := ⟨am3, im3, km3⟩
  have Fm4 := fun_mk (st := sLen) lm4 cm4 km4
  have bm4 := Fm4.binds (ps := ["self"]) fun _ _ _ _ _ _ us hl => match us, hl with | [_], _ => rfl
  have M4 : Meth K C "__len__" fm4 := ⟨am4, im4, km4⟩
  have Fm5 := fun_mk (st := sEq) lm5 cm5 km5
  have bm5 := Fm5.binds (ps := ["self", "other"]) fun _ _ _ _ _ _ us hl => match us, hl with | [_, _], _ => rfl
  have M5 : Meth K C "__eq__" fm5 := ⟨am5, im5, km5⟩
  have Fm6 := fun_mk (st := sStr) lm6 cm6 km6
  have bm6 := Fm6.binds (ps := ["self"]) fun _ _ _ _ _ _ us hl => match us, hl with | [_], _ => rfl
  have M6 : Meth K C "__str__" fm6 := ⟨am6, im6, km6⟩
  have Fm7 := fun_mk (st := sRepr) lm7 cm7 km7
  have bm7 := Fm7.binds (ps := ["self"]) fun _ _ _ _ _ _ us hl => match us, hl with | [_], _ => rfl
  have M7 : Meth K C "__repr__" fm7 := ⟨am7, im7, km7⟩
  have CL : Cls K C := ⟨pg, hd, po, sa⟩
  have MK : Mk K C fi := ⟨mkC, ai, ii, kc⟩
  have n_list := PySem.W.mg_none_of X G z_list
  have n_len := PySem.W.mg_none_of X G z_len
  have n_max := PySem.W.mg_none_of X G z_max
  have n_isinstance := PySem.W.mg_none_of X G z_isinstance
  have n_tuple := PySem.W.mg_none_of X G z_tuple
  have n_all := PySem.W.mg_none_of X G z_all
  have n_zip := PySem.W.mg_none_of X G z_zip
  have n_bool := PySem.W.mg_none_of X G z_bool
  have n_int := PySem.W.mg_none_of X G z_int
  have n_str := PySem.W.mg_none_of X G z_str
  have n_range := PySem.W.mg_none_of X G z_range
  have n_repr := PySem.W.mg_none_of X G z_repr
  have n_enumerate := PySem.W.mg_none_of X G z_enumerate
  have cc_LONGEST_NAME := PySem.W.mg_of X G q_LONGEST_NAME
  have cc_SMALL_LETTERS := PySem.W.mg_of X G q_SMALL_LETTERS
  have cc_MOST_ROOMS := PySem.W.mg_of X G q_MOST_ROOMS
  refine ⟨PySem.W.fnOf "law" "law" (defArgs sLaw) (defBody sLaw) (defScope sLaw) .none kV17 dc17 pm17 an17 cd17 ct17, fun s v => .of_eq rfl, fun base _ _ => ?_⟩
  have HT : HTxt K C := ⟨CL, no_names, no_behind, no_views, ha, hn, htk, hm, if_pos (beq_self_eq_true _)⟩
  obtain ⟨⟨ds0, vd0, bI0⟩, bI⟩ := And.intro (bind_init0 Fi) (bind_init Fi)
  have GB : FnOk l.prog w K mg base CX0 1 f0 _ ["_law_script"] (spBox K) := ok_box F0 n_list
  have GD : FnOk l.prog w K mg base CX0 1 f1 _ ["_law_box_here", "_law_many"] spDraw := ok_draw F1 n_len n_max
  have GNm : FnOk l.prog w K mg base CX0 3 f3 _ ["_law_box_here", "_law_many"] spNames := ok_names F3 F1 b1 g1 F2 b2 g2 n_len n_max n_range
  have GL : FnOk l.prog w K mg base CX0 4 f4 _ ["_law_found", "_law_due"] (spLike 4) := ok_like F4 b4 ⟨n_isinstance, n_list, n_tuple, n_len, n_all, n_zip, n_bool, n_int, n_str, g4⟩ 4
  have GH : FnOk l.prog w K mg base CX0 4 f7 _ ["_law_box_here", "_law_limit"] spLawHouse := ok_lawhouse F7 n_len n_range F3 b3 g3 GNm F1 b1 g1 GD
  have GT : FnOk l.prog w K mg base CX0 2 f8 _ ["_law_house_here"] spToldHouse := ok_told F8 n_len n_range n_list F5 b5 g5 (ok_lawnear F5) F6 b6 g6 (ok_lawsees F6)
  have GIs : FnOk l.prog w K mg base CX0 1 f9 _ ["text"] spName := ok_is F9 n_len n_all cc_LONGEST_NAME cc_SMALL_LETTERS
  have GNN : FnOk l.prog w K mg base CX0 2 f10 _ ["name", "others"] spNewName := ok_newname F10 F9 b9 g9 GIs
  have GHas : FnOk l.prog w K mg base CX0 1 fm3 _ ["self", "name"] (spHas C) := ok_has Fm3 HT
  have GNe : FnOk l.prog w K mg base CX0 2 f11 _ ["house", "room"] (spNeed C) := ok_need F11 HT M3 bm3 GHas
  have GNs : FnOk l.prog w K mg base CX0 3 f12 _ ["house", "a", "b"] (spNeeds C) := ok_needs F12 F11 b11 g11 GNe
  have GNew : FnOk l.prog w K mg base CX0 3 f14 _ ["names"] (spNew K) := ok_new F14 F10 b10 g10 GNN
  have GNU : FnOk l.prog w K mg base CX0 4 f13 _ ["house", "a", "b"] (spNU C) := ok_nu F13 F12 b12 g12 GNs
  have GUn : FnOk l.prog w K mg base CX0 5 f15 _ ["house", "pairs"] (spUnlike K C) := ok_unlike F15 F13 b13 g13 GNU
  have GLk : FnOk l.prog w K mg base CX0 1 f16 _ ["rooms", "pairs"] spLinked := ok_linked F16
  have GI : FnOk l.prog w K mg base CX0 6 fi _ ["self", "rooms", "doors", "sights"] (spInit K C) := ok_init Fi HT n_len cc_MOST_ROOMS F14 b14 g14 GNew F15 b15 g15 GUn F16 b16 g16 GLk
  have GR : FnOk l.prog w K mg base CX0 1 fm0 _ ["self"] (spRooms C) := ok_rooms Fm0 HT n_list
  have GO : FnOk l.prog w K mg base CX0 1 fm1 _ ["self"] (spDoors C) := ok_doors Fm1 HT n_enumerate
  have GS : FnOk l.prog w K mg base CX0 1 fm2 _ ["self"] (spSights C) := ok_sights Fm2 HT
  have GN : FnOk l.prog w K mg base CX0 1 fm4 _ ["self"] (spLen C) := ok_len Fm4 HT n_len
  have GE : FnOk l.prog w K mg base CX0 1 fm5 _ ["self", "other"] (spEq (EqH C)) := ok_eq Fm5 HT n_isinstance gC
  have GX : FnOk l.prog w K mg base CX0 2 fm6 _ ["self"] (spStr C) := ok_str Fm6 HT M1 bm1 GO M2 bm2 GS
  have GY : FnOk l.prog w K mg base CX0 3 fm7 _ ["self"] (spRepr C) := ok_repr Fm7 HT n_len M1 bm1 GO M2 bm2 GS am4 im4 bm4 GN
  exact ok_law F17 GB g0 k0 b0 GD g1 k1 b1 GH g7 k7 b7 GT g8 k8 b8 GL g4 k4 b4 CL MK GI gC bI bI0 vd0 zt1 zt2 zt3 GR M0 bm0 GO M1 bm1 GS M2 bm2 GN am4 im4 bm4 GE am5 im5 bm5 GX am6 im6 bm6 GY am7 im7 bm7 hm hne no___bool__ n_list n_tuple n_len n_str n_bool n_repr n_range n_isinstance
end Dk
open PySem PySem.W PyProof.Rows in
set_option maxRecDepth 100000 in
set_option maxHeartbeats 0 in
theorem PySem.Challenge.cw_darkthread_k02_houses_told_holds : PySem.Challenge.rw_darkthread_k02_houses_told.Holds := by
  w_on; o_law; k_head; (case hw => w_witness2)
  k_fill
  refine L2.walk_of (l := PySem.Challenge.rw_darkthread_k02_houses_told) (n := 63) (k := 8) (x := "_law_script") (CX := fun _ => L2.CX0) (sp := fun w => Dk.spLaw _) rfl (by decide) rfl ⟨rfl, by decide, by decide⟩ (fun w h Y => PySem.W.kIn_of Y) ?F (fun _ _ a ns hl _ hS => ⟨a, ns, rfl, hS, hl, fun _ => rfl⟩) (fun _ _ _ _ _ h => h)
  case F =>
    intro w mg fa h KX G hmg
    refine' Dk.all_mk KX G hmg ?a0 ?l0 ?c0 ?k0 ?a1 ?l1 ?c1 ?k1 ?a2 ?l2 ?c2 ?k2 ?a3 ?l3 ?c3 ?k3 ?a4 ?l4 ?c4 ?k4 ?a5 ?l5 ?c5 ?k5 ?a6 ?l6 ?c6 ?k6 ?a7 ?l7 ?c7 ?k7 ?a8 ?l8 ?c8 ?k8 ?a9 ?l9 ?c9 ?k9 ?a10 ?l10 ?c10 ?k10 ?a11 ?l11 ?c11 ?k11 ?a12 ?l12 ?c12 ?k12 ?a13 ?l13 ?c13 ?k13 ?a14 ?l14 ?c14 ?k14 ?a15 ?l15 ?c15 ?k15 ?a16 ?l16 ?c16 ?k16 ?a17 ?l17 ?c17 ?k17 ?aC ?ai ?ii ?li ?ci ?ki ?lT ?lt1 ?lt2 ?lt3 ?am0 ?im0 ?lm0 ?cm0 ?km0 ?am1 ?im1 ?lm1 ?cm1 ?km1 ?am2 ?im2 ?lm2 ?cm2 ?km2 ?am3 ?im3 ?lm3 ?cm3 ?km3 ?am4 ?im4 ?lm4 ?cm4 ?km4 ?am5 ?im5 ?lm5 ?cm5 ?km5 ?am6 ?im6 ?lm6 ?cm6 ?km6 ?am7 ?im7 ?lm7 ?cm7 ?km7 ?pg ?hd ?po ?sa ?mkC ?kc ?no_names ?no_behind ?no_views ?no___bool__ ?ha ?hn ?htk ?hm ?hne ?z_list ?z_len ?z_max ?z_isinstance ?z_tuple ?z_all ?z_zip ?z_bool ?z_int ?z_str ?z_range ?z_repr ?z_enumerate ?q_LONGEST_NAME ?q_SMALL_LETTERS ?q_MOST_ROOMS
    (case a0 => k_is)
    (case l0 => k_is)
    (case c0 => k_is)
    (case k0 => k_is)
    (case a1 => k_is)
    (case l1 => k_is)
    (case c1 => k_is)
    (case k1 => k_is)
    (case a2 => k_is)
    (case l2 => k_is)
    (case c2 => k_is)
    (case k2 => k_is)
    (case a3 => k_is)
    (case l3 => k_is)
    (case c3 => k_is)
    (case k3 => k_is)
    (case a4 => k_is)
    (case l4 => k_is)
    (case c4 => k_is)
    (case k4 => k_is)
    (case a5 => k_is)
    (case l5 => k_is)
    (case c5 => k_is)
    (case k5 => k_is)
    (case a6 => k_is)
    (case l6 => k_is)
    (case c6 => k_is)
    (case k6 => k_is)
    (case a7 => k_is)
    (case l7 => k_is)
    (case c7 => k_is)
    (case k7 => k_is)
    (case a8 => k_is)
    (case l8 => k_is)
    (case c8 => k_is)
    (case k8 => k_is)
    (case a9 => k_is)
    (case l9 => k_is)
    (case c9 => k_is)
    (case k9 => k_is)
    (case a10 => k_is)
    (case l10 => k_is)
    (case c10 => k_is)
    (case k10 => k_is)
    (case a11 => k_is)
    (case l11 => k_is)
    (case c11 => k_is)
    (case k11 => k_is)
    (case a12 => k_is)
    (case l12 => k_is)
    (case c12 => k_is)
    (case k12 => k_is)
    (case a13 => k_is)
    (case l13 => k_is)
    (case c13 => k_is)
    (case k13 => k_is)
    (case a14 => k_is)
    (case l14 => k_is)
    (case c14 => k_is)
    (case k14 => k_is)
    (case a15 => k_is)
    (case l15 => k_is)
    (case c15 => k_is)
    (case k15 => k_is)
    (case a16 => k_is)
    (case l16 => k_is)
    (case c16 => k_is)
    (case k16 => k_is)
    (case a17 => k_is)
    (case l17 => k_is)
    (case c17 => k_is)
    (case k17 => k_is)
    (case aC => k_is)
    (case ai => k_is)
    (case ii => k_is)
    (case li => k_is)
    (case ci => k_is)
    (case ki => k_is)
    (case lT => k_is)
    (case lt1 => k_is)
    (case lt2 => k_is)
    (case lt3 => k_is)
    (case am0 => k_is)
    (case im0 => k_is)
    (case lm0 => k_is)
    (case cm0 => k_is)
    (case km0 => k_is)
    (case am1 => k_is)
    (case im1 => k_is)
    (case lm1 => k_is)
    (case cm1 => k_is)
    (case km1 => k_is)
    (case am2 => k_is)
    (case im2 => k_is)
    (case lm2 => k_is)
    (case cm2 => k_is)
    (case km2 => k_is)
    (case am3 => k_is)
    (case im3 => k_is)
    (case lm3 => k_is)
    (case cm3 => k_is)
    (case km3 => k_is)
    (case am4 => k_is)
    (case im4 => k_is)
    (case lm4 => k_is)
    (case cm4 => k_is)
    (case km4 => k_is)
    (case am5 => k_is)
    (case im5 => k_is)
    (case lm5 => k_is)
    (case cm5 => k_is)
    (case km5 => k_is)
    (case am6 => k_is)
    (case im6 => k_is)
    (case lm6 => k_is)
    (case cm6 => k_is)
    (case km6 => k_is)
    (case am7 => k_is)
    (case im7 => k_is)
    (case lm7 => k_is)
    (case cm7 => k_is)
    (case km7 => k_is)
    (case pg => k_is)
    (case hd => k_is)
    (case po => k_is)
    (case sa => k_is)
    (case mkC => k_is)
    (case kc => k_is)
    (case no_names => k_is)
    (case no_behind => k_is)
    (case no_views => k_is)
    (case no___bool__ => k_is)
    (case ha => k_is)
    (case hn => k_is)
    (case htk => k_is)
    (case hm => k_is)
    (case hne => k_is)
    (case z_list => k_is)
    (case z_len => k_is)
    (case z_max => k_is)
    (case z_isinstance => k_is)
    (case z_tuple => k_is)
    (case z_all => k_is)
    (case z_zip => k_is)
    (case z_bool => k_is)
    (case z_int => k_is)
    (case z_str => k_is)
    (case z_range => k_is)
    (case z_repr => k_is)
    (case z_enumerate => k_is)
    (case q_LONGEST_NAME => k_is)
    (case q_SMALL_LETTERS => k_is)
    (case q_MOST_ROOMS => k_is)
