import PyProof.Rows.All
import Wide.All
import OpenK.AllK
import Wide.FinOn
import HandS.ForMost
import HandS.Walk
import HandS.IsInst
import HandS.Zip
import HandS.Wide
import HandS.Flow
import HandS.Defaults
import HandS.Style
import HandS.DictComp
import HandS.Deep
import HandS.OwnEq
import HandS.DeepEq
import HandS.FStr
import KE.KCallOwn
import KE.KFmtOwn
import KE.SortData
import KE.GoesEnum
import HandS.Iter
import HandS.Conv
import HandS.MakeKw
import HandS.Small
import HandS.More
import HandS.TupMul
import HandS.TupAny
import HandS.Head0
import HandS.Head1
import HandS.Head2
import HandS.HeadEnd
import HandS.HeadHook1
import HandS.HeadHook2
import PySem.Challenge.RW_darkthread_k51_whole_what_was_seen_fits
set_option Elab.async false
set_option linter.all false
set_option maxRecDepth 100000
set_option maxHeartbeats 4000000
namespace Dk
open PySem L2
/-! ### cuts: a piece is walked to a middle that the prover names -/
section
variable {X : Cx}
def tMid (t : TS) : TS := fun D s H => ∃ M : L2.St → Hp → Prop, t { D with nx := M } s H ∧ ∀ s' H', M s' H' → D.nx s' H'
theorem ps_mid {st : Stmt} {t : TS} (h : PS X st t) : PS X st (tMid t) := by
  refine ⟨fun pins s σ H D I q => ?_⟩
  obtain ⟨M, q1, q2⟩ := q
  refine thn (h.run pins s σ H { D with nx := M } I q1) fun f s1 z => ?_
  cases f with
  | next =>
    obtain ⟨σ', H', I', m⟩ := z
    exact ⟨σ', H', I', q2 _ _ m⟩
  | ret v => exact z
  | brk => exact z
  | cont => exact z
def eMid (t : TE) : TE := fun s H Q => ∃ M : VK, t s H M ∧ ∀ v H', M v H' → Q v H'
theorem pe_mid {e : Expr} {t : TE} (h : PE X e t) : PE X e (eMid t) := by
  refine ⟨fun pins s σ H Q I q => ?_⟩
  obtain ⟨M, q1, q2⟩ := q
  refine thn (h.run pins s σ H M I q1) fun u s1 z => ?_
  obtain ⟨v, H', I', r, m⟩ := z
  exact ⟨v, H', I', r, q2 _ _ m⟩
def bMid (t : TT) : TT := fun s H Q => ∃ M : Bool → Hp → Prop, t s H M ∧ ∀ b H', M b H' → Q b H'
theorem pt_mid {e : Expr} {t : TT} (h : PT X e t) : PT X e (bMid t) := by
  refine ⟨fun pins s σ H Q I q => ?_⟩
  obtain ⟨M, q1, q2⟩ := q
  refine thn (h.run pins s σ H M I q1) fun b s1 z => ?_
  obtain ⟨H', I', m⟩ := z
  exact ⟨H', I', q2 _ _ m⟩
end
/-! ### heaps -/
theorem same_new {H : Hp} {p : Addr} {o : HO} (h : H p = none) : Same H (upd H p o) := fun b x e => by
  rw [upd_ne (ne_of_none e h)]
  exact e
theorem upd_id {H : Hp} {p : Addr} {o : HO} (h : H p = some o) : upd H p o = H := by
  funext q
  by_cases e : q = p
  · rw [e, upd_same, h]
  · rw [upd_ne e]
theorem upd_upd {H : Hp} {p : Addr} {o u : HO} : upd (upd H p o) p u = upd H p u := by
  funext q
  by_cases e : q = p
  · rw [e, upd_same, upd_same]
  · rw [upd_ne e, upd_ne e, upd_ne e]
/-- all but b is as it was -/
def Sav (b : Addr) (H H' : Hp) : Prop := ∀ q o, q ≠ b → H q = some o → H' q = some o
theorem Sav.refl (b : Addr) (H : Hp) : Sav b H H := fun _ _ _ h => h
theorem Sav.trans {b : Addr} {H H1 H2 : Hp} (x : Sav b H H1) (y : Sav b H1 H2) : Sav b H H2 := fun q o n h => y q o n (x q o n h)
theorem Sav.of {b : Addr} {H H1 : Hp} (x : Same H H1) : Sav b H H1 := fun q o _ h => x q o h
theorem Sav.upd {b : Addr} {H : Hp} {o : HO} : Sav b H (upd H b o) := fun q x n h => by
  rw [upd_ne n]
  exact h
/-! ### the box of draws -/
def bxv (l : Addr) (i c s t : Int) : List V := [.ref l, .int i, .int c, .int s, .int t]
def Box (H : Hp) (b l : Addr) : Prop := ∃ (ns : List Int) (i c s t : Int),
  H b = some (.lst (bxv l i c s t)) ∧ H l = some (.lst (ns.map V.int)) ∧ 0 ≤ i ∧ 0 ≤ c ∧ 0 ≤ s ∧ s < 2147483629
theorem Box.ne {H : Hp} {b l : Addr} {ns : List Int} {i c s t : Int} (h1 : H b = some (.lst (bxv l i c s t))) (h2 : H l = some (.lst (ns.map V.int))) : l ≠ b := ne_of h2 h1 (by
  intro z
  cases ns with
  | nil => cases z
  | cons x r => cases z)
theorem Box.same {H H' : Hp} {b l : Addr} (h : Box H b l) (s : Same H H') : Box H' b l := by
  obtain ⟨ns, i, c, s0, t, h1, h2, r⟩ := h
  exact ⟨ns, i, c, s0, t, s _ _ h1, s _ _ h2, r⟩
theorem Box.new {H : Hp} {b l p : Addr} {o : HO} (h : Box H b l) (n : H p = none) : Box (upd H p o) b l := h.same (same_new n)
theorem Box.b1 {H : Hp} {b l p : Addr} (h : Box H b l) (n : H p = none) : p ≠ b := by
  obtain ⟨ns, i, c, s0, t, h1, h2, r⟩ := h
  exact (ne_of_none h1 n).symm
theorem Box.l1 {H : Hp} {b l p : Addr} (h : Box H b l) (n : H p = none) : p ≠ l := by
  obtain ⟨ns, i, c, s0, t, h1, h2, r⟩ := h
  exact (ne_of_none h2 n).symm
theorem Box.put {H : Hp} {b l p : Addr} {o : HO} (h : Box H b l) (n1 : p ≠ b) (n2 : p ≠ l) : Box (upd H p o) b l := by
  obtain ⟨ns, i, c, s0, t, h1, h2, r⟩ := h
  exact ⟨ns, i, c, s0, t, by rw [upd_ne n1.symm]; exact h1, by rw [upd_ne n2.symm]; exact h2, r⟩
/-- a draw below m: some number, the box turned on -/
def spDraw : Sp := fun vs H Q _ => ∃ (b l : Addr) (m : Int), vs = [.ref b, .int m] ∧ Box H b l ∧ 0 < m ∧ m.natAbs < 2 ^ 100 ∧
  ∀ (r : Int) (H' : Hp), 0 ≤ r → r < m → Sav b H H' → Box H' b l → Q (.int r) H'
end Dk
namespace Dk
open PySem L2
/-- a new box out of the script -/
def spBox (K : PySem.W.Frag) : Sp := fun vs H Q _ => ∃ (a : Addr) (ns : List Int), vs = [.ref a] ∧ SqL K H a (ns.map V.int) ∧
  ∀ (H' : Hp) (b l : Addr), Same H H' → H b = none → H l = none → Box H' b l → Q (.ref b) H'
/-- one of some -/
def spOf : Sp := fun vs H Q _ => ∃ (b l : Addr) (v : V), vs = [.ref b, v] ∧ Box H b l ∧
  ((∃ (p : Addr) (xs : List V), v = .ref p ∧ p ≠ b ∧ H p = some (.lst xs) ∧ 0 < xs.length ∧ xs.length ≤ 1000 ∧ ∀ (x : V) (H' : Hp), x ∈ xs → Sav b H H' → Box H' b l → Q x H') ∨
   (∃ z : Str, v = .str z ∧ 0 < z.length ∧ z.length ≤ 1000 ∧ ∀ (c : Nat) (H' : Hp), c ∈ z.cps.toList → Sav b H H' → Box H' b l → Q (.str ⟨#[c]⟩) H'))
theorem cut_ints (ns : List Int) (a b : Option Int) : ∃ ms : List Int, cutV (ns.map V.int) a b = ms.map V.int := by
  refine ⟨(ns.drop (HT.sIx (ns.map V.int).length 0 a)).take (HT.sIx (ns.map V.int).length (ns.map V.int).length b - HT.sIx (ns.map V.int).length 0 a), ?_⟩
  unfold cutV
  rw [List.map_take, List.map_drop]
theorem at_some {α : Type} {xs : List α} {r : Int} (h0 : 0 ≤ r) (h1 : r < (xs.length : Int)) : ∃ x, x ∈ xs ∧ atI xs r = some x := by
  have e : ((r.toNat : Nat) : Int) = r := Int.toNat_of_nonneg h0
  have hl : r.toNat < xs.length := by omega
  refine ⟨xs[r.toNat], List.getElem_mem hl, ?_⟩
  have z := atI_nat (List.getElem?_eq_getElem hl)
  rw [e] at z
  exact z
theorem small {n : Nat} (h : n ≤ 1000) : ((n : Nat) : Int).natAbs < 2 ^ 100 := by
  have e : ((n : Nat) : Int).natAbs = n := rfl
  rw [e]
  exact Nat.lt_of_le_of_lt h (by decide)
end Dk
namespace Dk
open PySem L2
/-- two values of the same plain data, n deep at most -/
def Lk : Nat → Hp → V → V → Prop
  | 0, _, _, _ => False
  | n + 1, H, v, u => (v = u ∧ flatV v = true) ∨ ∃ (a b : Addr) (xs ys : List V), v = .ref a ∧ u = .ref b ∧ xs.length = ys.length ∧ xs.length ≤ 1000 ∧
      (H a = some (.lst xs) ∧ H b = some (.lst ys) ∨ H a = some (.tup xs) ∧ H b = some (.tup ys)) ∧ ∀ (i : Nat) (x y : V), xs[i]? = some x → ys[i]? = some y → Lk n H x y
theorem Lk.same : ∀ {n : Nat} {H H' : Hp} {v u : V}, Same H H' → Lk n H v u → Lk n H' v u
  | 0, _, _, _, _, _, h => h
  | n + 1, H, H', v, u, s, h => by
    rcases h with h | ⟨a, b, xs, ys, e1, e2, e3, e4, e5, e6⟩
    · exact .inl h
    · refine .inr ⟨a, b, xs, ys, e1, e2, e3, e4, ?_, fun i x y h1 h2 => (e6 i x y h1 h2).same s⟩
      rcases e5 with ⟨x, y⟩ | ⟨x, y⟩
      · exact .inl ⟨s _ _ x, s _ _ y⟩
      · exact .inr ⟨s _ _ x, s _ _ y⟩
def spLike (n : Nat) : Sp := fun vs H Q _ => ∃ v u : V, vs = [v, u] ∧ Lk n H v u ∧ ∀ H', Same H H' → Q (.bl true) H'
theorem walk_zipT {K : PySem.W.Frag} {a b : Addr} {xs ys : List V} {n : Nat} (hn : n = min xs.length ys.length) : Walk (RZ.ItzT K a b) n (fun H => SqT K H a xs ∧ SqT K H b ys) (YPair (fun i => xs[i]?) (fun i => ys[i]?)) := by
  subst hn
  refine ⟨fun i H hi g => ?_, fun H g => ⟨xs, ys, g.1, g.2, by omega⟩, fun i H v H' _ g y => ?_⟩
  · have h1 : i < xs.length := by omega
    have h2 : i < ys.length := by omega
    exact ⟨xs, ys, _, _, g.1, g.2, List.getElem?_eq_getElem h1, List.getElem?_eq_getElem h2⟩
  · obtain ⟨T, x, z, h1, h2, h3, h4, h5⟩ := y
    exact ⟨T, x, z, h1, h2, h3, h4 _ g.1, h5 _ g.2⟩
theorem all_true (n : Nat) : (List.replicate n true).all id = true := by
  induction n with
  | zero => rfl
  | succ n ih =>
    rw [List.replicate_succ, List.all_cons, ih]
    rfl
end Dk
namespace Dk
open PySem L2
/-! ### names -/
def abc : Str := Str.ofString "abcdefghijklmnopqrstuvwxyz"
def isNm (z : Str) : Bool := decide (1 ≤ z.length ∧ z.length ≤ 8) && z.cps.toList.all fun c => decide (c ∈ abc.cps.toList)
def spName : Sp := fun vs H Q _ => ∃ z : Str, vs = [.str z] ∧ z.length ≤ 1000 ∧ ∀ H', Same H H' → Q (.bl (isNm z)) H'
theorem len_str (z : Str) : z.cps.toList.length = z.length := by simp [Str.length]
/-- the list that the comprehension over the signs leaves -/
def inAbc (z : Str) (i : Nat) : List Bool := (z.cps.toList.take i).map fun c => decide (c ∈ abc.cps.toList)
theorem inAbc_succ {z : Str} {i c : Nat} (h : z.cps[i]? = some c) : inAbc z (i + 1) = inAbc z i ++ [decide (c ∈ abc.cps.toList)] := by
  have e : z.cps.toList[i]? = some c := by
    rw [Array.getElem?_toList]
    exact h
  unfold inAbc
  rw [List.take_add_one, e, List.map_append]
  rfl
theorem inAbc_all (z : Str) : (inAbc z z.cps.size).all id = z.cps.toList.all fun c => decide (c ∈ abc.cps.toList) := by
  unfold inAbc
  rw [List.take_of_length_le (by simp), List.all_map]
  rfl
theorem inAbc_len {z : Str} {i : Nat} (h : z.length ≤ 1000) : ((inAbc z i).map V.bl).length < sizeLine := by
  unfold inAbc
  rw [List.length_map, List.length_map, List.length_take, len_str]
  exact small1000 (by omega)
theorem nm_in {z : Str} {b : Bool} (h : decide (1 ≤ z.length ∧ z.length ≤ 8) = b) : isNm z = (b && z.cps.toList.all fun c => decide (c ∈ abc.cps.toList)) := by
  unfold isNm
  rw [h]
/-- joined texts are no longer than their parts together -/
theorem join_len (sep : Str) : ∀ ys : List Str, (Str.join sep ys).length ≤ (ys.map (·.length)).sum + ys.length * sep.length
  | [] => Nat.zero_le _
  | [x] => by
    show x.length ≤ _
    simp
  | x :: y :: r => by
    have ih := join_len sep (y :: r)
    show (x ++ sep ++ Str.join sep (y :: r)).length ≤ _
    rw [Str.length_append, Str.length_append]
    simp only [List.map_cons, List.sum_cons, List.length_cons] at ih ⊢
    rw [Nat.add_mul (r.length + 1) 1, Nat.one_mul]
    omega
end Dk
namespace Dk
open PySem L2
/-! ### a text taken none or one time -/
section
variable {X : Cx}
theorem op_mul01 : OpR X (binaryOp .Mult) (fun x y H Q => ∃ (z : Str) (k : Int), x = .str z ∧ y = .int k ∧ (k = 0 ∨ k = 1) ∧ Q (.str (if k = 1 then z else Str.empty)) H) := by
  intro pins s σ H x y v u Q I rx ry h
  obtain ⟨z, k, rfl, rfl, hk, q⟩ := h
  obtain ⟨t, rfl⟩ := rx
  obtain ⟨t', rfl⟩ := ry
  rcases hk with rfl | rfl
  · exact PySem.P.mul_str_none (by decide) (by decide) ⟨.str Str.empty, H, I.tok _, ⟨_, rfl⟩, q⟩
  · exact PySem.P.mul_str rfl (fun _ e => by cases e) (fun _ e => by cases e) ⟨.str z, H, I, ⟨_, rfl⟩, q⟩
end
/-! ### drawn names -/
def sgn (a c : Int) (k : Nat) : Str := ⟨#[97 + ((a + c * k) % 26).toNat]⟩
def nmAt (a c : Int) (t : Str) (p : Int) (k : Nat) : Str :=
  if p = 0 then sgn a c k ++ t else if p = 1 then t ++ sgn a c k else sgn a c k ++ (if ((k : Int) % 2) = 1 then t else Str.empty)
def nms (a c : Int) (t : Str) (p : Int) (n : Nat) : List Str := (List.range n).map (nmAt a c t p)
theorem nms_succ (a c : Int) (t : Str) (p : Int) (n : Nat) : nms a c t p (n + 1) = nms a c t p n ++ [nmAt a c t p n] := by
  unfold nms
  rw [List.range_succ, List.map_append]
  rfl
theorem nms_len (a c : Int) (t : Str) (p : Int) (n : Nat) : (nms a c t p n).length = n := by
  unfold nms
  rw [List.length_map, List.length_range]
theorem abc_at : ∀ i : Nat, i < 26 → abc.cps.toList[i]? = some (97 + i) := by decide +kernel
theorem abc_mem {i : Nat} (h : i < 26) : 97 + i ∈ abc.cps.toList := List.mem_of_getElem? (abc_at i h)
theorem mod26 (x : Int) : (x % 26).toNat < 26 ∧ (((x % 26).toNat : Nat) : Int) = x % 26 := by
  have h1 : 0 ≤ x % 26 := Int.emod_nonneg _ (by decide)
  have h2 : x % 26 < 26 := Int.emod_lt_of_pos _ (by decide)
  omega
theorem isNm_of {z : Str} (h1 : 1 ≤ z.length) (h2 : z.length ≤ 8) (h3 : ∀ c ∈ z.cps.toList, c ∈ abc.cps.toList) : isNm z = true := by
  unfold isNm
  rw [decide_eq_true ⟨h1, h2⟩, Bool.true_and, List.all_eq_true]
  exact fun c hc => decide_eq_true (h3 c hc)
theorem cps_app (a b : Str) : (a ++ b).cps.toList = a.cps.toList ++ b.cps.toList := by
  rw [Str.cps_append, Array.toList_append]
/-- a drawn tail: at most seven small letters -/
def Tail (t : Str) : Prop := t.length ≤ 7 ∧ (∀ c ∈ t.cps.toList, c ∈ abc.cps.toList) ∧ t.length ≠ 5 ∧ t.length ≠ 6 ∧ t.cps.toList ≠ [120, 116, 114, 97] ∧ t.cps.toList ≠ [101, 120, 116, 114]
theorem tail_empty : Tail Str.empty := ⟨by decide, (fun c hc => by cases hc), by decide, by decide, by decide, by decide⟩
theorem sgn_in (a c : Int) (k : Nat) : ∀ d ∈ (sgn a c k).cps.toList, d ∈ abc.cps.toList := by
  intro d hd
  have e : d = 97 + ((a + c * k) % 26).toNat := List.mem_singleton.mp hd
  rw [e]
  exact abc_mem (mod26 _).1
theorem nm_cat {x y : Str} (h : x.length + y.length ≤ 8) (h0 : 1 ≤ x.length + y.length) (hx : ∀ c ∈ x.cps.toList, c ∈ abc.cps.toList) (hy : ∀ c ∈ y.cps.toList, c ∈ abc.cps.toList) : isNm (x ++ y) = true := by
  refine isNm_of (by rw [Str.length_append]; exact h0) (by rw [Str.length_append]; exact h) ?_
  intro c hc
  rw [cps_app] at hc
  rcases List.mem_append.mp hc with h | h
  · exact hx c h
  · exact hy c h
theorem sgn_len (a c : Int) (k : Nat) : (sgn a c k).length = 1 := rfl
theorem nmAt_name {a c : Int} {t : Str} {p : Int} (k : Nat) (ht : Tail t) : isNm (nmAt a c t p k) = true := by
  obtain ⟨h1, h2, _⟩ := ht
  unfold nmAt
  split
  · exact nm_cat (by rw [sgn_len]; omega) (by rw [sgn_len]; omega) (sgn_in a c k) h2
  · split
    · exact nm_cat (by rw [sgn_len]; omega) (by rw [sgn_len]; omega) h2 (sgn_in a c k)
    · split
      · exact nm_cat (by rw [sgn_len]; omega) (by rw [sgn_len]; omega) (sgn_in a c k) h2
      · exact nm_cat (by rw [sgn_len]; show 1 + 0 ≤ 8; decide) (by rw [sgn_len]; show 1 ≤ 1 + 0; decide) (sgn_in a c k) (fun c hc => by cases hc)
theorem step_inj {a c : Int} (hc : c = 1 ∨ c = 3 ∨ c = 5 ∨ c = 7 ∨ c = 9 ∨ c = 11) {j k : Nat} (hj : j < 26) (hk : k < 26) (h : ((a + c * j) % 26).toNat = ((a + c * k) % 26).toNat) : j = k := by
  have h1 := (mod26 (a + c * j)).2
  have h2 := (mod26 (a + c * k)).2
  rcases hc with rfl | rfl | rfl | rfl | rfl | rfl <;> omega
theorem nmAt_inj {a c : Int} {t : Str} {p : Int} (hc : c = 1 ∨ c = 3 ∨ c = 5 ∨ c = 7 ∨ c = 9 ∨ c = 11) {j k : Nat} (hj : j < 26) (hk : k < 26) (h : nmAt a c t p j = nmAt a c t p k) : j = k := by
  have h' : (nmAt a c t p j).cps.toList = (nmAt a c t p k).cps.toList := by rw [h]
  unfold nmAt at h'
  refine step_inj hc hj hk (a := a) ?_
  have key : ∀ {x y : Nat} {r s : List Nat}, x :: r = y :: s → x = y := fun e => (List.cons.inj e).1
  by_cases p0 : p = 0
  · rw [if_pos p0, if_pos p0, cps_app, cps_app] at h'
    have := key h'
    omega
  · rw [if_neg p0, if_neg p0] at h'
    by_cases p1 : p = 1
    · rw [if_pos p1, if_pos p1, cps_app, cps_app] at h'
      have e := List.append_cancel_left h'
      have := key e
      omega
    · rw [if_neg p1, if_neg p1, cps_app, cps_app] at h'
      have := key h'
      omega
theorem nms_nodup {a c : Int} {t : Str} {p : Int} (hc : c = 1 ∨ c = 3 ∨ c = 5 ∨ c = 7 ∨ c = 9 ∨ c = 11) : ∀ {n : Nat}, n ≤ 26 → (nms a c t p n).Nodup
  | 0, _ => List.nodup_nil
  | n + 1, hn => by
    rw [nms_succ, List.nodup_append]
    refine ⟨nms_nodup hc (by omega), by simp, fun x hx y hy e => ?_⟩
    rw [List.mem_singleton.mp hy] at e
    unfold nms at hx
    obtain ⟨k, hk, rfl⟩ := List.mem_map.mp hx
    have h1 := List.mem_range.mp hk
    have h2 := nmAt_inj hc (by omega) (by omega) e
    omega
theorem nms_all {a c : Int} {t : Str} {p : Int} (ht : Tail t) (n : Nat) : ∀ z ∈ nms a c t p n, isNm z = true := by
  intro z hz
  unfold nms at hz
  obtain ⟨k, _, rfl⟩ := List.mem_map.mp hz
  exact nmAt_name k ht
/-- no drawn name has six or seven letters -/
def LenOk (z : Str) : Prop := z.length ≠ 6 ∧ z.length ≠ 7 ∧ z.cps.toList ≠ [101, 120, 116, 114, 97]
theorem sgn_head {a c : Int} {k : Nat} {t : Str} (h : t.cps.toList ≠ [120, 116, 114, 97]) : (sgn a c k ++ t).cps.toList ≠ [101, 120, 116, 114, 97] := by
  rw [cps_app]
  intro e
  exact h (List.cons.inj e).2
theorem sgn_tail {a c : Int} {k : Nat} {t : Str} (h : t.cps.toList ≠ [101, 120, 116, 114]) : (t ++ sgn a c k).cps.toList ≠ [101, 120, 116, 114, 97] := by
  rw [cps_app]
  intro e
  exact h (List.append_inj' (show t.cps.toList ++ [97 + ((a + c * k) % 26).toNat] = [101, 120, 116, 114] ++ [97] from e) rfl).1
theorem nms_lens {a c : Int} {t : Str} {p : Int} (ht : Tail t) (n : Nat) : ∀ z ∈ nms a c t p n, LenOk z := by
  intro z hz
  unfold nms at hz
  obtain ⟨k, _, rfl⟩ := List.mem_map.mp hz
  obtain ⟨h1, _, h3, h4, h5, h6⟩ := ht
  have e0 : Str.empty.length = 0 := rfl
  unfold LenOk nmAt
  split
  · refine ⟨?_, ?_, sgn_head h5⟩
    · rw [Str.length_append, sgn_len]
      omega
    · rw [Str.length_append, sgn_len]
      omega
  · split
    · refine ⟨?_, ?_, sgn_tail h6⟩
      · rw [Str.length_append, sgn_len]
        omega
      · rw [Str.length_append, sgn_len]
        omega
    · split
      · refine ⟨?_, ?_, sgn_head h5⟩
        · rw [Str.length_append, sgn_len]
          omega
        · rw [Str.length_append, sgn_len]
          omega
      · refine ⟨?_, ?_, sgn_head (by decide)⟩
        · rw [Str.length_append, sgn_len]
          omega
        · rw [Str.length_append, sgn_len]
          omega
theorem sgn_at (a c : Int) (i : Nat) : atI abc.cps.toList ((a + c * (0 + (i : Int))) % 26) = some (97 + ((a + c * i) % 26).toNat) := by
  obtain ⟨h1, h2⟩ := mod26 (a + c * i)
  have z := atI_nat (abc_at _ h1)
  rw [h2] at z
  rw [Int.zero_add]
  exact z
theorem pick3 {a c : Int} {t : Str} {p : Int} {i : Nat} (h0 : 0 ≤ p) (h1 : p < 3) : atI [V.str (sgn a c i ++ t), V.str (t ++ sgn a c i), V.str (sgn a c i ++ (if ((0 + (i : Int)) % 2) = 1 then t else Str.empty))] p = some (V.str (nmAt a c t p i)) := by
  rw [Int.zero_add]
  have e : p = 0 ∨ p = 1 ∨ p = 2 := by omega
  rcases e with rfl | rfl | rfl <;> rfl
theorem Sav.free {b : Addr} {H H' : Hp} (s : Sav b H H') {g : Addr} (n : g ≠ b) (h : H' g = none) : H g = none := by
  cases e : H g with
  | none => rfl
  | some z =>
    rw [s g z n e] at h
    cases h
theorem tail_len {t : Str} {a c : Int} {i : Nat} (h : Tail t) : (sgn a c i).length + t.length ≤ sizeLine ∧ t.length + (sgn a c i).length ≤ sizeLine := by
  have h1 := h.1
  rw [sgn_len]
  have h2 : 8 ≤ sizeLine := by decide
  omega
/-- a list of m unlike names -/
def Names (zs : List Str) : Prop := zs.Nodup ∧ ∀ z ∈ zs, isNm z = true
def spNames : Sp := fun vs H Q _ => ∃ (b l : Addr) (m : Int), vs = [.ref b, .int m] ∧ Box H b l ∧ 0 ≤ m ∧ m ≤ 26 ∧
  ∀ (H' : Hp) (p : Addr) (zs : List Str), Sav b H H' → Box H' b l → H p = none → H' p = some (.lst (zs.map V.str)) → zs.length = m.toNat → Names zs → (∀ z ∈ zs, LenOk z) → Q (.ref p) H'
end Dk
namespace Dk
open PySem L2
theorem Same.tup {K : PySem.W.Frag} {H H' : Hp} {a : Addr} {xs : List V} (e : Same H H') (h : SqT K H a xs) : SqT K H' a xs := by
  rcases h with (h | ⟨o, h⟩) | h
  · exact .inl (.inl (e _ _ h))
  · exact .inl (.inr ⟨o, e _ _ h⟩)
  · exact .inr h
/-- a list or a tuple -/
def Sq (K : PySem.W.Frag) (H : Hp) (a : Addr) (xs : List V) : Prop := SqL K H a xs ∨ SqT K H a xs
theorem Sq.same {K : PySem.W.Frag} {H H' : Hp} {a : Addr} {xs : List V} (h : Sq K H a xs) (e : Same H H') : Sq K H' a xs := by
  rcases h with h | h
  · exact .inl (e.seq h)
  · exact .inr (Same.tup e h)
/-! ### places -/
def plc (xs : List V) (n : Int) : V := xs.getD (n % (xs.length : Int)).toNat .non
def trn (xs : List V) : List V := (List.range xs.length).map fun (i : Nat) => plc xs (-(i : Int))
theorem modlen {n : Nat} (h : 0 < n) (x : Int) : (x % (n : Int)).toNat < n ∧ (((x % (n : Int)).toNat : Nat) : Int) = x % (n : Int) := by
  have h1 : 0 ≤ x % (n : Int) := Int.emod_nonneg _ (by omega)
  have h2 : x % (n : Int) < n := Int.emod_lt_of_pos _ (by omega)
  omega
theorem plc_at {xs : List V} (h : 0 < xs.length) (n : Int) : atI xs (n % (xs.length : Int)) = some (plc xs n) := by
  obtain ⟨h1, h2⟩ := modlen h n
  have e : xs[(n % (xs.length : Int)).toNat]? = some (plc xs n) := by
    unfold plc
    rw [List.getD_eq_getElem?_getD, List.getElem?_eq_getElem h1]
    rfl
  have z := atI_nat e
  rw [h2] at z
  exact z
theorem plc_mem {xs : List V} (h : 0 < xs.length) (n : Int) : plc xs n ∈ xs := by
  obtain ⟨h1, _⟩ := modlen h n
  unfold plc
  rw [List.getD_eq_getElem?_getD, List.getElem?_eq_getElem h1]
  exact List.getElem_mem h1
theorem trn_len (xs : List V) : (trn xs).length = xs.length := by
  unfold trn
  rw [List.length_map, List.length_range]
theorem trn_get {xs : List V} {i : Nat} (h : i < xs.length) : (trn xs)[i]? = some (plc xs (-(i : Int))) := by
  unfold trn
  rw [List.getElem?_map, List.getElem?_range h]
  rfl
theorem neg_neg_mod (b n : Int) : (-((-b) % n)) % n = b % n := by
  have h := Int.emod_add_mul_ediv (-b) n
  have e : -((-b) % n) = b + n * ((-b) / n) := by omega
  rw [e, Int.add_mul_emod_self_left]
theorem plc_trn {xs : List V} (h : 0 < xs.length) (b : Int) : plc (trn xs) (-b) = plc xs b := by
  obtain ⟨h1, h2⟩ := modlen h (-b)
  have e1 : plc (trn xs) (-b) = plc xs (-(((-b) % (xs.length : Int)).toNat : Int)) := by
    show (trn xs).getD ((-b) % ((trn xs).length : Int)).toNat .non = _
    rw [trn_len, List.getD_eq_getElem?_getD, trn_get h1]
    rfl
  rw [e1, h2]
  show xs.getD ((-((-b) % (xs.length : Int))) % (xs.length : Int)).toNat .non = xs.getD (b % (xs.length : Int)).toNat .non
  rw [neg_neg_mod]
theorem trn_cons (x : V) (r : List V) : trn (x :: r) = x :: r.reverse := by
  refine List.ext_getElem? fun i => ?_
  by_cases hi : i < (x :: r).length
  · rw [trn_get hi]
    cases i with
    | zero => rfl
    | succ j =>
      have hj : j < r.length := by simpa using hi
      have e : (-(((j + 1 : Nat)) : Int)) % (((x :: r).length : Nat) : Int) = ((r.length - j : Nat) : Int) := by
        have e2 : (-(((j + 1 : Nat)) : Int)) = ((r.length - j : Nat) : Int) + (((x :: r).length : Nat) : Int) * (-1) := by
          rw [List.length_cons]
          omega
        rw [e2, Int.add_mul_emod_self_left, Int.emod_eq_of_lt (by omega) (by rw [List.length_cons]; omega)]
      show some ((x :: r).getD ((-(((j + 1 : Nat)) : Int)) % (((x :: r).length : Nat) : Int)).toNat .non) = (x :: r.reverse)[j + 1]?
      rw [e, Int.toNat_natCast, List.getElem?_cons_succ, List.getElem?_reverse hj, List.getD_eq_getElem?_getD]
      have e3 : r.length - j = (r.length - 1 - j) + 1 := by omega
      rw [e3, List.getElem?_cons_succ, List.getElem?_eq_getElem (by omega)]
      rfl
  · rw [List.getElem?_eq_none (by rw [trn_len]; omega), List.getElem?_eq_none (by simp at hi ⊢; omega)]
theorem trn_trn : ∀ {xs : List V}, 0 < xs.length → trn (trn xs) = xs
  | [], h => by cases h
  | x :: r, _ => by rw [trn_cons, trn_cons, List.reverse_reverse]
/-! ### plain lists, equal ones -/
theorem Lk.flat {n : Nat} {H : Hp} {v : V} (h : flatV v = true) : Lk (n + 1) H v v := .inl ⟨rfl, h⟩
theorem Lk.lst {n : Nat} {H : Hp} {a b : Addr} {xs : List V} (ha : H a = some (.lst xs)) (hb : H b = some (.lst xs)) (hl : xs.length ≤ 1000) (hf : ∀ x ∈ xs, flatV x = true) : Lk (n + 2) H (.ref a) (.ref b) := by
  refine .inr ⟨a, b, xs, xs, rfl, rfl, rfl, hl, .inl ⟨ha, hb⟩, fun i x y hx hy => ?_⟩
  have e : x = y := Option.some.inj (hx.symm.trans hy)
  rw [← e]
  exact Lk.flat (hf x (List.mem_of_getElem? hx))
theorem Lk.tup {n : Nat} {H : Hp} {a b : Addr} {xs : List V} (ha : H a = some (.tup xs)) (hb : H b = some (.tup xs)) (hl : xs.length ≤ 1000) (hf : ∀ x ∈ xs, flatV x = true) : Lk (n + 2) H (.ref a) (.ref b) := by
  refine .inr ⟨a, b, xs, xs, rfl, rfl, rfl, hl, .inr ⟨ha, hb⟩, fun i x y hx hy => ?_⟩
  have e : x = y := Option.some.inj (hx.symm.trans hy)
  rw [← e]
  exact Lk.flat (hf x (List.mem_of_getElem? hx))
theorem flat_strs {zs : List Str} : ∀ x ∈ zs.map V.str, flatV x = true := by
  intro x hx
  obtain ⟨z, _, rfl⟩ := List.mem_map.mp hx
  rfl
theorem str_of {zs : List Str} {x : V} (h : x ∈ zs.map V.str) : ∃ z, z ∈ zs ∧ x = V.str z := by
  obtain ⟨z, hz, rfl⟩ := List.mem_map.mp h
  exact ⟨z, hz, rfl⟩
theorem dp_strs {K : PySem.W.Frag} {H : Hp} : ∀ zs : List Str, DpAll K H (zs.map V.str) (zs.map PyData.str)
  | [] => .nil
  | z :: r => .cons (.str z) (dp_strs r)
theorem nm_ok {z : Str} (h : isNm z = true) : PyData.strOk z = true := by
  unfold isNm at h
  rw [Bool.and_eq_true] at h
  have h2 := List.all_eq_true.mp h.2
  have key : ∀ c ∈ abc.cps.toList, 97 ≤ c ∧ c < 123 := by decide +kernel
  unfold PyData.strOk
  rw [Array.all_eq_true']
  intro c hc
  have h3 := key c (of_decide_eq_true (h2 c (Array.mem_toList_iff.mpr hc)))
  exact decide_eq_true (by omega)
theorem lay_strs : ∀ {zs : List Str}, (∀ z ∈ zs, PyData.strOk z = true) → PyData.canLayAll0 (zs.map PyData.str) = true ∧ PyData.depthAll (zs.map PyData.str) = 0
  | [], _ => ⟨rfl, rfl⟩
  | z :: r, h => by
    obtain ⟨h1, h2⟩ := lay_strs (zs := r) fun y hy => h y (List.mem_cons_of_mem _ hy)
    have h0 := h z List.mem_cons_self
    constructor
    · show (PyData.strOk z && PyData.canLayAll0 (r.map PyData.str)) = true
      rw [h0, h1]
      rfl
    · show max 0 (PyData.depthAll (r.map PyData.str)) = 0
      rw [h2]
      rfl
theorem shaped_strs {zs : List Str} (h : ∀ z ∈ zs, PyData.strOk z = true) : SeqAt.shaped (.tuple (zs.map PyData.str)) = true := by
  obtain ⟨h1, h2⟩ := lay_strs h
  unfold SeqAt.shaped
  have e1 : (PyData.tuple (zs.map PyData.str)).canLay0 = true := h1
  have e2 : (PyData.tuple (zs.map PyData.str)).depth = 1 := by
    show PyData.depthAll (zs.map PyData.str) + 1 = 1
    rw [h2]
  rw [e1, e2]
  rfl
end Dk
namespace Dk
open PySem L2
theorem cut_strs (zs : List Str) (a b : Option Int) : ∃ ms : List Str, cutV (zs.map V.str) a b = ms.map V.str ∧ (∀ m ∈ ms, m ∈ zs) ∧ ms.length ≤ zs.length := by
  refine ⟨(zs.drop (HT.sIx (zs.map V.str).length 0 a)).take (HT.sIx (zs.map V.str).length (zs.map V.str).length b - HT.sIx (zs.map V.str).length 0 a), ?_, ?_, ?_⟩
  · unfold cutV
    rw [List.map_take, List.map_drop]
  · intro m hm
    exact List.mem_of_mem_drop (List.mem_of_mem_take hm)
  · rw [List.length_take, List.length_drop]
    omega
theorem cut_tail (x : V) (r : List V) : cutV (x :: r) (some 1) none = r := by
  unfold cutV
  have h1 : HT.sIx (x :: r).length 0 (some 1) = 1 := by
    rw [show HT.sIx (x :: r).length 0 (some 1) = min 1 (x :: r).length from HT.sIx_nat (x :: r).length 0 1, List.length_cons]
    omega
  rw [h1, HT.sIx_none, List.length_cons]
  show r.take (r.length + 1 - 1) = r
  rw [Nat.add_sub_cancel, List.take_length]
theorem same2 {H : Hp} {p q : Addr} {o u : HO} (n1 : H p = none) (n2 : upd H p o q = none) : Same H (upd (upd H p o) q u) := (same_new n1).trans (same_new n2)
end Dk
namespace Dk
open PySem L2
theorem sign_of {x : V} (h : x ∈ [V.int (-1), V.int 1]) : ∃ i : Int, x = .int i ∧ (i = -1 ∨ i = 1) := by
  rcases List.mem_cons.mp h with rfl | h
  · exact ⟨_, rfl, .inl rfl⟩
  · rw [List.mem_singleton.mp h]
    exact ⟨_, rfl, .inr rfl⟩
theorem int_of {x : V} {m n : Int} (h : x ∈ [V.int m, V.int n]) : ∃ i : Int, x = .int i := by
  rcases List.mem_cons.mp h with rfl | h
  · exact ⟨_, rfl⟩
  · rw [List.mem_singleton.mp h]
    exact ⟨_, rfl⟩
end Dk
namespace Dk
open PySem L2
/-! ### pairs of texts -/
abbrev SS := Str × Str
def Pr (H : Hp) (x : V) (ab : SS) : Prop := ∃ q, x = V.ref q ∧ H q = some (.tup [.str ab.1, .str ab.2])
/-- values that are such pairs, one by one -/
def PL (H : Hp) (xs : List V) (ps : List SS) : Prop := xs.length = ps.length ∧ ∀ (i : Nat) (x : V) (ab : SS), xs[i]? = some x → ps[i]? = some ab → Pr H x ab
theorem Pr.same {H H' : Hp} {x : V} {ab : SS} (h : Pr H x ab) (e : Same H H') : Pr H' x ab := by
  obtain ⟨q, h1, h2⟩ := h
  exact ⟨q, h1, e _ _ h2⟩
theorem PL.same {H H' : Hp} {xs : List V} {ps : List SS} (h : PL H xs ps) (e : Same H H') : PL H' xs ps := ⟨h.1, fun i x ab h1 h2 => (h.2 i x ab h1 h2).same e⟩
/-- tuples stay where something else is written -/
def KeepT (H H' : Hp) : Prop := ∀ t xs, H t = some (.tup xs) → H' t = some (.tup xs)
theorem KeepT.of {H H' : Hp} (e : Same H H') : KeepT H H' := fun t xs h => e _ _ h
theorem KeepT.trans {H H1 H2 : Hp} (a : KeepT H H1) (b : KeepT H1 H2) : KeepT H H2 := fun t xs h => b t xs (a t xs h)
theorem KeepT.lst {H : Hp} {p : Addr} {o : HO} {xs : List V} (h : H p = some (.lst xs)) : KeepT H (upd H p o) := fun t ys e => by
  have n : t ≠ p := fun z => by
    rw [z, h] at e
    cases e
  rw [upd_ne n]
  exact e
theorem PL.keep {H H' : Hp} {xs : List V} {ps : List SS} (h : PL H xs ps) (e : KeepT H H') : PL H' xs ps := ⟨h.1, fun i x ab h1 h2 => by
  obtain ⟨q, h3, h4⟩ := h.2 i x ab h1 h2
  exact ⟨q, h3, e _ _ h4⟩⟩
theorem PL.nil {H : Hp} : PL H [] [] := ⟨rfl, fun i x ab h _ => by simp at h⟩
theorem PL.cons {H : Hp} {x : V} {ab : SS} {xs : List V} {ps : List SS} (h : Pr H x ab) (t : PL H xs ps) : PL H (x :: xs) (ab :: ps) := by
  refine ⟨by rw [List.length_cons, List.length_cons, t.1], fun i y cd h1 h2 => ?_⟩
  cases i with
  | zero =>
    rw [← Option.some.inj h1, ← Option.some.inj h2]
    exact h
  | succ i => exact t.2 i y cd h1 h2
theorem PL.tail {H : Hp} {x : V} {ab : SS} {xs : List V} {ps : List SS} (h : PL H (x :: xs) (ab :: ps)) : Pr H x ab ∧ PL H xs ps :=
  ⟨h.2 0 x ab rfl rfl, by have := h.1; simpa using this, fun i y cd h1 h2 => h.2 (i + 1) y cd h1 h2⟩
theorem PL.append {H : Hp} : ∀ {xs ys : List V} {ps qs : List SS}, PL H xs ps → PL H ys qs → PL H (xs ++ ys) (ps ++ qs)
  | [], _, [], _, _, h => h
  | [], _, _ :: _, _, h, _ => by cases h.1
  | _ :: _, _, [], _, h, _ => by cases h.1
  | x :: xs, ys, p :: ps, qs, h, h2 => PL.cons h.tail.1 (PL.append h.tail.2 h2)
theorem PL.snoc {H : Hp} {xs : List V} {ps : List SS} {x : V} {ab : SS} (h : PL H xs ps) (t : Pr H x ab) : PL H (xs ++ [x]) (ps ++ [ab]) := h.append (PL.cons t PL.nil)
theorem PL.at {H : Hp} {xs : List V} {ps : List SS} {i : Nat} {x : V} (h : PL H xs ps) (e : xs[i]? = some x) : ∃ ab, ps[i]? = some ab ∧ Pr H x ab := by
  have h1 : i < xs.length := (List.getElem?_eq_some_iff.mp e).1
  have h2 : i < ps.length := by rw [← h.1]; exact h1
  exact ⟨ps[i], List.getElem?_eq_getElem h2, h.2 i x _ e (List.getElem?_eq_getElem h2)⟩
/-! ### a pair among pairs -/
def pd (ab : SS) : PyData := .tuple [.str ab.1, .str ab.2]
theorem pr_dp {K : PySem.W.Frag} {H : Hp} {x : V} {ab : SS} (h : Pr H x ab) : Dp K H x (pd ab) := by
  obtain ⟨q, rfl, h2⟩ := h
  exact .tup (SqT.of h2) (.cons (.str _) (.cons (.str _) .nil))
theorem pl_dp {K : PySem.W.Frag} {H : Hp} : ∀ {xs : List V} {ps : List SS}, PL H xs ps → DpAll K H xs (ps.map pd)
  | [], [], _ => .nil
  | [], _ :: _, h => by cases h.1
  | _ :: _, [], h => by cases h.1
  | x :: xs, p :: ps, h => .cons (pr_dp h.tail.1) (pl_dp h.tail.2)
def okP (ab : SS) : Prop := PyData.strOk ab.1 = true ∧ PyData.strOk ab.2 = true
theorem pd_shaped {ab : SS} (h : okP ab) : SeqAt.shaped (pd ab) = true := shaped_strs (zs := [ab.1, ab.2]) (by
  intro z hz
  rcases List.mem_cons.mp hz with rfl | hz
  · exact h.1
  · rw [List.mem_singleton.mp hz]
    exact h.2)
theorem pds_lay : ∀ {ps : List SS}, (∀ p ∈ ps, okP p) → PyData.canLayAll0 (ps.map pd) = true ∧ PyData.depthAll (ps.map pd) ≤ 1
  | [], _ => ⟨rfl, Nat.zero_le _⟩
  | p :: r, h => by
    obtain ⟨h1, h2⟩ := pds_lay (ps := r) fun q hq => h q (List.mem_cons_of_mem _ hq)
    have h0 := h p List.mem_cons_self
    constructor
    · show ((pd p).canLay0 && PyData.canLayAll0 (r.map pd)) = true
      rw [h1, SeqAt.canLay_of_shaped (pd_shaped h0)]
      rfl
    · show max (pd p).depth (PyData.depthAll (r.map pd)) ≤ 1
      have e : (pd p).depth = 1 := rfl
      omega
theorem pds_shaped {ps : List SS} (h : ∀ p ∈ ps, okP p) : SeqAt.shaped (.list (ps.map pd)) = true := by
  obtain ⟨h1, h2⟩ := pds_lay h
  unfold SeqAt.shaped
  have e1 : (PyData.list (ps.map pd)).canLay0 = true := h1
  have e2 : (PyData.list (ps.map pd)).depth ≤ 64 := by
    show PyData.depthAll (ps.map pd) + 1 ≤ 64
    omega
  rw [e1, decide_eq_true e2]
  rfl
theorem eqv_pd (p q : SS) : PyData.eqv (pd p) (pd q) = decide (p = q) := by
  obtain ⟨a, b⟩ := p
  obtain ⟨c, d⟩ := q
  have e : PyData.eqv (pd (a, b)) (pd (c, d)) = ((a == c) && ((b == d) && true)) := by
    simp [pd, PyData.eqv, PyData.eqvAll]
  rw [e, Bool.and_true, Bool.eq_iff_iff, Bool.and_eq_true, beq_iff_eq, beq_iff_eq, decide_eq_true_eq, Prod.mk.injEq]
theorem any_pd (p : SS) : ∀ ps : List SS, ((ps.map pd).any fun z => PyData.eqv z (pd p)) = decide (p ∈ ps)
  | [] => by simp
  | q :: r => by
    rw [List.map_cons, List.any_cons, any_pd p r, eqv_pd, Bool.eq_iff_iff, Bool.or_eq_true, decide_eq_true_eq, decide_eq_true_eq, decide_eq_true_eq, List.mem_cons]
    constructor
    · rintro (h | h)
      · exact .inl h.symm
      · exact .inr h
    · rintro (h | h)
      · exact .inl h.symm
      · exact .inr h
/-! ### a text among texts -/
theorem in_strs (z : Str) : ∀ zs : List Str, inV (.str z) (zs.map V.str) = decide (z ∈ zs)
  | [] => by simp [inV]
  | y :: r => by
    have ih := in_strs z r
    unfold inV at ih ⊢
    rw [List.map_cons, List.any_cons, ih, Bool.eq_iff_iff, Bool.or_eq_true, decide_eq_true_eq, decide_eq_true_eq, List.mem_cons]
    show (y == z) = true ∨ _ ↔ _
    rw [beq_iff_eq]
    constructor
    · rintro (h | h)
      · exact .inl h.symm
      · exact .inr h
    · rintro (h | h)
      · exact .inl h.symm
      · exact .inr h
theorem flat_all (zs : List Str) : (zs.map V.str).all flatV = true := List.all_eq_true.mpr flat_strs
end Dk
namespace Dk
open PySem L2
/-! ### a dict of lists of texts, by the texts of a list -/
def kvs (zs : List Str) (as : List Addr) : List (Key × V) := (zs.zip as).map fun p => (Sum.inr p.1, V.ref p.2)
def LinkAt (H : Hp) (d : Addr) (zs : List Str) (f : Str → List Str) : Prop :=
  ∃ as : List Addr, as.length = zs.length ∧ H d = some (.dK (kvs zs as)) ∧ ∀ (i : Nat) (z : Str) (p : Addr), zs[i]? = some z → as[i]? = some p → H p = some (.lst ((f z).map V.str))
theorem LinkAt.same {H H' : Hp} {d : Addr} {zs : List Str} {f : Str → List Str} (h : LinkAt H d zs f) (e : Same H H') : LinkAt H' d zs f := by
  obtain ⟨as, h1, h2, h3⟩ := h
  exact ⟨as, h1, e _ _ h2, fun i z p a b => e _ _ (h3 i z p a b)⟩
theorem kvs_len (zs : List Str) (as : List Addr) (h : as.length = zs.length) : (kvs zs as).length = zs.length := by
  unfold kvs
  rw [List.length_map, List.length_zip, h, Nat.min_self]
theorem kvs_none {z : Str} : ∀ {zs : List Str} {as : List Addr}, z ∉ zs → valV (kvs zs as) (Sum.inr z : Key) = none
  | [], _, _ => rfl
  | _ :: _, [], _ => rfl
  | y :: zs, a :: as, h => by
    have h1 : ¬ ((Sum.inr y : Key) = Sum.inr z) := fun e => h (by rw [Sum.inr.inj e]; exact List.mem_cons_self)
    show valV ((Sum.inr y, V.ref a) :: kvs zs as) (Sum.inr z : Key) = none
    rw [valV_neg h1]
    exact kvs_none fun m => h (List.mem_cons_of_mem _ m)
theorem kvs_some : ∀ {zs : List Str} {as : List Addr} {i : Nat} {z : Str} {p : Addr}, zs.Nodup → zs[i]? = some z → as[i]? = some p → valV (kvs zs as) (Sum.inr z : Key) = some (V.ref p)
  | [], _, _, _, _, _, h, _ => by simp at h
  | _ :: _, [], _, _, _, _, _, h => by simp at h
  | y :: zs, a :: as, 0, z, p, _, h1, h2 => by
    have e1 : y = z := Option.some.inj h1
    have e2 : a = p := Option.some.inj h2
    subst e1
    subst e2
    exact valV_pos (p := ((Sum.inr y : Key), V.ref a)) rfl
  | y :: zs, a :: as, i + 1, z, p, nd, h1, h2 => by
    have hz : z ∈ zs := List.mem_of_getElem? (show zs[i]? = some z from h1)
    have h3 : ¬ ((Sum.inr y : Key) = Sum.inr z) := fun e => (List.nodup_cons.mp nd).1 (by rw [Sum.inr.inj e]; exact hz)
    show valV ((Sum.inr y, V.ref a) :: kvs zs as) (Sum.inr z : Key) = some (V.ref p)
    rw [valV_neg h3]
    exact kvs_some (List.nodup_cons.mp nd).2 h1 h2
theorem kvs_snoc {zs : List Str} {as : List Addr} (h : as.length = zs.length) (z : Str) (p : Addr) : kvs (zs ++ [z]) (as ++ [p]) = kvs zs as ++ [((Sum.inr z : Key), V.ref p)] := by
  unfold kvs
  rw [List.zip_append h.symm, List.map_append]
  rfl
theorem LinkAt.get {H : Hp} {d : Addr} {zs : List Str} {f : Str → List Str} {z : Str} (h : LinkAt H d zs f) (nd : zs.Nodup) (hz : z ∈ zs) : ∃ p : Addr, H p = some (.lst ((f z).map V.str)) ∧ ∀ H', Same H H' → DGet H' d (V.str z) (some (V.ref p)) := by
  obtain ⟨as, h1, h2, h3⟩ := h
  obtain ⟨i, hi, e⟩ := List.getElem_of_mem hz
  have hp : i < as.length := by rw [h1]; exact hi
  have e1 : zs[i]? = some z := by rw [List.getElem?_eq_getElem hi, e]
  have e2 : as[i]? = some as[i] := List.getElem?_eq_getElem hp
  refine ⟨as[i], h3 i z _ e1 e2, fun H' s => ?_⟩
  have g := DGet.k (k := (Sum.inr z : Key)) (s _ _ h2)
  rw [kvs_some nd e1 e2] at g
  exact g
/-! ### a loop over a list or a tuple -/
theorem for_sq {K : PySem.W.Frag} {j : Nat} {p : Addr} {xs : List V} {g : TG} {tb : TS} {D : Ends} {σ : L2.St} {H0 H : Hp} (hS : Sq K H0 p xs) (hv : σ[j]? = some (some (V.ref p))) (Pv : Nat → L2.St → Hp → Prop) (h0 : Pv 0 σ H) (hk : ∀ i σ H', Pv i σ H' → Same H0 H')
    (hs : ∀ i x σ H', xs[i]? = some x → Pv i σ H' → g x σ H' fun σ2 H2 => tb { D with nx := Pv (i + 1), ct := Pv (i + 1), bk := D.nx } σ2 H2) (hd : ∀ σ H', Pv xs.length σ H' → D.nx σ H') :
    tFor (fun σ H R => iList K (tVar j) σ H R ∨ iTup K (tVar j) σ H R) g tb D σ H := by
  have s0 := hk 0 σ H h0
  rcases hS with hS | hS
  · exact .inl ⟨_, hv, p, rfl, ⟨_, s0.seq hS⟩, for_list (K := K) (a := p) (xs := xs) Pv h0 (fun i σ H' _ h => (hk i σ H' h).seq hS) hs hd⟩
  · exact .inr ⟨_, hv, p, rfl, ⟨_, Same.tup s0 hS⟩, for_tup (K := K) (a := p) (xs := xs) Pv h0 (fun i σ H' _ h => Same.tup (hk i σ H' h) hS) hs hd⟩
theorem same_put {H H' : Hp} {p : Addr} {o : HO} (s : Same H H') (n : H p = none) : Same H (upd H' p o) := fun q x e => by
  rw [upd_ne (ne_of_none e n)]
  exact s _ _ e
theorem nodup_at {zs : List Str} (h : zs.Nodup) {i : Nat} {z : Str} (e : zs[i]? = some z) : z ∉ zs.take i := by
  intro hz
  obtain ⟨hi, ez⟩ := List.getElem?_eq_some_iff.mp e
  obtain ⟨j, hj, ej⟩ := List.getElem_of_mem hz
  rw [List.getElem_take] at ej
  have hji : j < i := by
    rw [List.length_take] at hj
    omega
  exact List.pairwise_iff_getElem.mp h j i (by omega) hi hji (by rw [ej, ez])
theorem take_snoc {zs : List Str} {i : Nat} {z : Str} (e : zs[i]? = some z) : zs.take (i + 1) = zs.take i ++ [z] := by
  rw [List.take_add_one, e]
  rfl
theorem str_at {zs : List Str} {i : Nat} {x : V} (e : (zs.map V.str)[i]? = some x) : ∃ z, zs[i]? = some z ∧ x = V.str z := by
  rw [List.getElem?_map] at e
  cases h : zs[i]? with
  | none =>
    rw [h] at e
    cases e
  | some z =>
    rw [h] at e
    exact ⟨z, rfl, (Option.some.inj e).symm⟩
section
variable {X : Cx}
theorem pi_any {tg iter : Expr} {w1 w2 : TI} (h1 : PI X tg iter w1) (h2 : PI X tg iter w2) : PI X tg iter (fun σ H R => w1 σ H R ∨ w2 σ H R) := ⟨fun pins s σ H R I h => h.elim (h1.run pins s σ H R I) (h2.run pins s σ H R I)⟩
end
/-! ### promises of the house's helpers -/
/-- an instance that has at least its names -/
def Nmd (C : Addr) (H : Hp) (h : Addr) (zs : List Str) : Prop := ∃ (dx n : Addr) (fs : List (Str × V)), H h = some (.ins C dx fs) ∧ fs.lookup ("names" : Str) = some (.ref n) ∧ fs.lookup ("has_room" : Str) = none ∧ H n = some (.lst (zs.map V.str))
theorem Nmd.same {C : Addr} {H H' : Hp} {h : Addr} {zs : List Str} (x : Nmd C H h zs) (e : Same H H') : Nmd C H' h zs := by
  obtain ⟨dx, n, fs, h1, h2, h3, h4⟩ := x
  exact ⟨dx, n, fs, e _ _ h1, h2, h3, e _ _ h4⟩
def spNewName : Sp := fun vs H Q _ => ∃ (z : Str) (o : Addr) (zs : List Str), vs = [.str z, .ref o] ∧ isNm z = true ∧ H o = some (.lst (zs.map V.str)) ∧ z ∉ zs ∧ ∀ H', Same H H' → Q .non H'
def spHas (C : Addr) : Sp := fun vs H Q _ => ∃ (h : Addr) (zs : List Str) (z : Str), vs = [.ref h, .str z] ∧ Nmd C H h zs ∧ Q (.bl (decide (z ∈ zs))) H
def spNeed (C : Addr) : Sp := fun vs H Q _ => ∃ (h : Addr) (zs : List Str) (z : Str), vs = [.ref h, .str z] ∧ Nmd C H h zs ∧ z ∈ zs ∧ Q .non H
def spNeeds (C : Addr) : Sp := fun vs H Q _ => ∃ (h : Addr) (zs : List Str) (y z : Str), vs = [.ref h, .str y, .str z] ∧ Nmd C H h zs ∧ y ∈ zs ∧ z ∈ zs ∧ Q .non H
def spNew (K : PySem.W.Frag) : Sp := fun vs H Q _ => ∃ (p : Addr) (zs : List Str), vs = [.ref p] ∧ Sq K H p (zs.map V.str) ∧ Names zs ∧ zs.length ≤ 1000 ∧ ∀ (H' : Hp) (n : Addr), Same H H' → H n = none → H' n = some (.lst (zs.map V.str)) → Q (.ref n) H'
def goodP (zs : List Str) (ab : SS) : Prop := ab.1 ∈ zs ∧ ab.2 ∈ zs ∧ ab.1 ≠ ab.2
def spNU (C : Addr) : Sp := fun vs H Q _ => ∃ (h : Addr) (zs : List Str) (y z : Str), vs = [.ref h, .str y, .str z] ∧ Nmd C H h zs ∧ y ∈ zs ∧ z ∈ zs ∧ y ≠ z ∧ Q .non H
def spUnlike (K : PySem.W.Frag) (C : Addr) : Sp := fun vs H Q _ => ∃ (h p : Addr) (zs : List Str) (xs : List V) (ps : List SS), vs = [.ref h, .ref p] ∧ Nmd C H h zs ∧ Sq K H p xs ∧ PL H xs ps ∧ xs.length ≤ 1000 ∧ (∀ ab ∈ ps, goodP zs ab) ∧
  ∀ (H' : Hp) (n : Addr) (ys : List V), Same H H' → H n = none → H' n = some (.lst ys) → PL H' ys ps → Q (.ref n) H'
/-- what of H' is new against H -/
def newPart (H H' : Hp) : Hp := fun x => match H x with
  | none => H' x
  | some _ => none
theorem new_at {H H' : Hp} {x : Addr} (h : H x = none) : newPart H H' x = H' x := by
  unfold newPart
  rw [h]
theorem new_old {H H' : Hp} {x : Addr} {o : HO} (h : H x = some o) : newPart H H' x = none := by
  unfold newPart
  rw [h]
theorem new_inv {H H' : Hp} {x : Addr} {o : HO} (h : newPart H H' x = some o) : H x = none ∧ H' x = some o := by
  cases e : H x with
  | none =>
    rw [new_at e] at h
    exact ⟨rfl, h⟩
  | some u =>
    rw [new_old e] at h
    cases h
theorem new_same (H H' : Hp) : Same (newPart H H') H' := fun q o h => (new_inv h).2
theorem new_up {H0 Ha Hb Hf : Hp} (s : Same H0 Ha) (h : ∀ q o, Ha q = none → Hb q = some o → Hf q = some o) : Same (newPart Ha Hb) (newPart H0 Hf) := fun q o e => by
  obtain ⟨h1, h2⟩ := new_inv e
  rw [new_at (s.free h1)]
  exact h q o h1 h2
def lnk (zs : List Str) (ps : List SS) (a : Str) : List Str := zs.filter fun b => decide ((a, b) ∈ ps)
def spLinked : Sp := fun vs H Q _ => ∃ (n p : Addr) (zs : List Str) (ys : List V) (ps : List SS), vs = [.ref n, .ref p] ∧ H n = some (.lst (zs.map V.str)) ∧ Names zs ∧ zs.length ≤ 1000 ∧ H p = some (.lst ys) ∧ PL H ys ps ∧ (∀ ab ∈ ps, okP ab) ∧
  ∀ (H' : Hp) (d : Addr), Same H H' → H d = none → LinkAt (newPart H H') d zs (lnk zs ps) → Q (.ref d) H'
theorem pred_ok {zs : List Str} (h : Names zs) {ab : SS} (g : goodP zs ab) : okP ab := ⟨nm_ok (h.2 _ g.1), nm_ok (h.2 _ g.2.1)⟩
theorem lnk_take {zs : List Str} {ps : List SS} {a b : Str} {i : Nat} (e : zs[i]? = some b) : lnk (zs.take (i + 1)) ps a = lnk (zs.take i) ps a ++ (if (a, b) ∈ ps then [b] else []) := by
  unfold lnk
  rw [List.take_add_one, e, List.filter_append]
  congr 1
  by_cases h : (a, b) ∈ ps
  · rw [if_pos h]
    show List.filter _ [b] = _
    simp [h]
  · rw [if_neg h]
    show List.filter _ [b] = _
    simp [h]
theorem lnk_len (zs : List Str) (ps : List SS) (a : Str) : (lnk zs ps a).length ≤ zs.length := List.length_filter_le _ _
end Dk
namespace Dk
open PySem L2
theorem nm_len {z : Str} (h : isNm z = true) : z.length ≤ 1000 := by
  unfold isNm at h
  rw [Bool.and_eq_true] at h
  have := (of_decide_eq_true h.1).2
  omega
end Dk
namespace Dk
open PySem L2
theorem dc_list {K : PySem.W.Frag} {a : Addr} {xs : List V} {g : TG} {tt : TT} {tk tv : TE} {vs : List Nat} {σ : L2.St} {H1 : Hp} {D : Addr} {Qd : Hp → Prop} (Pv : Nat → Hp → Prop) (h0 : Pv 0 (upd H1 D (.dK []))) (hl : ∀ i H, i ≤ xs.length → Pv i H → SqL K H a xs)
    (hs : ∀ i x H, xs[i]? = some x → Pv i H → g x (wipe σ vs) H fun s2 H2 => wipe s2 vs = wipe σ vs ∧ tt s2 H2 fun b H3 =>
      if b = true then tk s2 H3 fun y H4 => tv s2 H4 fun z H5 => ∃ ms k, y = kV k ∧ H5 D = some (.dK ms) ∧ ms.length < sizeLine ∧ Pv (i + 1) (upd H5 D (.dK (putK ms k z))) else Pv (i + 1) H3) (hd : ∀ H, Pv xs.length H → Qd H) :
    ∃ W : Nat → Nat → Hp → Prop, (∃ m, W 0 m (upd H1 D (.dK []))) ∧ ∀ i m H, W i m H →
      ((Itl K a).stop i H ∧ Qd H) ∨ ((Itl K a).go i H ∧ ∃ Nx : Hp → Prop, (∀ H', Nx H' → ∃ m', m' < m ∧ W (i + 1) m' H') ∧ ∀ x H', (Itl K a).yld i H x H' → g x (wipe σ vs) H' fun s2 H2 => wipe s2 vs = wipe σ vs ∧ tt s2 H2 fun b H3 =>
        if b = true then tk s2 H3 fun y H4 => tv s2 H4 fun z H5 => ∃ ms k, y = kV k ∧ H5 D = some (.dK ms) ∧ ms.length < sizeLine ∧ Nx (upd H5 D (.dK (putK ms k z))) else Nx H3) := by
  refine ⟨fun i m H => i + m = xs.length ∧ Pv i H, ⟨xs.length, by omega, h0⟩, ?_⟩
  rintro i m H ⟨em, p⟩
  have q := hl i H (by omega) p
  by_cases hlt : i < xs.length
  · refine .inr ⟨⟨xs, _, q, List.getElem?_eq_getElem hlt⟩, Pv (i + 1), fun H' p' => ⟨m - 1, by omega, by omega, p'⟩, fun x H' y => ?_⟩
    obtain ⟨e, y⟩ := y
    subst e
    exact hs i x _ (y xs q) p
  · have e : i = xs.length := by omega
    subst e
    exact .inl ⟨⟨xs, q, Nat.le_refl _⟩, hd H p⟩
end Dk
namespace Dk
open PySem L2
/-! ### a house as an object -/
def hf (n b v : Addr) : List (Str × V) := [(("names" : Str), V.ref n), (("behind" : Str), V.ref b), (("views" : Str), V.ref v)]
theorem nb_ : ¬ (("names" : Str) = "behind") := by decide +kernel
theorem nv_ : ¬ (("names" : Str) = "views") := by decide +kernel
theorem bv_ : ¬ (("behind" : Str) = "views") := by decide +kernel
theorem put_b (n b : Addr) : putF ("behind" : Str) (V.ref b) [(("names" : Str), V.ref n)] = [(("names" : Str), V.ref n), (("behind" : Str), V.ref b)] := by
  show (if ("names" : Str) = "behind" then _ else (("names" : Str), V.ref n) :: putF ("behind" : Str) (V.ref b) []) = _
  rw [if_neg nb_]
  rfl
theorem put_v (n b v : Addr) : putF ("views" : Str) (V.ref v) [(("names" : Str), V.ref n), (("behind" : Str), V.ref b)] = hf n b v := by
  show (if ("names" : Str) = "views" then _ else (("names" : Str), V.ref n) :: (if ("behind" : Str) = "views" then _ else (("behind" : Str), V.ref b) :: putF ("views" : Str) (V.ref v) [])) = _
  rw [if_neg nv_, if_neg bv_]
  rfl
theorem hf_n (n b v : Addr) : (hf n b v).lookup ("names" : Str) = some (V.ref n) := by
  rw [← put_v, lookup_putF, if_neg nv_, ← put_b, lookup_putF, if_neg nb_]
  exact List.lookup_cons_self
theorem hf_b (n b v : Addr) : (hf n b v).lookup ("behind" : Str) = some (V.ref b) := by
  rw [← put_v, lookup_putF, if_neg bv_, ← put_b, lookup_putF, if_pos rfl]
theorem hf_v (n b v : Addr) : (hf n b v).lookup ("views" : Str) = some (V.ref v) := by
  rw [← put_v, lookup_putF, if_pos rfl]
theorem one_no (n : Addr) {m : Str} (h1 : ¬ m = "names") : ([(("names" : Str), V.ref n)] : List (Str × V)).lookup m = none := by
  have e : putF ("names" : Str) (V.ref n) [] = [(("names" : Str), V.ref n)] := rfl
  rw [← e, lookup_putF, if_neg h1]
  rfl
theorem hf_no (n b v : Addr) {m : Str} (h1 : ¬ m = "names") (h2 : ¬ m = "behind") (h3 : ¬ m = "views") : (hf n b v).lookup m = none := by
  rw [← put_v, lookup_putF, if_neg h3, ← put_b, lookup_putF, if_neg h2]
  have e : putF ("names" : Str) (V.ref n) [] = [(("names" : Str), V.ref n)] := rfl
  rw [← e, lookup_putF, if_neg h1]
  rfl
/-- a whole house: its rooms, what is behind the doors of each, what each sees -/
def HouseAt (C : Addr) (H : Hp) (h : Addr) (zs : List Str) (bh vw : Str → List Str) : Prop :=
  ∃ dx n b v : Addr, H h = some (.ins C dx (hf n b v)) ∧ H n = some (.lst (zs.map V.str)) ∧ LinkAt H b zs bh ∧ LinkAt H v zs vw ∧ Names zs ∧ zs.length ≤ 8
theorem HouseAt.same {C : Addr} {H H' : Hp} {h : Addr} {zs : List Str} {bh vw : Str → List Str} (x : HouseAt C H h zs bh vw) (e : Same H H') : HouseAt C H' h zs bh vw := by
  obtain ⟨dx, n, b, v, h1, h2, h3, h4, h5⟩ := x
  exact ⟨dx, n, b, v, e _ _ h1, e _ _ h2, h3.same e, h4.same e, h5⟩
def swp (ps : List SS) : List SS := ps.map fun p => (p.2, p.1)
def both (ds : List SS) : List SS := ds ++ swp ds
def spInit (K : PySem.W.Frag) (C : Addr) : Sp := fun vs H Q _ => ∃ (H0 : Hp) (x dx r d s : Addr) (zs : List Str) (xs us : List V) (ds ss : List SS), vs = [.ref x, .ref r, .ref d, .ref s] ∧ Same H0 H ∧ H0 x = none ∧ H x = some (.ins C dx []) ∧
  Sq K H0 r (zs.map V.str) ∧ Names zs ∧ zs.length ≤ 8 ∧ Sq K H0 d xs ∧ PL H0 xs ds ∧ xs.length ≤ 400 ∧ (∀ ab ∈ ds, goodP zs ab) ∧ Sq K H0 s us ∧ PL H0 us ss ∧ us.length ≤ 400 ∧ (∀ ab ∈ ss, goodP zs ab) ∧
  ∀ H', Same H0 H' → HouseAt C (newPart H0 H') x zs (lnk zs (both ds)) (lnk zs ss) → Q .non H'
theorem LinkAt.put {H : Hp} {d x : Addr} {o : HO} {zs : List Str} {f : Str → List Str} (h : LinkAt H d zs f) {C dx : Addr} {fs : List (Str × V)} (hx : H x = some (.ins C dx fs)) : LinkAt (upd H x o) d zs f := by
  obtain ⟨as, h1, h2, h3⟩ := h
  refine ⟨as, h1, ?_, fun i z p a b => ?_⟩
  · rw [upd_ne (fun e => by rw [e, hx] at h2; cases h2)]
    exact h2
  · have h4 := h3 i z p a b
    rw [upd_ne (fun e => by rw [e, hx] at h4; cases h4)]
    exact h4
theorem KeepT.ins {H : Hp} {p C dx : Addr} {o : HO} {fs : List (Str × V)} (h : H p = some (.ins C dx fs)) : KeepT H (upd H p o) := fun t ys e => by
  have n : t ≠ p := fun z => by
    rw [z, h] at e
    cases e
  rw [upd_ne n]
  exact e
theorem swp_len (ps : List SS) : (swp ps).length = ps.length := by
  unfold swp
  rw [List.length_map]
end Dk
namespace Dk
open PySem L2
/-! ### comprehensions, any body -/
theorem it_any {J : It} {n : Nat} {G : Hp → Prop} {Y : Nat → Hp → V → Hp → Prop} (w : Walk J n G Y) {B : V → Hp → (Hp → Prop) → Prop} {Qd : Hp → Prop} {Hs : Hp} (Pv : Nat → Hp → Prop) (h0 : Pv 0 Hs) (hG : ∀ i H, i ≤ n → Pv i H → G H)
    (hs : ∀ i x H H', i < n → Pv i H → Y i H x H' → B x H' (Pv (i + 1))) (hd : ∀ H, Pv n H → Qd H) :
    ∃ W : Nat → Nat → Hp → Prop, (∃ m, W 0 m Hs) ∧ ∀ i m H, W i m H → (J.stop i H ∧ Qd H) ∨ (J.go i H ∧ ∃ Nx : Hp → Prop, (∀ H', Nx H' → ∃ m', m' < m ∧ W (i + 1) m' H') ∧ ∀ x H', J.yld i H x H' → B x H' Nx) := by
  refine ⟨fun i m H => i + m = n ∧ Pv i H, ⟨n, by omega, h0⟩, ?_⟩
  rintro i m H ⟨em, p⟩
  have q := hG i H (by omega) p
  by_cases hlt : i < n
  · exact .inr ⟨w.goes i H hlt q, Pv (i + 1), fun H' p' => ⟨m - 1, by omega, by omega, p'⟩, fun x H' y => hs i x H H' hlt p (w.yields i H x H' hlt q y)⟩
  · have e : i = n := by omega
    subst e
    exact .inl ⟨w.stops H q, hd H p⟩
/-! ### what a house tells -/
def dAt (zs : List Str) (bh : Str → List Str) (i : Nat) : List SS := match zs[i]? with
  | some a => ((zs.drop (i + 1)).filter fun b => decide (b ∈ bh a)).map fun b => (a, b)
  | none => []
def dUp (zs : List Str) (bh : Str → List Str) (n : Nat) : List SS := ((List.range n).map (dAt zs bh)).flatten
theorem dUp_succ (zs : List Str) (bh : Str → List Str) (n : Nat) : dUp zs bh (n + 1) = dUp zs bh n ++ dAt zs bh n := by
  unfold dUp
  rw [List.range_succ, List.map_append, List.flatten_append]
  simp
def sAt (zs : List Str) (vw : Str → List Str) (i : Nat) : List SS := match zs[i]? with
  | some a => (vw a).map fun b => (a, b)
  | none => []
def sUp (zs : List Str) (vw : Str → List Str) (n : Nat) : List SS := ((List.range n).map (sAt zs vw)).flatten
theorem sUp_succ (zs : List Str) (vw : Str → List Str) (n : Nat) : sUp zs vw (n + 1) = sUp zs vw n ++ sAt zs vw n := by
  unfold sUp
  rw [List.range_succ, List.map_append, List.flatten_append]
  simp
theorem dAt_some {zs : List Str} {bh : Str → List Str} {i : Nat} {a : Str} (e : zs[i]? = some a) : dAt zs bh i = ((zs.drop (i + 1)).filter fun b => decide (b ∈ bh a)).map fun b => (a, b) := by
  unfold dAt
  rw [e]
theorem sAt_some {zs : List Str} {vw : Str → List Str} {i : Nat} {a : Str} (e : zs[i]? = some a) : sAt zs vw i = (vw a).map fun b => (a, b) := by
  unfold sAt
  rw [e]
theorem dAt_len (zs : List Str) (bh : Str → List Str) (i : Nat) : (dAt zs bh i).length ≤ zs.length := by
  unfold dAt
  split
  · rw [List.length_map]
    refine Nat.le_trans (List.length_filter_le _ _) ?_
    rw [List.length_drop]
    omega
  · exact Nat.zero_le _
theorem dUp_len (zs : List Str) (bh : Str → List Str) : ∀ n : Nat, (dUp zs bh n).length ≤ n * zs.length
  | 0 => Nat.zero_le _
  | n + 1 => by
    rw [dUp_succ, List.length_append, Nat.succ_mul]
    have := dUp_len zs bh n
    have := dAt_len zs bh n
    omega
theorem sAt_len {zs : List Str} {vw : Str → List Str} (h : ∀ a, (vw a).length ≤ zs.length) (i : Nat) : (sAt zs vw i).length ≤ zs.length := by
  unfold sAt
  split
  · rw [List.length_map]
    exact h _
  · exact Nat.zero_le _
theorem sUp_len {zs : List Str} {vw : Str → List Str} (h : ∀ a, (vw a).length ≤ zs.length) : ∀ n : Nat, (sUp zs vw n).length ≤ n * zs.length
  | 0 => Nat.zero_le _
  | n + 1 => by
    rw [sUp_succ, List.length_append, Nat.succ_mul]
    have := sUp_len h n
    have := sAt_len h n
    omega
def dAll (zs : List Str) (bh : Str → List Str) : List SS := dUp zs bh zs.length
def sAll (zs : List Str) (vw : Str → List Str) : List SS := sUp zs vw zs.length
/-- a house whose lists are no longer than its rooms -/
def Hs (C : Addr) (H : Hp) (h : Addr) (zs : List Str) (bh vw : Str → List Str) : Prop := HouseAt C H h zs bh vw ∧ (∀ a, (bh a).length ≤ zs.length) ∧ (∀ a, (vw a).length ≤ zs.length) ∧ ∀ a b, b ∈ vw a → b ∈ zs
theorem Hs.same {C : Addr} {H H' : Hp} {h : Addr} {zs : List Str} {bh vw : Str → List Str} (x : Hs C H h zs bh vw) (e : Same H H') : Hs C H' h zs bh vw := ⟨x.1.same e, x.2⟩
def spRooms (C : Addr) : Sp := fun vs H Q _ => ∃ (h : Addr) (zs : List Str) (bh vw : Str → List Str), vs = [.ref h] ∧ Hs C H h zs bh vw ∧ ∀ (H' : Hp) (p : Addr), Same H H' → H p = none → H' p = some (.lst (zs.map V.str)) → Q (.ref p) H'
def spDoors (C : Addr) : Sp := fun vs H Q _ => ∃ (h : Addr) (zs : List Str) (bh vw : Str → List Str), vs = [.ref h] ∧ Hs C H h zs bh vw ∧ ∀ (H' : Hp) (p : Addr) (ys : List V), Same H H' → H p = none → H' p = some (.lst ys) → PL H' ys (dAll zs bh) → Q (.ref p) H'
def spSights (C : Addr) : Sp := fun vs H Q _ => ∃ (h : Addr) (zs : List Str) (bh vw : Str → List Str), vs = [.ref h] ∧ Hs C H h zs bh vw ∧ ∀ (H' : Hp) (p : Addr) (ys : List V), Same H H' → H p = none → H' p = some (.lst ys) → PL H' ys (sAll zs vw) → Q (.ref p) H'
def spLen (C : Addr) : Sp := fun vs H Q _ => ∃ (h : Addr) (zs : List Str) (bh vw : Str → List Str), vs = [.ref h] ∧ Hs C H h zs bh vw ∧ Q (.int (zs.length : Nat)) H
theorem cut_from {zs : List Str} (i : Nat) : cutV (zs.map V.str) (some ((i : Nat) : Int)) none = (zs.drop i).map V.str := by
  unfold cutV
  rw [show HT.sIx (zs.map V.str).length 0 (some ((i : Nat) : Int)) = min i (zs.map V.str).length from HT.sIx_nat _ 0 i, HT.sIx_none, List.length_map]
  by_cases h : i ≤ zs.length
  · rw [Nat.min_eq_left h, List.take_of_length_le (by rw [List.length_drop, List.length_map]; omega), List.map_drop]
  · rw [Nat.min_eq_right (by omega), List.drop_of_length_le (by rw [List.length_map]; omega), List.drop_of_length_le (by omega)]
    simp
theorem filter_take {zs : List Str} {f : Str → Bool} {b : Str} {i : Nat} (e : zs[i]? = some b) : (zs.take (i + 1)).filter f = (zs.take i).filter f ++ (if f b = true then [b] else []) := by
  rw [List.take_add_one, e, List.filter_append]
  congr 1
  cases h : f b with
  | true =>
    rw [if_pos rfl]
    show List.filter f [b] = _
    simp [h]
  | false =>
    rw [if_neg (by decide)]
    show List.filter f [b] = _
    simp [h]
end Dk
namespace Dk
open PySem L2
/-! ### equal houses -/
theorem eq_strs {K : PySem.W.Frag} {H : Hp} : ∀ zs : List Str, Paired (EqV K H 1) (zs.map V.str) (zs.map V.str)
  | [] => .nil
  | z :: r => .cons (.inl ⟨rfl, rfl⟩) (eq_strs r)
theorem eq_lists {K : PySem.W.Frag} {H : Hp} {p q : Addr} {zs : List Str} (h1 : H p = some (.lst (zs.map V.str))) (h2 : H q = some (.lst (zs.map V.str))) : EqR K H (EqV K H 1) (.ref p) (.ref q) :=
  .inl ⟨p, q, _, _, rfl, rfl, SqL.of h1, SqL.of h2, eq_strs zs⟩
theorem eq_links {K : PySem.W.Frag} {H : Hp} {d e : Addr} {zs : List Str} {f : Str → List Str} (nd : zs.Nodup) (h1 : LinkAt H d zs f) (h2 : LinkAt H e zs f) : EqR K H (EqV K H 2) (.ref d) (.ref e) := by
  obtain ⟨as, a1, a2, a3⟩ := h1
  obtain ⟨bs, b1, b2, b3⟩ := h2
  refine .inr ⟨d, e, _, _, rfl, rfl, a2, b2, by rw [kvs_len _ _ a1, kvs_len _ _ b1], fun p hp => ?_⟩
  unfold kvs at hp
  obtain ⟨⟨z, q⟩, hq, rfl⟩ := List.mem_map.mp hp
  obtain ⟨i, hi, ei⟩ := List.getElem_of_mem hq
  rw [List.length_zip] at hi
  rw [List.getElem_zip] at ei
  have ez : zs[i]? = some z := by
    rw [List.getElem?_eq_getElem (by omega)]
    exact congrArg some (Prod.mk.inj ei).1
  have eq' : as[i]? = some q := by
    rw [List.getElem?_eq_getElem (by omega)]
    exact congrArg some (Prod.mk.inj ei).2
  have eb : bs[i]? = some bs[i] := List.getElem?_eq_getElem (by omega)
  exact ⟨_, kvs_some nd ez eb, .inr (.inr (eq_lists (a3 i z q ez eq') (b3 i z _ ez eb)))⟩
def EqH (C : Addr) (a b : Addr) (H : Hp) : Prop := ∃ (zs : List Str) (bh vw : Str → List Str), Hs C H a zs bh vw ∧ Hs C H b zs bh vw
/-! ### rows of text -/
def rowR (z : Str) : Str := Str.empty ++ Str.ofString "room " ++ z
def rowD (p : SS) : Str := Str.empty ++ Str.ofString "door " ++ p.1 ++ Str.ofString " " ++ p.2
def rowS (p : SS) : Str := Str.empty ++ Str.ofString "sight " ++ p.1 ++ Str.ofString " " ++ p.2
def rowsH (zs : List Str) (ds ss : List SS) : List Str := zs.map rowR ++ ds.map rowD ++ ss.map rowS
def textH (zs : List Str) (ds ss : List SS) : Str := Txt.join (Str.ofString "\n") (rowsH zs ds ss)
def inZ (zs : List Str) (p : SS) : Prop := p.1 ∈ zs ∧ p.2 ∈ zs
theorem len8 {zs : List Str} (h : Names zs) {z : Str} (hz : z ∈ zs) : z.length ≤ 8 := by
  have := h.2 z hz
  unfold isNm at this
  rw [Bool.and_eq_true] at this
  exact (of_decide_eq_true this.1).2
theorem mem_flat {α : Type} {f : Nat → List α} {n : Nat} {x : α} (h : x ∈ ((List.range n).map f).flatten) : ∃ i, i < n ∧ x ∈ f i := by
  obtain ⟨l, hl, hx⟩ := List.mem_flatten.mp h
  obtain ⟨i, hi, rfl⟩ := List.mem_map.mp hl
  exact ⟨i, List.mem_range.mp hi, hx⟩
theorem dAll_in {zs : List Str} {bh : Str → List Str} {p : SS} (h : p ∈ dAll zs bh) : inZ zs p := by
  obtain ⟨i, hi, hp⟩ := mem_flat h
  rw [dAt_some (List.getElem?_eq_getElem hi)] at hp
  obtain ⟨b, hb, rfl⟩ := List.mem_map.mp hp
  exact ⟨List.getElem_mem hi, List.mem_of_mem_drop ((List.mem_filter.mp hb).1)⟩
theorem sAll_in {zs : List Str} {vw : Str → List Str} (hv : ∀ a b, b ∈ vw a → b ∈ zs) {p : SS} (h : p ∈ sAll zs vw) : inZ zs p := by
  obtain ⟨i, hi, hp⟩ := mem_flat h
  rw [sAt_some (List.getElem?_eq_getElem hi)] at hp
  obtain ⟨b, hb, rfl⟩ := List.mem_map.mp hp
  exact ⟨List.getElem_mem hi, hv _ _ hb⟩
theorem rowR_len {zs : List Str} (h : Names zs) {z : Str} (hz : z ∈ zs) : (rowR z).length ≤ 40 := by
  unfold rowR
  rw [Str.length_append, Str.length_append]
  have := len8 h hz
  have e1 : Str.empty.length = 0 := rfl
  have e2 : (Str.ofString "room ").length = 5 := by decide +kernel
  omega
theorem rowD_len {zs : List Str} (h : Names zs) {p : SS} (hp : inZ zs p) : (rowD p).length ≤ 40 := by
  unfold rowD
  rw [Str.length_append, Str.length_append, Str.length_append, Str.length_append]
  have := len8 h hp.1
  have := len8 h hp.2
  have e1 : Str.empty.length = 0 := rfl
  have e2 : (Str.ofString "door ").length = 5 := by decide +kernel
  have e3 : (Str.ofString " ").length = 1 := by decide +kernel
  omega
theorem rowS_len {zs : List Str} (h : Names zs) {p : SS} (hp : inZ zs p) : (rowS p).length ≤ 40 := by
  unfold rowS
  rw [Str.length_append, Str.length_append, Str.length_append, Str.length_append]
  have := len8 h hp.1
  have := len8 h hp.2
  have e1 : Str.empty.length = 0 := rfl
  have e2 : (Str.ofString "sight ").length = 6 := by decide +kernel
  have e3 : (Str.ofString " ").length = 1 := by decide +kernel
  omega
theorem sum_le : ∀ {ys : List Str}, (∀ y ∈ ys, y.length ≤ 40) → (ys.map (·.length)).sum ≤ ys.length * 40
  | [], _ => Nat.zero_le _
  | y :: r, h => by
    have h1 := sum_le (ys := r) fun x hx => h x (List.mem_cons_of_mem _ hx)
    have h2 := h y List.mem_cons_self
    simp only [List.map_cons, List.sum_cons, List.length_cons]
    omega
theorem rowsH_ok {zs : List Str} {ds ss : List SS} (h : Names zs) (hd : ∀ p ∈ ds, inZ zs p) (hs : ∀ p ∈ ss, inZ zs p) : ∀ y ∈ rowsH zs ds ss, y.length ≤ 40 := by
  intro y hy
  unfold rowsH at hy
  rcases List.mem_append.mp hy with hy | hy
  · rcases List.mem_append.mp hy with hy | hy
    · obtain ⟨z, hz, rfl⟩ := List.mem_map.mp hy
      exact rowR_len h hz
    · obtain ⟨p, hp, rfl⟩ := List.mem_map.mp hy
      exact rowD_len h (hd p hp)
  · obtain ⟨p, hp, rfl⟩ := List.mem_map.mp hy
    exact rowS_len h (hs p hp)
def spStr (C : Addr) : Sp := fun vs H Q _ => ∃ (h : Addr) (zs : List Str) (bh vw : Str → List Str), vs = [.ref h] ∧ Hs C H h zs bh vw ∧ ∀ H', Same H H' → Q (.str (textH zs (dAll zs bh) (sAll zs vw))) H'
def num (n : Nat) : Str := Str.ofString (toString ((n : Nat) : Int))
def reprH (a b c : Nat) : Str := Str.empty ++ Str.ofString "House(" ++ num a ++ Str.ofString " rooms, " ++ num b ++ Str.ofString " doors, " ++ num c ++ Str.ofString " sights)"
def spRepr (C : Addr) : Sp := fun vs H Q _ => ∃ (h : Addr) (zs : List Str) (bh vw : Str → List Str), vs = [.ref h] ∧ Hs C H h zs bh vw ∧ ∀ H', Same H H' → Q (.str (reprH zs.length (dAll zs bh).length (sAll zs vw).length)) H'
end Dk
namespace Dk
open PySem L2
/-! ### the law's own house: three lists in a tuple -/
def LHouse (H : Hp) (t : Addr) (zs : List Str) (ds ss : List SS) : Prop :=
  ∃ (r d s : Addr) (xs us : List V), H t = some (.tup [.ref r, .ref d, .ref s]) ∧ H r = some (.lst (zs.map V.str)) ∧ H d = some (.lst xs) ∧ PL H xs ds ∧ H s = some (.lst us) ∧ PL H us ss
theorem LHouse.same {H H' : Hp} {t : Addr} {zs : List Str} {ds ss : List SS} (h : LHouse H t zs ds ss) (e : Same H H') : LHouse H' t zs ds ss := by
  obtain ⟨r, d, s, xs, us, h1, h2, h3, h4, h5, h6⟩ := h
  exact ⟨r, d, s, xs, us, e _ _ h1, e _ _ h2, e _ _ h3, h4.same e, e _ _ h5, h6.same e⟩
/-- what such a house keeps to -/
structure Good (zs : List Str) (ds ss : List SS) : Prop where
  names : Names zs
  one : 1 ≤ zs.length
  eight : zs.length ≤ 8
  dg : ∀ p ∈ ds, goodP zs p
  sg : ∀ p ∈ ss, goodP zs p
  dl : ds.length ≤ 64
  sl : ss.length ≤ 64
  sn : ss.Nodup
  ln : ∀ z ∈ zs, LenOk z
theorem both_iff (ds : List SS) (a b : Str) : (a, b) ∈ both ds ↔ (a, b) ∈ ds ∨ (b, a) ∈ ds := by
  unfold both swp
  rw [List.mem_append, List.mem_map]
  constructor
  · rintro (h | ⟨p, hp, e⟩)
    · exact .inl h
    · obtain ⟨c, d⟩ := p
      have e1 := (Prod.mk.inj e).1
      have e2 := (Prod.mk.inj e).2
      simp only at e1 e2
      subst e1
      subst e2
      exact .inr hp
  · rintro (h | h)
    · exact .inl h
    · exact .inr ⟨(b, a), h, rfl⟩
theorem filter_filter {zs : List Str} {p : Str → Bool} : zs.filter (fun b => decide (b ∈ zs.filter p)) = zs.filter p := by
  refine List.filter_congr fun b hb => ?_
  rw [Bool.eq_iff_iff, decide_eq_true_eq, List.mem_filter]
  exact ⟨fun h => h.2, fun h => ⟨hb, h⟩⟩
def spLawNear : Sp := fun vs H Q _ => ∃ (t : Addr) (zs : List Str) (ds ss : List SS) (z : Str), vs = [.ref t, .str z] ∧ LHouse H t zs ds ss ∧ Good zs ds ss ∧ z ∈ zs ∧ ∀ (H' : Hp) (p : Addr), Same H H' → H p = none → H' p = some (.lst ((lnk zs (both ds) z).map V.str)) → Q (.ref p) H'
def spLawSees : Sp := fun vs H Q _ => ∃ (t : Addr) (zs : List Str) (ds ss : List SS) (z : Str), vs = [.ref t, .str z] ∧ LHouse H t zs ds ss ∧ Good zs ds ss ∧ z ∈ zs ∧ ∀ (H' : Hp) (p : Addr), Same H H' → H p = none → H' p = some (.lst ((lnk zs ss z).map V.str)) → Q (.ref p) H'
/-- three lists told -/
def Told (H : Hp) (p : Addr) (zs : List Str) (ds ss : List SS) : Prop :=
  ∃ (r d s : Addr) (xs us : List V), H p = some (.lst [.ref r, .ref d, .ref s]) ∧ H r = some (.lst (zs.map V.str)) ∧ H d = some (.lst xs) ∧ PL H xs ds ∧ H s = some (.lst us) ∧ PL H us ss
theorem Told.same {H H' : Hp} {t : Addr} {zs : List Str} {ds ss : List SS} (h : Told H t zs ds ss) (e : Same H H') : Told H' t zs ds ss := by
  obtain ⟨r, d, s, xs, us, h1, h2, h3, h4, h5, h6⟩ := h
  exact ⟨r, d, s, xs, us, e _ _ h1, e _ _ h2, e _ _ h3, h4.same e, e _ _ h5, h6.same e⟩
def spToldHouse : Sp := fun vs H Q _ => ∃ (t : Addr) (zs : List Str) (ds ss : List SS), vs = [.ref t] ∧ LHouse H t zs ds ss ∧ Good zs ds ss ∧ ∀ (H' : Hp) (p : Addr), Same H H' → H p = none → Told H' p zs (dAll zs (lnk zs (both ds))) (sAll zs (lnk zs ss)) → Q (.ref p) H'
/-- none of its lists is the box -/
def LHouseN (b : Addr) (H : Hp) (t : Addr) (zs : List Str) (ds ss : List SS) : Prop :=
  ∃ (r d s : Addr) (xs us : List V), r ≠ b ∧ d ≠ b ∧ s ≠ b ∧ H t = some (.tup [.ref r, .ref d, .ref s]) ∧ H r = some (.lst (zs.map V.str)) ∧ H d = some (.lst xs) ∧ PL H xs ds ∧ H s = some (.lst us) ∧ PL H us ss
theorem LHouseN.of {b : Addr} {H : Hp} {t : Addr} {zs : List Str} {ds ss : List SS} (h : LHouseN b H t zs ds ss) : LHouse H t zs ds ss := by
  obtain ⟨r, d, s, xs, us, _, _, _, h1⟩ := h
  exact ⟨r, d, s, xs, us, h1⟩
def spLawHouse : Sp := fun vs H Q _ => ∃ (b l : Addr) (m : Int), vs = [.ref b, .int m] ∧ Box H b l ∧ 1 ≤ m ∧ m ≤ 8 ∧
  ∀ (H' : Hp) (t : Addr) (zs : List Str) (ds ss : List SS), Sav b H H' → Box H' b l → H t = none → LHouseN b H' t zs ds ss → Good zs ds ss → (zs.length : Int) ≤ m → Q (.ref t) H'
end Dk
namespace Dk
open PySem L2
theorem Sav.keepT {b l : Addr} {H H' : Hp} (v : Sav b H H') (hB : Box H b l) : KeepT H H' := fun t xs e => by
  refine v t _ (fun z => ?_) e
  obtain ⟨ns, i, c, s, t', h1, _⟩ := hB
  rw [z, h1] at e
  cases e
theorem at_str {zs : List Str} {i : Nat} {a : Str} (e : zs[i]? = some a) {k : Int} (hk : k = (i : Nat)) : atI (zs.map V.str) k = some (.str a) := by
  rw [hk]
  exact atI_nat (by rw [List.getElem?_map, e]; rfl)
theorem two_at {x y : V} {q : Int} (h0 : 0 ≤ q) (h1 : q < 2) : ∃ v, atI [x, y] q = some v ∧ (v = x ∨ v = y) := by
  have e : q = 0 ∨ q = 1 := by omega
  rcases e with rfl | rfl
  · exact ⟨x, atI_nat (j := 0) rfl, .inl rfl⟩
  · exact ⟨y, atI_nat (j := 1) rfl, .inr rfl⟩
theorem Sav.put {b : Addr} {H H' : Hp} {p : Addr} {o : HO} (v : Sav b H H') (n : H p = none) : Sav b H (L2.upd H' p o) := fun q x nq e => by
  rw [upd_ne (ne_of_none e n)]
  exact v q x nq e
theorem LHouseN.sav {b l : Addr} {H H' : Hp} {t : Addr} {zs : List Str} {ds ss : List SS} (h : LHouseN b H t zs ds ss) (hB : Box H b l) (v : Sav b H H') : LHouseN b H' t zs ds ss := by
  obtain ⟨r, d, s, xs, us, n1, n2, n3, h1, h2, h3, h4, h5, h6⟩ := h
  have kt := v.keepT hB
  exact ⟨r, d, s, xs, us, n1, n2, n3, kt _ _ h1, v _ _ n1 h2, v _ _ n2 h3, h4.keep kt, v _ _ n3 h5, h6.keep kt⟩
end Dk
namespace Dk
open PySem L2
theorem take_more {zs : List Str} {i : Nat} {z : Str} (h : z ∈ zs.take i) : z ∈ zs.take (i + 1) := by
  rw [List.take_add_one]
  exact List.mem_append.mpr (.inl h)
theorem nodup_snoc {α : Type} {l : List α} {x : α} (h : l.Nodup) (n : x ∉ l) : (l ++ [x]).Nodup := by
  refine List.nodup_append.mpr ⟨h, List.nodup_cons.mpr ⟨by simp, List.nodup_nil⟩, fun a ha b hb e => ?_⟩
  rw [List.mem_singleton.mp hb] at e
  rw [e] at ha
  exact n ha
end Dk
namespace Dk
open PySem L2
section
variable {X : Cx} {n : Nat} {f C : Addr} {fd : FuncData} {ps : List Str} {sp : Sp} {pins : List (Addr × Obj)} {σ : L2.St} {H : Hp} {s : Shared} {Q : VK}
/-- a def called somewhere below, with room -/
theorem call_in (F : FnOk X.prog X.w X.K X.mg X.base CX0 n f fd ps sp) (hb : Binds X.K fd ps []) {A : Around} (hr : Room n A) (hf : A.frames = X.A.frames) (I : Inv X pins σ H s) {vs : List V} {us : List Value} (r : Vals vs us) (h : sp vs H Q E0) :
    wpAny (model X.prog X.w) A (call (.ref f) us) (EP X pins σ Q) X.xe s := by
  have e0 : Env0 X.prog X.w X.K X.mg X.base A X.stack s H := by
    have e := I.env0
    exact ⟨by rw [hf]; exact e.frames, e.mod, e.bs, e.bsz, e.funs, e.frf, e.hok, e.bare⟩
  have hl := F.len _ _ _ _ h
  have hl2 : us.length = ps.length := by rw [← r.length]; exact hl
  refine wpAny_call (codeAny_mono (F.run A X.stack s H ⟨us, []⟩ us vs Q E0 hr e0 (by
    have := hb s us I.kIn (by simpa using hl2)
    simpa using this) r h) fun z s' hq => ?_)
  cases z with
  | error e => exact False.elim hq
  | ok fl =>
    cases fl with
    | ret u => exact I.after hq
    | next => exact False.elim hq
    | brk => exact False.elim hq
    | cont => exact False.elim hq
theorem frames_in1 (A : Around) : A.in1.frames = A.frames := rfl
/-- len(x), x of a class with a __len__ of its own -/
theorem call_lenO (F : FnOk X.prog X.w X.K X.mg X.base CX0 n f fd ps sp) (hb : Binds X.K fd ps []) (hr : Room (n + 1) X.A) (hs : PySem.W.findIn X.K (.ref C) "__len__" = some (some (.ref f))) (hf : PySem.W.isFn X.K (.ref f) = true) :
    CallR X (.builtin "len") (fun xs H Q => ∃ h dx fs, xs = [V.ref h] ∧ H h = some (.ins C dx fs) ∧ sp [V.ref h] H (fun v H' => ∃ m : Nat, v = .int m ∧ m < 2 ^ 62 ∧ Q (.int m) H') E0) := by
  intro pins s σ H xs us Q I r h
  obtain ⟨h, dx, fs, rfl, hh, q⟩ := h
  obtain ⟨u, rfl, ru⟩ := vals1 r
  cases ru
  obtain ⟨mA, J, _⟩ := ins_get I.hok hh
  obtain ⟨od, J, _⟩ := J.look
  obtain ⟨m, hF⟩ := I.fr
  refine PySem.W.len_K hF I.ok.mod.kin J hs hf (wpAny_mono (call_in F hb hr.in1 rfl I (vs := [V.ref h]) (.cons rfl .nil) q) (fun v s' z => ?_) fun _ _ e => e)
  obtain ⟨v', H', I', rv, m, rfl, hm, q'⟩ := z
  obtain ⟨t, rfl⟩ := rv
  exact ⟨⟨by omega, by omega⟩, .int m, H', I'.tok _, ⟨_, rfl⟩, q'⟩
theorem call_reprO (F : FnOk X.prog X.w X.K X.mg X.base CX0 n f fd ps sp) (hb : Binds X.K fd ps []) (hr : Room (n + 1) X.A) (hs : PySem.W.findIn X.K (.ref C) "__repr__" = some (some (.ref f))) (hf : PySem.W.isFn X.K (.ref f) = true) :
    CallR X (.builtin "repr") (fun xs H Q => ∃ h dx fs, xs = [V.ref h] ∧ H h = some (.ins C dx fs) ∧ sp [V.ref h] H (fun v H' => ∃ z : Str, v = .str z ∧ Q (.str z) H') E0) := by
  intro pins s σ H xs us Q I r h
  obtain ⟨h, dx, fs, rfl, hh, q⟩ := h
  obtain ⟨u, rfl, ru⟩ := vals1 r
  cases ru
  obtain ⟨mA, J, _⟩ := ins_get I.hok hh
  obtain ⟨od, J, _⟩ := J.look
  obtain ⟨m, hF⟩ := I.fr
  refine PySem.W.repr_K hr.in1.units0 hF I.ok.mod.kin J hs hf (wpAny_mono (call_in F hb hr.in1 rfl I (vs := [V.ref h]) (.cons rfl .nil) q) (fun v s' z => ?_) fun _ _ e => e)
  obtain ⟨v', H', I', rv, y, rfl, q'⟩ := z
  obtain ⟨t, rfl⟩ := rv
  exact ⟨.str y, H', I', ⟨_, rfl⟩, q'⟩
theorem call_strO (F : FnOk X.prog X.w X.K X.mg X.base CX0 n f fd ps sp) (hb : Binds X.K fd ps []) (hr : Room (n + 2) X.A) (hs : PySem.W.findIn X.K (.ref C) "__str__" = some (some (.ref f))) (hf : PySem.W.isFn X.K (.ref f) = true) :
    CallR X (.type "str") (fun xs H Q => ∃ h dx fs, xs = [V.ref h] ∧ H h = some (.ins C dx fs) ∧ sp [V.ref h] H (fun v H' => ∃ z : Str, v = .str z ∧ Q (.str z) H') E0) := by
  intro pins s σ H xs us Q I r h
  obtain ⟨h, dx, fs, rfl, hh, q⟩ := h
  obtain ⟨u, rfl, ru⟩ := vals1 r
  cases ru
  obtain ⟨mA, J, _⟩ := ins_get I.hok hh
  obtain ⟨od, J, _⟩ := J.look
  refine PySem.W.kso_call hr.in1.in1.units0 I.kIn J hs hf (wpAny_mono (call_in F hb hr.in1.in1 rfl I (vs := [V.ref h]) (.cons rfl .nil) q) (fun v s' z => ?_) fun _ _ e => e)
  obtain ⟨v', H', I', rv, y, rfl, q'⟩ := z
  obtain ⟨t, rfl⟩ := rv
  exact ⟨.str y, H', I', ⟨_, rfl⟩, q'⟩
end
end Dk
namespace Dk
open PySem L2
section
variable {prog : Program} {w : World} {A : Around} {E : Value → Shared → Prop} {s : Shared} {K : PySem.W.Frag} {x C f : Addr} {ox : Obj} {od : Option Obj}
/-- the body of len, of an instance with its own -/
theorem len_body {Q : Value → Shared → Prop} (X : K.In s.heap) (I : PySem.W.InstAt s.heap x ox C od) (hs : PySem.W.findIn K (.ref C) "__len__" = some (some (.ref f))) (hf : PySem.W.isFn K (.ref f) = true)
    (h : wpAny (model prog w) A (call (.ref f) [.ref x]) (PySem.W.LenBack Q) E s) : wpAny (model prog w) A (Builtin.«len» ⟨[.ref x], []⟩) (fun fin s' => ∃ v, fin = .done (.ret v) ∧ Q v s') E s := by
  unfold Builtin.«len»
  refine wpAny_bind (m := oneArg "len" _) (wpAny_pure ?_)
  have z := PySem.W.special_fn (args := []) (Q := fun r s' => ∃ v, r = some v ∧ PySem.W.LenBack Q v s') X I hs (beq_iff_eq.mp hf) (wpAny_mono h (fun r s' hr => ⟨r, rfl, hr⟩) fun _ _ y => y)
  refine wpAny_bind (m := callSpecial? (.ref x) (Str.ofString "__len__")) (wpAny_mono z (fun r s' hr => ?_) fun _ _ y => y)
  obtain ⟨v, rfl, hr⟩ := hr
  cases v with
  | int k u =>
    obtain ⟨⟨h0, h1⟩, hq⟩ := hr
    refine wpAny_bind (wpAny_holding (wpAny_pure ?_))
    refine wpAny_bind (wpAny_letGo ?_)
    show wpAny _ _ (if k < 0 then _ else _) _ _ s'
    rw [if_neg (show ¬ k < 0 by omega)]
    show wpAny _ _ (if k ≥ 2 ^ 63 then _ else _) _ _ s'
    rw [if_neg (show ¬ k ≥ 2 ^ 63 by omega)]
    exact wpAny_bind (wpAny_mkInt (wpAny_pure ⟨_, rfl, hq⟩))
  | _ => exact False.elim hr
/-- the truth of an instance by its own __len__ -/
theorem truth_len {Q : Bool → Shared → Prop} (X : K.In s.heap) (I : PySem.W.InstAt s.heap x ox C od) (hb : PySem.W.findIn K (.ref C) "__bool__" = some none) (hs : PySem.W.findIn K (.ref C) "__len__" = some (some (.ref f))) (hf : PySem.W.isFn K (.ref f) = true)
    (h : wpAny (model prog w) A.in1 (call (.ref f) [.ref x]) (PySem.W.LenBack fun v s' => ∃ k t, v = .int k t ∧ Q (k != 0) s') E s) : wpAny (model prog w) A (truthy (.ref x)) Q E s := by
  have key : wpAny (model prog w) A (runValue (.builtin "len" ⟨[.ref x], []⟩)) (fun v s' => ∃ k t, v = .int k t ∧ Q (k != 0) s') E s := by
    refine wpAny_runValue (codeAny_builtin entry_len ?_)
    rw [Around.under_plainId plain_len ⟨[.ref x], []⟩]
    refine wpAny_mono (len_body X I hs hf h) (fun fin s' hv => ?_) fun _ _ e => e
    obtain ⟨v, rfl, hv⟩ := hv
    exact hv
  unfold truthy
  refine wpAny_bind (m := callSpecial? (.ref x) (Str.ofString "__bool__")) (wpAny_bind (wpAny_bind (I.type.here ((PySem.W.looks_findIn X hb).here (wpAny_pure ?_)))))
  refine wpAny_bind (m := specialOf (.ref x) (Str.ofString "__len__")) (wpAny_bind (I.type.here ((PySem.W.looks_findIn X hs).here ?_)))
  refine wpAny_bind (wpAny_mono key (fun v s' hv => ?_) fun _ _ e => e)
  obtain ⟨k, t, rfl, hq⟩ := hv
  exact wpAny_pure hq
/-- bool(v), by the truth of v -/
theorem bool_call {v : Value} {Q : Value → Shared → Prop} (h : wpAny (model prog w) A.in1.in1 (truthy v) (fun b s' => Q (.bool b) s') E s) : wpAny (model prog w) A (call (.type "bool") [v]) Q E s := by
  refine callType_codes (T := "bool") (Bi := Builtin.«object.__init__») (Q₁ := fun r s₁ => ∃ b, r = .bool b ∧ Q r s₁) PySem.F.called_bool (PySem.F.typeCall_bool_1 _) PySem.F.entry_object_init ?_ ?_
  · refine codeAny_of_tree ?_
    show wpAny _ A.in1.in1 (do checkBuiltinCall "bool.__new__" ⟨[.type "bool", v], []⟩; again (.builtin "bool.__new__" ⟨[.type "bool", v], []⟩)) _ _ s
    refine wpAny_bind (wpAny_of_eq (PySem.F.newCall_bool_1 v) (wpAny_pure ⟨plainId_quiet (by decide +kernel) _, codeAny_builtin PySem.F.entry_bool_new ?_⟩))
    rw [Around.under_plainId (by decide +kernel) _]
    have f1 := F.conv_sub_bool
    have fin : wpAny (model prog w) A.in1.in1 (truthy v) (fun b s' => wants (fun r s₁ => ∃ b, r = .bool b ∧ Q r s₁) E (.ok (.ret (.bool b))) s') (fun e s' => wants (fun r s₁ => ∃ b, r = .bool b ∧ Q r s₁) E (.error e) s') s := wpAny_mono h (fun b s' hq => ⟨b, rfl, hq⟩) fun _ _ e => e
    repeat (any_goals (first | assumption | (with_reducible refine wpAny_mono fin (fun b s' hq => ?_) (fun _ _ e => e)) | wp_step))
  · rintro obj s₁ ⟨b, rfl, hq⟩
    exact ⟨typeIs_bool _ _, PySem.F.args_object_init_2 _ _, object_init_meets PySem.F.called_bool.init.lookup PySem.F.called_bool.made (by decide) prog w A.in1 _ s₁ ⟨typeIs_bool _ _, rfl, hq⟩⟩
end
end Dk
namespace Dk
open PySem L2
section
variable {prog : Program} {w : World} {A : Around} {E : Value → Shared → Prop} {s : Shared} {K : PySem.W.Frag} {x y C f : Addr} {ox : Obj} {od : Option Obj}
/-- x != y where the class has its own __eq__ and object's __ne__ -/
theorem ne_own {Q : Value → Shared → Prop} (hu : A.units + 1 < cLine) (X : K.In s.heap) (I : PySem.W.InstAt s.heap x ox C od) (J : PySem.W.Looks (model prog w) s.heap (typeOf (.ref y)) (.ref C)) (hm : PySem.W.mroIn K C (.type "object") = some true)
    (hn : PySem.W.findIn K (.ref C) "__ne__" = some (some (.builtin "object.__ne__"))) (hs : PySem.W.findIn K (.ref C) "__eq__" = some (some (.ref f))) (hf : PySem.W.isFn K (.ref f) = true)
    (h : wpAny (model prog w) A.in1 (call (.ref f) [.ref x, .ref y]) (fun v s' => ∃ b, v = .bool b ∧ Q (.bool (!b)) s') E s) : wpAny (model prog w) A (compareOp .NotEq (.ref x) (.ref y)) Q E s := by
  have body : wpAny (model prog w) A (call (.builtin "object.__ne__") [.ref x, .ref y]) (fun v s' => ∃ b, v = .bool b ∧ Q v s') E s := by
    refine wpAny_call (codeAny_call_builtin (PySem.F.cmp_object).ne.plain PySem.F.cmpEntry_ne (PySem.W.check_slot (i := "object.__ne__") (owner := "object") (n := "__ne__") (by decide +kernel) (by decide +kernel) (I.type.andThen (PySem.W.looks_mroIn X hm)) (PySem.F.cmpArgs_ne _ _) ?_))
    unfold Builtin.«object.__ne__»
    refine wpAny_bind (m := slotArgs "__ne__" 1 _) (wpAny_pure ?_)
    refine wpAny_bind (m := cRoomFor _ _) (wpAny_cRoomFor hu ?_)
    refine wpAny_bind (m := callSpecialIfBound? (.ref x) (Str.ofString "__eq__") [.ref y]) (PySem.W.ifBound_K X I hs hf (wpAny_mono h (fun v s' hv => ?_) fun _ _ e => e))
    obtain ⟨b, rfl, hq⟩ := hv
    refine wpAny_bind (wpAny_truthy_bool ?_)
    exact wpAny_pure ⟨_, rfl, hq⟩
  have one : wpAny (model prog w) A (tryCompare (.ref x) "__ne__" (.ref y)) (fun r s' => ∃ b, r = some (.bool b) ∧ Q (.bool b) s') E s := by
    unfold tryCompare
    refine wpAny_bind (m := callSpecialIfBound? (.ref x) (Str.ofString "__ne__") [.ref y]) ?_
    simp only [callSpecialIfBound?, bindSpecialIfBound?]
    refine wpAny_holding (wpAny_bind (wpAny_bind (wpAny_bind (I.type.here ((PySem.W.looks_findIn X hn).here ?_)))))
    simp only [(PySem.F.cmp_object).ne.bind]
    refine wpAny_bind (wpAny_askSetting (wpAny_ite ?_))
    have fin : wpAny (model prog w) A (call (.builtin "object.__ne__") ([.ref x] ++ [.ref y]) >>= fun v => pure (some v)) (fun a s' => wpAny (model prog w) A (match a with
        | some Value.notImplemented => pure none
        | none => pure none
        | some r => pure (some r)) (fun r s' => ∃ b, r = some (.bool b) ∧ Q (.bool b) s') E s') E s := by
      refine wpAny_bind (wpAny_mono body (fun v s' hv => ?_) fun _ _ e => e)
      obtain ⟨b, rfl, hq⟩ := hv
      exact wpAny_pure (wpAny_pure ⟨b, rfl, hq⟩)
    split
    · exact wpAny_bind (wpAny_pure (wpAny_pure fin))
    · exact wpAny_tryCatch (wpAny_bind (wpAny_pure (wpAny_pure fin)))
  unfold compareOp richCompare
  simp only [oneThing_ref]
  refine wpAny_holding (wpAny_bind (wpAny_cRoomFor (Nat.lt_of_succ_lt hu) ?_))
  refine wpAny_bind (I.type.here (wpAny_bind (J.here ?_)))
  rw [show (Value.ref C != Value.ref C) = false from by simp]
  simp only [Bool.false_eq_true, if_false]
  refine wpAny_bind (wpAny_pure ?_)
  simp only [Bool.false_eq_true, if_false]
  refine wpAny_bind (wpAny_mono one (fun r s' z => ?_) fun _ _ e => e)
  obtain ⟨b, rfl, hq⟩ := z
  exact wpAny_pure hq
end
section
variable {X : Cx} {n : Nat} {f C : Addr} {fd : FuncData} {ps : List Str} {sp : Sp}
theorem op_neO (F : FnOk X.prog X.w X.K X.mg X.base CX0 n f fd ps sp) (hb : Binds X.K fd ps []) (hr : Room (n + 1) X.A) (hs : PySem.W.findIn X.K (.ref C) "__eq__" = some (some (.ref f))) (hf : PySem.W.isFn X.K (.ref f) = true)
    (hm : PySem.W.mroIn X.K C (.type "object") = some true) (hn : PySem.W.findIn X.K (.ref C) "__ne__" = some (some (.builtin "object.__ne__"))) :
    OpR X (compareOp .NotEq) (fun x y H Q => ∃ a b dx dy fs gs, x = V.ref a ∧ y = V.ref b ∧ H a = some (.ins C dx fs) ∧ H b = some (.ins C dy gs) ∧ sp [V.ref a, V.ref b] H (fun v H' => ∃ k, v = .bl k ∧ Q (.bl (!k)) H') E0) := by
  intro pins s σ H x y v u Q I rx ry h
  obtain ⟨a, b, dx, dy, fs, gs, rfl, rfl, ha, hb', q⟩ := h
  cases rx
  cases ry
  obtain ⟨mA, J, _⟩ := ins_get I.hok ha
  obtain ⟨mB, J', _⟩ := ins_get I.hok hb'
  obtain ⟨od, J, _⟩ := J.look
  obtain ⟨od', J', _⟩ := J'.look
  have hu : X.A.units + 1 < cLine := by
    have := hr.un
    omega
  refine ne_own hu I.kIn J J'.type hm hn hs hf (wpAny_mono (call_in F hb hr.in1 rfl I (vs := [V.ref a, V.ref b]) (.cons rfl (.cons rfl .nil)) q) (fun v s' z => ?_) fun _ _ e => e)
  obtain ⟨v', H', I', rv, k, rfl, q'⟩ := z
  cases rv
  exact ⟨k, rfl, .bl (!k), H', I', rfl, q'⟩
theorem call_boolO (F : FnOk X.prog X.w X.K X.mg X.base CX0 n f fd ps sp) (hb : Binds X.K fd ps []) (hr : Room (n + 3) X.A) (h0 : PySem.W.findIn X.K (.ref C) "__bool__" = some none) (hs : PySem.W.findIn X.K (.ref C) "__len__" = some (some (.ref f))) (hf : PySem.W.isFn X.K (.ref f) = true) :
    CallR X (.type "bool") (fun xs H Q => ∃ h dx fs, xs = [V.ref h] ∧ H h = some (.ins C dx fs) ∧ sp [V.ref h] H (fun v H' => ∃ m : Nat, v = .int m ∧ m < 2 ^ 62 ∧ Q (.bl ((m : Int) != 0)) H') E0) := by
  intro pins s σ H xs us Q I r h
  obtain ⟨h, dx, fs, rfl, hh, q⟩ := h
  obtain ⟨u, rfl, ru⟩ := vals1 r
  cases ru
  obtain ⟨mA, J, _⟩ := ins_get I.hok hh
  obtain ⟨od, J, _⟩ := J.look
  refine bool_call (truth_len I.kIn J h0 hs hf (wpAny_mono (call_in F hb hr.in1.in1.in1 rfl I (vs := [V.ref h]) (.cons rfl .nil) q) (fun v s' z => ?_) fun _ _ e => e))
  obtain ⟨v', H', I', rv, m, rfl, hm, q'⟩ := z
  obtain ⟨t, rfl⟩ := rv
  exact ⟨⟨by omega, by omega⟩, _, _, rfl, .bl _, H', I'.tok _, rfl, q'⟩
end
end Dk
namespace Dk
open PySem L2 PySem.Spec PyProof.Rows
section
variable {prog : Program} {w : World} {A : Around} {E : Value → Shared → Prop} {s : Shared}
theorem applied_back {sl : Addr} {vl vu vs : Value} {Q : Int × Int × Nat → Shared → Prop} (hs : s.heap.IsSliceOf sl vl vu vs) (pl : IsPart vl none) (pu : IsPart vu none) (ps : IsPart vs (some (-1)))
    (h : Q (1, -1, 2) s) : wpAny (model prog w) A (Builtin.Slice.sliceApplied (.ref sl) (pure ((2 : Nat) : Int))) Q E s := by
  obtain ⟨oS, hO, hC, hD⟩ := id hs
  unfold Builtin.Slice.sliceApplied Builtin.Slice.sliceFields
  refine wpAny_bind (wpAny_bind (wpAny_field hO hD (x := vl) rfl (wpAny_bind (wpAny_field hO hD (x := vu) rfl (wpAny_bind (wpAny_field hO hD (x := vs) rfl (wpAny_pure ?_)))))))
  refine wpAny_bind (HT.slicePart_ ps ?_)
  show wpAny _ _ (if ((-1 : Int) == 0) = true then _ else _) _ _ s
  rw [if_neg (by decide)]
  refine wpAny_bind (HT.slicePart_ pl (wpAny_bind (HT.slicePart_ pu (wpAny_bind (wpAny_pure ?_)))))
  exact wpAny_pure h
/-- t[::-1] of a pair -/
theorem pair_back {t sl : Addr} {a b : Value} {vl vu vs : Value} {Q : Value → Shared → Prop} (hT : IsTup s.heap t #[a, b]) (hs : s.heap.IsSliceOf sl vl vu vs) (pl : IsPart vl none) (pu : IsPart vu none) (ps : IsPart vs (some (-1)))
    (h : Q (.ref s.heap.objs.size) { s with heap := s.heap.push { cls := .type "tuple", data := .seq #[b, a] } }) : wpAny (model prog w) A (getItem (.ref t) (.ref sl)) Q E s := by
  obtain ⟨oS, hO, hC, hD⟩ := id hs
  have hTS : s.TypeIs (.ref sl) "slice" := ⟨oS, hO, hC⟩
  unfold getItem
  try with_reducible refine wpAny_holding ?_
  first | refine wpAny_bind (wpAny_pure ?_) | skip
  refine wpAny_bind (wpAny_sequenceKey hT.typeIs (by decide) ?_)
  refine wpAny_bind (wpAny_callSpecial?_slot (name := Str.ofString "__getitem__") hT.typeIs PyProof.Rows.slot_tuple_getitem (wpAny_call_entry PyProof.Rows.slot_tuple_getitem hT.typeIs entry_tuple_getitem ?_ (args_tuple_getitem _ _)))
  show wpAny _ _ (Builtin.Tuple.tupleItemsOf (.ref t) >>= _) _ _ s
  refine wpAny_bind (tupleItemsOf_ hT ?_)
  refine wpAny_bind (wpAny_typeOf hTS ?_)
  rw [if_pos (by decide)]
  refine wpAny_bind (applied_back hs pl pu ps ?_)
  show wpAny _ _ (if ((1 : Int) == 0 && (-1 : Int) == 1 && (2 : Nat) == 2) = true then _ else _) _ _ s
  rw [if_neg (by decide)]
  have hsz : sizeOk (.seq #[b, a]) := by
    show 2 ≤ sizeLine
    decide
  first
    | exact wpAny_bind (m := Builtin.Tuple.tupleExact _) (wpAny_newObj_type (wpAny_pure ⟨_, rfl, wpAny_pure h⟩) hsz)
    | exact wpAny_bind (wpAny_bind (m := Builtin.Tuple.tupleExact _) (wpAny_newObj_type (wpAny_pure ⟨_, rfl, wpAny_pure h⟩) hsz))
    | exact wpAny_bind (m := Builtin.Tuple.tupleExact _) (wpAny_newObj_type (wpAny_bind (wpAny_pure (wpAny_pure ⟨_, rfl, wpAny_pure h⟩))) hsz)
    | exact wpAny_bind (wpAny_bind (m := Builtin.Tuple.tupleExact _) (wpAny_newObj_type (wpAny_pure (wpAny_pure ⟨_, rfl, wpAny_pure h⟩)) hsz))
end
section
variable {X : Cx}
def tRevP (K : PySem.W.Frag) (te : TE) : TE := fun g H Q => te g H fun x G1 => ∃ a y z, x = .ref a ∧ SqT K G1 a [y, z] ∧ ∀ p, G1 p = none → Q (.ref p) (upd G1 p (.tup [z, y]))
theorem pe_revP {e : Expr} {te : TE} {k : Nat} {p1 p2 p3 pos : Pos} (he : PE X e te) : PE X (.Subscript e (.Slice none none (some (.UnaryOp .USub (.Constant (.int 1) k p1) p2)) p3) pos) (tRevP X.K te) := by
  refine ⟨fun pn s g H Q I h => ?_⟩
  refine Subscript_ (thn (he.run pn s g H _ I h) fun v s1 ⟨x, G1, J1, r1, q1⟩ => ?_)
  obtain ⟨a, y, z, ex, hx, q⟩ := q1
  subst ex
  cases r1
  have hst : PO X (some (.UnaryOp .USub (.Constant (.int 1) k p1) p2)) (tPart (tUn (rU fun i => .int (-i)) (tC (.int 1)))) := po_some (pe_un un_neg pe_int)
  refine wpAny_Slice (thn (po_none.run pn s1 g G1 (fun o G2 => o = none ∧ G2 = G1) J1 ⟨rfl, rfl⟩) fun vl s2 ⟨l, G2, J2, pl, el, e2⟩ => ?_)
  subst el e2
  refine thn (po_none.run pn s2 g G2 (fun o G3 => o = none ∧ G3 = G2) J2 ⟨rfl, rfl⟩) fun vu s3 ⟨u, G3, J3, pu, eu, e3⟩ => ?_
  subst eu e3
  refine thn (hst.run pn s3 g G3 (fun o G4 => o = some (-1) ∧ G4 = G3) J3 ⟨1, rfl, -1, rfl, rfl, rfl⟩) fun vs s4 ⟨o, G4, J4, ps, eo, e4⟩ => ?_
  subst eo e4
  have J5 : Inv X pn g G4 { s4 with heap := s4.heap.push { cls := .type "slice", data := .fields #[vl, vu, vs] } } := J4.kept (t' := s4.toks) fun b ob q => Heap.get?_push_of_some _ q
  obtain ⟨its, r, hT, hz⟩ := J5.tuple hx
  obtain ⟨u1, u2, rfl, r1, r2⟩ := vals2 r
  show wpAny (model X.prog X.w) X.A (subscriptTail e (.Slice none none (some (.UnaryOp .USub (.Constant (.int 1) k p1) p2)) p3) (.ref a) (.ref s4.heap.objs.size)) (EP X pn g Q) X.xe { s4 with heap := s4.heap.push { cls := .type "slice", data := .fields #[vl, vu, vs] } }
  refine tail_any (ops := [.ref a, .ref s4.heap.objs.size]) hT.typeIs (PyProof.Rows.slot_tuple_getitem.lookup) ?_ (by with_unfolding_all rfl)
  refine pair_back hT (Heap.IsSliceOf.new _ vl vu vs) pl pu ps ?_
  refine ⟨.ref _, _, J5.laid (t' := s4.toks) (o := .tup [z, y]) (fun b ob q => Heap.get?_push_of_some _ q) (Nat.le_refl _) ?_, rfl, q _ (J5.hok.fresh (Nat.le_refl _))⟩
  exact ⟨by show 2 ≤ sizeLine; decide, [u2, u1], .cons r2 (.cons r1 .nil), IsTup.new _ _⟩
end
end Dk
namespace Dk
open PySem L2
/-! ### doors told twice, either way about -/
def dTw (ms ds : List SS) : List SS := (ms ++ swp ms) ++ ds
def sTw (ss : List SS) : List SS := ss ++ ss.take 2
theorem swp_mem {ms : List SS} {a b : Str} : (a, b) ∈ swp ms ↔ (b, a) ∈ ms := by
  unfold swp
  rw [List.mem_map]
  constructor
  · rintro ⟨⟨c, d⟩, hp, e⟩
    have e1 : d = a := (Prod.mk.inj e).1
    have e2 : c = b := (Prod.mk.inj e).2
    rw [← e1, ← e2]
    exact hp
  · intro h
    exact ⟨(b, a), h, rfl⟩
theorem dTw_mem {ms ds : List SS} (h : ∀ p ∈ ms, p ∈ ds) {a b : Str} : (a, b) ∈ dTw ms ds → (a, b) ∈ ds ∨ (b, a) ∈ ds := by
  intro hp
  unfold dTw at hp
  rcases List.mem_append.mp hp with hp | hp
  · rcases List.mem_append.mp hp with hp | hp
    · exact .inl (h _ hp)
    · exact .inr (h _ (swp_mem.mp hp))
  · exact .inl hp
theorem lnk_congr {zs : List Str} {ps qs : List SS} (h : ∀ a b, (a, b) ∈ ps ↔ (a, b) ∈ qs) : lnk zs ps = lnk zs qs := by
  funext a
  unfold lnk
  refine List.filter_congr fun b _ => ?_
  rw [Bool.eq_iff_iff, decide_eq_true_eq, decide_eq_true_eq]
  exact h a b
theorem lnk_dTw {zs : List Str} {ms ds : List SS} (h : ∀ p ∈ ms, p ∈ ds) : lnk zs (both (dTw ms ds)) = lnk zs (both ds) := by
  refine lnk_congr fun a b => ?_
  rw [both_iff, both_iff]
  constructor
  · rintro (x | x)
    · exact dTw_mem h x
    · exact (dTw_mem h x).symm
  · rintro (x | x)
    · exact .inl (List.mem_append.mpr (.inr x))
    · exact .inr (List.mem_append.mpr (.inr x))
theorem lnk_sTw {zs : List Str} {ss : List SS} : lnk zs (sTw ss) = lnk zs ss := by
  refine lnk_congr fun a b => ?_
  unfold sTw
  rw [List.mem_append]
  exact ⟨fun h => h.elim id fun x => List.mem_of_mem_take x, .inl⟩
theorem dTw_good {zs : List Str} {ms ds : List SS} (h : ∀ p ∈ ms, p ∈ ds) (g : ∀ p ∈ ds, goodP zs p) : ∀ p ∈ dTw ms ds, goodP zs p := by
  rintro ⟨a, b⟩ hp
  rcases dTw_mem h hp with x | x
  · exact g _ x
  · have y := g _ x
    exact ⟨y.2.1, y.1, fun e => y.2.2 e.symm⟩
theorem sTw_good {zs : List Str} {ss : List SS} (g : ∀ p ∈ ss, goodP zs p) : ∀ p ∈ sTw ss, goodP zs p := by
  intro p hp
  rcases List.mem_append.mp hp with x | x
  · exact g _ x
  · exact g _ (List.mem_of_mem_take x)
theorem dTw_len (ms ds : List SS) : (dTw ms ds).length = ms.length + ms.length + ds.length := by
  unfold dTw
  rw [List.length_append, List.length_append, swp_len]
theorem sTw_len (ss : List SS) : (sTw ss).length ≤ ss.length + 2 := by
  unfold sTw
  rw [List.length_append, List.length_take]
  omega
theorem PL.take {H : Hp} {xs : List V} {ps : List SS} (h : PL H xs ps) (n : Nat) : PL H (xs.take n) (ps.take n) := by
  refine ⟨by rw [List.length_take, List.length_take, h.1], fun i x ab h1 h2 => ?_⟩
  rw [List.getElem?_take] at h1 h2
  split at h1
  · rename_i hi
    rw [if_pos hi] at h2
    exact h.2 i x ab h1 h2
  · cases h1
theorem cut_two (xs : List V) : cutV xs none (some 2) = xs.take 2 := by
  unfold cutV
  rw [HT.sIx_none, show HT.sIx xs.length xs.length (some 2) = min 2 xs.length from HT.sIx_nat _ _ 2]
  show (xs.drop 0).take (min 2 xs.length - 0) = _
  rw [List.drop_zero, Nat.sub_zero]
  by_cases h : 2 ≤ xs.length
  · rw [Nat.min_eq_left h]
  · rw [Nat.min_eq_right (by omega), List.take_length, List.take_of_length_le (by omega)]
/-! ### alike -/
theorem Lk.strs {n : Nat} {H : Hp} {a b : Addr} {zs : List Str} (ha : H a = some (.lst (zs.map V.str))) (hb : H b = some (.lst (zs.map V.str))) (hl : zs.length ≤ 1000) : Lk (n + 2) H (.ref a) (.ref b) := Lk.lst ha hb (by rw [List.length_map]; exact hl) flat_strs
theorem Lk.pair {n : Nat} {H : Hp} {x y : V} {p : SS} (h1 : Pr H x p) (h2 : Pr H y p) : Lk (n + 2) H x y := by
  obtain ⟨q, rfl, hq⟩ := h1
  obtain ⟨t, rfl, ht⟩ := h2
  refine Lk.tup hq ht (by show 2 ≤ 1000; decide) fun x hx => ?_
  rcases List.mem_cons.mp hx with rfl | hx
  · rfl
  · rw [List.mem_singleton.mp hx]
    rfl
theorem Lk.pairs {n : Nat} {H : Hp} {a b : Addr} {xs ys : List V} {ps : List SS} (ha : H a = some (.lst xs)) (hP : PL H xs ps) (hb : H b = some (.lst ys)) (hQ : PL H ys ps) (hl : ps.length ≤ 1000) : Lk (n + 3) H (.ref a) (.ref b) := by
  refine .inr ⟨a, b, xs, ys, rfl, rfl, by rw [hP.1, hQ.1], by rw [hP.1]; exact hl, .inl ⟨ha, hb⟩, fun i x y hx hy => ?_⟩
  obtain ⟨p, ep, pr⟩ := hP.at hx
  exact Lk.pair pr (hQ.2 i y p hy ep)
theorem Lk.told {H : Hp} {p q r d s : Addr} {zs : List Str} {ds ss : List SS} {xs us : List V} (hp : H p = some (.lst [.ref r, .ref d, .ref s])) (hr : H r = some (.lst (zs.map V.str))) (hd : H d = some (.lst xs)) (hP : PL H xs ds) (hs : H s = some (.lst us)) (hQ : PL H us ss) (t : Told H q zs ds ss)
    (l1 : zs.length ≤ 1000) (l2 : ds.length ≤ 1000) (l3 : ss.length ≤ 1000) : Lk 4 H (.ref p) (.ref q) := by
  obtain ⟨r', d', s', xs', us', h1, h2, h3, h4, h5, h6⟩ := t
  refine .inr ⟨p, q, [.ref r, .ref d, .ref s], [.ref r', .ref d', .ref s'], rfl, rfl, rfl, by show 3 ≤ 1000; decide, .inl ⟨hp, h1⟩, fun i x y hx hy => ?_⟩
  match i, hx, hy with
  | 0, hx, hy =>
    cases hx
    cases hy
    exact Lk.strs hr h2 l1
  | 1, hx, hy =>
    cases hx
    cases hy
    exact Lk.pairs hd hP h3 h4 l2
  | 2, hx, hy =>
    cases hx
    cases hy
    exact Lk.pairs hs hQ h5 h6 l3
/-! ### three lists as data -/
def hd3 (zs : List Str) (ds ss : List SS) : PyData := .list [.list (zs.map PyData.str), .list (ds.map pd), .list (ss.map pd)]
theorem hd3_dp {K : PySem.W.Frag} {H : Hp} {p r d s : Addr} {zs : List Str} {ds ss : List SS} {xs us : List V} (hp : H p = some (.lst [.ref r, .ref d, .ref s])) (hr : H r = some (.lst (zs.map V.str))) (hd : H d = some (.lst xs)) (hP : PL H xs ds) (hs : H s = some (.lst us)) (hQ : PL H us ss) : Dp K H (.ref p) (hd3 zs ds ss) :=
  .lst (SqL.of hp) (.cons (.lst (SqL.of hr) (dp_strs zs)) (.cons (.lst (SqL.of hd) (pl_dp hP)) (.cons (.lst (SqL.of hs) (pl_dp hQ)) .nil)))
theorem hd3_shaped {zs : List Str} {ds ss : List SS} (h1 : ∀ z ∈ zs, PyData.strOk z = true) (h2 : ∀ p ∈ ds, okP p) (h3 : ∀ p ∈ ss, okP p) : SeqAt.shaped (hd3 zs ds ss) = true := by
  obtain ⟨a1, a2⟩ := lay_strs h1
  obtain ⟨b1, b2⟩ := pds_lay h2
  obtain ⟨c1, c2⟩ := pds_lay h3
  unfold SeqAt.shaped
  have e1 : (hd3 zs ds ss).canLay0 = true := by
    show (PyData.canLayAll0 (zs.map PyData.str) && (PyData.canLayAll0 (ds.map pd) && (PyData.canLayAll0 (ss.map pd) && true))) = true
    rw [a1, b1, c1]
    rfl
  have e2 : (hd3 zs ds ss).depth ≤ 64 := by
    show max (PyData.depthAll (zs.map PyData.str) + 1) (max (PyData.depthAll (ds.map pd) + 1) (max (PyData.depthAll (ss.map pd) + 1) 0)) + 1 ≤ 64
    omega
  rw [e1, decide_eq_true e2]
  rfl
theorem Hs.of {C : Addr} {H : Hp} {h : Addr} {zs : List Str} {ps qs : List SS} (x : HouseAt C H h zs (lnk zs ps) (lnk zs qs)) : Hs C H h zs (lnk zs ps) (lnk zs qs) :=
  ⟨x, fun a => lnk_len zs ps a, fun a => lnk_len zs qs a, fun a b hb => (List.mem_filter.mp hb).1⟩
/-- what is new stays where something older is written -/
theorem new_put {Ha Hb H : Hp} {p : Addr} {o u : HO} (s : Same (newPart Ha Hb) H) (e : Ha p = some o) : Same (newPart Ha Hb) (upd H p u) := fun q x h => by
  have n : q ≠ p := fun z => by
    have h1 := (new_inv h).1
    rw [z, e] at h1
    cases h1
  rw [upd_ne n]
  exact s _ _ h
theorem PL.swap {H : Hp} {xs : List V} {ps : List SS} {i : Nat} {x : V} (h : PL H xs ps) (e : xs[i]? = some x) : ∃ ab : SS, ps[i]? = some ab ∧ ∃ q, x = .ref q ∧ H q = some (.tup [.str ab.1, .str ab.2]) := by
  obtain ⟨ab, h1, q, h2, h3⟩ := h.at e
  exact ⟨ab, h1, q, h2, h3⟩
theorem rowR_eq (z : Str) : Str.ofString "room " ++ z = rowR z := by
  unfold rowR
  rw [Str.empty_append]
theorem rowD_eq (a b : Str) : Str.ofString "door " ++ a ++ Str.ofString " " ++ b = rowD (a, b) := by
  unfold rowD
  rw [Str.empty_append]
theorem rowS_eq (a b : Str) : Str.ofString "sight " ++ a ++ Str.ofString " " ++ b = rowS (a, b) := by
  unfold rowS
  rw [Str.empty_append]
theorem repr_eq (a b c : Nat) : reprH a b c = Str.ofString "House(" ++ (num a ++ Str.ofString " rooms, " ++ num b ++ Str.ofString " doors, " ++ num c ++ Str.ofString " sights") ++ Str.ofString ")" := by
  unfold reprH
  have e : Str.ofString " sights)" = Str.ofString " sights" ++ Str.ofString ")" := by decide +kernel
  rw [e, Str.empty_append]
  simp only [Str.append_assoc]
theorem swp_take {ps : List SS} {i : Nat} {ab : SS} (e : ps[i]? = some ab) : swp (ps.take (i + 1)) = swp (ps.take i) ++ [(ab.2, ab.1)] := by
  unfold swp
  rw [List.take_add_one, e, List.map_append]
  rfl
end Dk
namespace Dk
open PySem L2 PySem.W
/-! ### pairs of texts in their order -/
def srt (ps : List SS) : List SS := ps.mergeSort (dataLe false pd)
theorem str_same {x y : Str} (h1 : ¬ x.cps.toList < y.cps.toList) (h2 : ¬ y.cps.toList < x.cps.toList) : x = y := str_of_cps (List.le_antisymm h2 h1)
theorem alike_s (x y : Str) : alike (.str x) (.str y) = true := by simp [alike]
theorem alike_pd (p q : SS) : alike (pd p) (pd q) = true := by simp [alike, alikeAll, pd]
theorem pd_lt (p q : SS) : dataLt (pd p) (pd q) = if p.1 = q.1 then decide (p.2.cps.toList < q.2.cps.toList) else decide (p.1.cps.toList < q.1.cps.toList) := by
  unfold pd
  rw [dataLt_pair (alike_s _ _) (alike_s _ _), dataLt_str, dataLt_str]
  have e1 : PyData.eqv (.str p.1) (.str q.1) = decide (p.1 = q.1) := by
    rw [Bool.eq_iff_iff, decide_eq_true_eq]
    simp [PyData.eqv]
  have e2 : PyData.eqv (.str p.2) (.str q.2) = decide (p.2 = q.2) := by
    rw [Bool.eq_iff_iff, decide_eq_true_eq]
    simp [PyData.eqv]
  rw [e1, e2]
  by_cases h : p.1 = q.1
  · rw [if_pos h, if_pos (decide_eq_true h)]
    by_cases h2 : p.2 = q.2
    · rw [if_pos (decide_eq_true h2), h2]
      exact (decide_eq_false (List.lt_irrefl _)).symm
    · rw [if_neg (fun z => h2 (of_decide_eq_true z))]
  · rw [if_neg h, if_neg (fun z => h (of_decide_eq_true z))]
theorem pd_tri {p q : SS} (h1 : dataLt (pd p) (pd q) = false) (h2 : dataLt (pd q) (pd p) = false) : p = q := by
  rw [pd_lt] at h1 h2
  by_cases h : p.1 = q.1
  · rw [if_pos h] at h1
    rw [if_pos h.symm] at h2
    exact Prod.ext h (str_same (of_decide_eq_false h1) (of_decide_eq_false h2))
  · rw [if_neg h] at h1
    rw [if_neg (fun z => h z.symm)] at h2
    exact absurd (str_same (of_decide_eq_false h1) (of_decide_eq_false h2)) h
theorem srt_perm (ps : List SS) : (srt ps).Perm ps := List.mergeSort_perm ps _
theorem srt_total : TotalLe (dataLe false pd) := sortLe_total _ _ _
theorem srt_rank (c a : SS) : sameRank (dataLe false pd) c a = decide (c = a) := by
  rw [Bool.eq_iff_iff, decide_eq_true_eq]
  unfold sameRank
  rw [dataLe_eq, Bool.and_eq_true]
  constructor
  · intro h
    have h1 : (!dataLt (pd a) (pd c)) = true := h.1
    have h2 : (!dataLt (pd c) (pd a)) = true := h.2
    rw [Bool.not_eq_true'] at h1 h2
    exact pd_tri h2 h1
  · intro h
    subst h
    have e : dataLt (pd c) (pd c) = false := by
      rw [pd_lt, if_pos rfl]
      exact decide_eq_false (List.lt_irrefl _)
    show (!dataLt (pd c) (pd c)) = true ∧ (!dataLt (pd c) (pd c)) = true
    rw [e]
    exact ⟨rfl, rfl⟩
theorem filter_one {α : Type} [DecidableEq α] {l : List α} (h : l.Nodup) (c : α) : l.filter (fun a => decide (c = a)) = if c ∈ l then [c] else [] := by
  induction l with
  | nil => rfl
  | cons x r ih =>
    obtain ⟨h1, h2⟩ := List.nodup_cons.mp h
    rw [List.filter_cons, ih h2]
    by_cases e : c = x
    · subst e
      rw [if_pos (decide_eq_true rfl), if_neg h1, if_pos List.mem_cons_self]
    · rw [if_neg (fun z => e (of_decide_eq_true z))]
      by_cases m : c ∈ r
      · rw [if_pos m, if_pos (List.mem_cons_of_mem _ m)]
      · rw [if_neg m, if_neg (fun z => (List.mem_cons.mp z).elim e m)]
/-- two lists without doubles are sorted to one just where they have the same items -/
theorem srt_eq {ps qs : List SS} (hp : ps.Nodup) (hq : qs.Nodup) : srt ps = srt qs ↔ ∀ x, x ∈ ps ↔ x ∈ qs := by
  constructor
  · intro h x
    rw [← (srt_perm ps).mem_iff, ← (srt_perm qs).mem_iff, h]
  · intro h
    refine sort_one srt_total _ _ (sort_pairwise srt_total ps) (sort_pairwise srt_total qs) fun c => ?_
    show ((ps.mergeSort (dataLe false pd)).filter _) = ((qs.mergeSort (dataLe false pd)).filter _)
    rw [sort_stable srt_total, sort_stable srt_total]
    have e : sameRank (dataLe false pd) c = fun a => decide (c = a) := funext fun a => srt_rank c a
    rw [e, filter_one hp, filter_one hq]
    by_cases m : c ∈ ps
    · rw [if_pos m, if_pos ((h c).mp m)]
    · rw [if_neg m, if_neg (fun z => m ((h c).mpr z))]
/-- a pair with the lesser text first -/
def nrm (p : SS) : SS := if p.2.cps.toList < p.1.cps.toList then (p.2, p.1) else p
theorem nrm_sort (a b : Str) : [a, b].mergeSort (dataLe false PyData.str) = [(nrm (a, b)).1, (nrm (a, b)).2] := by
  have T : TotalLe (dataLe false PyData.str) := sortLe_total _ _ _
  have le_of : ∀ x y : Str, ¬ y.cps.toList < x.cps.toList → dataLe false PyData.str x y = true := fun x y h => by
    rw [dataLe_eq]
    show (!dataLt (.str y) (.str x)) = true
    rw [dataLt_str, decide_eq_false h]
    rfl
  have one : ∀ x y : Str, ¬ y.cps.toList < x.cps.toList → [x, y].mergeSort (dataLe false PyData.str) = [x, y] := fun x y h => by
    refine List.mergeSort_of_pairwise ?_
    exact List.pairwise_cons.mpr ⟨fun z hz => by rw [List.mem_singleton.mp hz]; exact le_of x y h, List.pairwise_singleton _ _⟩
  unfold nrm
  by_cases h : b.cps.toList < a.cps.toList
  · rw [if_pos h]
    show [a, b].mergeSort _ = [b, a]
    refine (sort_one T _ _ (sort_pairwise T [a, b]) ?_ fun c => ?_)
    · refine List.pairwise_cons.mpr ⟨fun z hz => by rw [List.mem_singleton.mp hz]; exact le_of b a (List.lt_asymm h), List.pairwise_singleton _ _⟩
    · rw [sort_stable T]
      have ne : ¬ (sameRank (dataLe false PyData.str) c a = true ∧ sameRank (dataLe false PyData.str) c b = true) := by
        rintro ⟨h1, h2⟩
        unfold sameRank at h1 h2
        rw [Bool.and_eq_true] at h1 h2
        have h3 := T.trans _ _ _ h1.2 h2.1
        rw [dataLe_eq] at h3
        have h4 : (!dataLt (.str b) (.str a)) = true := h3
        rw [dataLt_str, decide_eq_true h] at h4
        cases h4
      cases e1 : sameRank (dataLe false PyData.str) c a with
      | false =>
        cases e2 : sameRank (dataLe false PyData.str) c b with
        | false => simp [e1, e2]
        | true => simp [e1, e2]
      | true =>
        cases e2 : sameRank (dataLe false PyData.str) c b with
        | false => simp [e1, e2]
        | true => exact absurd ⟨e1, e2⟩ ne
  · rw [if_neg h]
    exact one a b h
end Dk
namespace Dk
open PySem L2 PySem.W PyProof.Rows
def Rps (H : Hp) (u : Value) (p : SS) : Prop := ∃ x, RelV x u ∧ Pr H x p
theorem each_of {H : Hp} : ∀ {xs : List V} {its : List Value} {ps : List SS}, Vals xs its → PL H xs ps → EachIs (Rps H) its ps
  | [], [], [], _, _ => .nil
  | [], [], _ :: _, _, h => by cases h.1
  | _ :: _, _, [], _, h => by cases h.1
  | x :: xs, u :: its, p :: ps, .cons rx r, h => .cons ⟨x, rx, h.tail.1⟩ (each_of r h.tail.2)
theorem of_each {H : Hp} : ∀ {its : List Value} {ps : List SS}, EachIs (Rps H) its ps → ∃ ys : List V, Vals ys its ∧ PL H ys ps
  | [], [], _ => ⟨[], .nil, PL.nil⟩
  | [], _ :: _, h => by cases h
  | _ :: _, [], h => by cases h
  | u :: its, p :: ps, .cons h t => by
    obtain ⟨x, rx, pr⟩ := h
    obtain ⟨ys, v, pl⟩ := of_each t
    exact ⟨x :: ys, .cons rx v, PL.cons pr pl⟩
def rSrtP (K : PySem.W.Frag) : List V → Hp → VK → Prop := fun vs H Q => ∃ (a : Addr) (xs : List V) (ps : List SS), vs = [V.ref a] ∧ SqL K H a xs ∧ PL H xs ps ∧ xs.length ≤ 1000 ∧ ∀ (ys : List V) (p : Addr), H p = none → PL H ys (srt ps) → Q (.ref p) (upd H p (.lst ys))
def rSrt2 (K : PySem.W.Frag) : List V → Hp → VK → Prop := fun vs H Q => ∃ (t : Addr) (a b : Str), vs = [V.ref t] ∧ SqT K H t [.str a, .str b] ∧ ∀ p, H p = none → Q (.ref p) (upd H p (.lst [.str (nrm (a, b)).1, .str (nrm (a, b)).2]))
section
variable {X : Cx}
theorem call_sortP (hu : X.A.units + 64 < cLine) : CallR X (.builtin "sorted") (rSrtP X.K) := by
  intro pn s g H vs us Q J r h
  obtain ⟨a, xs, ps, rfl, hs, hP, hl, q⟩ := h
  obtain ⟨its, rv, hL, hz⟩ := J.list hs
  obtain ⟨u, rfl, ru⟩ := vals1 r
  cases ru
  have el := each_of rv hP
  have er : EachIs (fun v b => ∃ as, Reads s.heap v (pd b) as) its ps := el.mono fun v b ⟨x, rx, pr⟩ => Dp.reads J (pd b) x v (pr_dp pr) rx
  have d1 : ∀ b : SS, (pd b).depth = 1 := fun _ => rfl
  refine sorted_data (enc := pd) (R := Rps H) hL.isList el er (AllAlike.of alike_pd) (Sortable.tuples fun b => ⟨_, _, rfl⟩) (by rw [← hP.1]; exact Nat.le_of_lt (small1000 (by omega))) (fun b _ => by rw [d1]; omega) fun out ho hout => ?_
  obtain ⟨ys, vy, py⟩ := of_each hout
  obtain ⟨ep, he⟩ := sortedAll_at s.heap its out.toArray
  have hy : ys.length ≤ sizeLine := by
    rw [py.1, List.length_mergeSort, ← hP.1]
    exact Nat.le_of_lt (small1000 (by omega))
  exact ⟨.ref _, upd H (s.heap.objs.size + 1) (.lst ys), J.laid (t' := s.toks) (fun _ _ => sortedAll_old) (Nat.le_succ _) ⟨hy, out, ep, vy, he⟩, rfl, q ys _ (J.hok.fresh (Nat.le_succ _)) py⟩
def Rss (u : Value) (z : Str) : Prop := RelV (.str z) u
theorem call_sort2 (hu : X.A.units + 64 < cLine) : CallR X (.builtin "sorted") (rSrt2 X.K) := by
  intro pn s g H vs us Q J r h
  obtain ⟨t, a, b, rfl, hs, q⟩ := h
  obtain ⟨its, rv, hT, hz⟩ := J.tuple hs
  obtain ⟨u, rfl, ru⟩ := vals1 r
  cases ru
  obtain ⟨u1, u2, rfl, r1, r2⟩ := vals2 rv
  obtain ⟨o, ho, hc, n, hd⟩ := hT
  refine Calls.call_function_entry kind_sorted plain_sorted entry_sorted (args_sorted1 _) ?_
  (unfold Builtin.«sorted»)
  refine wpAny_bind (m := checkCount "sorted" 1 1 _) (wpAny_pure (?_))
  refine wpAny_bind (wpAny_collect_seq t (T := "tuple") (Or.inr rfl) ho hc hd (fun h' kp => ?_) (by show 2 ≤ sizeLine; decide))
  refine wpAny_bind (wpAny_newList ?_ (by show 2 ≤ sizeLine; decide))
  have hoL : (h'.push (seqObj "list" #[u1, u2] 0)).get? h'.objs.size = some (seqObj "list" #[u1, u2] 0) := Heap.get?_push_size _ rfl
  show wpAny _ _ _ _ _ { s with heap := h'.push (seqObj "list" #[u1, u2] 0) }
  have ee : EachIs Rss [u1, u2] [a, b] := .cons r1 (.cons r2 .nil)
  obtain ⟨k1, rfl⟩ := r1
  obtain ⟨k2, rfl⟩ := r2
  have er : EachIs (fun v z => ∃ as, Reads (h'.push (seqObj "list" #[.str a k1, .str b k2] 0)) v (PyData.str z) as ∧ h'.objs.size ∉ as) [.str a k1, .str b k2] [a, b] := .cons ⟨[], Reads.str _ _, by simp⟩ (.cons ⟨[], Reads.str _ _, by simp⟩ .nil)
  refine wpAny_bind (wpAny_holding (list_sort_data (s := { s with heap := h'.push (seqObj "list" #[.str a k1, .str b k2] 0) }) (a := h'.objs.size) (vs := [.str a k1, .str b k2]) (n := 0) (enc := PyData.str) (R := Rss) hoL ee er (AllAlike.of alike_s) (Sortable.others fun b => ⟨by simp, by simp⟩) (by show 2 ≤ sizeLine; decide) (fun b _ => by show X.A.in1.units + 1 + 0 < cLine; rw [show X.A.in1.units = X.A.units + 1 from rfl]; omega) fun out ho2 hout => ?_))
  rw [nrm_sort] at hout
  have J1 : L2.Inv X pn g H { s with heap := h' } := J.kept (t' := s.toks) kp
  obtain ⟨ep, he⟩ := sortedHeap_at (vs := [.str a k1, .str b k2]) (out := out.toArray) hoL
  have vv : Vals [V.str (nrm (a, b)).1, V.str (nrm (a, b)).2] out := by
    cases hout with
    | cons h1 t1 =>
      cases t1 with
      | cons h2 t2 =>
        cases t2
        exact .cons h1 (.cons h2 .nil)
  refine wpAny_pure ⟨_, rfl, .ref h'.objs.size, _, J1.laid (t' := s.toks) (o := .lst [V.str (nrm (a, b)).1, V.str (nrm (a, b)).2]) (fun x u e => ?_) (Nat.le_refl _) ⟨by show 2 ≤ sizeLine; decide, out, ep, vv, he⟩, rfl, q _ (J1.hok.fresh (Nat.le_refl _))⟩
  have hx : x < h'.objs.size := Heap.lt_size e
  have hx2 : x < (h'.push (seqObj "list" #[.str a k1, .str b k2] 0)).objs.size := by
    rw [Heap.size_push]
    exact Nat.lt_succ_of_lt hx
  show (sortedHeap (h'.push (seqObj "list" #[.str a k1, .str b k2] 0)) h'.objs.size [.str a k1, .str b k2] out.toArray).get? x = some u
  rw [sortedHeap_old (Nat.ne_of_lt hx) hx2]
  exact Heap.get?_push_of_some _ e
end
end Dk
namespace Dk
open PySem L2 PyProof.Rows
/-! ### lists of texts, equal or not -/
theorem eqv_strs : ∀ ys zs : List Str, PyData.eqvAll (ys.map PyData.str) (zs.map PyData.str) = decide (ys = zs)
  | [], [] => by simp [PyData.eqvAll]
  | [], _ :: _ => by simp [PyData.eqvAll]
  | _ :: _, [] => by simp [PyData.eqvAll]
  | y :: ys, z :: zs => by
    rw [List.map_cons, List.map_cons]
    show (PyData.eqv (.str y) (.str z) && PyData.eqvAll (ys.map PyData.str) (zs.map PyData.str)) = _
    rw [eqv_strs ys zs, Bool.eq_iff_iff, Bool.and_eq_true, decide_eq_true_eq, decide_eq_true_eq, List.cons.injEq]
    simp [PyData.eqv]
theorem eqv_lstrs (ys zs : List Str) : PyData.eqv (.list (ys.map PyData.str)) (.list (zs.map PyData.str)) = decide (ys = zs) := by
  rw [← eqv_strs ys zs]
  simp [PyData.eqv]
theorem shaped_lstrs {zs : List Str} (h : ∀ z ∈ zs, PyData.strOk z = true) : SeqAt.shaped (.list (zs.map PyData.str)) = true := by
  obtain ⟨h1, h2⟩ := lay_strs h
  unfold SeqAt.shaped
  have e1 : (PyData.list (zs.map PyData.str)).canLay0 = true := h1
  have e2 : (PyData.list (zs.map PyData.str)).depth ≤ 64 := by
    show PyData.depthAll (zs.map PyData.str) + 1 ≤ 64
    rw [h2]
    decide
  rw [e1, decide_eq_true e2]
  rfl
def linkEq (zs : List Str) (f g : Str → List Str) : Bool := zs.all fun z => decide (f z = g z)
section
variable {X : Cx} {pn : List (Addr × Obj)} {st : L2.St} {H : Hp} {s : Shared}
theorem eqP_strs (J : L2.Inv X pn st H s) {A : Around} (hu : A.units + 64 < cLine) {p q : Addr} {ys zs : List Str} (hp : H p = some (.lst (ys.map V.str))) (hq : H q = some (.lst (zs.map V.str))) (oy : ∀ z ∈ ys, PyData.strOk z = true) (oz : ∀ z ∈ zs, PyData.strOk z = true) :
    SeqAt.EqP X.prog X.w A s (.ref p) (.ref q) (decide (ys = zs)) := by
  by_cases e : p = q
  · subst e
    have e2 : ys.map V.str = zs.map V.str := by
      rw [hp] at hq
      exact HO.lst.inj (Option.some.inj hq)
    have e3 : ys = zs := by
      have inj : Function.Injective V.str := fun a b h => V.str.inj h
      exact (List.map_inj_right (fun a b h => V.str.inj h)).mp e2
    rw [decide_eq_true e3]
    exact (SeqAt.EqAt.same _).eqP
  · refine SeqAt.eqP_refs e fun E Q hQ => ?_
    obtain ⟨as, r1⟩ := Dp.reads J (.list (ys.map PyData.str)) (.ref p) (.ref p) (.lst (SqL.of hp) (dp_strs ys)) rfl
    obtain ⟨bs, r2⟩ := Dp.reads J (.list (zs.map PyData.str)) (.ref q) (.ref q) (.lst (SqL.of hq) (dp_strs zs)) rfl
    exact SeqAt.compareEq_shaped r1 r2 (shaped_lstrs oy) (shaped_lstrs oz) hu (by rw [eqv_lstrs]; exact hQ)
def keyEq (f g : Str → List Str) : Key → Bool
  | .inr z => decide (f z = g z)
  | .inl _ => true
theorem hits_link {A : Around} {f g : Str → List Str} {ls : List (Key × V)} {vb : List (Key × Value)} (rb : KV ls vb)
    (key : ∀ z q u, H q = some (.lst ((f z).map V.str)) → H u = some (.lst ((g z).map V.str)) → SeqAt.EqP X.prog X.w A s (.ref q) (.ref u) (decide (f z = g z))) {ks : List (Key × V)} {va : List (Key × Value)} (ra : KV ks va) :
    (∀ p ∈ ks, ∃ z q u, p = ((Sum.inr z : Key), V.ref q) ∧ H q = some (.lst ((f z).map V.str)) ∧ valV ls (Sum.inr z : Key) = some (V.ref u) ∧ H u = some (.lst ((g z).map V.str))) →
    PySem.W.KeqHitsP X.prog X.w A s vb va ((ks.map (·.1)).all (keyEq f g)) := by
  (unfold KV at ra)
  induction ra with
  | nil => exact fun _ => .nil
  | @cons p c ps cs h t k =>
    intro hp
    obtain ⟨h1, h2⟩ := h
    obtain ⟨z, q, u, rfl, e1, e2, e3⟩ := hp p List.mem_cons_self
    have rr : RelO (some (V.ref u)) (valueAt vb (Sum.inr z : Key)) := by rw [← e2]; exact rb.val _
    obtain ⟨y, hy, ry⟩ := rr.some_of
    obtain ⟨kk, v⟩ := c
    have h1' : (Sum.inr z : Key) = kk := h1
    subst h1'
    cases h2
    cases ry
    exact .hit hy (key z q u e1 e3) (k fun p' hm => hp p' (List.mem_cons_of_mem _ hm))
theorem kvs_keys : ∀ {zs : List Str} {as : List Addr}, as.length = zs.length → (kvs zs as).map (·.1) = zs.map (fun z => (Sum.inr z : Key))
  | [], [], _ => rfl
  | [], _ :: _, h => by cases h
  | _ :: _, [], h => by cases h
  | z :: zs, a :: as, h => by
    have h2 : as.length = zs.length := Nat.succ.inj h
    show (Sum.inr z : Key) :: (kvs zs as).map (·.1) = (Sum.inr z : Key) :: zs.map _
    rw [kvs_keys h2]
def rEqLk : R2 := fun x y H Q => ∃ (d e : Addr) (zs : List Str) (f g : Str → List Str), x = .ref d ∧ y = .ref e ∧ zs.Nodup ∧ LinkAt H d zs f ∧ LinkAt H e zs g ∧ (∀ z, ∀ x ∈ f z, PyData.strOk x = true) ∧ (∀ z, ∀ x ∈ g z, PyData.strOk x = true) ∧ Q (.bl (linkEq zs f g)) H
end
section
variable {X : Cx}
theorem op_eqLk (hu : X.A.units + 66 < cLine) : OpR X (compareOp .Eq) rEqLk := by
  intro pn s g0 H x y v u Q J rx ry h
  obtain ⟨d, e, zs, f, g, rfl, rfl, nd, h1, h2, of', og, q⟩ := h
  cases rx
  cases ry
  obtain ⟨as, a1, a2, a3⟩ := h1
  obtain ⟨bs, b1, b2, b3⟩ := h2
  obtain ⟨_, ya, va, ra, da⟩ := (show ObjOk X.prog X.w H s.heap d (.dK (kvs zs as)) from J.hok d _ a2)
  obtain ⟨_, yb, vb, rb, db⟩ := (show ObjOk X.prog X.w H s.heap e (.dK (kvs zs bs)) from J.hok e _ b2)
  have ek := kvs_keys a1
  have hits := hits_link (X := X) (H := H) (s := s) (A := X.A.in1) (f := f) (g := g) rb (fun z p t hp ht => eqP_strs J (by show X.A.units + 1 + 64 < cLine; omega) hp ht (of' z) (og z)) ra (fun p hp => by
    unfold kvs at hp
    obtain ⟨⟨z, a⟩, hz, rfl⟩ := List.mem_map.mp hp
    obtain ⟨i, hi, ei⟩ := List.getElem_of_mem hz
    rw [List.length_zip] at hi
    rw [List.getElem_zip] at ei
    have ez : zs[i]? = some z := by
      rw [List.getElem?_eq_getElem (by omega)]
      exact congrArg some (Prod.mk.inj ei).1
    have ea : as[i]? = some a := by
      rw [List.getElem?_eq_getElem (by omega)]
      exact congrArg some (Prod.mk.inj ei).2
    have eb : bs[i]? = some bs[i] := List.getElem?_eq_getElem (by omega)
    exact ⟨z, a, bs[i], rfl, a3 i z a ez ea, kvs_some nd ez eb, b3 i z _ ez eb⟩)
  rw [ek] at hits
  have el : (zs.map (fun z => (Sum.inr z : Key))).all (keyEq f g) = linkEq zs f g := by
    rw [List.all_map]
    rfl
  rw [el] at hits
  show wpAny (model X.prog X.w) X.A (richCompare .Eq (.ref d) (.ref e)) _ _ s
  refine PySem.W.rcP_dicts (knd := mixKind X.prog X.w) ya yb da db (by omega) (fun _ => hits) _ _ ?_
  have e : va.length = vb.length := by rw [← ra.length, ← rb.length, kvs_len _ _ a1, kvs_len _ _ b1]
  rw [show (va.length == vb.length && linkEq zs f g) = linkEq zs f g from by rw [e]; simp]
  exact ⟨.bl _, H, J, rfl, q⟩
def rEqO (K : PySem.W.Frag) (C : Addr) (sp : Sp) : R2 := fun x y H Q => ∃ a dx fs t, x = V.ref a ∧ H a = some (.ins C dx fs) ∧ TyOf K H y t ∧ PySem.W.notFirst K C t = true ∧ sp [V.ref a, y] H (fun v H' => ∃ k, v = .bl k ∧ Q (.bl k) H') E0
/-- x == y, x an instance with its own __eq__, y of any known kind -/
theorem op_eqO {n : Nat} {f C : Addr} {fd : FuncData} {ps : List Str} {sp : Sp} (F : FnOk X.prog X.w X.K X.mg X.base CX0 n f fd ps sp) (hb : Binds X.K fd ps []) (hr : Room n X.A) (hs : PySem.W.findIn X.K (.ref C) "__eq__" = some (some (.ref f))) (hf : PySem.W.isFn X.K (.ref f) = true) :
    OpR X (compareOp .Eq) (rEqO X.K C sp) := by
  intro pn s g0 H x y v u Q J rx ry h
  obtain ⟨a, dx, fs, t, rfl, ha, ty, nf, q⟩ := h
  cases rx
  obtain ⟨mA, I1, _⟩ := ins_get J.hok ha
  obtain ⟨od, I1, _⟩ := I1.look
  obtain ⟨m, hF⟩ := J.fr
  have lk : PySem.W.Looks (model X.prog X.w) s.heap (typeOf u) t := by
    cases ty with
    | non =>
      cases ry
      exact .now
    | bl b =>
      cases ry
      exact .now
    | int i =>
      obtain ⟨k, rfl⟩ := ry
      exact .now
    | str z =>
      obtain ⟨k, rfl⟩ := ry
      exact .now
    | flt z =>
      obtain ⟨k, rfl⟩ := ry
      exact .now
    | @lst p xs e =>
      cases ry
      obtain ⟨_, its, k, _, ho⟩ := J.hok p _ e
      exact fun A Q E s' kp hq => wpAny_typeOf_ref (kp _ _ ho) hq
    | @frz p o xs e =>
      cases ry
      obtain ⟨_, _, its, k, _, ho⟩ := J.hok p _ e
      exact fun A Q E s' kp hq => wpAny_typeOf_ref (kp _ _ ho) hq
    | @tup p xs e =>
      cases ry
      obtain ⟨_, its, _, o, ho, hc, _⟩ := J.hok p _ e
      exact fun A Q E s' kp hq => wpAny_typeOf_ref (kp _ _ ho) (by rw [hc]; exact hq)
    | @dK p kvs e =>
      cases ry
      obtain ⟨_, _, vs, _, o, es, ep, h1, h2, _⟩ := (show ObjOk X.prog X.w H s.heap p (.dK kvs) from J.hok p _ e)
      exact fun A Q E s' kp hq => wpAny_typeOf_ref (kp _ _ h1) (by rw [h2.1]; exact hq)
    | @dT p kvs e =>
      cases ry
      obtain ⟨_, _, vs, _, o, es, ep, h1, h2, _⟩ := (show ObjOk X.prog X.w H s.heap p (.dT kvs) from J.hok p _ e)
      exact fun A Q E s' kp hq => wpAny_typeOf_ref (kp _ _ h1) (by rw [h2.1]; exact hq)
    | @ins p C' dy gs e cl h1 h2 h3 h4 =>
      cases ry
      obtain ⟨mB, I2, _⟩ := ins_get J.hok e
      obtain ⟨od', I2, _⟩ := I2.look
      exact I2.type
  show wpAny (model X.prog X.w) X.A (richCompare .Eq (.ref a) u) _ _ s
  refine PySem.W.cmp_K (op := .Eq) (tb := t) hr.units0 hF J.ok.mod.kin I1 lk nf hs hf (wpAny_mono (call_in F hb hr rfl J (vs := [V.ref a, y]) (.cons rfl (.cons ry .nil)) q) (fun v s' z => ?_) fun _ _ e => e)
  obtain ⟨v', H', J', rv, k, rfl, q'⟩ := z
  cases rv
  exact ⟨.bl k, H', J', rfl, q'⟩
def rNotInT (K : PySem.W.Frag) : R2 := fun x y H Q => ∃ d ds, Dp K H x d ∧ Dp K H y (.tuple ds) ∧ SeqAt.shaped d = true ∧ SeqAt.shaped (.tuple ds) = true ∧ Q (.bl (!ds.any fun z => PyData.eqv z d)) H
theorem op_notInT (hu : X.A.units + 65 < cLine) : OpR X (compareOp .NotIn) (rNotInT X.K) := by
  intro pn s g0 H x y v u Q J rx ry h
  obtain ⟨d, ds, hd, he, sd, se, q⟩ := h
  obtain ⟨as, r1⟩ := Dp.reads J d x v hd rx
  obtain ⟨bs, r2⟩ := Dp.reads J (.tuple ds) y u he ry
  exact SeqAt.notIn_tuple_reads r2 r1 (SeqAt.canLay_of_shaped se) (SeqAt.canLay_of_shaped sd) (room_in_shaped sd hu) ⟨.bl _, H, J, rfl, q⟩
end
end Dk
namespace Dk
open PySem L2
theorem cut_upto (xs : List V) {j : Nat} (h : j ≤ xs.length) : cutV xs none (some ((j : Nat) : Int)) = xs.take j := by
  unfold cutV
  rw [HT.sIx_none, show HT.sIx xs.length xs.length (some ((j : Nat) : Int)) = min j xs.length from HT.sIx_nat _ _ j, Nat.min_eq_left h]
  show (xs.drop 0).take (j - 0) = _
  rw [List.drop_zero, Nat.sub_zero]
/-! ### pairs, each once -/
def onceN (l : List SS) : Nat → List SS
  | 0 => []
  | n + 1 => onceN l n ++ (match l[n]? with
    | some p => if p ∈ l.take n then [] else [p]
    | none => [])
def once (l : List SS) : List SS := onceN l l.length
theorem onceN_at {l : List SS} {n : Nat} {p : SS} (e : l[n]? = some p) : onceN l (n + 1) = onceN l n ++ (if p ∈ l.take n then [] else [p]) := by
  show onceN l n ++ _ = _
  rw [e]
theorem onceN_mem (l : List SS) (x : SS) : ∀ n, n ≤ l.length → (x ∈ onceN l n ↔ x ∈ l.take n)
  | 0, _ => by simp [onceN]
  | n + 1, h => by
    have e : l[n]? = some l[n] := List.getElem?_eq_getElem (by omega)
    rw [onceN_at e, List.take_add_one, e, List.mem_append, List.mem_append, onceN_mem l x n (by omega)]
    show _ ∨ x ∈ (if l[n] ∈ l.take n then [] else [l[n]]) ↔ _ ∨ x ∈ [l[n]]
    by_cases m : l[n] ∈ l.take n
    · rw [if_pos m]
      constructor
      · rintro (h | h)
        · exact .inl h
        · cases h
      · rintro (h | h)
        · exact .inl h
        · rw [List.mem_singleton.mp h]
          exact .inl m
    · rw [if_neg m]
theorem onceN_nodup (l : List SS) : ∀ n, n ≤ l.length → (onceN l n).Nodup
  | 0, _ => List.nodup_nil
  | n + 1, h => by
    have e : l[n]? = some l[n] := List.getElem?_eq_getElem (by omega)
    rw [onceN_at e]
    by_cases m : l[n] ∈ l.take n
    · rw [if_pos m, List.append_nil]
      exact onceN_nodup l n (by omega)
    · rw [if_neg m]
      exact nodup_snoc (onceN_nodup l n (by omega)) fun z => m ((onceN_mem l _ n (by omega)).mp z)
theorem once_mem (l : List SS) (x : SS) : x ∈ once l ↔ x ∈ l := by
  unfold once
  rw [onceN_mem l x _ (Nat.le_refl _), List.take_length]
theorem once_nodup (l : List SS) : (once l).Nodup := onceN_nodup l _ (Nat.le_refl _)
theorem onceN_len (l : List SS) : ∀ n, (onceN l n).length ≤ n
  | 0 => Nat.le_refl _
  | n + 1 => by
    have := onceN_len l n
    show (onceN l n ++ _).length ≤ n + 1
    rw [List.length_append]
    split
    · split
      · show _ + 0 ≤ _
        omega
      · show _ + 1 ≤ _
        omega
    · show _ + 0 ≤ _
      omega
theorem nrm_cases (p : SS) : nrm p = p ∨ nrm p = (p.2, p.1) := by
  unfold nrm
  by_cases h : p.2.cps.toList < p.1.cps.toList
  · rw [if_pos h]
    exact .inr rfl
  · rw [if_neg h]
    exact .inl rfl
theorem nrm_swap (a b : Str) : nrm (a, b) = nrm (b, a) := by
  unfold nrm
  by_cases h : b.cps.toList < a.cps.toList
  · rw [if_pos h, if_neg (List.lt_asymm h)]
  · rw [if_neg h]
    by_cases h2 : a.cps.toList < b.cps.toList
    · rw [if_pos h2]
    · rw [if_neg h2]
      have e := str_same h2 h
      rw [e]
/-- the same doors, either way about -/
theorem nrm_iff (ds : List SS) (a b : Str) : nrm (a, b) ∈ ds.map nrm ↔ (a, b) ∈ both ds := by
  rw [both_iff, List.mem_map]
  constructor
  · rintro ⟨⟨c, d⟩, h, e⟩
    rcases nrm_cases (c, d) with e1 | e1 <;> rcases nrm_cases (a, b) with e2 | e2 <;> rw [e1, e2] at e <;> have x1 := (Prod.mk.inj e).1 <;> have x2 := (Prod.mk.inj e).2 <;> (try simp only at x1) <;> (try simp only at x2) <;> subst x1 <;> subst x2
    · exact .inl h
    · exact .inr h
    · exact .inr h
    · exact .inl h
  · rintro (h | h)
    · exact ⟨_, h, rfl⟩
    · exact ⟨_, h, nrm_swap b a⟩
theorem pds_nrm_ok {ds : List SS} (h : ∀ p ∈ ds, okP p) : ∀ p ∈ ds.map nrm, okP p := by
  intro p hp
  obtain ⟨q, hq, rfl⟩ := List.mem_map.mp hp
  rcases nrm_cases q with e | e
  · rw [e]
    exact h q hq
  · rw [e]
    exact ⟨(h q hq).2, (h q hq).1⟩
/-- what the law makes of a house -/
def Prs3 (H : Hp) (p : Addr) (zs : List Str) (ds ss : List SS) : Prop :=
  ∃ (r o s : Addr) (xs us : List V), H p = some (.tup [.ref r, .ref o, .ref s]) ∧ H r = some (.lst (zs.map V.str)) ∧ H o = some (.lst xs) ∧ PL H xs (srt (once (ds.map nrm))) ∧ H s = some (.lst us) ∧ PL H us (srt ss)
theorem Prs3.same {H H' : Hp} {p : Addr} {zs : List Str} {ds ss : List SS} (h : Prs3 H p zs ds ss) (e : Same H H') : Prs3 H' p zs ds ss := by
  obtain ⟨r, o, s, xs, us, h1, h2, h3, h4, h5, h6⟩ := h
  exact ⟨r, o, s, xs, us, e _ _ h1, e _ _ h2, e _ _ h3, h4.same e, e _ _ h5, h6.same e⟩
structure Fit (zs : List Str) (ds ss : List SS) : Prop where
  names : Names zs
  eight : zs.length ≤ 8
  dg : ∀ p ∈ ds, goodP zs p
  sg : ∀ p ∈ ss, goodP zs p
  dl : ds.length ≤ 200
  sl : ss.length ≤ 200
  sn : ss.Nodup
def spPairs : Sp := fun vs H Q _ => ∃ (t : Addr) (zs : List Str) (ds ss : List SS), vs = [.ref t] ∧ LHouse H t zs ds ss ∧ Fit zs ds ss ∧ ∀ (H' : Hp) (p : Addr), Same H H' → Prs3 H' p zs ds ss → Q (.ref p) H'
def spMade (C : Addr) : Sp := fun vs H Q _ => ∃ (t : Addr) (zs : List Str) (ds ss : List SS), vs = [.ref t] ∧ LHouse H t zs ds ss ∧ Fit zs ds ss ∧ ∀ (H' : Hp) (x : Addr), Same H H' → H x = none → HouseAt C (newPart H H') x zs (lnk zs (both ds)) (lnk zs ss) → Q (.ref x) H'
def d3 (zs : List Str) (ds ss : List SS) : PyData := .tuple [.list (zs.map PyData.str), .list ((srt (once (ds.map nrm))).map pd), .list ((srt ss).map pd)]
theorem Prs3.dp {K : PySem.W.Frag} {H : Hp} {p : Addr} {zs : List Str} {ds ss : List SS} (h : Prs3 H p zs ds ss) : Dp K H (.ref p) (d3 zs ds ss) := by
  obtain ⟨r, o, s, xs, us, h1, h2, h3, h4, h5, h6⟩ := h
  exact .tup (SqT.of h1) (.cons (.lst (SqL.of h2) (dp_strs zs)) (.cons (.lst (SqL.of h3) (pl_dp h4)) (.cons (.lst (SqL.of h5) (pl_dp h6)) .nil)))
theorem d3_shaped {zs : List Str} {ds ss : List SS} (f : Fit zs ds ss) : SeqAt.shaped (d3 zs ds ss) = true := by
  have okd : ∀ p ∈ ds, okP p := fun p hp => pred_ok f.names (f.dg p hp)
  have oks : ∀ p ∈ ss, okP p := fun p hp => pred_ok f.names (f.sg p hp)
  obtain ⟨a1, a2⟩ := lay_strs (zs := zs) fun z hz => nm_ok (f.names.2 z hz)
  obtain ⟨b1, b2⟩ := pds_lay (ps := srt (once (ds.map nrm))) fun p hp => pds_nrm_ok okd p ((once_mem _ _).mp ((srt_perm _).mem_iff.mp hp))
  obtain ⟨c1, c2⟩ := pds_lay (ps := srt ss) fun p hp => oks p ((srt_perm _).mem_iff.mp hp)
  unfold SeqAt.shaped
  have e1 : (d3 zs ds ss).canLay0 = true := by
    show (PyData.canLayAll0 (zs.map PyData.str) && (PyData.canLayAll0 ((srt (once (ds.map nrm))).map pd) && (PyData.canLayAll0 ((srt ss).map pd) && true))) = true
    rw [a1, b1, c1]
    rfl
  have e2 : (d3 zs ds ss).depth ≤ 64 := by
    show max (PyData.depthAll (zs.map PyData.str) + 1) (max (PyData.depthAll ((srt (once (ds.map nrm))).map pd) + 1) (max (PyData.depthAll ((srt ss).map pd) + 1) 0)) + 1 ≤ 64
    omega
  rw [e1, decide_eq_true e2]
  rfl
theorem eqv_pds : ∀ ps qs : List SS, PyData.eqvAll (ps.map pd) (qs.map pd) = decide (ps = qs)
  | [], [] => by simp [PyData.eqvAll]
  | [], _ :: _ => by simp [PyData.eqvAll]
  | _ :: _, [] => by simp [PyData.eqvAll]
  | p :: ps, q :: qs => by
    rw [List.map_cons, List.map_cons]
    show (PyData.eqv (pd p) (pd q) && PyData.eqvAll (ps.map pd) (qs.map pd)) = _
    rw [eqv_pds ps qs, eqv_pd, Bool.eq_iff_iff, Bool.and_eq_true, decide_eq_true_eq, decide_eq_true_eq, decide_eq_true_eq, List.cons.injEq]
theorem d3_eqv (zs : List Str) (ds ss : List SS) (zs' : List Str) (ds' ss' : List SS) : PyData.eqv (d3 zs ds ss) (d3 zs' ds' ss') = (decide (zs = zs') && (decide (srt (once (ds.map nrm)) = srt (once (ds'.map nrm))) && decide (srt ss = srt ss'))) := by
  show (PyData.eqv (.list (zs.map PyData.str)) (.list (zs'.map PyData.str)) && (PyData.eqv (.list ((srt (once (ds.map nrm))).map pd)) (.list ((srt (once (ds'.map nrm))).map pd)) && (PyData.eqv (.list ((srt ss).map pd)) (.list ((srt ss').map pd)) && true))) = _
  have l : ∀ ps qs : List SS, PyData.eqv (.list (ps.map pd)) (.list (qs.map pd)) = decide (ps = qs) := fun ps qs => by
    rw [← eqv_pds ps qs]
    simp [PyData.eqv]
  rw [eqv_lstrs, l, l, Bool.and_true]
/-- lists of neighbours tell the pairs -/
theorem link_iff {zs : List Str} {ps qs : List SS} (hp : ∀ p ∈ ps, inZ zs p) (hq : ∀ p ∈ qs, inZ zs p) : linkEq zs (lnk zs ps) (lnk zs qs) = true ↔ ∀ x, x ∈ ps ↔ x ∈ qs := by
  unfold linkEq
  rw [List.all_eq_true]
  have key : ∀ (rs : List SS), (∀ p ∈ rs, inZ zs p) → ∀ a b, a ∈ zs → ((a, b) ∈ rs ↔ b ∈ lnk zs rs a) := by
    intro rs hr a b ha
    unfold lnk
    rw [List.mem_filter, decide_eq_true_eq]
    exact ⟨fun h => ⟨(hr _ h).2, h⟩, fun h => h.2⟩
  constructor
  · rintro h ⟨a, b⟩
    constructor
    · intro m
      have ha := (hp _ m).1
      exact (key qs hq a b ha).mpr (by rw [← of_decide_eq_true (h a ha)]; exact (key ps hp a b ha).mp m)
    · intro m
      have ha := (hq _ m).1
      exact (key ps hp a b ha).mpr (by rw [of_decide_eq_true (h a ha)]; exact (key qs hq a b ha).mp m)
  · intro h a _
    refine decide_eq_true ?_
    unfold lnk
    refine List.filter_congr fun b _ => ?_
    rw [Bool.eq_iff_iff, decide_eq_true_eq, decide_eq_true_eq]
    exact h (a, b)
theorem both_in {zs : List Str} {ds : List SS} (h : ∀ p ∈ ds, goodP zs p) : ∀ p ∈ both ds, inZ zs p := by
  rintro ⟨a, b⟩ hp
  rcases (both_iff ds a b).mp hp with m | m
  · exact ⟨(h _ m).1, (h _ m).2.1⟩
  · exact ⟨(h _ m).2.1, (h _ m).1⟩
/-- houses are equal just where the law says so -/
theorem due_eq {zs : List Str} {ds ss : List SS} {zs' : List Str} {ds' ss' : List SS} (f : Fit zs ds ss) (f' : Fit zs' ds' ss') :
    PyData.eqv (d3 zs ds ss) (d3 zs' ds' ss') = (decide (zs = zs') && (linkEq zs (lnk zs (both ds)) (lnk zs' (both ds')) && linkEq zs (lnk zs ss) (lnk zs' ss'))) := by
  rw [d3_eqv]
  by_cases e : zs = zs'
  · subst e
    congr 1
    congr 1
    · rw [Bool.eq_iff_iff, decide_eq_true_eq, srt_eq (once_nodup _) (once_nodup _), link_iff (both_in f.dg) (both_in f'.dg)]
      constructor
      · rintro h ⟨a, b⟩
        rw [← nrm_iff, ← nrm_iff]
        have := h (nrm (a, b))
        rw [once_mem, once_mem] at this
        exact this
      · intro h x
        rw [once_mem, once_mem]
        have hx : ∀ rs : List SS, x ∈ rs.map nrm → nrm (x.1, x.2) = x := by
          intro rs hm
          obtain ⟨q, hq, rfl⟩ := List.mem_map.mp hm
          rcases nrm_cases q with z | z
          · rw [z]
            exact z
          · rw [z]
            have := nrm_swap q.2 q.1
            rw [this]
            exact z
        constructor
        · intro m
          have e1 := hx _ m
          rw [← e1] at m ⊢
          exact (nrm_iff ds' _ _).mpr ((h _).mp ((nrm_iff ds _ _).mp m))
        · intro m
          have e1 := hx _ m
          rw [← e1] at m ⊢
          exact (nrm_iff ds _ _).mpr ((h _).mpr ((nrm_iff ds' _ _).mp m))
    · rw [Bool.eq_iff_iff, decide_eq_true_eq, srt_eq f.sn f'.sn, link_iff (fun p hp => ⟨(f.sg p hp).1, (f.sg p hp).2.1⟩) (fun p hp => ⟨(f'.sg p hp).1, (f'.sg p hp).2.1⟩)]
  · rw [decide_eq_false e]
    rfl
end Dk
namespace Dk
open PySem L2
/-! ### eight houses by one -/
def gdn : Str := Str.ofString "garden"
abbrev H3 := List Str × List SS × List SS
def f5 (pr : SS) (ds : List SS) : List SS := ds.filter fun p => decide (p ≠ pr ∧ p ≠ (pr.2, pr.1))
def f6 (pr : SS) (ss : List SS) : List SS := ss.filter fun p => decide (p ≠ pr)
def S8 (zs : List Str) (ds ss : List SS) (pr : SS) : List H3 := [(zs ++ [gdn], ds, ss), (zs ++ [gdn], swp ds ++ ds.take 2, ss.reverse), ((zs ++ [gdn]).reverse, ds, ss), (zs, ds, ss), (zs ++ [gdn], ds ++ [pr], ss), (zs ++ [gdn], f5 pr ds, ss), (zs ++ [gdn], ds, f6 pr ss), (zs ++ [gdn], ds, f6 pr ss ++ [pr])]
theorem goodP.more {zs ws : List Str} {p : SS} (h : goodP zs p) (s : ∀ z ∈ zs, z ∈ ws) : goodP ws p := ⟨s _ h.1, s _ h.2.1, h.2.2⟩
theorem goodP.swap {zs : List Str} {a b : Str} (h : goodP zs (a, b)) : goodP zs (b, a) := ⟨h.2.1, h.1, fun e => h.2.2 e.symm⟩
theorem nodup_rev {α : Type} {l : List α} (h : l.Nodup) : l.reverse.Nodup := List.pairwise_reverse.mpr (List.Pairwise.imp (fun n e => n e.symm) h)
theorem gdn_new {zs : List Str} (h : ∀ z ∈ zs, LenOk z) : gdn ∉ zs := fun m => (h _ m).1 (by decide +kernel)
theorem ws_names {zs : List Str} (h : Names zs) (n : gdn ∉ zs) : Names (zs ++ [gdn]) := by
  refine ⟨nodup_snoc h.1 n, fun z hz => ?_⟩
  rcases List.mem_append.mp hz with m | m
  · exact h.2 z m
  · rw [List.mem_singleton.mp m]
    decide +kernel
theorem fits {zs : List Str} {ds ss : List SS} {pr : SS} (g : Good zs ds ss) (l5 : zs.length ≤ 5) (hp : goodP (zs ++ [gdn]) pr) : ∀ h ∈ S8 zs ds ss pr, Fit h.1 h.2.1 h.2.2 := by
  have nw := ws_names g.names (gdn_new g.ln)
  have up : ∀ z ∈ zs, z ∈ zs ++ [gdn] := fun z hz => List.mem_append.mpr (.inl hz)
  have wl : (zs ++ [gdn]).length ≤ 8 := by
    rw [List.length_append]
    show zs.length + 1 ≤ 8
    omega
  have dw : ∀ p ∈ ds, goodP (zs ++ [gdn]) p := fun p hp => (g.dg p hp).more up
  have sw : ∀ p ∈ ss, goodP (zs ++ [gdn]) p := fun p hp => (g.sg p hp).more up
  have dl := g.dl
  have sl := g.sl
  have dl2 : ds.length ≤ 200 := by omega
  have sl2 : ss.length ≤ 200 := by omega
  have fl6 : (f6 pr ss).length ≤ ss.length := List.length_filter_le _ _
  have fl5 : (f5 pr ds).length ≤ ds.length := List.length_filter_le _ _
  have n6 : (f6 pr ss).Nodup := g.sn.filter _
  have s6 : ∀ p ∈ f6 pr ss, goodP (zs ++ [gdn]) p := fun p hp => sw p (List.mem_filter.mp hp).1
  intro h hh
  unfold S8 at hh
  simp only [List.mem_cons, List.mem_nil_iff, or_false] at hh
  rcases hh with rfl | rfl | rfl | rfl | rfl | rfl | rfl | rfl
  · exact ⟨nw, wl, dw, sw, dl2, sl2, g.sn⟩
  · refine ⟨nw, wl, ?_, ?_, ?_, ?_, ?_⟩
    · rintro ⟨a, b⟩ hp
      rcases List.mem_append.mp hp with m | m
      · exact (dw _ (swp_mem.mp m)).swap
      · exact dw _ (List.mem_of_mem_take m)
    · exact fun p hp => sw p (List.mem_reverse.mp hp)
    · rw [List.length_append, swp_len, List.length_take]
      omega
    · rw [List.length_reverse]
      exact sl2
    · exact nodup_rev g.sn
  · refine ⟨⟨nodup_rev nw.1, fun z hz => nw.2 z (List.mem_reverse.mp hz)⟩, by rw [List.length_reverse]; exact wl, fun p hp => (dw p hp).more fun z hz => List.mem_reverse.mpr hz, fun p hp => (sw p hp).more fun z hz => List.mem_reverse.mpr hz, dl2, sl2, g.sn⟩
  · exact ⟨g.names, g.eight, g.dg, g.sg, dl2, sl2, g.sn⟩
  · refine ⟨nw, wl, fun p hp' => ?_, sw, ?_, sl2, g.sn⟩
    · rcases List.mem_append.mp hp' with m | m
      · exact dw p m
      · rw [List.mem_singleton.mp m]
        exact hp
    · rw [List.length_append]
      show ds.length + 1 ≤ 200
      omega
  · exact ⟨nw, wl, fun p hp => dw p (List.mem_filter.mp hp).1, sw, Nat.le_trans fl5 dl2, sl2, g.sn⟩
  · exact ⟨nw, wl, dw, s6, dl2, Nat.le_trans fl6 sl2, n6⟩
  · refine ⟨nw, wl, dw, fun p hp' => ?_, dl2, ?_, nodup_snoc n6 fun m => ?_⟩
    · rcases List.mem_append.mp hp' with m | m
      · exact s6 p m
      · rw [List.mem_singleton.mp m]
        exact hp
    · rw [List.length_append]
      show (f6 pr ss).length + 1 ≤ 200
      omega
    · exact of_decide_eq_true (List.mem_filter.mp m).2 rfl
/-! ### the law's list of houses -/
def SL (q : Addr) (H : Hp) (ts : List Addr) (S : List H3) : Prop := ts.length = S.length ∧ ∀ (i : Nat) (t : Addr) (h : H3), ts[i]? = some t → S[i]? = some h → LHouseN q H t h.1 h.2.1 h.2.2
theorem LHouseN.but {q : Addr} {H H' : Hp} {t : Addr} {zs : List Str} {ds ss : List SS} {xs0 : List V} (h : LHouseN q H t zs ds ss) (hq : H q = some (.lst xs0)) (v : Sav q H H') : LHouseN q H' t zs ds ss := by
  obtain ⟨r, d, s, xs, us, n1, n2, n3, h1, h2, h3, h4, h5, h6⟩ := h
  have kt : KeepT H H' := fun t' ys e => v t' _ (fun z => by rw [z, hq] at e; cases e) e
  exact ⟨r, d, s, xs, us, n1, n2, n3, kt _ _ h1, v _ _ n1 h2, v _ _ n2 h3, h4.keep kt, v _ _ n3 h5, h6.keep kt⟩
theorem SL.but {q : Addr} {H H' : Hp} {ts : List Addr} {S : List H3} {xs0 : List V} (h : SL q H ts S) (hq : H q = some (.lst xs0)) (v : Sav q H H') : SL q H' ts S := ⟨h.1, fun i t x h1 h2 => (h.2 i t x h1 h2).but hq v⟩
theorem SL.snoc {q : Addr} {H : Hp} {ts : List Addr} {S : List H3} {t : Addr} {x : H3} (h : SL q H ts S) (n : LHouseN q H t x.1 x.2.1 x.2.2) : SL q H (ts ++ [t]) (S ++ [x]) := by
  refine ⟨by rw [List.length_append, List.length_append, h.1]; rfl, fun i t' y h1 h2 => ?_⟩
  by_cases hi : i < ts.length
  · rw [List.getElem?_append_left hi] at h1
    rw [List.getElem?_append_left (by rw [← h.1]; exact hi)] at h2
    exact h.2 i t' y h1 h2
  · rw [List.getElem?_append_right (by omega)] at h1
    rw [List.getElem?_append_right (by rw [← h.1]; omega), ← h.1] at h2
    have e : i - ts.length = 0 := by
      cases z : i - ts.length with
      | zero => rfl
      | succ k =>
        rw [z] at h1
        simp at h1
    rw [e] at h1 h2
    cases h1
    cases h2
    exact n
theorem SL.at {q : Addr} {H : Hp} {ts : List Addr} {S : List H3} {i : Nat} {x : H3} (h : SL q H ts S) (e : S[i]? = some x) : ∃ t, ts[i]? = some t ∧ LHouse H t x.1 x.2.1 x.2.2 := by
  have hi : i < S.length := (List.getElem?_eq_some_iff.mp e).1
  have hi2 : i < ts.length := by
    rw [h.1]
    exact hi
  have e2 : ts[i]? = some ts[i] := List.getElem?_eq_getElem hi2
  exact ⟨_, e2, (h.2 i _ x e2 e).of⟩
/-- the houses made of them -/
def ML (C : Addr) (H : Hp) (ms : List Addr) (S : List H3) : Prop := ms.length = S.length ∧ ∀ (i : Nat) (m : Addr) (h : H3), ms[i]? = some m → S[i]? = some h → HouseAt C H m h.1 (lnk h.1 (both h.2.1)) (lnk h.1 h.2.2)
theorem ML.same {C : Addr} {H H' : Hp} {ms : List Addr} {S : List H3} (h : ML C H ms S) (e : Same H H') : ML C H' ms S := ⟨h.1, fun i m x h1 h2 => (h.2 i m x h1 h2).same e⟩
theorem HouseAt.hsb {C : Addr} {H : Hp} {x : Addr} {zs : List Str} {ps qs : List SS} (h : HouseAt C H x zs (lnk zs ps) (lnk zs qs)) : Hs C H x zs (lnk zs ps) (lnk zs qs) ∧ ∀ a, ∀ b ∈ lnk zs ps a, b ∈ zs := ⟨Hs.of h, fun a b hb => (List.mem_filter.mp hb).1⟩
theorem swp_rev {ds : List SS} {j : Nat} {ab : SS} (e : ds[j]? = some ab) : swp (ds.take (j + 1)) = swp (ds.take j) ++ [(ab.2, ab.1)] := swp_take e
theorem f5_take {pr ab : SS} {ds : List SS} {j : Nat} (e : ds[j]? = some ab) : f5 pr (ds.take (j + 1)) = f5 pr (ds.take j) ++ (if ab ≠ pr ∧ ab ≠ (pr.2, pr.1) then [ab] else []) := by
  unfold f5
  rw [List.take_add_one, e, List.filter_append]
  congr 1
  show List.filter _ [ab] = _
  by_cases h : ab ≠ pr ∧ ab ≠ (pr.2, pr.1)
  · rw [if_pos h, List.filter_cons, if_pos (decide_eq_true h)]
    rfl
  · rw [if_neg h, List.filter_cons, if_neg (fun z => h (of_decide_eq_true z))]
    rfl
theorem f6_take {pr ab : SS} {ds : List SS} {j : Nat} (e : ds[j]? = some ab) : f6 pr (ds.take (j + 1)) = f6 pr (ds.take j) ++ (if ab ≠ pr then [ab] else []) := by
  unfold f6
  rw [List.take_add_one, e, List.filter_append]
  congr 1
  show List.filter _ [ab] = _
  by_cases h : ab ≠ pr
  · rw [if_pos h, List.filter_cons, if_pos (decide_eq_true h)]
    rfl
  · rw [if_neg h, List.filter_cons, if_neg (fun z => h (of_decide_eq_true z))]
    rfl
theorem PL.rev {H : Hp} : ∀ {xs : List V} {ps : List SS}, PL H xs ps → PL H xs.reverse ps.reverse
  | [], [], h => h
  | [], _ :: _, h => by cases h.1
  | _ :: _, [], h => by cases h.1
  | x :: xs, p :: ps, h => by
    rw [List.reverse_cons, List.reverse_cons]
    exact (PL.rev h.tail.2).snoc h.tail.1
theorem cut_last (zs : List Str) : cutV ((zs ++ [gdn]).map V.str) none (some (-1)) = zs.map V.str := by
  have hl : ((zs ++ [gdn]).map V.str).length = zs.length + 1 := by
    rw [List.length_map, List.length_append]
    rfl
  unfold cutV
  rw [hl, HT.sIx_none]
  have e : HT.sIx (zs.length + 1) (zs.length + 1) (some (-1)) = zs.length := by
    unfold HT.sIx
    simp
    try omega
  rw [e, List.map_append]
  show (List.take (zs.length - 0) (List.drop 0 _)) = _
  rw [List.drop_zero, Nat.sub_zero]
  have : zs.length = (zs.map V.str).length := by rw [List.length_map]
  rw [this, List.take_left]
theorem at_strs {zs : List Str} {q : Int} (h0 : 0 ≤ q) (h1 : q < (zs.length : Int)) : ∃ (i : Nat) (z : Str), zs[i]? = some z ∧ q = (i : Nat) ∧ atI (zs.map V.str) q = some (.str z) := by
  have e : q = ((q.toNat : Nat) : Int) := (Int.toNat_of_nonneg h0).symm
  have hi : q.toNat < zs.length := by omega
  have g : zs[q.toNat]? = some zs[q.toNat] := List.getElem?_eq_getElem hi
  exact ⟨q.toNat, zs[q.toNat], g, e, at_str g e⟩
theorem nodup_ne {zs : List Str} (h : zs.Nodup) {i j : Nat} {x y : Str} (hi : zs[i]? = some x) (hj : zs[j]? = some y) (n : i ≠ j) : x ≠ y := by
  obtain ⟨a, e⟩ := List.getElem?_eq_some_iff.mp hi
  obtain ⟨b, f⟩ := List.getElem?_eq_some_iff.mp hj
  rw [← e, ← f]
  rcases Nat.lt_or_gt_of_ne n with g | g
  · exact List.pairwise_iff_getElem.mp h i j a b g
  · exact (List.pairwise_iff_getElem.mp h j i b a g).symm
theorem mod_off {q p n : Int} (a0 : 0 ≤ q) (a1 : q < n) (b0 : 0 ≤ p) (b1 : p < n - 1) : (q + 1 + p) % n ≠ q := by
  by_cases h : q + 1 + p < n
  · rw [Int.emod_eq_of_lt (by omega) h]
    omega
  · have e : (q + 1 + p) % n = q + 1 + p - n := by
      rw [← Int.sub_emod_right, Int.emod_eq_of_lt (by omega) (by omega)]
    rw [e]
    omega
/-- a tuple of three lists, none of them the list at q -/
theorem LHouseN.mk {q : Addr} {H : Hp} {t r d s : Addr} {zs : List Str} {ds ss : List SS} {xs us : List V} (n1 : r ≠ q) (n2 : d ≠ q) (n3 : s ≠ q) (h1 : H t = some (.tup [.ref r, .ref d, .ref s])) (h2 : H r = some (.lst (zs.map V.str))) (h3 : H d = some (.lst xs)) (h4 : PL H xs ds) (h5 : H s = some (.lst us)) (h6 : PL H us ss) : LHouseN q H t zs ds ss := ⟨r, d, s, xs, us, n1, n2, n3, h1, h2, h3, h4, h5, h6⟩
theorem pd_any2 (ab p q : SS) : ([pd p, pd q].any fun z => PyData.eqv z (pd ab)) = decide (¬ (ab ≠ p ∧ ab ≠ q)) := by
  have := any_pd ab [p, q]
  rw [List.map_cons, List.map_cons, List.map_nil] at this
  rw [this, Bool.eq_iff_iff, decide_eq_true_eq, decide_eq_true_eq, List.mem_cons, List.mem_singleton]
  by_cases h1 : ab = p
  · simp [h1]
  · by_cases h2 : ab = q
    · simp [h2]
    · simp [h1, h2]
theorem Sav.keepL {q : Addr} {H H' : Hp} {xs : List V} (v : Sav q H H') (hq : H q = some (.lst xs)) : KeepT H H' := fun t' ys e => v t' _ (fun z => by rw [z, hq] at e; cases e) e
theorem SL.step {q : Addr} {H0 H H' : Hp} {T : Addr} {ts : List Addr} {S : List H3} {x : H3} (v : Sav q H0 H) (hq : H q = some (.lst (ts.map V.ref))) (h : SL q H ts S) (s : Same H H') (n : LHouseN q H' T x.1 x.2.1 x.2.2) :
    Sav q H0 (upd H' q (.lst (ts.map V.ref ++ [V.ref T]))) ∧ (upd H' q (.lst (ts.map V.ref ++ [V.ref T]))) q = some (.lst ((ts ++ [T]).map V.ref)) ∧ SL q (upd H' q (.lst (ts.map V.ref ++ [V.ref T]))) (ts ++ [T]) (S ++ [x]) :=
  ⟨(v.trans (Sav.of s)).trans Sav.upd, by rw [upd_same, List.map_append]; rfl, ((h.but hq (Sav.of s)).snoc n).but (s _ _ hq) Sav.upd⟩
theorem pds_shapedT {ps : List SS} (h : ∀ p ∈ ps, okP p) : SeqAt.shaped (.tuple (ps.map pd)) = true := by
  obtain ⟨h1, h2⟩ := pds_lay h
  unfold SeqAt.shaped
  have e1 : (PyData.tuple (ps.map pd)).canLay0 = true := h1
  have e2 : (PyData.tuple (ps.map pd)).depth ≤ 64 := by
    show PyData.depthAll (ps.map pd) + 1 ≤ 64
    omega
  rw [e1, decide_eq_true e2]
  rfl
end Dk
namespace Dk
open PySem L2
theorem not_t : ∀ {b : Bool}, (!b) = true → b = false
  | false, _ => rfl
  | true, h => by cases h
/-! ### Euclid in turns -/
def estep (p : Nat × Nat) : Nat × Nat := if 0 < p.2 then (p.2, p.1 % p.2) else p
def eit : Nat → Nat × Nat → Nat × Nat
  | 0, p => p
  | n + 1, p => estep (eit n p)
theorem eit_in : ∀ (n : Nat) (p : Nat × Nat), eit (n + 1) p = eit n (estep p)
  | 0, _ => rfl
  | n + 1, p => by
    show estep (eit (n + 1) p) = estep (eit n (estep p))
    rw [eit_in n p]
theorem half_rest {b m : Nat} (h0 : 0 < m) (h1 : m ≤ b) : 2 * (b % m) < b := by
  have h2 := Nat.mod_lt b h0
  have h3 := Nat.div_add_mod b m
  have h4 : 1 ≤ b / m := Nat.div_pos h1 h0
  have h5 : m * 1 ≤ m * (b / m) := Nat.mul_le_mul_left m h4
  omega
theorem eit_gcd : ∀ (k a b : Nat), b < 2 ^ k → eit (2 * k) (a, b) = (Nat.gcd a b, 0)
  | 0, a, b, h => by
    have e : b = 0 := by simpa using h
    subst e
    rw [Nat.gcd_zero_right]
    rfl
  | k + 1, a, b, h => by
    rw [show 2 * (k + 1) = 2 * k + 1 + 1 from by omega, eit_in, eit_in]
    by_cases hb : 0 < b
    · have e1 : estep (a, b) = (b, a % b) := if_pos hb
      rw [e1]
      by_cases hm : 0 < a % b
      · have e2 : estep (b, a % b) = (a % b, b % (a % b)) := if_pos hm
        have hl := Nat.mod_lt a hb
        have hh := half_rest hm (Nat.le_of_lt hl)
        rw [e2, eit_gcd k _ _ (by rw [Nat.pow_succ] at h; omega)]
        rw [Nat.gcd_comm a b, Nat.gcd_rec b a, Nat.gcd_rec (a % b) b, Nat.gcd_comm]
      · have e0 : a % b = 0 := by omega
        have e2 : estep (b, a % b) = (b, 0) := by
          rw [e0]
          rfl
        rw [e2, eit_gcd k b 0 (Nat.pow_pos (by decide)), Nat.gcd_zero_right, Nat.gcd_eq_right (Nat.dvd_of_mod_eq_zero e0)]
    · have e : b = 0 := by omega
      subst e
      have e1 : estep (a, 0) = (a, 0) := rfl
      rw [e1, e1, eit_gcd k a 0 (Nat.pow_pos (by decide))]
/-! ### least common multiples -/
/-- a test's reading passes on -/
theorem mono_test {r : R2} {ta tb : TE} (ha : ∀ σ H Q Q', (∀ v H1, Q v H1 → Q' v H1) → ta σ H Q → ta σ H Q') (hb : ∀ σ H Q Q', (∀ v H1, Q v H1 → Q' v H1) → tb σ H Q → tb σ H Q') (hr : ∀ x y H Q Q', (∀ v H1, Q v H1 → Q' v H1) → r x y H Q → r x y H Q') :
    ∀ σ H Q Q', (∀ b H1, Q b H1 → Q' b H1) → tTest (tOp r ta tb) σ H Q → tTest (tOp r ta tb) σ H Q' := by
  intro σ H Q Q' h q
  refine ha σ H _ _ (fun x H1 q1 => hb σ H1 _ _ (fun y H2 q2 => hr x y H2 _ _ (fun v H3 q3 => ?_) q2) q1) q
  obtain ⟨k, e, q4⟩ := q3
  exact ⟨k, e, h _ _ q4⟩
theorem mono_var (i : Nat) : ∀ (σ : L2.St) (H : Hp) (Q Q' : VK), (∀ v H1, Q v H1 → Q' v H1) → tVar i σ H Q → tVar i σ H Q' := by
  rintro σ H Q Q' h ⟨v, e, q⟩
  exact ⟨v, e, h _ _ q⟩
theorem mono_const (c : V) : ∀ (σ : L2.St) (H : Hp) (Q Q' : VK), (∀ v H1, Q v H1 → Q' v H1) → tC c σ H Q → tC c σ H Q' := fun σ H Q Q' h q => h _ _ q
def lcmL (ns : List Nat) : Nat := ns.foldl Nat.lcm 1
theorem lcm_le_mul (a b : Nat) : Nat.lcm a b ≤ a * b := by
  unfold Nat.lcm
  exact Nat.div_le_self _ _
theorem lcm_eq (a b : Nat) : a / Nat.gcd a b * b = Nat.lcm a b := by
  unfold Nat.lcm
  rw [Nat.div_mul_right_comm (Nat.gcd_dvd_left a b)]
theorem foldl_le : ∀ (ns : List Nat) (w : Nat), ns.foldl Nat.lcm w ≤ ns.foldl (· * ·) w
  | [], _ => Nat.le_refl _
  | n :: r, w => by
    have h1 := foldl_le r (Nat.lcm w n)
    have h2 : r.foldl (· * ·) (Nat.lcm w n) ≤ r.foldl (· * ·) (w * n) := foldl_mono r (lcm_le_mul w n)
    exact Nat.le_trans h1 h2
where
  foldl_mono : ∀ (r : List Nat) {x y : Nat}, x ≤ y → r.foldl (· * ·) x ≤ r.foldl (· * ·) y
    | [], _, _, h => h
    | m :: r, _, _, h => foldl_mono r (Nat.mul_le_mul_right m h)
theorem foldl_pos : ∀ (ns : List Nat) {w : Nat}, 0 < w → (∀ n ∈ ns, 0 < n) → 0 < ns.foldl Nat.lcm w
  | [], _, h, _ => h
  | n :: r, _, h, hn => foldl_pos r (Nat.lcm_pos h (hn n List.mem_cons_self)) fun m hm => hn m (List.mem_cons_of_mem _ hm)
theorem lcmL_take {ns : List Nat} {i n : Nat} (h : ns[i]? = some n) : lcmL (ns.take (i + 1)) = Nat.lcm (lcmL (ns.take i)) n := by
  unfold lcmL
  rw [List.take_add_one, h, List.foldl_append]
  rfl
/-! ### numbers with two rests -/
theorem two_rests {a b : Nat} {x y : Int} (ha : (x - y) % (a : Int) = 0) (hb : (x - y) % (b : Int) = 0) (h1 : x - y < (Nat.lcm a b : Nat)) (h2 : y - x < (Nat.lcm a b : Nat)) : x = y := by
  have d1 : (a : Int) ∣ x - y := Int.dvd_of_emod_eq_zero ha
  have d2 : (b : Int) ∣ x - y := Int.dvd_of_emod_eq_zero hb
  have d3 : Nat.lcm a b ∣ (x - y).natAbs := Nat.lcm_dvd (Int.natAbs_dvd_natAbs.mpr d1 |> fun z => by simpa using z) (Int.natAbs_dvd_natAbs.mpr d2 |> fun z => by simpa using z)
  have h3 : (x - y).natAbs < Nat.lcm a b := by omega
  have h4 := Nat.eq_zero_of_dvd_of_lt d3 h3
  omega
theorem rest_sub {x y : Int} {a : Nat} {r : Int} (hx : x % (a : Int) = r) (hy : y % (a : Int) = r) : (x - y) % (a : Int) = 0 := by
  exact Int.emod_eq_emod_iff_emod_sub_eq_zero.mp (hx.trans hy.symm)
theorem lcm_eq2 (a b : Nat) : a * (b / Nat.gcd a b) = Nat.lcm a b := by
  unfold Nat.lcm
  rw [Nat.mul_div_assoc a (Nat.gcd_dvd_right a b)]
/-- the common number, by the share c -/
def meetN (a b : Nat) (r s c : Int) : Int := r + ((s - r) / (Nat.gcd a b : Nat) * c) % ((b / Nat.gcd a b : Nat) : Int) * a
theorem meet_ok {a b : Nat} {r s c q : Int} (ha : 0 < a) (hb : 0 < b) (hr0 : 0 ≤ r) (hr : r < a) (hs0 : 0 ≤ s) (hs : s < b) (hc : c * a = (Nat.gcd a b : Nat) + q * b) (hd : (s - r) % (Nat.gcd a b : Nat) = 0) :
    meetN a b r s c % a = r ∧ meetN a b r s c % b = s ∧ 0 ≤ meetN a b r s c ∧ meetN a b r s c < (Nat.lcm a b : Nat) := by
  have hg : 0 < Nat.gcd a b := Nat.gcd_pos_of_pos_left b ha
  have ht : 0 < b / Nat.gcd a b := Nat.div_pos (Nat.le_of_dvd hb (Nat.gcd_dvd_right a b)) hg
  have eg : (s - r) = (Nat.gcd a b : Nat) * ((s - r) / (Nat.gcd a b : Nat)) := by
    have := Int.emod_add_mul_ediv (s - r) (Nat.gcd a b : Nat)
    omega
  have eb : (b : Int) = (Nat.gcd a b : Nat) * ((b / Nat.gcd a b : Nat) : Int) := by
    have := Nat.mul_div_cancel' (Nat.gcd_dvd_right a b)
    exact_mod_cast this.symm
  have ea : (a : Int) = (Nat.gcd a b : Nat) * ((a / Nat.gcd a b : Nat) : Int) := by
    have := Nat.mul_div_cancel' (Nat.gcd_dvd_left a b)
    exact_mod_cast this.symm
  unfold meetN
  generalize hA : (s - r) / (Nat.gcd a b : Nat) = A at *
  have em := Int.emod_add_mul_ediv (A * c) ((b / Nat.gcd a b : Nat) : Int)
  have e0 : 0 ≤ (A * c) % ((b / Nat.gcd a b : Nat) : Int) := Int.emod_nonneg _ (by omega)
  have e1 : (A * c) % ((b / Nat.gcd a b : Nat) : Int) < ((b / Nat.gcd a b : Nat) : Int) := Int.emod_lt_of_pos _ (by omega)
  generalize hB : (A * c) / ((b / Nat.gcd a b : Nat) : Int) = B at *
  generalize hT : (A * c) % ((b / Nat.gcd a b : Nat) : Int) = t at *
  refine ⟨?_, ?_, ?_, ?_⟩
  · rw [Int.add_mul_emod_self_right, Int.emod_eq_of_lt hr0 hr]
  · have key : r + t * a = s + (A * q - B * ((a / Nat.gcd a b : Nat) : Int)) * b := by
      have h1 : t * a = A * (c * a) - B * (((b / Nat.gcd a b : Nat) : Int) * a) := by
        have : t = A * c - ((b / Nat.gcd a b : Nat) : Int) * B := by omega
        rw [this, Int.sub_mul, Int.mul_assoc, Int.mul_comm _ B, Int.mul_assoc]
      have h2 : ((b / Nat.gcd a b : Nat) : Int) * a = ((a / Nat.gcd a b : Nat) : Int) * b := by
        calc ((b / Nat.gcd a b : Nat) : Int) * a = ((b / Nat.gcd a b : Nat) : Int) * ((Nat.gcd a b : Nat) * ((a / Nat.gcd a b : Nat) : Int)) := by rw [← ea]
          _ = ((a / Nat.gcd a b : Nat) : Int) * ((Nat.gcd a b : Nat) * ((b / Nat.gcd a b : Nat) : Int)) := by
            rw [← Int.mul_assoc, Int.mul_comm _ ((Nat.gcd a b : Nat) : Int), Int.mul_comm]
          _ = _ := by rw [← eb]
      rw [h1, hc, h2, Int.mul_add, Int.sub_mul, Int.mul_assoc A q, Int.mul_assoc B, Int.mul_comm A ((Nat.gcd a b : Nat) : Int), ← eg]
      omega
    rw [key, Int.add_mul_emod_self_right, Int.emod_eq_of_lt hs0 hs]
  · have : 0 ≤ t * a := Int.mul_nonneg e0 (by omega)
    omega
  · have h3 : t * a ≤ (((b / Nat.gcd a b : Nat) : Int) - 1) * a := Int.mul_le_mul_of_nonneg_right (by omega) (by omega)
    have h4 : ((Nat.lcm a b : Nat) : Int) = ((b / Nat.gcd a b : Nat) : Int) * a := by
      rw [← lcm_eq2, Int.natCast_mul, Int.mul_comm]
    rw [Int.sub_mul] at h3
    omega
theorem meet_none {a b : Nat} {r s : Int} (hd : ¬ (s - r) % (Nat.gcd a b : Nat) = 0) (k : Int) (h1 : k % a = r) (h2 : k % b = s) : False := by
  apply hd
  have d1 : ((Nat.gcd a b : Nat) : Int) ∣ k - r := by
    have : (a : Int) ∣ k - r := ⟨k / a, by have := Int.emod_add_mul_ediv k a; omega⟩
    exact Int.dvd_trans (Int.natCast_dvd_natCast.mpr (Nat.gcd_dvd_left a b)) this
  have d2 : ((Nat.gcd a b : Nat) : Int) ∣ k - s := by
    have : (b : Int) ∣ k - s := ⟨k / b, by have := Int.emod_add_mul_ediv k b; omega⟩
    exact Int.dvd_trans (Int.natCast_dvd_natCast.mpr (Nat.gcd_dvd_right a b)) this
  have d3 := Int.dvd_sub d1 d2
  rw [show k - r - (k - s) = s - r by omega] at d3
  exact Int.emod_eq_zero_of_dvd d3
/-! ### promises -/
def two : Nat := 2 ^ 64
def spDas : Sp := fun vs H Q _ => ∃ x y : Nat, vs = [.int (x : Int), .int (y : Int)] ∧ 0 < x ∧ x < 2 ^ 64 ∧ y < 2 ^ 64 ∧
  ∀ (H' : Hp) (t : Addr) (c q : Int), Same H H' → H t = none → H' t = some (.tup [.int (Nat.gcd x y : Nat), .int c]) → c * x = (Nat.gcd x y : Nat) + q * y → Q (.ref t) H'
def natV (n : Nat) : V := .int (n : Int)
def spWheel (K : PySem.W.Frag) : Sp := fun vs H Q _ => ∃ (p : Addr) (ns : List Nat), vs = [.ref p] ∧ Sq K H p (ns.map natV) ∧ (∀ n ∈ ns, 0 < n ∧ n < 2 ^ 64) ∧ (∀ i, lcmL (ns.take i) < 2 ^ 64) ∧ ∀ H', Same H H' → Q (.int (lcmL ns : Nat)) H'
/-- what met tells -/
def Met (H : Hp) (a b : Nat) (r s : Int) (v : V) : Prop :=
  (v = .non ∧ ∀ k : Int, k % a = r → k % b = s → False) ∨
  ∃ (t : Addr) (m : Int), v = .ref t ∧ H t = some (.tup [.int m, .int (Nat.lcm a b : Nat)]) ∧ m % a = r ∧ m % b = s ∧ 0 ≤ m ∧ m < (Nat.lcm a b : Nat)
def spMet (K : PySem.W.Frag) : Sp := fun vs H Q _ => ∃ (p q : Addr) (a b : Nat) (r s : Int), vs = [.ref p, .ref q] ∧ SqT K H p [.int r, .int (a : Int)] ∧ SqT K H q [.int s, .int (b : Int)] ∧ 0 < a ∧ a < 2 ^ 64 ∧ 0 < b ∧ b < 2 ^ 64 ∧ 0 ≤ r ∧ r < a ∧ 0 ≤ s ∧ s < b ∧
  ∀ (H' : Hp) (v : V), Same H H' → Met H' a b r s v → Q v H'
end Dk
namespace Dk
open PySem L2
/-! ### the first multiple -/
def fls (w n i : Nat) : List Nat := ((List.range i).map fun j => w + j * w).filter fun k => k % n == 0
theorem fls_succ (w n i : Nat) : fls w n (i + 1) = fls w n i ++ (if (w + i * w) % n = 0 then [w + i * w] else []) := by
  unfold fls
  rw [List.range_succ, List.map_append, List.filter_append]
  congr 1
  by_cases h : (w + i * w) % n = 0
  · rw [if_pos h]
    show List.filter _ [w + i * w] = _
    simp [h]
  · rw [if_neg h]
    show List.filter _ [w + i * w] = _
    simp [h]
theorem fls_len (w n i : Nat) : (fls w n i).length ≤ i := by
  unfold fls
  refine Nat.le_trans (List.length_filter_le _ _) ?_
  rw [List.length_map, List.length_range]
  exact Nat.le_refl _
theorem fls_head {w n : Nat} (hw : 0 < w) (hn : 0 < n) : ∀ i : Nat, (i < n / Nat.gcd w n → fls w n i = []) ∧ (n / Nat.gcd w n ≤ i → (fls w n i)[0]? = some (Nat.lcm w n))
  | 0 => by
    have hg : 0 < n / Nat.gcd w n := Nat.div_pos (Nat.le_of_dvd hn (Nat.gcd_dvd_right w n)) (Nat.gcd_pos_of_pos_left n hw)
    exact ⟨fun _ => rfl, fun h => by omega⟩
  | i + 1 => by
    obtain ⟨h1, h2⟩ := fls_head hw hn i
    have el : Nat.lcm w n = w * (n / Nat.gcd w n) := (lcm_eq2 w n).symm
    have em : w + i * w = w * (i + 1) := by
      rw [Nat.mul_comm i w, Nat.mul_succ]
      omega
    have key : (w + i * w) % n = 0 → n / Nat.gcd w n ≤ i + 1 := by
      intro e
      have d1 : Nat.lcm w n ∣ w * (i + 1) := Nat.lcm_dvd ⟨i + 1, rfl⟩ (Nat.dvd_of_mod_eq_zero (by rw [← em]; exact e))
      have d2 := Nat.le_of_dvd (Nat.mul_pos hw (by omega)) d1
      rw [el] at d2
      exact Nat.le_of_mul_le_mul_left d2 hw
    rw [fls_succ]
    constructor
    · intro h
      rw [h1 (by omega), if_neg (fun e => by have := key e; omega)]
      rfl
    · intro h
      by_cases hi : n / Nat.gcd w n ≤ i
      · have h3 := h2 hi
        rw [List.getElem?_append_left (by
          cases e : fls w n i with
          | nil =>
            rw [e] at h3
            cases h3
          | cons x r => simp)]
        exact h3
      · have e2 : n / Nat.gcd w n = i + 1 := by omega
        have e3 : w + i * w = Nat.lcm w n := by rw [em, el, e2]
        have e4 : (w + i * w) % n = 0 := by
          rw [e3]
          exact Nat.mod_eq_zero_of_dvd (Nat.dvd_lcm_right w n)
        rw [h1 (by omega), if_pos e4, e3]
        rfl
theorem rgc_mul {w n : Nat} (hw : 0 < w) (hn : 0 < n) (h1 : w < 2 ^ 28) (h2 : n < 2 ^ 28) : RgC (w : Int) ((w : Int) * (n : Int) + 1) (w : Int) n := by
  have hm : (w : Int) * (n : Int) < 2 ^ 56 := by
    have : w * n < 2 ^ 28 * 2 ^ 28 := Nat.mul_lt_mul'' h1 h2
    exact_mod_cast this
  have hm1 : (w : Int) ≤ (w : Int) * (n : Int) := by
    have : w * 1 ≤ w * n := Nat.mul_le_mul_left w hn
    rw [Nat.mul_one] at this
    exact_mod_cast this
  have hs : Builtin.Range.rangeSize (w : Int) ((w : Int) * (n : Int) + 1) (w : Int) = (n : Int) := by
    unfold Builtin.Range.rangeSize
    rw [if_pos (show (w : Int) > 0 by omega), if_pos (by omega)]
    have e : (w : Int) * (n : Int) + 1 - (w : Int) - 1 = (w : Int) * ((n : Int) - 1) := by
      rw [Int.mul_sub, Int.mul_one]
      omega
    rw [e, Int.mul_ediv_cancel_left _ (by omega)]
    omega
  refine ⟨by omega, by omega, ?_, hs⟩
  unfold Builtin.Range.small
  rw [hs]
  simp only [Builtin.Range.rangeFitsLong, Bool.and_eq_true, Bool.or_eq_true, decide_eq_true_eq, beq_iff_eq]
  rw [if_pos (show (w : Int) > 0 by omega)]
  generalize (w : Int) * (n : Int) = m at *
  refine ⟨⟨⟨⟨⟨by omega, by omega⟩, by omega, by omega⟩, by omega, by omega⟩, by omega, by omega⟩, .inr ?_⟩
  rw [decide_eq_true (show -2 ^ 63 ≤ m + 1 + ((w : Int) - 1) by omega), decide_eq_true (show m + 1 + ((w : Int) - 1) < 2 ^ 63 by omega)]
  rfl
end Dk
namespace Dk
open PySem L2
theorem foldl_dvd : ∀ (ns : List Nat) (w m : Nat), ns.foldl Nat.lcm w ∣ m ↔ w ∣ m ∧ ∀ n ∈ ns, n ∣ m
  | [], w, m => ⟨fun h => ⟨h, fun n hn => by cases hn⟩, fun h => h.1⟩
  | n :: r, w, m => by
    show r.foldl Nat.lcm (Nat.lcm w n) ∣ m ↔ _
    rw [foldl_dvd r]
    constructor
    · rintro ⟨h1, h2⟩
      refine ⟨Nat.dvd_trans (Nat.dvd_lcm_left w n) h1, fun x hx => ?_⟩
      rcases List.mem_cons.mp hx with rfl | hx
      · exact Nat.dvd_trans (Nat.dvd_lcm_right w x) h1
      · exact h2 x hx
    · rintro ⟨h1, h2⟩
      exact ⟨Nat.lcm_dvd h1 (h2 n List.mem_cons_self), fun x hx => h2 x (List.mem_cons_of_mem _ hx)⟩
theorem lcmL_rev (ns : List Nat) : lcmL ns.reverse = lcmL ns := by
  refine Nat.dvd_antisymm ?_ ?_
  · exact (foldl_dvd _ 1 _).mpr ⟨Nat.one_dvd _, fun n hn => ((foldl_dvd ns 1 _).mp (Nat.dvd_refl _)).2 n (List.mem_reverse.mp hn)⟩
  · exact (foldl_dvd _ 1 _).mpr ⟨Nat.one_dvd _, fun n hn => ((foldl_dvd ns.reverse 1 _).mp (Nat.dvd_refl _)).2 n (List.mem_reverse.mpr hn)⟩
theorem foldl_pow {c : Nat} : ∀ (ns : List Nat) (w : Nat), (∀ n ∈ ns, n ≤ c) → ns.foldl (· * ·) w ≤ w * c ^ ns.length
  | [], w, _ => by simp
  | n :: r, w, h => by
    have h1 := foldl_pow r (w * n) fun x hx => h x (List.mem_cons_of_mem _ hx)
    have h2 : w * n * c ^ r.length ≤ w * c * c ^ r.length := Nat.mul_le_mul_right _ (Nat.mul_le_mul_left w (h n List.mem_cons_self))
    show r.foldl (· * ·) (w * n) ≤ w * c ^ (r.length + 1)
    rw [Nat.pow_succ, Nat.mul_comm (c ^ r.length) c, ← Nat.mul_assoc]
    exact Nat.le_trans h1 h2
theorem lcmL_small {ns : List Nat} {c k : Nat} (h : ∀ n ∈ ns, n ≤ c) (hc : 0 < c) (hl : ns.length ≤ k) (i : Nat) : lcmL (ns.take i) ≤ c ^ k := by
  have h1 := foldl_le (ns.take i) 1
  have h2 := foldl_pow (c := c) (ns.take i) 1 fun n hn => h n (List.mem_of_mem_take hn)
  have h3 : c ^ (ns.take i).length ≤ c ^ k := Nat.pow_le_pow_right hc (by rw [List.length_take]; omega)
  unfold lcmL
  omega
theorem lcmL_two (a b : Nat) : lcmL [a, b] = Nat.lcm a b := by
  show Nat.lcm (Nat.lcm 1 a) b = Nat.lcm a b
  rw [Nat.lcm_one_left]
theorem lcmL_take2 (a b i : Nat) (ha : 0 < a) (hb : 0 < b) : lcmL ([a, b].take i) ≤ a * b := by
  match i with
  | 0 => exact Nat.mul_pos ha hb
  | 1 =>
    show Nat.lcm 1 a ≤ a * b
    rw [Nat.lcm_one_left]
    exact Nat.le_mul_of_pos_right a hb
  | i + 2 =>
    rw [List.take_of_length_le (by simp), lcmL_two]
    exact lcm_le_mul a b
/-- what the law finds by going through all -/
def Found (H : Hp) (a b : Nat) (r s : Int) (d : V) : Prop :=
  (d = .non ∧ ∀ k : Int, 0 ≤ k → k < (Nat.lcm a b : Nat) → k % a = r → k % b = s → False) ∨
  ∃ (t : Addr) (k : Int), d = .ref t ∧ H t = some (.tup [.int k, .int (Nat.lcm a b : Nat)]) ∧ 0 ≤ k ∧ k < (Nat.lcm a b : Nat) ∧ k % a = r ∧ k % b = s
theorem Found.same {H H' : Hp} {a b : Nat} {r s : Int} {d : V} (h : Found H a b r s d) (e : Same H H') : Found H' a b r s d := by
  rcases h with h | ⟨t, k, h1, h2, h3⟩
  · exact .inl h
  · exact .inr ⟨t, k, h1, e _ _ h2, h3⟩
theorem Met.same {H H' : Hp} {a b : Nat} {r s : Int} {d : V} (h : Met H a b r s d) (e : Same H H') : Met H' a b r s d := by
  rcases h with h | ⟨t, k, h1, h2, h3⟩
  · exact .inl h
  · exact .inr ⟨t, k, h1, e _ _ h2, h3⟩
theorem Met.swap {H : Hp} {a b : Nat} {r s : Int} {d : V} (h : Met H b a s r d) : Met H a b r s d := by
  rcases h with ⟨h1, h2⟩ | ⟨t, k, h1, h2, h3, h4, h5⟩
  · exact .inl ⟨h1, fun k x y => h2 k y x⟩
  · rw [Nat.lcm_comm b a] at h2 h5
    exact .inr ⟨t, k, h1, h2, h4, h3, h5⟩
theorem flat_ints {m n : Int} : ∀ x ∈ [V.int m, V.int n], flatV x = true := by
  intro x hx
  rcases List.mem_cons.mp hx with rfl | hx
  · rfl
  · rw [List.mem_singleton.mp hx]
    rfl
theorem met_like {H : Hp} {a b : Nat} {r s : Int} {v d : V} {n : Nat} (h : Met H a b r s v) (f : Found H a b r s d) : Lk (n + 2) H v d := by
  rcases h with ⟨rfl, h⟩ | ⟨t, m, rfl, h1, h2, h3, h4, h5⟩
  · rcases f with ⟨rfl, _⟩ | ⟨t, k, rfl, _, _, _, g1, g2⟩
    · exact .inl ⟨rfl, rfl⟩
    · exact (h k g1 g2).elim
  · rcases f with ⟨rfl, g⟩ | ⟨u, k, rfl, g1, g2, g3, g4, g5⟩
    · exact (g m h4 h5 h2 h3).elim
    · have e : m = k := two_rests (rest_sub h2 g4) (rest_sub h3 g5) (by omega) (by omega)
      subst e
      exact Lk.tup (n := n) h1 g1 (by show 2 ≤ 1000; decide) flat_ints
/-- the list of hits behind j numbers: its first one -/
def Hits (H : Hp) (a b : Nat) (r s : Int) (j : Nat) (ps : List V) : Prop :=
  ps.length ≤ j ∧ ((ps = [] ∧ ∀ k : Int, 0 ≤ k → k < j → k % a = r → k % b = s → False) ∨
  ∃ (t : Addr) (k : Int) (rs : List V), ps = .ref t :: rs ∧ H t = some (.tup [.int k, .int (Nat.lcm a b : Nat)]) ∧ 0 ≤ k ∧ k < j ∧ k % a = r ∧ k % b = s)
theorem Hits.keep {H H' : Hp} {a b : Nat} {r s : Int} {j : Nat} {ps : List V} (h : Hits H a b r s j ps) (e : ∀ t xs, H t = some (.tup xs) → H' t = some (.tup xs)) : Hits H' a b r s j ps := by
  obtain ⟨hl, h⟩ := h
  rcases h with h | ⟨t, k, rs, h1, h2, h3⟩
  · exact ⟨hl, .inl h⟩
  · exact ⟨hl, .inr ⟨t, k, rs, h1, e _ _ h2, h3⟩⟩
theorem Hits.due {H : Hp} {a b : Nat} {r s : Int} {ps : List V} (h : Hits H a b r s (Nat.lcm a b) ps) : ∃ d, atI (ps ++ [.non]) 0 = some d ∧ Found H a b r s d := by
  obtain ⟨hl, h⟩ := h
  rcases h with ⟨rfl, h⟩ | ⟨t, k, rs, rfl, h2, h3, h4, h5⟩
  · exact ⟨.non, atI_nat (j := 0) rfl, .inl ⟨rfl, h⟩⟩
  · exact ⟨.ref t, atI_nat (j := 0) rfl, .inr ⟨t, k, rfl, h2, h3, h4, h5⟩⟩
theorem nat_of {x : Int} (h : 0 ≤ x) : V.int x = natV x.toNat := by
  unfold natV
  rw [Int.toNat_of_nonneg h]
theorem lcm_int (p q : Nat) : ((p : Int) * (q : Int)) / ((Nat.gcd p q : Nat) : Int) = ((Nat.lcm p q : Nat) : Int) := by
  unfold Nat.lcm
  rw [Int.natCast_ediv, Int.natCast_mul]
theorem rest_rest (x : Int) (a b : Nat) : (x % ((Nat.lcm a b : Nat) : Int)) % (a : Int) = x % (a : Int) ∧ (x % ((Nat.lcm a b : Nat) : Int)) % (b : Int) = x % (b : Int) :=
  ⟨Int.emod_emod_of_dvd x (Int.natCast_dvd_natCast.mpr (Nat.dvd_lcm_left a b)), Int.emod_emod_of_dvd x (Int.natCast_dvd_natCast.mpr (Nat.dvd_lcm_right a b))⟩
theorem step_of {x : V} {r : Int} {p : Nat} (h : x ∈ [V.int (1 + r), natV p, V.int (2 * (p : Int)), V.int 1]) (h0 : 0 ≤ r) (h1 : r < 10 ^ 9) (p0 : 0 < p) (p1 : p ≤ 10 ^ 9) : ∃ q : Nat, x = natV q ∧ 0 < q ∧ q ≤ 2 * 10 ^ 9 := by
  simp only [List.mem_cons, List.mem_nil_iff, or_false] at h
  rcases h with rfl | rfl | rfl | rfl
  · exact ⟨(1 + r).toNat, nat_of (by omega), by omega, by omega⟩
  · exact ⟨p, rfl, p0, by omega⟩
  · exact ⟨2 * p, by unfold natV; rw [Int.natCast_mul]; rfl, by omega, by omega⟩
  · exact ⟨1, rfl, by decide, by decide⟩
theorem Hits.miss {H : Hp} {a b : Nat} {r s : Int} {j : Nat} {ps : List V} (h : Hits H a b r s j ps) (n : ¬ (((j : Int) % a = r) ∧ ((j : Int) % b = s))) : Hits H a b r s (j + 1) ps := by
  obtain ⟨hl, h⟩ := h
  refine ⟨by omega, ?_⟩
  rcases h with ⟨h1, h2⟩ | ⟨t, k, rs, h1, h2, h3, h4, h5⟩
  · refine .inl ⟨h1, fun k k0 k1 k2 k3 => ?_⟩
    by_cases e : k = j
    · subst e
      exact n ⟨k2, k3⟩
    · exact h2 k k0 (by omega) k2 k3
  · exact .inr ⟨t, k, rs, h1, h2, h3, by omega, h5⟩
theorem Hits.hit {H : Hp} {a b : Nat} {r s : Int} {j : Nat} {ps : List V} {t : Addr} (h : Hits H a b r s j ps) (n1 : (j : Int) % a = r) (n2 : (j : Int) % b = s) (ht : H t = some (.tup [.int (j : Int), .int (Nat.lcm a b : Nat)])) : Hits H a b r s (j + 1) (ps ++ [.ref t]) := by
  obtain ⟨hl, h⟩ := h
  refine ⟨by rw [List.length_append]; show ps.length + 1 ≤ j + 1; omega, ?_⟩
  rcases h with ⟨h1, h2⟩ | ⟨u, k, rs, h1, h2, h3, h4, h5⟩
  · subst h1
    exact .inr ⟨t, j, [], rfl, ht, by omega, by omega, n1, n2⟩
  · subst h1
    exact .inr ⟨u, k, rs ++ [.ref t], rfl, h2, h3, by omega, h5⟩
end Dk
namespace Dk
open PySem L2
/-! ### lists of things at their places -/
def AL {α : Type} (R : Hp → V → α → Prop) (H : Hp) (xs : List V) (ps : List α) : Prop := xs.length = ps.length ∧ ∀ (i : Nat) (x : V) (p : α), xs[i]? = some x → ps[i]? = some p → R H x p
section
variable {α : Type} {R : Hp → V → α → Prop} {H H' : Hp} {xs : List V} {ps : List α}
theorem AL.mono (h : AL R H xs ps) (m : ∀ x p, R H x p → R H' x p) : AL R H' xs ps := ⟨h.1, fun i x p a b => m _ _ (h.2 i x p a b)⟩
theorem AL.nil : AL R H [] [] := ⟨rfl, fun i x p h _ => by simp at h⟩
theorem AL.snoc {x : V} {p : α} (h : AL R H xs ps) (t : R H x p) : AL R H (xs ++ [x]) (ps ++ [p]) := by
  refine ⟨by rw [List.length_append, List.length_append, h.1]; rfl, fun i y q h1 h2 => ?_⟩
  by_cases hi : i < xs.length
  · rw [List.getElem?_append_left hi] at h1
    rw [List.getElem?_append_left (by rw [← h.1]; exact hi)] at h2
    exact h.2 i y q h1 h2
  · rw [List.getElem?_append_right (by omega)] at h1
    rw [List.getElem?_append_right (by rw [← h.1]; omega), ← h.1] at h2
    have e : i - xs.length = 0 := by
      cases z : i - xs.length with
      | zero => rfl
      | succ k =>
        rw [z] at h1
        simp at h1
    rw [e] at h1 h2
    cases h1
    cases h2
    exact t
theorem AL.at {i : Nat} {x : V} (h : AL R H xs ps) (e : xs[i]? = some x) : ∃ p, ps[i]? = some p ∧ R H x p := by
  have h1 : i < xs.length := (List.getElem?_eq_some_iff.mp e).1
  have h2 : i < ps.length := by rw [← h.1]; exact h1
  exact ⟨ps[i], List.getElem?_eq_getElem h2, h.2 i x _ e (List.getElem?_eq_getElem h2)⟩
theorem AL.of {i : Nat} {p : α} (h : AL R H xs ps) (e : ps[i]? = some p) : ∃ x, xs[i]? = some x ∧ R H x p := by
  have h1 : i < ps.length := (List.getElem?_eq_some_iff.mp e).1
  have h2 : i < xs.length := by rw [h.1]; exact h1
  exact ⟨xs[i], List.getElem?_eq_getElem h2, h.2 i _ p (List.getElem?_eq_getElem h2) e⟩
end
theorem take_snoc' {α : Type} {zs : List α} {i : Nat} {z : α} (e : zs[i]? = some z) : zs.take (i + 1) = zs.take i ++ [z] := by
  rw [List.take_add_one, e]
  rfl
abbrev Pst := Str × List Str × Nat
abbrev Trk := List Str × Nat
abbrev Wtc := Str × Nat
def PsA (H : Hp) (v : V) (p : Pst) : Prop := ∃ q t, v = V.ref q ∧ H q = some (.tup [.str p.1, .ref t, .int ((p.2.2 : Nat) : Int)]) ∧ H t = some (.tup (p.2.1.map V.str))
def TrA (H : Hp) (v : V) (p : Trk) : Prop := ∃ q t, v = V.ref q ∧ H q = some (.tup [.ref t, .int ((p.2 : Nat) : Int)]) ∧ H t = some (.tup (p.1.map V.str))
def WtA (H : Hp) (v : V) (p : Wtc) : Prop := ∃ q, v = V.ref q ∧ H q = some (.tup [.str p.1, .int ((p.2 : Nat) : Int)])
def NlA (H : Hp) (v : V) (o : List Nat) : Prop := ∃ q, v = V.ref q ∧ H q = some (.lst (o.map natV))
def SlA (H : Hp) (v : V) (o : List Str) : Prop := ∃ q, v = V.ref q ∧ H q = some (.lst (o.map V.str))
theorem PsA.keep {H H' : Hp} {v : V} {p : Pst} (k : KeepT H H') (h : PsA H v p) : PsA H' v p := by
  obtain ⟨q, t, e, h1, h2⟩ := h
  exact ⟨q, t, e, k _ _ h1, k _ _ h2⟩
theorem TrA.keep {H H' : Hp} {v : V} {p : Trk} (k : KeepT H H') (h : TrA H v p) : TrA H' v p := by
  obtain ⟨q, t, e, h1, h2⟩ := h
  exact ⟨q, t, e, k _ _ h1, k _ _ h2⟩
theorem WtA.keep {H H' : Hp} {v : V} {p : Wtc} (k : KeepT H H') (h : WtA H v p) : WtA H' v p := by
  obtain ⟨q, e, h1⟩ := h
  exact ⟨q, e, k _ _ h1⟩
theorem NlA.same {H H' : Hp} {v : V} {p : List Nat} (k : Same H H') (h : NlA H v p) : NlA H' v p := by
  obtain ⟨q, e, h1⟩ := h
  exact ⟨q, e, k _ _ h1⟩
theorem SlA.same {H H' : Hp} {v : V} {p : List Str} (k : Same H H') (h : SlA H v p) : SlA H' v p := by
  obtain ⟨q, e, h1⟩ := h
  exact ⟨q, e, k _ _ h1⟩
abbrev PsL := AL PsA
abbrev TrL := AL TrA
abbrev WtL := AL WtA
abbrev OrL := AL NlA
abbrev SsL := AL SlA
theorem PsL.keep {H H' : Hp} {xs : List V} {ps : List Pst} (h : PsL H xs ps) (k : KeepT H H') : PsL H' xs ps := AL.mono h fun _ _ => PsA.keep k
theorem TrL.keep {H H' : Hp} {xs : List V} {ps : List Trk} (h : TrL H xs ps) (k : KeepT H H') : TrL H' xs ps := AL.mono h fun _ _ => TrA.keep k
theorem WtL.keep {H H' : Hp} {xs : List V} {ps : List Wtc} (h : WtL H xs ps) (k : KeepT H H') : WtL H' xs ps := AL.mono h fun _ _ => WtA.keep k
theorem PsL.same {H H' : Hp} {xs : List V} {ps : List Pst} (h : PsL H xs ps) (k : Same H H') : PsL H' xs ps := PsL.keep h (KeepT.of k)
theorem TrL.same {H H' : Hp} {xs : List V} {ps : List Trk} (h : TrL H xs ps) (k : Same H H') : TrL H' xs ps := TrL.keep h (KeepT.of k)
theorem WtL.same {H H' : Hp} {xs : List V} {ps : List Wtc} (h : WtL H xs ps) (k : Same H H') : WtL H' xs ps := WtL.keep h (KeepT.of k)
theorem OrL.same {H H' : Hp} {xs : List V} {ps : List (List Nat)} (h : OrL H xs ps) (k : Same H H') : OrL H' xs ps := AL.mono h fun _ _ => NlA.same k
theorem SsL.same {H H' : Hp} {xs : List V} {ps : List (List Str)} (h : SsL H xs ps) (k : Same H H') : SsL H' xs ps := AL.mono h fun _ _ => SlA.same k
/-! ### where posts are -/
def plcS (r : List Str) (n : Int) : Str := r.getD (n % (r.length : Int)).toNat Str.empty
theorem plc_str {r : List Str} (h : 0 < r.length) (n : Int) : plc (r.map V.str) n = .str (plcS r n) := by
  obtain ⟨h1, _⟩ := modlen h n
  unfold plc plcS
  rw [List.length_map, List.getD_eq_getElem?_getD, List.getD_eq_getElem?_getD, List.getElem?_map, List.getElem?_eq_getElem h1]
  rfl
theorem plcS_mem {r : List Str} (h : 0 < r.length) (n : Int) : plcS r n ∈ r := by
  obtain ⟨h1, _⟩ := modlen h n
  unfold plcS
  rw [List.getD_eq_getElem?_getD, List.getElem?_eq_getElem h1]
  exact List.getElem_mem h1
def stnd (tr : List Trk) (b : Int) : List Str := tr.map fun p => plcS p.1 (b - ((p.2 : Nat) : Int))
theorem stnd_len (tr : List Trk) (b : Int) : (stnd tr b).length = tr.length := by
  unfold stnd
  rw [List.length_map]
theorem plcS_per {r : List Str} {s : Nat} (h : r.length ∣ s) (b : Int) : plcS r (b + (s : Nat)) = plcS r b := by
  obtain ⟨k, rfl⟩ := h
  unfold plcS
  rw [Int.natCast_mul, Int.add_mul_emod_self_left]
theorem stnd_per {tr : List Trk} {s : Nat} (h : ∀ p ∈ tr, p.1.length ∣ s) (b : Int) : stnd tr (b + (s : Nat)) = stnd tr b := by
  unfold stnd
  refine List.map_congr_left fun p hp => ?_
  rw [show b + (s : Nat) - ((p.2 : Nat) : Int) = (b - ((p.2 : Nat) : Int)) + (s : Nat) by omega]
  exact plcS_per (h p hp) _
/-! ### exchanges -/
def swN (o : List Nat) (i j : Nat) : List Nat := (o.set i (o.getD j 0)).set j (o.getD i 0)
theorem swN_len (o : List Nat) (i j : Nat) : (swN o i j).length = o.length := by
  unfold swN
  rw [List.length_set, List.length_set]
theorem swN_at {o : List Nat} {i j : Nat} (hi : i < o.length) (hj : j < o.length) (k : Nat) : (swN o i j)[k]? = if k = j then o[i]? else if k = i then o[j]? else o[k]? := by
  unfold swN
  have gi : o.getD i 0 = o[i] := by rw [List.getD_eq_getElem?_getD, List.getElem?_eq_getElem hi]; rfl
  have gj : o.getD j 0 = o[j] := by rw [List.getD_eq_getElem?_getD, List.getElem?_eq_getElem hj]; rfl
  rw [gi, gj]
  by_cases h1 : k = j
  · subst h1
    rw [if_pos rfl, List.getElem?_set_self (by rw [List.length_set]; exact hj), List.getElem?_eq_getElem hi]
  · rw [if_neg h1, List.getElem?_set_ne (fun z => h1 z.symm)]
    by_cases h2 : k = i
    · subst h2
      rw [if_pos rfl, List.getElem?_set_self hi, List.getElem?_eq_getElem hj]
    · rw [if_neg h2, List.getElem?_set_ne (fun z => h2 z.symm)]
theorem sw_sw {o : List Nat} {i j : Nat} (hi : i < o.length) (hj : j < o.length) : swN (swN o i j) i j = o := by
  refine List.ext_getElem? fun k => ?_
  rw [swN_at (by rw [swN_len]; exact hi) (by rw [swN_len]; exact hj), swN_at hi hj, swN_at hi hj, swN_at hi hj]
  by_cases h1 : k = j
  · subst h1
    rw [if_pos rfl]
    by_cases h2 : i = k
    · subst h2
      rw [if_pos rfl]
    · rw [if_neg h2, if_pos rfl]
  · rw [if_neg h1]
    by_cases h2 : k = i
    · subst h2
      rw [if_pos rfl, if_pos rfl]
    · rw [if_neg h2, if_neg h1, if_neg h2]
theorem swN_mem {o : List Nat} {i j : Nat} (hi : i < o.length) (hj : j < o.length) {x : Nat} (h : x ∈ swN o i j) : x ∈ o := by
  obtain ⟨k, hk, e⟩ := List.getElem_of_mem h
  have e2 : (swN o i j)[k]? = some x := by rw [List.getElem?_eq_getElem hk, e]
  rw [swN_at hi hj] at e2
  split at e2
  · exact List.mem_of_getElem? e2
  · split at e2
    · exact List.mem_of_getElem? e2
    · exact List.mem_of_getElem? e2
def hoIn (rs : List Str) (f : Nat) : Nat → List Nat → List Nat
  | 0, o => o
  | k + 1, o => if rs[f]? = rs[f + 1 + k]? then swN (hoIn rs f k o) f (f + 1 + k) else hoIn rs f k o
def hoUp (rs : List Str) : Nat → List Nat → List Nat
  | 0, o => o
  | f + 1, o => hoIn rs f (rs.length - (f + 1)) (hoUp rs f o)
def hoN (rs : List Str) (o : List Nat) : List Nat := hoUp rs rs.length o
theorem hoIn_len (rs : List Str) (f : Nat) (o : List Nat) : ∀ k, (hoIn rs f k o).length = o.length
  | 0 => rfl
  | k + 1 => by
    unfold hoIn
    split
    · rw [swN_len, hoIn_len rs f o k]
    · exact hoIn_len rs f o k
theorem hoUp_len (rs : List Str) (o : List Nat) : ∀ f, (hoUp rs f o).length = o.length
  | 0 => rfl
  | f + 1 => by
    unfold hoUp
    rw [hoIn_len, hoUp_len rs o f]
theorem hoN_len (rs : List Str) (o : List Nat) : (hoN rs o).length = o.length := hoUp_len rs o _
theorem hoIn_inj {rs : List Str} {f : Nat} {o u : List Nat} (hl : o.length = u.length) : ∀ {k}, f + k < o.length → hoIn rs f k o = hoIn rs f k u → o = u
  | 0, _, h => h
  | k + 1, hk, h => by
    unfold hoIn at h
    split at h
    · have h2 : swN (swN (hoIn rs f k o) f (f + 1 + k)) f (f + 1 + k) = swN (swN (hoIn rs f k u) f (f + 1 + k)) f (f + 1 + k) := by rw [h]
      rw [sw_sw (by rw [hoIn_len]; omega) (by rw [hoIn_len]; omega), sw_sw (by rw [hoIn_len]; omega) (by rw [hoIn_len]; omega)] at h2
      exact hoIn_inj hl (by omega) h2
    · exact hoIn_inj hl (by omega) h
theorem hoUp_inj {rs : List Str} {o u : List Nat} (hl : o.length = u.length) (hr : rs.length ≤ o.length) : ∀ {f}, f ≤ rs.length → hoUp rs f o = hoUp rs f u → o = u
  | 0, _, h => h
  | f + 1, hf, h => by
    unfold hoUp at h
    exact hoUp_inj hl hr (by omega) (hoIn_inj (by rw [hoUp_len, hoUp_len, hl]) (by rw [hoUp_len]; omega) h)
theorem hoIn_mem {rs : List Str} {f : Nat} {o : List Nat} {x : Nat} : ∀ {k}, f + k < o.length → x ∈ hoIn rs f k o → x ∈ o
  | 0, _, h => h
  | k + 1, hk, h => by
    unfold hoIn at h
    split at h
    · exact hoIn_mem (by omega) (swN_mem (by rw [hoIn_len]; omega) (by rw [hoIn_len]; omega) h)
    · exact hoIn_mem (by omega) h
theorem hoUp_mem {rs : List Str} {o : List Nat} {x : Nat} (hr : rs.length ≤ o.length) : ∀ {f}, f ≤ rs.length → x ∈ hoUp rs f o → x ∈ o
  | 0, _, h => h
  | f + 1, hf, h => by
    unfold hoUp at h
    exact hoUp_mem hr (by omega) (hoIn_mem (by rw [hoUp_len]; omega) h)
/-! ### reliefs -/
def relN (n p : Nat) (o : List Nat) : List Nat := (o.take n).set p (o.getD n 0) ++ o.drop (n + 1) ++ [o.getD p 0]
theorem relN_len {n p : Nat} {o : List Nat} (h : n < o.length) : (relN n p o).length = o.length := by
  unfold relN
  rw [List.length_append, List.length_append, List.length_set, List.length_take, List.length_drop]
  show min n o.length + (o.length - (n + 1)) + 1 = o.length
  omega
theorem getD_at {o : List Nat} {i : Nat} (h : i < o.length) : o[i]? = some (o.getD i 0) := by
  rw [List.getD_eq_getElem?_getD, List.getElem?_eq_getElem h]
  rfl
theorem relN_mem {n p : Nat} {o : List Nat} (hn : n < o.length) (hp : p < n) {x : Nat} (h : x ∈ relN n p o) : x ∈ o := by
  unfold relN at h
  rcases List.mem_append.mp h with h | h
  · rcases List.mem_append.mp h with h | h
    · rcases List.mem_or_eq_of_mem_set h with h | h
      · exact List.mem_of_mem_take h
      · rw [h]
        exact List.mem_of_getElem? (getD_at hn)
    · exact List.mem_of_mem_drop h
  · rw [List.mem_singleton.mp h]
    exact List.mem_of_getElem? (getD_at (by omega))
theorem relN_inj {n p : Nat} {o u : List Nat} (hl : o.length = u.length) (hn : n < o.length) (hp : p < n) (h : relN n p o = relN n p u) : o = u := by
  unfold relN at h
  obtain ⟨h1, h2⟩ := List.append_inj' h rfl
  obtain ⟨h3, h4⟩ := List.append_inj h1 (by rw [List.length_set, List.length_set, List.length_take, List.length_take, hl])
  have h5 : o.getD p 0 = u.getD p 0 := List.cons.inj h2 |>.1
  have key : ∀ k : Nat, ((o.take n).set p (o.getD n 0))[k]? = ((u.take n).set p (u.getD n 0))[k]? := fun k => by rw [h3]
  have lt : p < (o.take n).length := by
    rw [List.length_take]
    omega
  have lu : p < (u.take n).length := by
    rw [List.length_take]
    omega
  have h6 : o.getD n 0 = u.getD n 0 := by
    have := key p
    rw [List.getElem?_set_self lt, List.getElem?_set_self lu] at this
    exact Option.some.inj this
  refine List.ext_getElem? fun k => ?_
  by_cases k1 : k < n
  · by_cases k2 : k = p
    · subst k2
      rw [getD_at (by omega), getD_at (by omega), h5]
    · have := key k
      rw [List.getElem?_set_ne (fun z => k2 z.symm), List.getElem?_set_ne (fun z => k2 z.symm), List.getElem?_take_of_lt k1, List.getElem?_take_of_lt k1] at this
      exact this
  · by_cases k2 : k = n
    · subst k2
      rw [getD_at hn, getD_at (by omega), h6]
    · have e : k = n + 1 + (k - (n + 1)) := by omega
      rw [e, ← List.getElem?_drop, ← List.getElem?_drop, h4]
/-! ### from beat to beat -/
def hasR (n many rl : Nat) : Prop := 0 < rl ∧ 0 < n ∧ n < many
instance (n many rl : Nat) : Decidable (hasR n many rl) := by unfold hasR; infer_instance
def chgN (tr : List Trk) (mt : Bool) (rl : Nat) (b : Nat) (o : List Nat) : List Nat :=
  if hasR tr.length o.length rl ∧ b % rl = 0 then relN tr.length (b / rl % tr.length) (if mt = true then hoN (stnd tr b) o else o) else (if mt = true then hoN (stnd tr b) o else o)
def spanN (tr : List Trk) (many rl : Nat) : Nat := lcmL (tr.map (fun p => p.1.length) ++ (if hasR tr.length many rl then [rl * tr.length] else []))
def ordN (tr : List Trk) (many : Nat) (mt : Bool) (rl : Nat) : Nat → List Nat
  | 0 => List.range many
  | b + 1 => chgN tr mt rl (b + 1) (ordN tr many mt rl b)
def OkO (many : Nat) (o : List Nat) : Prop := o.length = many ∧ ∀ x ∈ o, x < many
theorem ho1_len (tr : List Trk) (mt : Bool) (b : Nat) (o : List Nat) : (if mt = true then hoN (stnd tr b) o else o).length = o.length := by
  split
  · exact hoN_len _ _
  · rfl
theorem chgN_len (tr : List Trk) (mt : Bool) (rl b : Nat) (o : List Nat) : (chgN tr mt rl b o).length = o.length := by
  unfold chgN
  split
  · rename_i h
    rw [relN_len (by rw [ho1_len]; exact h.1.2.2), ho1_len]
  · exact ho1_len tr mt b o
theorem chgN_ok {tr : List Trk} {mt : Bool} {rl b many : Nat} {o : List Nat} (ht : tr.length ≤ many) (h : OkO many o) : OkO many (chgN tr mt rl b o) := by
  refine ⟨by rw [chgN_len, h.1], fun x hx => ?_⟩
  have one : ∀ x ∈ (if mt = true then hoN (stnd tr b) o else o), x ∈ o := fun x hx => by
    split at hx
    · exact hoUp_mem (by rw [stnd_len, h.1]; exact ht) (Nat.le_refl _) hx
    · exact hx
  unfold chgN at hx
  split at hx
  · rename_i hr
    have h3 := hr.1.2.2
    have h2 := hr.1.2.1
    exact h.2 x (one x (relN_mem (by rw [ho1_len]; exact h3) (Nat.mod_lt _ h2) hx))
  · exact h.2 x (one x hx)
theorem chgN_inj {tr : List Trk} {mt : Bool} {rl b many : Nat} {o u : List Nat} (ht : tr.length ≤ many) (ho : OkO many o) (hu : OkO many u) (h : chgN tr mt rl b o = chgN tr mt rl b u) : o = u := by
  have one : (if mt = true then hoN (stnd tr b) o else o) = (if mt = true then hoN (stnd tr b) u else u) → o = u := fun z => by
    split at z
    · exact hoUp_inj (by rw [ho.1, hu.1]) (by rw [stnd_len, ho.1]; exact ht) (Nat.le_refl _) z
    · exact z
  unfold chgN at h
  rw [ho.1, hu.1] at h
  split at h
  · rename_i hr
    have h3 := hr.1.2.2
    have h2 := hr.1.2.1
    exact one (relN_inj (by rw [ho1_len, ho1_len, ho.1, hu.1]) (by rw [ho1_len, ho.1]; exact h3) (Nat.mod_lt _ h2) h)
  · exact one h
theorem foldl_dvd_of (ns : List Nat) (w m : Nat) (h : w ∣ m) (hn : ∀ n ∈ ns, n ∣ m) : ns.foldl Nat.lcm w ∣ m := (foldl_dvd ns w m).mpr ⟨h, hn⟩
theorem span_len {tr : List Trk} {many rl : Nat} {p : Trk} (hp : p ∈ tr) : p.1.length ∣ spanN tr many rl :=
  ((foldl_dvd _ 1 _).mp (Nat.dvd_refl _)).2 _ (List.mem_append.mpr (.inl (List.mem_map.mpr ⟨p, hp, rfl⟩)))
theorem span_rel {tr : List Trk} {many rl : Nat} (h : hasR tr.length many rl) : rl * tr.length ∣ spanN tr many rl :=
  ((foldl_dvd _ 1 _).mp (Nat.dvd_refl _)).2 _ (List.mem_append.mpr (.inr (by rw [if_pos h]; exact List.mem_singleton.mpr rfl)))
theorem chgN_per {tr : List Trk} {mt : Bool} {rl many b s : Nat} {o : List Nat} (hs : spanN tr many rl ∣ s) (h : OkO many o) : chgN tr mt rl (b + s) o = chgN tr mt rl b o := by
  have e1 : stnd tr ((b + s : Nat) : Int) = stnd tr (b : Int) := by
    rw [Int.natCast_add]
    exact stnd_per (fun p hp => Nat.dvd_trans (span_len hp) hs) _
  unfold chgN
  rw [e1, h.1]
  by_cases hr : hasR tr.length many rl
  · obtain ⟨k, hk⟩ := Nat.dvd_trans (span_rel hr) hs
    have e2 : (b + s) % rl = b % rl := by
      rw [hk, Nat.mul_assoc, Nat.add_mul_mod_self_left]
    have e3 : (b + s) / rl % tr.length = b / rl % tr.length := by
      rw [hk, Nat.mul_assoc, Nat.add_mul_div_left _ _ hr.1, Nat.add_mul_mod_self_left]
    rw [e2, e3]
  · have n1 : ¬ (hasR tr.length many rl ∧ (b + s) % rl = 0) := fun z => hr z.1
    have n2 : ¬ (hasR tr.length many rl ∧ b % rl = 0) := fun z => hr z.1
    rw [if_neg n1, if_neg n2]
theorem ordN_ok {tr : List Trk} {many : Nat} {mt : Bool} {rl : Nat} (ht : tr.length ≤ many) : ∀ b, OkO many (ordN tr many mt rl b)
  | 0 => ⟨List.length_range, fun x hx => List.mem_range.mp hx⟩
  | b + 1 => chgN_ok ht (ordN_ok ht b)
/-! ### all comes back -/
theorem nodup_le {α : Type} [BEq α] [LawfulBEq α] : ∀ {l U : List α}, l.Nodup → (∀ x ∈ l, x ∈ U) → l.length ≤ U.length
  | [], _, _, _ => Nat.zero_le _
  | x :: r, U, h, s => by
    have hx := s x List.mem_cons_self
    obtain ⟨h1, h2⟩ := List.nodup_cons.mp h
    have := nodup_le (U := U.erase x) h2 fun y hy => (List.mem_erase_of_ne (fun z => h1 (by rw [← z]; exact hy))).mpr (s y (List.mem_cons_of_mem _ hy))
    rw [List.length_erase_of_mem hx] at this
    have hU : 0 < U.length := List.length_pos_of_mem hx
    rw [List.length_cons]
    omega
theorem pigeon {α : Type} [DecidableEq α] {g : Nat → α} {U : List α} (h : ∀ k, g k ∈ U) : ∃ i j, i < j ∧ j ≤ U.length ∧ g i = g j := by
  by_cases nd : ((List.range (U.length + 1)).map g).Nodup
  · have := nodup_le nd (fun x hx => by obtain ⟨k, _, rfl⟩ := List.mem_map.mp hx; exact h k)
    rw [List.length_map, List.length_range] at this
    omega
  · apply Classical.byContradiction
    intro no
    apply nd
    refine List.pairwise_iff_getElem.mpr fun i j hi hj hij => ?_
    rw [List.length_map, List.length_range] at hi hj
    rw [List.getElem_map, List.getElem_map, List.getElem_range, List.getElem_range]
    exact fun z => no ⟨i, j, hij, by omega, z⟩
def allL (n : Nat) : Nat → List (List Nat)
  | 0 => [[]]
  | k + 1 => (allL n k).flatMap fun l => (List.range n).map fun x => x :: l
theorem allL_mem (n : Nat) : ∀ l : List Nat, (∀ x ∈ l, x < n) → l ∈ allL n l.length
  | [], _ => List.mem_singleton.mpr rfl
  | x :: r, h => List.mem_flatMap.mpr ⟨r, allL_mem n r fun y hy => h y (List.mem_cons_of_mem _ hy), List.mem_map.mpr ⟨x, List.mem_range.mpr (h x List.mem_cons_self), rfl⟩⟩
theorem flatMap_len {α β : Type} (f : α → List β) (n : Nat) (h : ∀ x, (f x).length = n) : ∀ l : List α, (l.flatMap f).length = l.length * n
  | [] => by simp
  | x :: r => by
    rw [List.flatMap_cons, List.length_append, h x, flatMap_len f n h r, List.length_cons, Nat.succ_mul, Nat.add_comm]
theorem allL_len (n : Nat) : ∀ k, (allL n k).length = n ^ k
  | 0 => rfl
  | k + 1 => by
    show ((allL n k).flatMap _).length = _
    rw [flatMap_len _ n (fun x => by rw [List.length_map, List.length_range]), allL_len n k, Nat.pow_succ]
theorem back_to {tr : List Trk} {many : Nat} {mt : Bool} {rl d : Nat} (ht : tr.length ≤ many) (hd : spanN tr many rl ∣ d) : ∀ m, ordN tr many mt rl m = ordN tr many mt rl (m + d) → ordN tr many mt rl 0 = ordN tr many mt rl d
  | 0, h => by rw [Nat.zero_add] at h; exact h
  | m + 1, h => by
    refine back_to ht hd m ?_
    rw [show m + 1 + d = (m + d) + 1 by omega] at h
    have e : ordN tr many mt rl ((m + d) + 1) = chgN tr mt rl (m + 1) (ordN tr many mt rl (m + d)) := by
      show chgN tr mt rl (m + d + 1) _ = _
      rw [show m + d + 1 = (m + 1) + d by omega, chgN_per hd (ordN_ok ht _)]
    rw [e] at h
    exact chgN_inj ht (ordN_ok ht _) (ordN_ok ht _) h
theorem pow_small {n : Nat} (h : n ≤ 6) : n ^ n ≤ 46656 := by
  have : n = 0 ∨ n = 1 ∨ n = 2 ∨ n = 3 ∨ n = 4 ∨ n = 5 ∨ n = 6 := by omega
  rcases this with rfl | rfl | rfl | rfl | rfl | rfl | rfl <;> decide
theorem come_back {tr : List Trk} {many : Nat} {mt : Bool} {rl : Nat} (ht : tr.length ≤ many) (h6 : many ≤ 6) (hs : 0 < spanN tr many rl) : ∃ T, 0 < T ∧ T ≤ spanN tr many rl * 46656 ∧ T % spanN tr many rl = 0 ∧ ordN tr many mt rl T = List.range many := by
  obtain ⟨i, j, hij, hj, e⟩ := pigeon (g := fun k => ordN tr many mt rl (k * spanN tr many rl)) (U := allL many many) fun k => by
    have := ordN_ok (mt := mt) (rl := rl) ht (k * spanN tr many rl)
    have z := allL_mem many _ this.2
    rw [this.1] at z
    exact z
  rw [allL_len] at hj
  have hp := pow_small h6
  refine ⟨(j - i) * spanN tr many rl, Nat.mul_pos (by omega) hs, ?_, Nat.mul_mod_left _ _, ?_⟩
  · rw [Nat.mul_comm]
    exact Nat.mul_le_mul_left _ (by omega)
  · refine (back_to ht ⟨j - i, Nat.mul_comm _ _⟩ (i * spanN tr many rl) ?_).symm
    rw [← Nat.add_mul, show i + (j - i) = j by omega]
    exact e
/-- the wheel -/
def IsWh (tr : List Trk) (many : Nat) (mt : Bool) (rl W : Nat) : Prop := 0 < W ∧ W < 2 ^ 24 ∧ W % spanN tr many rl = 0 ∧ ordN tr many mt rl W = List.range many ∧ ∀ c, 0 < c → c < W → ¬ (c % spanN tr many rl = 0 ∧ ordN tr many mt rl c = List.range many)
/-- tracks as scenes have them -/
structure TrOk (tr : List Trk) : Prop where
  five : tr.length ≤ 5
  pos : ∀ p ∈ tr, 0 < p.1.length
  six : ∀ p ∈ tr, p.1.length ≤ 6
theorem dvd60 {n : Nat} (h0 : 0 < n) (h : n ≤ 6) : n ∣ 60 := by
  have : n = 1 ∨ n = 2 ∨ n = 3 ∨ n = 4 ∨ n = 5 ∨ n = 6 := by omega
  rcases this with rfl | rfl | rfl | rfl | rfl | rfl <;> decide
theorem lcm60 {a b : Nat} (ha0 : 0 < a) (ha : a ≤ 4) (hb0 : 0 < b) (hb : b ≤ 5) : Nat.lcm 60 (a * b) ≤ 240 := by
  have h1 : a = 1 ∨ a = 2 ∨ a = 3 ∨ a = 4 := by omega
  have h2 : b = 1 ∨ b = 2 ∨ b = 3 ∨ b = 4 ∨ b = 5 := by omega
  rcases h1 with rfl | rfl | rfl | rfl <;> rcases h2 with rfl | rfl | rfl | rfl | rfl <;> decide
theorem span_pos {tr : List Trk} {many rl : Nat} (h : TrOk tr) : 0 < spanN tr many rl := by
  refine foldl_pos _ (by decide) fun n hn => ?_
  rcases List.mem_append.mp hn with hn | hn
  · obtain ⟨p, hp, rfl⟩ := List.mem_map.mp hn
    exact h.pos p hp
  · split at hn
    · rename_i hr
      rw [List.mem_singleton.mp hn]
      exact Nat.mul_pos hr.1 hr.2.1
    · cases hn
theorem span_le {tr : List Trk} {many rl : Nat} (h : TrOk tr) (hr : rl ≤ 4) : spanN tr many rl ≤ 240 := by
  have base : ∀ x, (∀ p ∈ tr, p.1.length ∣ Nat.lcm 60 x) := fun x p hp => Nat.dvd_trans (dvd60 (h.pos p hp) (h.six p hp)) (Nat.dvd_lcm_left 60 x)
  by_cases hh : hasR tr.length many rl
  · have d : spanN tr many rl ∣ Nat.lcm 60 (rl * tr.length) := by
      refine foldl_dvd_of _ _ _ (Nat.one_dvd _) fun n hn => ?_
      rcases List.mem_append.mp hn with hn | hn
      · obtain ⟨p, hp, rfl⟩ := List.mem_map.mp hn
        exact base _ p hp
      · rw [if_pos hh] at hn
        rw [List.mem_singleton.mp hn]
        exact Nat.dvd_lcm_right _ _
    exact Nat.le_trans (Nat.le_of_dvd (Nat.lcm_pos (by decide) (Nat.mul_pos hh.1 hh.2.1)) d) (lcm60 hh.1 hr hh.2.1 h.five)
  · have d : spanN tr many rl ∣ 60 := by
      refine foldl_dvd_of _ _ _ (Nat.one_dvd _) fun n hn => ?_
      rcases List.mem_append.mp hn with hn | hn
      · obtain ⟨p, hp, rfl⟩ := List.mem_map.mp hn
        exact dvd60 (h.pos p hp) (h.six p hp)
      · rw [if_neg hh] at hn
        cases hn
    exact Nat.le_trans (Nat.le_of_dvd (by decide) d) (by decide)
end Dk
namespace Dk
open PySem PySem.Spec PyProof.Rows L2
/-! ### enumerate of a tuple -/
abbrev enO (i : Addr) : Obj := { cls := .type "enumerate", data := .fields #[.none, .bool false, .ref i, rawInt 0, .none, .none] }
theorem enum_new {v : Value} {ob : Obj} {Hh : Heap → Prop} (B : Begins v ob Hh) :
    Meets (Builtin.«enumerate.__new__» ⟨[.type "enumerate", v], []⟩) (fun _ R s => Hh s.heap ∧ R (.ok (.ret (.ref (s.heap.push ob).objs.size))) { s with heap := (s.heap.push ob).push (enO s.heap.objs.size) }) :=
  .of_wp fun pr wo A R s hy => by
    obtain ⟨hp, g, d, tk, os⟩ := s
    obtain ⟨y1, y⟩ := hy
    have sb := sub_enumerate
    have qi : ∀ {A' : Around} {Ex : Value → Shared → Prop} {Qx : Value → Shared → Prop}, Qx (.ref hp.objs.size) ⟨hp.push ob, g, d, tk, os⟩ → wpAny (model pr wo) A' (pyIter v) Qx Ex ⟨hp, g, d, tk, os⟩ := fun q => B.iter pr wo _ _ ⟨hp, g, d, tk, os⟩ _ y1 q
    wp_walk using qi
    refine wpAny_stack_any fun zt => wpAny_pure ?_
    split
    · rename_i c _ _ _ _ _
      cases (c == Value.type "enumerate") <;> (wp_walk using qi) <;> exact ⟨_, rfl, y⟩
    · wp_walk using qi
      exact ⟨_, rfl, y⟩
section
variable {prog : Program} {w : World} {A : Around} {E : Value → Shared → Prop} {s : Shared}
theorem call_enumT {tp : Addr} {its : Array Value} {Q : Value → Shared → Prop} (hT : s.heap.IsTuple tp its)
    (k : ∀ h', IsEnum h' (s.heap.objs.size + 1) s.heap.objs.size 0 .none → h'.IsTupleIter s.heap.objs.size tp 0 → (∀ b u, s.heap.get? b = some u → h'.get? b = some u) → Q (.ref (s.heap.objs.size + 1)) { s with heap := h' }) :
    wpAny (model prog w) A (call (.type "enumerate") [.ref tp]) Q E s := by
  have B := begins_tuple tp its
  refine callType_new F.called_enumerate (by decide) (F.typeCall_enumerate_1 _) (F.newCall_enumerate_1 _) (fun ob => F.args_object_init_2 ob _) F.entry_enumerate_new (enum_new B) ⟨hT, ?_⟩
  have sz : (s.heap.push { cls := .type "tuple_iterator", data := .fields #[.ref tp, .int 0 0] }).objs.size = s.heap.objs.size + 1 := Heap.size_push ..
  show _ ∧ _
  rw [sz]
  have ie := Heap.get?_push_size (s.heap.push { cls := .type "tuple_iterator", data := .fields #[.ref tp, .int 0 0] }) (o := enO s.heap.objs.size) rfl
  rw [sz] at ie
  exact ⟨⟨_, ie, rfl⟩, k _ ie ⟨_, Heap.get?_push_of_some _ (Heap.get?_push_size _ B.free), rfl, rfl⟩ fun b u z => Heap.get?_push_of_some _ (Heap.get?_push_of_some _ z)⟩
end
def IteT (K : PySem.W.Frag) (a : Addr) : It where
  go := fun i H => ∃ (xs : List V) (x : V), SqT K H a xs ∧ xs[i]? = some x
  yld := fun i H v H' => ∃ T x, v = .ref T ∧ H T = none ∧ H' = upd H T (.tup [.int (i : Nat), x]) ∧ ∀ xs, SqT K H a xs → xs[i]? = some x
  stop := fun i H => ∃ xs : List V, SqT K H a xs ∧ xs.length ≤ i
theorem two_of {b e it : Addr} (h : b ∈ [e, it]) : b = e ∨ b = it := by simpa using h
theorem turn_enumT {P : Program} {w : World} {K : PySem.W.Frag} {elts : List Expr} {kk : Nat} {tpos : Pos} (a e it : Addr) :
    Turn P w K (.Tuple elts kk tpos) (IteT K a) [e, it] e (fun i h => (∃ old, IsEnum h e it ((i : Nat) : Int) old) ∧ h.IsTupleIter it a i ∧ e ≠ it ∧ a ≠ it ∧ e ≠ a) where
  mem := by simp
  obj := fun i h st b hb => by
    obtain ⟨⟨old, he⟩, ⟨ob, hob, _, hd⟩, _⟩ := st
    rcases two_of hb with rfl | rfl
    · exact ⟨_, he, fun v q => nomatch q⟩
    · exact ⟨ob, hob, fun v q => by rw [hd] at q; cases q⟩
  keep := fun i h h' st kk => by
    obtain ⟨⟨old, he⟩, hi, n1⟩ := st
    exact ⟨⟨old, kk e (by simp) _ he⟩, hi.at fun u q => kk it (by simp) u q, n1⟩
  item := by
    intro X hP hw hK hc i pn s st0 H Ex J hf st hg
    subst hP hw hK
    obtain ⟨⟨old, he⟩, hit, n1, n2, n3⟩ := st
    obtain ⟨xs, x, hq, hx⟩ := hg
    obtain ⟨its, rv, tt, hz⟩ := J.tuple hq
    obtain ⟨u, hu, ru⟩ := rv.get hx
    have el : e < s.heap.objs.size := Heap.lt_size he
    have il : it < s.heap.objs.size := by
      obtain ⟨_, z, _⟩ := hit
      exact Heap.lt_size z
    have lt : i < its.toArray.size := by
      have := (List.getElem?_eq_some_iff.mp hu).1
      simpa using this
    have hd0 : X.A.in1.handled = none := J.ok.hd hc
    refine wpAny_pyNext_enum_itemD (Draws.tuple hd0 it a n2 its.toArray) he ⟨hit, tt⟩ lt n1 (by simp [n1, n3]) fun x' h' tk px ho st' hT hsz hk => ?_
    have ex : x' = u := by
      have z : its.toArray[i]? = some x' := px
      have z2 : its.toArray[i]? = some u := by simpa using hu
      exact Option.some.inj (z.symm.trans z2)
    subst ex
    refine ⟨_, rfl, wpAny_letOwnedTupleGo_enum (s := { s with heap := h', toks := tk + 1 }) ho fun h2 he2 sb => ?_⟩
    have hT2 := (sb.2 _ (Nat.ne_of_gt el)).trans hT
    have nw : ObjOk X.prog X.w (upd H s.heap.objs.size (.tup [.int (i : Nat), x])) h2 s.heap.objs.size (.tup [.int (i : Nat), x]) := ⟨by show 2 ≤ sizeLine; decide, [.int i tk, x'], .cons ⟨_, rfl⟩ (.cons ru .nil), ⟨_, hT2, rfl, _, rfl⟩⟩
    have old2 : ∀ b ob, b ∉ [e, it] → s.heap.get? b = some ob → h2.get? b = some ob := fun b ob hb q => by
      have b1 : b ≠ e := fun z => hb (by simp [z])
      have b2 : b ≠ it := fun z => hb (by simp [z])
      exact (sb.2 b b1).trans (hk b ob b1 b2 q)
    have J1 := J.turnedNew (t' := tk + 1) (ch := [e, it]) old2 hf (Nat.le_refl _) nw
    refine ⟨.ref s.heap.objs.size, _, J1, rfl, ⟨_, x, rfl, J.hok.fresh (Nat.le_refl _), rfl, fun ys hy => by rw [J.tuple_inj hy hq]; exact hx⟩, ⟨⟨x', ?_⟩, st'.1.at fun ob q => (sb.2 it (Ne.symm n1)).trans q, n1, n2, n3⟩, fun b hb => ?_⟩
    · have ei : ((i + 1 : Nat) : Int) = (i : Int) + 1 := by omega
      rw [ei]
      exact he2
    · have bl : b < s.heap.objs.size := by
        rcases two_of hb with rfl | rfl
        · exact el
        · exact il
      rw [upd_ne (Nat.ne_of_lt bl)]
      exact (hf b hb).1
  done := by
    intro X hP hw hK hc i pn s st0 H Ex J hf st hg
    subst hP hw hK
    obtain ⟨⟨old, he⟩, hit, n1, n2, n3⟩ := st
    obtain ⟨xs, hq, hx⟩ := hg
    obtain ⟨its, rv, tt, hz⟩ := J.tuple hq
    obtain ⟨f0, f1, f2, f3, f4, f5⟩ := hf it (by simp)
    have hl := rv.length
    have hd0 : X.A.in1.handled = none := J.ok.hd hc
    have hT : s.TypeIs (.ref e) "enumerate" := ⟨_, he, rfl⟩
    unfold pyNext
    refine wpAny_bind (wpAny_attempt (wpAny_callSpecial?_slot (name := Str.ofString "__next__") hT F.slot_enumerate_next (wpAny_call_entry F.slot_enumerate_next hT F.entry_enumerate_next ?_ (F.args_enumerate_next_1 _))))
    show wpAny _ _ (field (.ref e) 2 >>= _) _ _ _
    refine wpAny_bind (wpAny_field he rfl (x := .ref it) rfl (wpAny_bind (wpAny_nextOf_tuple_end hd0 hit tt (by simp; omega) fun h' ex eb sx => ?_)))
    obtain ⟨ob, ho, hcl⟩ := sx
    exact wpAny_bind (wpAny_isInstance (T := "StopIteration") (b := true) ⟨ob, ho, hcl⟩ isSubtype_stop (wpAny_pure ⟨rfl, J.turned (t' := s.toks) (fun b u hb q => eb b u hb q) f0 f1 f3 f4 f5⟩))
  self := fun A i s Q Ex st h => by
    obtain ⟨⟨_, he⟩, _⟩ := st
    exact wpAny_pyIter_enum he h
def iEnumT (K : PySem.W.Frag) (ta : TA) : TI := fun st H R => ta st H fun vs H1 => ∃ a xs, vs = [.ref a] ∧ SqT K H1 a xs ∧ R (IteT K a) H1
theorem pi_enumT {X : Cx} {e : Expr} {ta : TA} {p pos tpos : Pos} {elts : List Expr} {kk : Nat} (hg : Gl X "enumerate") (hm : X.mg "enumerate" = none) (ha : PA X [e] ta) (hs : starEach [e] X.env = [(false, eval e X.env)] := by rfl) :
    PI X (.Tuple elts kk tpos) (.Call (.Name "enumerate" p) [e] [] pos) (iEnumT X.K ta) := by
  refine ⟨fun pn s st H R J h => ?_⟩
  refine Call_ (ld_blt J hg hm boot_enumerate (PyProof.Rows.callWith_type1 (thn (ha.run pos pn s st H _ J h) fun us s1 ⟨vs, H1, J1, r1, q1⟩ => ?_) hs rfl))
  obtain ⟨a, xs, ex, hq, q⟩ := q1
  subst ex
  obtain ⟨u, rfl, ru⟩ := vals1 r1
  cases ru
  obtain ⟨its, rv, tt, hz⟩ := J1.tuple hq
  obtain ⟨oT, hoT, _⟩ := id tt
  have al : a < s1.heap.objs.size := Heap.lt_size hoT
  refine call_enumT (show s1.heap.IsTuple a its.toArray from tt) fun h' he hit hk => wpAny_pyIter_enum he ?_
  have J2 := J1.kept (t' := s1.toks) hk
  refine ⟨s1.heap.objs.size + 1, [s1.heap.objs.size + 1, s1.heap.objs.size], _, _, H1, rfl, J2, turn_enumT a (s1.heap.objs.size + 1) s1.heap.objs.size, ⟨⟨.none, he⟩, hit, Nat.succ_ne_self _, Nat.ne_of_lt al, Nat.ne_of_gt (Nat.lt_succ_of_lt al)⟩, fun b hb => ?_, q⟩
  have hle : s1.heap.objs.size ≤ b := by
    rcases two_of hb with rfl | rfl
    · exact Nat.le_add_right _ _
    · exact Nat.le_refl _
  exact J1.fpOk hle (J1.hok.fresh hle)
theorem walk_enumT {K : PySem.W.Frag} {a : Addr} {xs : List V} : Walk (IteT K a) xs.length (fun H => SqT K H a xs) (YPair (fun i => some (.int (i : Nat))) (fun i => xs[i]?)) := by
  refine ⟨fun i H hi g => ⟨xs, _, g, List.getElem?_eq_getElem hi⟩, fun H g => ⟨xs, g, Nat.le_refl _⟩, fun i H v H' _ g y => ?_⟩
  obtain ⟨T, x, h1, h2, h3, h4⟩ := y
  exact ⟨T, .int (i : Nat), x, h1, h2, h3, rfl, h4 xs g⟩
end Dk
namespace Dk
open PySem L2
/-! ### rounds -/
def nxt (rs : List Str) (i : Nat) : Str := rs.getD ((i + 1) % rs.length) Str.empty
structure Rnd (zs : List Str) (bh : Str → List Str) (rs : List Str) : Prop where
  one : 1 ≤ rs.length
  six : rs.length ≤ 6
  mem : ∀ r ∈ rs, r ∈ zs
  hand : ∀ (i : Nat) (r : Str), rs[i]? = some r → nxt rs i ∈ bh r ∨ r = nxt rs i
theorem Rnd.nxt_mem {zs : List Str} {bh : Str → List Str} {rs : List Str} (h : Rnd zs bh rs) (i : Nat) : nxt rs i ∈ zs ∧ rs[(i + 1) % rs.length]? = some (nxt rs i) := by
  have hl : (i + 1) % rs.length < rs.length := Nat.mod_lt _ h.one
  have e : rs[(i + 1) % rs.length]? = some (nxt rs i) := by
    unfold nxt
    rw [List.getD_eq_getElem?_getD, List.getElem?_eq_getElem hl]
    rfl
  exact ⟨h.mem _ (List.mem_of_getElem? e), e⟩
def spHasDoor (C : Addr) : Sp := fun vs H Q _ => ∃ (h : Addr) (zs : List Str) (bh vw : Str → List Str) (a b : Str), vs = [.ref h, .str a, .str b] ∧ Hs C H h zs bh vw ∧ a ∈ zs ∧ b ∈ zs ∧ Q (.bl (decide (b ∈ bh a))) H
def spAtHand (C : Addr) : Sp := fun vs H Q _ => ∃ (h : Addr) (zs : List Str) (bh vw : Str → List Str) (a b : Str), vs = [.ref h, .str a, .str b] ∧ Hs C H h zs bh vw ∧ a ∈ zs ∧ b ∈ zs ∧ Q (.bl (decide (b ∈ bh a) || decide (a = b))) H
def spSees (C : Addr) : Sp := fun vs H Q _ => ∃ (h : Addr) (zs : List Str) (bh vw : Str → List Str) (a : Str), vs = [.ref h, .str a] ∧ Hs C H h zs bh vw ∧ a ∈ zs ∧ ∀ (H' : Hp) (p : Addr), Same H H' → H p = none → H' p = some (.lst ((vw a).map V.str)) → Q (.ref p) H'
def spNeedRound (C : Addr) : Sp := fun vs H Q _ => ∃ (h t : Addr) (zs : List Str) (bh vw : Str → List Str) (rs : List Str), vs = [.ref h, .ref t] ∧ Hs C H h zs bh vw ∧ H t = some (.tup (rs.map V.str)) ∧ Rnd zs bh rs ∧ ∀ H', Same H H' → Q .non H'
theorem Hs.nmd {C : Addr} {H : Hp} {h : Addr} {zs : List Str} {bh vw : Str → List Str} (x : Hs C H h zs bh vw) : Nmd C H h zs := by
  obtain ⟨⟨dx, n, b, v, h1, h2, _⟩, _⟩ := x
  exact ⟨dx, n, _, h1, hf_n _ _ _, hf_no _ _ _ (by decide +kernel) (by decide +kernel) (by decide +kernel), h2⟩
/-! ### promises of the changes -/
def spRoomsAt : Sp := fun vs H Q _ => ∃ (p : Addr) (xs : List V) (tr : List Trk) (b : Int), vs = [.ref p, .int b] ∧ H p = some (.lst xs) ∧ TrL H xs tr ∧ TrOk tr ∧ ∀ (H' : Hp) (q : Addr), Same H H' → H q = none → H' q = some (.lst ((stnd tr b).map V.str)) → Q (.ref q) H'
def spHasRelief : Sp := fun vs H Q _ => ∃ (p : Addr) (xs : List V) (many rl : Nat), vs = [.ref p, .int (many : Nat), .int (rl : Nat)] ∧ H p = some (.lst xs) ∧ Q (.bl (decide (hasR xs.length many rl))) H
def spSpanOf : Sp := fun vs H Q _ => ∃ (p : Addr) (xs : List V) (tr : List Trk) (many rl : Nat), vs = [.ref p, .int (many : Nat), .int (rl : Nat)] ∧ H p = some (.lst xs) ∧ TrL H xs tr ∧ TrOk tr ∧ rl ≤ 4 ∧ ∀ H', Same H H' → Q (.int (spanN tr many rl : Nat)) H'
def spHanded : Sp := fun vs H Q _ => ∃ (o r : Addr) (os : List Nat) (rs : List Str), vs = [.ref o, .ref r] ∧ H o = some (.lst (os.map natV)) ∧ H r = some (.lst (rs.map V.str)) ∧ rs.length ≤ os.length ∧ os.length ≤ 6 ∧ (∀ r ∈ rs, PyData.strOk r = true) ∧ ∀ (H' : Hp) (q : Addr), Same H H' → H q = none → H' q = some (.lst ((hoN rs os).map natV)) → Q (.ref q) H'
def spRelieved : Sp := fun vs H Q _ => ∃ (o : Addr) (os : List Nat) (n p : Nat), vs = [.ref o, .int (n : Nat), .int (p : Nat)] ∧ H o = some (.lst (os.map natV)) ∧ n < os.length ∧ p < n ∧ os.length ≤ 6 ∧ ∀ (H' : Hp) (q : Addr), Same H H' → H q = none → H' q = some (.lst ((relN n p os).map natV)) → Q (.ref q) H'
def spChanged : Sp := fun vs H Q _ => ∃ (o p : Addr) (os : List Nat) (b : Nat) (xs : List V) (tr : List Trk) (mt : Bool) (rl : Nat), vs = [.ref o, .int (b : Nat), .ref p, .bl mt, .int (rl : Nat)] ∧ H o = some (.lst (os.map natV)) ∧ H p = some (.lst xs) ∧ TrL H xs tr ∧ TrOk tr ∧ (∀ t ∈ tr, ∀ r ∈ t.1, PyData.strOk r = true) ∧ tr.length ≤ os.length ∧ os.length ≤ 6 ∧ rl ≤ 4 ∧ b < 2 ^ 25 ∧
  ∀ (H' : Hp) (q : Addr), Same H H' → H' q = some (.lst ((chgN tr mt rl b os).map natV)) → Q (.ref q) H'
def spOrders : Sp := fun vs H Q _ => ∃ (p : Addr) (xs : List V) (tr : List Trk) (many : Nat) (mt : Bool) (rl : Nat), vs = [.ref p, .int (many : Nat), .bl mt, .int (rl : Nat)] ∧ H p = some (.lst xs) ∧ TrL H xs tr ∧ TrOk tr ∧ (∀ t ∈ tr, ∀ r ∈ t.1, PyData.strOk r = true) ∧ tr.length ≤ many ∧ many ≤ 6 ∧ rl ≤ 4 ∧
  ∀ (H' : Hp) (q : Addr) (os : List V) (W : Nat), Same H H' → H q = none → IsWh tr many mt rl W → H' q = some (.lst os) → OrL H' os ((List.range W).map (ordN tr many mt rl)) → Q (.ref q) H'
theorem nat_at {o : List Nat} {i : Nat} (h : i < o.length) : (o.map natV)[i]? = some (natV (o.getD i 0)) := by
  rw [List.getElem?_map, getD_at h]
  rfl
theorem set_nat {o : List Nat} {i : Nat} {x : Nat} : (o.map natV).set i (natV x) = (o.set i x).map natV := by
  rw [List.map_set]
theorem ixN_nat {n k : Nat} (h : k < n) : ixN n ((k : Nat) : Int) = some k := by
  unfold ixN
  simp
  omega
theorem cut_to {xs : List V} {n : Nat} (h : n ≤ xs.length) : cutV xs none (some ((n : Nat) : Int)) = xs.take n := cut_upto xs h
theorem cut_of {xs : List V} {n : Nat} (h : n ≤ xs.length) : cutV xs (some ((n : Nat) : Int)) none = xs.drop n := by
  unfold cutV
  rw [HT.sIx_none, show HT.sIx xs.length 0 (some ((n : Nat) : Int)) = min n xs.length from HT.sIx_nat _ _ n, Nat.min_eq_left h, List.take_of_length_le (by rw [List.length_drop]; omega)]
theorem stnd_ok {tr : List Trk} (h : TrOk tr) (k : ∀ t ∈ tr, ∀ r ∈ t.1, PyData.strOk r = true) (b : Int) : ∀ r ∈ stnd tr b, PyData.strOk r = true := by
  intro r hr
  obtain ⟨p, hp, rfl⟩ := List.mem_map.mp hr
  exact k p hp _ (plcS_mem (h.pos p hp) _)
/-! ### lists of numbers -/
def natD (n : Nat) : PyData := .int (n : Int)
theorem dp_nats {K : PySem.W.Frag} {H : Hp} : ∀ os : List Nat, DpAll K H (os.map natV) (os.map natD)
  | [] => .nil
  | o :: r => .cons (.int _) (dp_nats r)
theorem lay_nats : ∀ os : List Nat, PyData.canLayAll0 (os.map natD) = true ∧ PyData.depthAll (os.map natD) = 0
  | [] => ⟨rfl, rfl⟩
  | o :: r => by
    obtain ⟨h1, h2⟩ := lay_nats r
    constructor
    · show ((natD o).canLay0 && PyData.canLayAll0 (r.map natD)) = true
      rw [h1]
      rfl
    · show max 0 (PyData.depthAll (r.map natD)) = 0
      rw [h2]
      rfl
theorem shaped_nats (os : List Nat) : SeqAt.shaped (.list (os.map natD)) = true := by
  obtain ⟨h1, h2⟩ := lay_nats os
  unfold SeqAt.shaped
  have e1 : (PyData.list (os.map natD)).canLay0 = true := h1
  have e2 : (PyData.list (os.map natD)).depth ≤ 64 := by
    show PyData.depthAll (os.map natD) + 1 ≤ 64
    rw [h2]
    decide
  rw [e1, decide_eq_true e2]
  rfl
theorem eqv_nats : ∀ os us : List Nat, PyData.eqvAll (os.map natD) (us.map natD) = decide (os = us)
  | [], [] => by simp [PyData.eqvAll]
  | [], _ :: _ => by simp [PyData.eqvAll]
  | _ :: _, [] => by simp [PyData.eqvAll]
  | o :: os, u :: us => by
    rw [List.map_cons, List.map_cons]
    show (PyData.eqv (natD o) (natD u) && PyData.eqvAll _ _) = _
    rw [eqv_nats os us, Bool.eq_iff_iff, Bool.and_eq_true, decide_eq_true_eq, decide_eq_true_eq, List.cons.injEq]
    simp [PyData.eqv, natD]
    intro _
    omega
theorem eqv_lnats (os us : List Nat) : PyData.eqv (.list (os.map natD)) (.list (us.map natD)) = decide (os = us) := by
  rw [← eqv_nats os us]
  simp [PyData.eqv]
theorem rg_nat (n : Nat) : rgV 0 (n : Nat) = (List.range n).map natV := by
  unfold rgV
  rw [show (((n : Nat) : Int) - 0).toNat = n by omega]
  refine List.map_congr_left fun i _ => ?_
  show V.int (0 + (i : Nat)) = V.int (i : Nat)
  rw [Int.zero_add]
/-- a list of references is no list of numbers -/
theorem ref_nat {H : Hp} {O q : Addr} {os : List V} {o : List Nat} {x : Addr} (h1 : H O = some (.lst (.ref x :: os))) (h2 : H q = some (.lst (o.map natV))) : q ≠ O := fun z => by
  rw [z, h1] at h2
  have e := HO.lst.inj (Option.some.inj h2)
  cases o with
  | nil => cases e
  | cons a r => cases (List.cons.inj e).1
theorem OrL.put {H : Hp} {O x : Addr} {xs os : List V} {ps : List (List Nat)} {u : HO} (h : OrL H xs ps) (hO : H O = some (.lst (.ref x :: os))) : OrL (upd H O u) xs ps := AL.mono h fun v p z => by
  obtain ⟨q, e, hq⟩ := z
  exact ⟨q, e, by rw [upd_ne (ref_nat hO hq)]; exact hq⟩
end Dk
namespace Dk
open PySem L2
/-! ### light and moves -/
def handN (zs : List Str) (bh : Str → List Str) (a : Str) : List Str := zs.filter fun b => decide (b ∈ bh a) || decide (a = b)
def ligs (vw : Str → List Str) : List (Str × Nat) → List Str
  | [] => []
  | p :: r => (if p.2 = 1 then vw p.1 else []) ++ ligs vw r
theorem ligs_app (vw : Str → List Str) : ∀ l m : List (Str × Nat), ligs vw (l ++ m) = ligs vw l ++ ligs vw m
  | [], _ => rfl
  | p :: r, m => by
    show (if p.2 = 1 then vw p.1 else []) ++ ligs vw (r ++ m) = _
    rw [ligs_app vw r m, ← List.append_assoc]
    rfl
theorem ligs_len {vw : Str → List Str} {n : Nat} (h : ∀ a, (vw a).length ≤ n) : ∀ l : List (Str × Nat), (ligs vw l).length ≤ l.length * n
  | [] => Nat.zero_le _
  | p :: r => by
    have := ligs_len h r
    show ((if p.2 = 1 then vw p.1 else []) ++ ligs vw r).length ≤ _
    rw [List.length_append, List.length_cons, Nat.succ_mul]
    split
    · have := h p.1
      omega
    · show 0 + _ ≤ _
      omega
def litN (zs : List Str) (vw : Str → List Str) (rs : List Str) (ks : List Nat) : List Str := zs.filter fun r => decide (r ∈ rs ++ ligs vw (rs.zip ks))
def movN (bs ns : List Str) : List SS := (bs.zip ns).filter fun p => decide (p.1 ≠ p.2)
def reachN (ws : List Wtc) (l : List Nat) : List Nat := l.map fun k => (ws.getD k (Str.empty, 0)).2
def spHands (C : Addr) : Sp := fun vs H Q _ => ∃ (h : Addr) (zs : List Str) (bh vw : Str → List Str), vs = [.ref h] ∧ Hs C H h zs bh vw ∧ ∀ (H' : Hp) (d : Addr), Same H H' → H d = none → LinkAt H' d zs (handN zs bh) → Q (.ref d) H'
def spLit (C : Addr) : Sp := fun vs H Q _ => ∃ (h r q : Addr) (zs : List Str) (bh vw : Str → List Str) (rs : List Str) (ks : List Nat), vs = [.ref h, .ref r, .ref q] ∧ Hs C H h zs bh vw ∧ H r = some (.lst (rs.map V.str)) ∧ H q = some (.lst (ks.map natV)) ∧ rs.length = ks.length ∧ rs.length ≤ 5 ∧ (∀ x ∈ rs, x ∈ zs) ∧
  ∀ (H' : Hp) (z : Addr), Same H H' → H z = none → H' z = some (.lst ((litN zs vw rs ks).map V.str)) → Q (.ref z) H'
def spMoves : Sp := fun vs H Q _ => ∃ (b n : Addr) (bs ns : List Str), vs = [.ref b, .ref n] ∧ H b = some (.lst (bs.map V.str)) ∧ H n = some (.lst (ns.map V.str)) ∧ bs.length = ns.length ∧ bs.length ≤ 5 ∧ ∀ (H' : Hp) (z : Addr) (xs : List V), Same H H' → H z = none → H' z = some (.lst xs) → PL H' xs (movN bs ns) → Q (.ref z) H'
/-! ### what a scene refuses not -/
def NmA (H : Hp) (v : V) (z : Str) : Prop := ∃ q ys, v = V.ref q ∧ H q = some (.tup (.str z :: ys))
theorem NmA.keep {H H' : Hp} {v : V} {z : Str} (k : KeepT H H') (h : NmA H v z) : NmA H' v z := by
  obtain ⟨q, ys, e, h1⟩ := h
  exact ⟨q, ys, e, k _ _ h1⟩
theorem AL.map {α β : Type} {R : Hp → V → α → Prop} {S : Hp → V → β → Prop} {H : Hp} {xs : List V} {ps : List α} (f : α → β) (h : AL R H xs ps) (m : ∀ x p, R H x p → S H x (f p)) : AL S H xs (ps.map f) := by
  refine ⟨by rw [List.length_map]; exact h.1, fun i x b h1 h2 => ?_⟩
  rw [List.getElem?_map] at h2
  cases e : ps[i]? with
  | none =>
    rw [e] at h2
    cases h2
  | some p =>
    rw [e] at h2
    cases h2
    exact m x p (h.2 i x p h1 e)
theorem PsL.names {H : Hp} {xs : List V} {ps : List Pst} (h : PsL H xs ps) : AL NmA H xs (ps.map (·.1)) := AL.map _ h fun x p ⟨q, t, e, h1, _⟩ => ⟨q, _, e, h1⟩
theorem WtL.names {H : Hp} {xs : List V} {ps : List Wtc} (h : WtL H xs ps) : AL NmA H xs (ps.map (·.1)) := AL.map _ h fun x p ⟨q, e, h1⟩ => ⟨q, _, e, h1⟩
def spNamesOf : Sp := fun vs H Q _ => ∃ (p : Addr) (xs : List V) (zs : List Str), vs = [.ref p] ∧ H p = some (.lst xs) ∧ AL NmA H xs zs ∧ xs.length ≤ 1000 ∧ ∀ (H' : Hp) (q : Addr), Same H H' → H q = none → H' q = some (.lst (zs.map V.str)) → Q (.ref q) H'
def spNeedDelay : Sp := fun vs H Q _ => ∃ (t : Addr) (rs : List Str) (d : Nat), vs = [.ref t, .int (d : Nat)] ∧ H t = some (.tup (rs.map V.str)) ∧ d < rs.length ∧ Q .non H
def spNeedReach : Sp := fun vs H Q _ => ∃ k : Nat, vs = [.int (k : Nat)] ∧ k ≤ 1 ∧ ∀ H', Same H H' → Q .non H'
def spNeedRelief : Sp := fun vs H Q _ => ∃ k : Nat, vs = [.int (k : Nat)] ∧ k ≤ 4 ∧ Q .non H
def spNeedCounts : Sp := fun vs H Q _ => ∃ (p q : Addr) (xs ys : List V), vs = [.ref p, .ref q] ∧ H p = some (.lst xs) ∧ H q = some (.lst ys) ∧ xs.length ≤ 5 ∧ ys.length ≤ 6 ∧ Q .non H
/-- posts as a house has them -/
structure PsOk (zs : List Str) (bh : Str → List Str) (ps : List Pst) : Prop where
  five : ps.length ≤ 5
  names : Names (ps.map (·.1))
  rnd : ∀ p ∈ ps, Rnd zs bh p.2.1
  dly : ∀ p ∈ ps, p.2.2 < p.2.1.length
structure WtOk (ws : List Wtc) : Prop where
  six : ws.length ≤ 6
  names : Names (ws.map (·.1))
  rch : ∀ p ∈ ws, p.2 ≤ 1
def spNewPosts (C : Addr) : Sp := fun vs H Q _ => ∃ (h p : Addr) (zs : List Str) (bh vw : Str → List Str) (xs : List V) (ps : List Pst), vs = [.ref h, .ref p] ∧ Hs C H h zs bh vw ∧ H p = some (.lst xs) ∧ PsL H xs ps ∧ PsOk zs bh ps ∧ ∀ (H' : Hp) (q : Addr) (ys : List V), Same H H' → H q = none → H' q = some (.lst ys) → PsL H' ys ps → Q (.ref q) H'
def spNewWts : Sp := fun vs H Q _ => ∃ (p : Addr) (xs : List V) (ws : List Wtc), vs = [.ref p] ∧ H p = some (.lst xs) ∧ WtL H xs ws ∧ WtOk ws ∧ ∀ (H' : Hp) (q : Addr) (ys : List V), Same H H' → H q = none → H' q = some (.lst ys) → WtL H' ys ws → Q (.ref q) H'
def spReaches (CS : Addr) : Sp := fun vs H Q _ => ∃ (s o p w dx : Addr) (fs : List (Str × V)) (xs ys : List V) (ws : List Wtc) (os : List Nat), vs = [.ref s, .ref o] ∧ H s = some (.ins CS dx fs) ∧ fs.lookup ("post_rows" : Str) = some (.ref p) ∧ fs.lookup ("watcher_rows" : Str) = some (.ref w) ∧ H p = some (.lst xs) ∧ H w = some (.lst ys) ∧ WtL H ys ws ∧ H o = some (.lst (os.map natV)) ∧ xs.length ≤ os.length ∧ os.length ≤ 6 ∧ (∀ k ∈ os, k < ws.length) ∧
  ∀ (H' : Hp) (q : Addr), Same H H' → H q = none → H' q = some (.lst ((reachN ws (os.take xs.length)).map natV)) → Q (.ref q) H'
theorem nodup_take {zs : List Str} {i : Nat} {z : Str} (h : Names zs) (e : zs[i]? = some z) : isNm z = true ∧ z ∉ zs.take i := ⟨h.2 z (List.mem_of_getElem? e), nodup_at h.1 e⟩
theorem zip_at {α β : Type} {as : List α} {bs : List β} {i : Nat} {a : α} {b : β} (h1 : as[i]? = some a) (h2 : bs[i]? = some b) : (as.zip bs)[i]? = some (a, b) := by
  rw [List.getElem?_zip_eq_some]
  exact ⟨h1, h2⟩
theorem nat_of_at {os : List Nat} {i : Nat} {x : V} (e : (os.map natV)[i]? = some x) : ∃ k, os[i]? = some k ∧ x = natV k := by
  rw [List.getElem?_map] at e
  cases h : os[i]? with
  | none =>
    rw [h] at e
    cases e
  | some k =>
    rw [h] at e
    exact ⟨k, rfl, (Option.some.inj e).symm⟩
end Dk
namespace Dk
open PySem L2
/-! ### all but the fields of s is kept -/
structure KpI (s : Addr) (H H' : Hp) : Prop where
  lst : ∀ q xs, H q = some (.lst xs) → H' q = some (.lst xs)
  tup : KeepT H H'
  dk : ∀ q m, H q = some (.dK m) → H' q = some (.dK m)
  ins : ∀ q C dx fs, q ≠ s → H q = some (.ins C dx fs) → H' q = some (.ins C dx fs)
theorem KpI.of {s : Addr} {H H' : Hp} (e : Same H H') : KpI s H H' := ⟨fun _ _ h => e _ _ h, KeepT.of e, fun _ _ h => e _ _ h, fun _ _ _ _ _ h => e _ _ h⟩
theorem KpI.trans {s : Addr} {H H1 H2 : Hp} (a : KpI s H H1) (b : KpI s H1 H2) : KpI s H H2 := ⟨fun q x h => b.lst q x (a.lst q x h), a.tup.trans b.tup, fun q x h => b.dk q x (a.dk q x h), fun q C dx fs n h => b.ins q C dx fs n (a.ins q C dx fs n h)⟩
theorem KpI.put {s C dx : Addr} {H : Hp} {fs : List (Str × V)} {o : HO} (h : H s = some (.ins C dx fs)) : KpI s H (upd H s o) :=
  ⟨fun q xs e => by rw [upd_ne (fun z => by rw [z, h] at e; cases e)]; exact e, KeepT.ins h, fun q xs e => by rw [upd_ne (fun z => by rw [z, h] at e; cases e)]; exact e, fun q C' dx' fs' n e => by rw [upd_ne n]; exact e⟩
theorem LinkAt.kpi {s d : Addr} {H H' : Hp} {zs : List Str} {f : Str → List Str} (h : LinkAt H d zs f) (k : KpI s H H') : LinkAt H' d zs f := by
  obtain ⟨as, h1, h2, h3⟩ := h
  exact ⟨as, h1, k.dk _ _ h2, fun i z p a b => k.lst _ _ (h3 i z p a b)⟩
theorem HouseAt.kpi {C s h : Addr} {H H' : Hp} {zs : List Str} {bh vw : Str → List Str} (x : HouseAt C H h zs bh vw) (n : h ≠ s) (k : KpI s H H') : HouseAt C H' h zs bh vw := by
  obtain ⟨dx, a, b, v, h1, h2, h3, h4, h5⟩ := x
  exact ⟨dx, a, b, v, k.ins _ _ _ _ n h1, k.lst _ _ h2, h3.kpi k, h4.kpi k, h5⟩
theorem OrL.kpi {s : Addr} {H H' : Hp} {xs : List V} {ps : List (List Nat)} (h : OrL H xs ps) (k : KpI s H H') : OrL H' xs ps := AL.mono h fun v p ⟨q, e, z⟩ => ⟨q, e, k.lst _ _ z⟩
theorem SsL.kpi {s : Addr} {H H' : Hp} {xs : List V} {ps : List (List Str)} (h : SsL H xs ps) (k : KpI s H H') : SsL H' xs ps := AL.mono h fun v p ⟨q, e, z⟩ => ⟨q, e, k.lst _ _ z⟩
def PLA (H : Hp) (v : V) (l : List SS) : Prop := ∃ q xs, v = V.ref q ∧ H q = some (.lst xs) ∧ PL H xs l
abbrev MvL := AL PLA
theorem MvL.kpi {s : Addr} {H H' : Hp} {xs : List V} {ps : List (List SS)} (h : MvL H xs ps) (k : KpI s H H') : MvL H' xs ps := AL.mono h fun v p ⟨q, ys, e, z, y⟩ => ⟨q, ys, e, k.lst _ _ z, y.keep k.tup⟩
theorem MvL.same {H H' : Hp} {xs : List V} {ps : List (List SS)} (h : MvL H xs ps) (k : Same H H') : MvL H' xs ps := AL.mono h fun v p ⟨q, ys, e, z, y⟩ => ⟨q, ys, e, k _ _ z, y.same k⟩
/-! ### fields -/
theorem putF_new {f : Str} {v : V} : ∀ {fs : List (Str × V)} (ks : List Str), fs.map (·.1) = ks → f ∉ ks → putF f v fs = fs ++ [(f, v)]
  | [], _, _, _ => rfl
  | (g, u) :: r, _, e, h => by
    subst e
    have h1 : ¬ g = f := fun z => h (by rw [← z]; exact List.mem_cons_self)
    show (if g = f then _ else (g, u) :: putF f v r) = _
    rw [if_neg h1, putF_new (r.map (·.1)) rfl (fun z => h (List.mem_cons_of_mem _ z))]
    rfl
theorem lk_none {f : Str} : ∀ {fs : List (Str × V)} (ks : List Str), fs.map (·.1) = ks → f ∉ ks → fs.lookup f = none
  | [], _, _, _ => rfl
  | (g, u) :: r, _, e, h => by
    subst e
    have h1 : ¬ f = g := fun z => h (by rw [z]; exact List.mem_cons_self)
    have e1 : (f == g) = false := by simpa using h1
    rw [List.lookup_cons, e1]
    exact lk_none (r.map (·.1)) rfl (fun z => h (List.mem_cons_of_mem _ z))
theorem lk_at {f : Str} {v : V} : ∀ {fs : List (Str × V)} (i : Nat) (ks : List Str), (fs.take i).map (·.1) = ks → f ∉ ks → fs[i]? = some (f, v) → fs.lookup f = some v
  | [], _, _, _, _, h => by simp at h
  | (g, u) :: r, 0, _, _, _, h => by
    have e := Option.some.inj h
    rw [(Prod.mk.inj e).1, (Prod.mk.inj e).2]
    exact List.lookup_cons_self
  | (g, u) :: r, i + 1, _, e, n, h => by
    subst e
    have h1 : ¬ f = g := fun z => n (by rw [z]; exact List.mem_cons_self)
    have e1 : (f == g) = false := by simpa using h1
    rw [List.lookup_cons, e1]
    exact lk_at i _ rfl (fun z => n (List.mem_cons_of_mem _ z)) h
/-! ### a house copied -/
theorem dAll_mem {zs : List Str} {bh : Str → List Str} {a b : Str} : (a, b) ∈ dAll zs bh ↔ ∃ i, zs[i]? = some a ∧ b ∈ zs.drop (i + 1) ∧ b ∈ bh a := by
  constructor
  · intro h
    obtain ⟨i, hi, hp⟩ := mem_flat h
    have e : zs[i]? = some zs[i] := List.getElem?_eq_getElem hi
    rw [dAt_some e] at hp
    obtain ⟨c, hc, ec⟩ := List.mem_map.mp hp
    obtain ⟨e1, e2⟩ := Prod.mk.inj ec
    subst e1
    subst e2
    exact ⟨i, e, (List.mem_filter.mp hc).1, of_decide_eq_true (List.mem_filter.mp hc).2⟩
  · rintro ⟨i, e, h1, h2⟩
    refine List.mem_flatten.mpr ⟨dAt zs bh i, List.mem_map.mpr ⟨i, List.mem_range.mpr (List.getElem?_eq_some_iff.mp e).1, rfl⟩, ?_⟩
    rw [dAt_some e]
    exact List.mem_map.mpr ⟨b, List.mem_filter.mpr ⟨h1, decide_eq_true h2⟩, rfl⟩
theorem sAll_mem {zs : List Str} {vw : Str → List Str} {a b : Str} : (a, b) ∈ sAll zs vw ↔ a ∈ zs ∧ b ∈ vw a := by
  constructor
  · intro h
    obtain ⟨i, hi, hp⟩ := mem_flat h
    have e : zs[i]? = some zs[i] := List.getElem?_eq_getElem hi
    rw [sAt_some e] at hp
    obtain ⟨c, hc, ec⟩ := List.mem_map.mp hp
    obtain ⟨e1, e2⟩ := Prod.mk.inj ec
    subst e1
    subst e2
    exact ⟨List.getElem_mem hi, hc⟩
  · rintro ⟨h1, h2⟩
    obtain ⟨i, hi, e⟩ := List.getElem_of_mem h1
    have e' : zs[i]? = some a := by rw [List.getElem?_eq_getElem hi, e]
    refine List.mem_flatten.mpr ⟨sAt zs vw i, List.mem_map.mpr ⟨i, List.mem_range.mpr hi, rfl⟩, ?_⟩
    rw [sAt_some e']
    exact List.mem_map.mpr ⟨b, h2, rfl⟩
theorem drop_of {zs : List Str} {i j : Nat} {b : Str} (e : zs[j]? = some b) (h : i < j) : b ∈ zs.drop (i + 1) := by
  refine List.mem_of_getElem? (i := j - (i + 1)) ?_
  rw [List.getElem?_drop, show i + 1 + (j - (i + 1)) = j by omega]
  exact e
theorem both_good {zs : List Str} {ds : List SS} (g : ∀ p ∈ ds, goodP zs p) {a b : Str} (h : (a, b) ∈ both ds) : goodP zs (a, b) := by
  rcases (both_iff ds a b).mp h with m | m
  · exact g _ m
  · exact (g _ m).swap
theorem lnk_mem {zs : List Str} {ps : List SS} {a b : Str} : b ∈ lnk zs ps a ↔ b ∈ zs ∧ (a, b) ∈ ps := by
  unfold lnk
  rw [List.mem_filter, decide_eq_true_eq]
theorem lnk_dAll {zs : List Str} {ds : List SS} (g : ∀ p ∈ ds, goodP zs p) : lnk zs (both (dAll zs (lnk zs (both ds)))) = lnk zs (both ds) := by
  refine lnk_congr fun a b => ?_
  have sub : ∀ {a b : Str}, (a, b) ∈ dAll zs (lnk zs (both ds)) → (a, b) ∈ both ds := fun {a b} h => by
    obtain ⟨i, _, _, h3⟩ := dAll_mem.mp h
    exact (lnk_mem.mp h3).2
  have sw : ∀ {a b : Str}, (a, b) ∈ both ds → (b, a) ∈ both ds := fun {a b} h => (both_iff ds b a).mpr ((both_iff ds a b).mp h).symm
  constructor
  · intro h
    rcases (both_iff _ a b).mp h with m | m
    · exact sub m
    · exact sw (sub m)
  · intro h
    obtain ⟨g1, g2, g3⟩ := both_good g h
    obtain ⟨i, hi, ei⟩ := List.getElem_of_mem g1
    obtain ⟨j, hj, ej⟩ := List.getElem_of_mem g2
    have ea : zs[i]? = some a := by rw [List.getElem?_eq_getElem hi, ei]
    have eb : zs[j]? = some b := by rw [List.getElem?_eq_getElem hj, ej]
    rcases Nat.lt_trichotomy i j with z | z | z
    · exact (both_iff _ a b).mpr (.inl (dAll_mem.mpr ⟨i, ea, drop_of eb z, lnk_mem.mpr ⟨g2, h⟩⟩))
    · subst z
      exact absurd (Option.some.inj (ea.symm.trans eb)) g3
    · exact (both_iff _ a b).mpr (.inr (dAll_mem.mpr ⟨j, eb, drop_of ea z, lnk_mem.mpr ⟨g1, sw h⟩⟩))
theorem lnk_sAll {zs : List Str} {ss : List SS} (g : ∀ p ∈ ss, goodP zs p) : lnk zs (sAll zs (lnk zs ss)) = lnk zs ss := by
  refine lnk_congr fun a b => ?_
  rw [sAll_mem, lnk_mem]
  exact ⟨fun h => h.2.2, fun h => ⟨(g _ h).1, (g _ h).2.1, h⟩⟩
theorem dAll_good {zs : List Str} {ds : List SS} (g : ∀ p ∈ ds, goodP zs p) : ∀ p ∈ dAll zs (lnk zs (both ds)), goodP zs p := by
  rintro ⟨a, b⟩ h
  obtain ⟨i, _, _, h3⟩ := dAll_mem.mp h
  exact both_good g (lnk_mem.mp h3).2
theorem sAll_good {zs : List Str} {ss : List SS} (g : ∀ p ∈ ss, goodP zs p) : ∀ p ∈ sAll zs (lnk zs ss), goodP zs p := by
  rintro ⟨a, b⟩ h
  exact g _ (lnk_mem.mp (sAll_mem.mp h).2).2
/-! ### a scene -/
def litAt (zs : List Str) (vw : Str → List Str) (tr : List Trk) (ws : List Wtc) (mt : Bool) (rl r : Nat) : List Str := litN zs vw (stnd tr (r : Nat)) (reachN ws ((ordN tr ws.length mt rl r).take tr.length))
def movAt (tr : List Trk) (r : Nat) : List SS := movN (stnd tr ((r : Int) - 1)) (stnd tr (r : Nat))
def sf (h p w o hd l m : Addr) (mt : Bool) (rl sp : Nat) : List (Str × V) := [("home", .ref h), ("post_rows", .ref p), ("watcher_rows", .ref w), ("has_meet", .bl mt), ("relief_beats", .int (rl : Nat)), ("span_beats", .int (sp : Nat)), ("orders", .ref o), ("hands", .ref hd), ("lights", .ref l), ("moves", .ref m)]
/-- a whole scene -/
structure ScA (C CS : Addr) (H : Hp) (s : Addr) (zs : List Str) (ds ss : List SS) (ps : List Pst) (ws : List Wtc) (mt : Bool) (rl W : Nat) (dx h p w o hd l m : Addr) (xs ys os ls ms : List V) : Prop where
  obj : H s = some (.ins CS dx (sf h p w o hd l m mt rl (spanN (ps.map (·.2)) ws.length rl)))
  fh : HouseAt C H h zs (lnk zs (both ds)) (lnk zs ss)
  fp : H p = some (.lst xs)
  fps : PsL H xs ps
  fw : H w = some (.lst ys)
  fws : WtL H ys ws
  fo : H o = some (.lst os)
  fos : OrL H os ((List.range W).map (ordN (ps.map (·.2)) ws.length mt rl))
  fhd : LinkAt H hd zs (handN zs (lnk zs (both ds)))
  fl : H l = some (.lst ls)
  fls : SsL H ls ((List.range W).map (litAt zs (lnk zs ss) (ps.map (·.2)) ws mt rl))
  fm : H m = some (.lst ms)
  fms : MvL H ms ((List.range W).map (movAt (ps.map (·.2))))
  fwh : IsWh (ps.map (·.2)) ws.length mt rl W
structure ScOk (zs : List Str) (ds ss : List SS) (ps : List Pst) (ws : List Wtc) (rl : Nat) : Prop where
  names : Names zs
  eight : zs.length ≤ 8
  dg : ∀ p ∈ ds, goodP zs p
  sg : ∀ p ∈ ss, goodP zs p
  pok : PsOk zs (lnk zs (both ds)) ps
  wok : WtOk ws
  bare : ps.length ≤ ws.length
  rl4 : rl ≤ 4
def SceneAt (C CS : Addr) (H : Hp) (s : Addr) (zs : List Str) (ds ss : List SS) (ps : List Pst) (ws : List Wtc) (mt : Bool) (rl W : Nat) : Prop := ScOk zs ds ss ps ws rl ∧ ∃ dx h p w o hd l m xs ys os ls ms, ScA C CS H s zs ds ss ps ws mt rl W dx h p w o hd l m xs ys os ls ms
theorem ScA.same {C CS : Addr} {H H' : Hp} {s : Addr} {zs : List Str} {ds ss : List SS} {ps : List Pst} {ws : List Wtc} {mt : Bool} {rl W : Nat} {dx h p w o hd l m : Addr} {xs ys os ls ms : List V} (a : ScA C CS H s zs ds ss ps ws mt rl W dx h p w o hd l m xs ys os ls ms) (e : Same H H') : ScA C CS H' s zs ds ss ps ws mt rl W dx h p w o hd l m xs ys os ls ms :=
  ⟨e _ _ a.obj, a.fh.same e, e _ _ a.fp, PsL.same a.fps e, e _ _ a.fw, WtL.same a.fws e, e _ _ a.fo, OrL.same a.fos e, a.fhd.same e, e _ _ a.fl, SsL.same a.fls e, e _ _ a.fm, MvL.same a.fms e, a.fwh⟩
theorem SceneAt.same {C CS : Addr} {H H' : Hp} {s : Addr} {zs : List Str} {ds ss : List SS} {ps : List Pst} {ws : List Wtc} {mt : Bool} {rl W : Nat} (a : SceneAt C CS H s zs ds ss ps ws mt rl W) (e : Same H H') : SceneAt C CS H' s zs ds ss ps ws mt rl W := by
  obtain ⟨h1, dx, h, p, w, o, hd, l, m, xs, ys, os, ls, ms, h2⟩ := a
  exact ⟨h1, dx, h, p, w, o, hd, l, m, xs, ys, os, ls, ms, h2.same e⟩
theorem ScOk.tr {zs : List Str} {ds ss : List SS} {ps : List Pst} {ws : List Wtc} {rl : Nat} (h : ScOk zs ds ss ps ws rl) : TrOk (ps.map (·.2)) := by
  refine ⟨by rw [List.length_map]; exact h.pok.five, fun p hp => ?_, fun p hp => ?_⟩
  · obtain ⟨q, hq, rfl⟩ := List.mem_map.mp hp
    exact (h.pok.rnd q hq).one
  · obtain ⟨q, hq, rfl⟩ := List.mem_map.mp hp
    exact (h.pok.rnd q hq).six
theorem ScOk.trIn {zs : List Str} {ds ss : List SS} {ps : List Pst} {ws : List Wtc} {rl : Nat} (h : ScOk zs ds ss ps ws rl) : ∀ t ∈ ps.map (·.2), ∀ r ∈ t.1, r ∈ zs := by
  intro t ht r hr
  obtain ⟨q, hq, rfl⟩ := List.mem_map.mp ht
  exact (h.pok.rnd q hq).mem r hr
theorem ScOk.trStr {zs : List Str} {ds ss : List SS} {ps : List Pst} {ws : List Wtc} {rl : Nat} (h : ScOk zs ds ss ps ws rl) : ∀ t ∈ ps.map (·.2), ∀ r ∈ t.1, PyData.strOk r = true := fun t ht r hr => nm_ok (h.names.2 r (h.trIn t ht r hr))
def spScInit (C CS : Addr) : Sp := fun vs H Q _ => ∃ (H0 : Hp) (s dx h p w : Addr) (zs : List Str) (ds ss : List SS) (xs ys : List V) (ps : List Pst) (ws : List Wtc) (mt : Bool) (rl : Nat), vs = [.ref s, .ref h, .ref p, .ref w, .bl mt, .int (rl : Nat)] ∧ Same H0 H ∧ H0 s = none ∧ H s = some (.ins CS dx []) ∧ HouseAt C H0 h zs (lnk zs (both ds)) (lnk zs ss) ∧ H0 p = some (.lst xs) ∧ PsL H0 xs ps ∧ H0 w = some (.lst ys) ∧ WtL H0 ys ws ∧ ScOk zs ds ss ps ws rl ∧
  ∀ (H' : Hp) (W : Nat), Same H0 H' → SceneAt C CS H' s zs ds ss ps ws mt rl W → Q .non H'
end Dk
namespace Dk
open PySem L2
/-! ### the law's rounds -/
def spLawHand : Sp := fun vs H Q _ => ∃ (t : Addr) (zs : List Str) (ds ss : List SS) (z : Str), vs = [.ref t, .str z] ∧ LHouse H t zs ds ss ∧ Good zs ds ss ∧ z ∈ zs ∧ ∀ (H' : Hp) (p : Addr), Same H H' → H p = none → H' p = some (.lst ((handN zs (lnk zs (both ds)) z).map V.str)) → Q (.ref p) H'
def spLawRound : Sp := fun vs H Q _ => ∃ (b l t : Addr) (m : Int) (zs : List Str) (ds ss : List SS), vs = [.ref b, .ref t, .int m] ∧ Box H b l ∧ LHouseN b H t zs ds ss ∧ Good zs ds ss ∧ 1 ≤ m ∧ m ≤ 6 ∧
  ∀ (H' : Hp) (p : Addr) (rs : List Str), Sav b H H' → Box H' b l → H p = none → H' p = some (.tup (rs.map V.str)) → Rnd zs (lnk zs (both ds)) rs → (rs.length : Int) ≤ m → Q (.ref p) H'
def adj (bh : Str → List Str) (x y : Str) : Prop := y ∈ bh x ∨ x = y
theorem adj_sym {zs : List Str} {ds : List SS} {x y : Str} (hx : x ∈ zs) (h : adj (lnk zs (both ds)) x y) : adj (lnk zs (both ds)) y x := by
  rcases h with h | h
  · exact .inl (lnk_mem.mpr ⟨hx, (both_iff ds y x).mpr ((both_iff ds x y).mp (lnk_mem.mp h).2).symm⟩)
  · exact .inr h.symm
theorem hand_iff {zs : List Str} {bh : Str → List Str} {x y : Str} : y ∈ handN zs bh x ↔ y ∈ zs ∧ adj bh x y := by
  unfold handN adj
  rw [List.mem_filter, Bool.or_eq_true, decide_eq_true_eq, decide_eq_true_eq]
/-- a walk through doors and stays -/
def Walk1 (zs : List Str) (bh : Str → List Str) (w : List Str) : Prop := (∀ r ∈ w, r ∈ zs) ∧ ∀ (i : Nat) (x y : Str), w[i]? = some x → w[i + 1]? = some y → adj bh x y
theorem Walk1.one {zs : List Str} {bh : Str → List Str} {x : Str} (h : x ∈ zs) : Walk1 zs bh [x] := ⟨fun r hr => by rw [List.mem_singleton.mp hr]; exact h, fun i a b _ h2 => by simp at h2⟩
theorem Walk1.snoc {zs : List Str} {bh : Str → List Str} {w : List Str} {x y : Str} (h : Walk1 zs bh w) (hl : w[w.length - 1]? = some x) (hy : y ∈ zs) (ha : adj bh x y) : Walk1 zs bh (w ++ [y]) := by
  have w0 : 0 < w.length := by
    have := (List.getElem?_eq_some_iff.mp hl).1
    omega
  refine ⟨fun r hr => ?_, fun i a b h1 h2 => ?_⟩
  · rcases List.mem_append.mp hr with z | z
    · exact h.1 r z
    · rw [List.mem_singleton.mp z]
      exact hy
  · have hb : i + 1 < (w ++ [y]).length := (List.getElem?_eq_some_iff.mp h2).1
    rw [List.length_append] at hb
    have hb' : i + 1 < w.length + 1 := hb
    rw [List.getElem?_append_left (by omega)] at h1
    by_cases hi : i + 1 < w.length
    · rw [List.getElem?_append_left hi] at h2
      exact h.2 i a b h1 h2
    · have e : i = w.length - 1 := by omega
      rw [List.getElem?_append_right (by omega), show i + 1 - w.length = 0 by omega] at h2
      have e2 : y = b := Option.some.inj h2
      rw [e, hl] at h1
      rw [← Option.some.inj h1, ← e2]
      exact ha
theorem Walk1.take {zs : List Str} {bh : Str → List Str} {w : List Str} (h : Walk1 zs bh w) (n : Nat) : Walk1 zs bh (w.take n) := by
  refine ⟨fun r hr => h.1 r (List.mem_of_mem_take hr), fun i a b h1 h2 => ?_⟩
  rw [List.getElem?_take] at h1 h2
  split at h1
  · split at h2
    · exact h.2 i a b h1 h2
    · cases h2
  · cases h1
theorem rnd_of {zs : List Str} {bh : Str → List Str} {rs : List Str} (h1 : 1 ≤ rs.length) (h6 : rs.length ≤ 6) (hm : ∀ r ∈ rs, r ∈ zs) (ha : ∀ i x y, rs[i]? = some x → rs[(i + 1) % rs.length]? = some y → adj bh x y) : Rnd zs bh rs := by
  refine ⟨h1, h6, hm, fun i r hr => ?_⟩
  have e : rs[(i + 1) % rs.length]? = some (nxt rs i) := by
    unfold nxt
    rw [List.getD_eq_getElem?_getD, List.getElem?_eq_getElem (Nat.mod_lt _ h1)]
    rfl
  exact ha i r _ hr e
/-- a walk that can be closed is a round -/
theorem walk_rnd {zs : List Str} {bh : Str → List Str} {w : List Str} (h : Walk1 zs bh w) (h1 : 1 ≤ w.length) (h6 : w.length ≤ 6) {x y : Str} (hl : w[w.length - 1]? = some x) (h0 : w[0]? = some y) (hc : adj bh x y) : Rnd zs bh w := by
  refine rnd_of h1 h6 h.1 fun i a b ea eb => ?_
  have hi : i < w.length := (List.getElem?_eq_some_iff.mp ea).1
  by_cases z : i + 1 < w.length
  · rw [Nat.mod_eq_of_lt z] at eb
    exact h.2 i a b ea eb
  · have e : i + 1 = w.length := by omega
    rw [e, Nat.mod_self] at eb
    have e2 : i = w.length - 1 := by omega
    rw [e2, hl] at ea
    rw [h0] at eb
    rw [← Option.some.inj ea, ← Option.some.inj eb]
    exact hc
def bnc (w : List Str) : List Str := w ++ ((w.drop 1).take (w.length - 2)).reverse
theorem bnc_len {w : List Str} (h : 2 ≤ w.length) : (bnc w).length = 2 * w.length - 2 := by
  unfold bnc
  rw [List.length_append, List.length_reverse, List.length_take, List.length_drop]
  omega
theorem bnc_at {w : List Str} (h : 2 ≤ w.length) {i : Nat} (hi : i < 2 * w.length - 2) : (bnc w)[i]? = w[if i < w.length then i else 2 * w.length - 2 - i]? := by
  unfold bnc
  by_cases z : i < w.length
  · rw [if_pos z, List.getElem?_append_left z]
  · have ll : ((w.drop 1).take (w.length - 2)).length = w.length - 2 := by
      rw [List.length_take, List.length_drop]
      omega
    rw [if_neg z, List.getElem?_append_right (by omega), List.getElem?_reverse (by rw [ll]; omega), ll, List.getElem?_take_of_lt (by omega), List.getElem?_drop]
    congr 1
    omega
theorem bnc_rnd {zs : List Str} {ds : List SS} {w : List Str} (h : Walk1 zs (lnk zs (both ds)) w) (h2 : 2 ≤ w.length) (h6 : w.length ≤ 4) : Rnd zs (lnk zs (both ds)) (bnc w) := by
  have ln := bnc_len h2
  refine rnd_of (by omega) (by omega) (fun r hr => ?_) fun i a b ea eb => ?_
  · unfold bnc at hr
    rcases List.mem_append.mp hr with z | z
    · exact h.1 r z
    · exact h.1 r (List.mem_of_mem_drop (List.mem_of_mem_take (List.mem_reverse.mp z)))
  · have hi : i < 2 * w.length - 2 := by
      rw [← ln]
      exact (List.getElem?_eq_some_iff.mp ea).1
    rw [ln] at eb
    have hj : (i + 1) % (2 * w.length - 2) < 2 * w.length - 2 := Nat.mod_lt _ (by omega)
    have ej : (i + 1) % (2 * w.length - 2) = if i + 1 = 2 * w.length - 2 then 0 else i + 1 := by
      split
      · rename_i z
        rw [z, Nat.mod_self]
      · exact Nat.mod_eq_of_lt (by omega)
    rw [bnc_at h2 hi] at ea
    rw [bnc_at h2 hj] at eb
    generalize hp : (if i < w.length then i else 2 * w.length - 2 - i) = p at ea
    generalize hq : (if (i + 1) % (2 * w.length - 2) < w.length then (i + 1) % (2 * w.length - 2) else 2 * w.length - 2 - (i + 1) % (2 * w.length - 2)) = q at eb
    rw [ej] at hq
    have key : q = p + 1 ∨ p = q + 1 := by
      split at hp <;> split at hq <;> split at hq <;> omega
    rcases key with z | z
    · rw [z] at eb
      exact h.2 p a b ea eb
    · rw [z] at ea
      exact adj_sym (h.1 b (List.mem_of_getElem? eb)) (h.2 q b a eb ea)
theorem cut_mid {xs : List V} (h : 2 ≤ xs.length) : cutV xs (some 1) (some (-1)) = (xs.drop 1).take (xs.length - 2) := by
  unfold cutV
  have e1 : HT.sIx xs.length 0 (some 1) = 1 := by
    rw [show HT.sIx xs.length 0 (some 1) = min 1 xs.length from HT.sIx_nat _ 0 1]
    omega
  have e2 : HT.sIx xs.length xs.length (some (-1)) = xs.length - 1 := by
    unfold HT.sIx
    simp
    try omega
  rw [e1, e2]
  congr 1
theorem at_last {xs : List V} {x : V} (h : xs[xs.length - 1]? = some x) : atI xs (-1) = some x := by
  have hl := (List.getElem?_eq_some_iff.mp h).1
  unfold atI ixN
  rw [if_neg (by decide), if_pos (by omega)]
  show xs[((-1 : Int) + (xs.length : Nat)).toNat]? = some x
  rw [show ((-1 : Int) + (xs.length : Nat)).toNat = xs.length - 1 by omega]
  exact h
/-! ### the law's own scene -/
def mkv (t f lm : Addr) (mt : Bool) (rl : Nat) : List (Key × V) := [(.inr "house", .ref t), (.inr "posts", .ref f), (.inr "lamps", .ref lm), (.inr "meet", .bl mt), (.inr "relief", .int (rl : Nat))]
structure MA (b : Addr) (H : Hp) (m t f lm : Addr) (zs : List Str) (ds ss : List SS) (xs ys : List V) (ps : List Pst) (ws : List Wtc) (mt : Bool) (rl : Nat) : Prop where
  md : H m = some (.dK (mkv t f lm mt rl))
  nm : m ≠ b
  nf : f ≠ b
  nl : lm ≠ b
  lh : LHouseN b H t zs ds ss
  fp : H f = some (.lst xs)
  fps : PsL H xs ps
  fl : H lm = some (.lst ys)
  fls : WtL H ys ws
  good : Good zs ds ss
  ok : ScOk zs ds ss ps ws rl
theorem MA.sav {b l : Addr} {H H' : Hp} {m t f lm : Addr} {zs : List Str} {ds ss : List SS} {xs ys : List V} {ps : List Pst} {ws : List Wtc} {mt : Bool} {rl : Nat} (a : MA b H m t f lm zs ds ss xs ys ps ws mt rl) (hB : Box H b l) (v : Sav b H H') : MA b H' m t f lm zs ds ss xs ys ps ws mt rl :=
  ⟨v _ _ a.nm a.md, a.nm, a.nf, a.nl, a.lh.sav hB v, v _ _ a.nf a.fp, PsL.keep a.fps (v.keepT hB), v _ _ a.nl a.fl, WtL.keep a.fls (v.keepT hB), a.good, a.ok⟩
theorem LHouseN.same {b : Addr} {H H' : Hp} {t : Addr} {zs : List Str} {ds ss : List SS} (h : LHouseN b H t zs ds ss) (e : Same H H') : LHouseN b H' t zs ds ss := by
  obtain ⟨r, d, s, xs, us, n1, n2, n3, h1, h2, h3, h4, h5, h6⟩ := h
  exact ⟨r, d, s, xs, us, n1, n2, n3, e _ _ h1, e _ _ h2, e _ _ h3, h4.same e, e _ _ h5, h6.same e⟩
theorem MA.same {b : Addr} {H H' : Hp} {m t f lm : Addr} {zs : List Str} {ds ss : List SS} {xs ys : List V} {ps : List Pst} {ws : List Wtc} {mt : Bool} {rl : Nat} (a : MA b H m t f lm zs ds ss xs ys ps ws mt rl) (e : Same H H') : MA b H' m t f lm zs ds ss xs ys ps ws mt rl :=
  ⟨e _ _ a.md, a.nm, a.nf, a.nl, a.lh.same e, e _ _ a.fp, PsL.same a.fps e, e _ _ a.fl, WtL.same a.fls e, a.good, a.ok⟩
def spLawScene : Sp := fun vs H Q _ => ∃ (b l : Addr) (r p s : Int), vs = [.ref b, .int r, .int p, .int s] ∧ Box H b l ∧ 1 ≤ r ∧ r ≤ 8 ∧ 0 ≤ p ∧ p ≤ 5 ∧ 1 ≤ s ∧ s ≤ 6 ∧
  ∀ (H' : Hp) (m t f lm : Addr) (zs : List Str) (ds ss : List SS) (xs ys : List V) (ps : List Pst) (ws : List Wtc) (mt : Bool) (rl : Nat), Sav b H H' → Box H' b l → H m = none → MA b H' m t f lm zs ds ss xs ys ps ws mt rl → (zs.length : Int) ≤ r → (ps.length : Int) ≤ p → (∀ q ∈ ps, (q.2.1.length : Int) ≤ s) → Q (.ref m) H'
def spLawBuilt (C CS : Addr) : Sp := fun vs H Q _ => ∃ (b m t f lm : Addr) (zs : List Str) (ds ss : List SS) (xs ys : List V) (ps : List Pst) (ws : List Wtc) (mt : Bool) (rl : Nat), vs = [.ref m] ∧ MA b H m t f lm zs ds ss xs ys ps ws mt rl ∧ ∀ (H' : Hp) (sc : Addr) (W : Nat), Same H H' → H sc = none → SceneAt C CS H' sc zs ds ss ps ws mt rl W → Q (.ref sc) H'
theorem Good.fit {zs : List Str} {ds ss : List SS} (g : Good zs ds ss) : Fit zs ds ss := ⟨g.names, g.eight, g.dg, g.sg, by have := g.dl; omega, by have := g.sl; omega, g.sn⟩
theorem Names.take {zs : List Str} (h : Names zs) (n : Nat) : Names (zs.take n) := ⟨h.1.sublist (List.take_sublist n zs), fun z hz => h.2 z (List.mem_of_mem_take hz)⟩
/-- all but two, and all tuples -/
structure Sv2 (b q : Addr) (A B : Hp) : Prop where
  tup : KeepT A B
  old : ∀ x o, x ≠ b → x ≠ q → A x = some o → B x = some o
theorem Sv2.sav {b l q : Addr} {A B : Hp} (v : Sav b A B) (hB : Box A b l) : Sv2 b q A B := ⟨v.keepT hB, fun x o n _ h => v x o n h⟩
theorem Sv2.of {b q : Addr} {A B : Hp} (e : Same A B) : Sv2 b q A B := ⟨KeepT.of e, fun x o _ _ h => e x o h⟩
theorem Sv2.trans {b q : Addr} {A B C : Hp} (x : Sv2 b q A B) (y : Sv2 b q B C) : Sv2 b q A C := ⟨x.tup.trans y.tup, fun z o n1 n2 h => y.old z o n1 n2 (x.old z o n1 n2 h)⟩
theorem Sv2.put {b q : Addr} {A : Hp} {xs : List V} {o : HO} (h : A q = some (.lst xs)) : Sv2 b q A (upd A q o) := ⟨KeepT.lst h, fun x u _ n e => by rw [upd_ne n]; exact e⟩
/-- a law's house whose lists are none of two -/
structure LH2 (b q : Addr) (H : Hp) (t r d s : Addr) (zs : List Str) (ds ss : List SS) (xs us : List V) : Prop where
  rb : r ≠ b
  db : d ≠ b
  sb : s ≠ b
  rq : r ≠ q
  dq : d ≠ q
  sq : s ≠ q
  h1 : H t = some (.tup [.ref r, .ref d, .ref s])
  h2 : H r = some (.lst (zs.map V.str))
  h3 : H d = some (.lst xs)
  h4 : PL H xs ds
  h5 : H s = some (.lst us)
  h6 : PL H us ss
theorem LH2.mv {b q : Addr} {H H' : Hp} {t r d s : Addr} {zs : List Str} {ds ss : List SS} {xs us : List V} (a : LH2 b q H t r d s zs ds ss xs us) (v : Sv2 b q H H') : LH2 b q H' t r d s zs ds ss xs us :=
  ⟨a.rb, a.db, a.sb, a.rq, a.dq, a.sq, v.tup _ _ a.h1, v.old _ _ a.rb a.rq a.h2, v.old _ _ a.db a.dq a.h3, a.h4.keep v.tup, v.old _ _ a.sb a.sq a.h5, a.h6.keep v.tup⟩
theorem LH2.lh {b q : Addr} {H : Hp} {t r d s : Addr} {zs : List Str} {ds ss : List SS} {xs us : List V} (a : LH2 b q H t r d s zs ds ss xs us) : LHouseN b H t zs ds ss := ⟨r, d, s, xs, us, a.rb, a.db, a.sb, a.h1, a.h2, a.h3, a.h4, a.h5, a.h6⟩
theorem Names.eq {zs ws : List Str} (e : ws = zs) (h : Names zs) : Names ws := by rw [e]; exact h
theorem key_no {f : Str} {ks : List Str} (h : f ∉ ks) : (Sum.inr f : Key) ∉ ks.map (fun z => (Sum.inr z : Key)) := fun m => by
  obtain ⟨z, hz, e⟩ := List.mem_map.mp m
  exact h (by rw [← Sum.inr.inj e]; exact hz)
theorem putK_str {kvs : List (Key × V)} {f : Str} {v : V} (ks : List Str) (e : kvs.map (·.1) = ks.map (fun z => (Sum.inr z : Key))) (h : f ∉ ks) : putK kvs (Sum.inr f : Key) v = kvs ++ [((Sum.inr f : Key), v)] := by
  unfold putK
  rw [if_neg]
  intro z
  obtain ⟨p, hp, hq⟩ := List.any_eq_true.mp z
  apply key_no h
  rw [← e, ← of_decide_eq_true hq]
  exact List.mem_map.mpr ⟨p, hp, rfl⟩
theorem valK_in {k : Key} {v : V} : ∀ {kvs : List (Key × V)} (i : Nat) (ks : List Key), (kvs.take i).map (·.1) = ks → k ∉ ks → kvs[i]? = some (k, v) → valV kvs k = some v
  | [], _, _, _, _, h => by simp at h
  | (g, u) :: r, 0, _, _, _, h => by
    have e := Option.some.inj h
    rw [(Prod.mk.inj e).1, (Prod.mk.inj e).2]
    exact valV_pos (p := (k, v)) rfl
  | (g, u) :: r, i + 1, _, e, n, h => by
    subst e
    have h1 : ¬ g = k := fun z => n (by rw [← z]; exact List.mem_cons_self)
    rw [valV_neg (p := (g, u)) h1]
    exact valK_in i _ rfl (fun z => n (List.mem_cons_of_mem _ z)) h
theorem valK_at {f : Str} {v : V} {kvs : List (Key × V)} (i : Nat) (ks : List Str) (e : (kvs.take i).map (·.1) = ks.map (fun z => (Sum.inr z : Key))) (h : f ∉ ks) (g : kvs[i]? = some ((Sum.inr f : Key), v)) : valV kvs (Sum.inr f : Key) = some v := valK_in i _ e (key_no h) g
end Dk
namespace Dk
open PySem L2
/-! ### the fields of a scene -/
section
variable {h p w o hd l m : Addr} {mt : Bool} {rl sp : Nat}
theorem sfl_home : (sf h p w o hd l m mt rl sp).lookup ("home" : Str) = some (.ref h) := lk_at 0 [] rfl (by simp) rfl
theorem sfl_post_rows : (sf h p w o hd l m mt rl sp).lookup ("post_rows" : Str) = some (.ref p) := lk_at 1 ["home"] rfl (by decide +kernel) rfl
theorem sfl_watcher_rows : (sf h p w o hd l m mt rl sp).lookup ("watcher_rows" : Str) = some (.ref w) := lk_at 2 ["home", "post_rows"] rfl (by decide +kernel) rfl
theorem sfl_has_meet : (sf h p w o hd l m mt rl sp).lookup ("has_meet" : Str) = some (.bl mt) := lk_at 3 ["home", "post_rows", "watcher_rows"] rfl (by decide +kernel) rfl
theorem sfl_relief_beats : (sf h p w o hd l m mt rl sp).lookup ("relief_beats" : Str) = some (.int (rl : Nat)) := lk_at 4 ["home", "post_rows", "watcher_rows", "has_meet"] rfl (by decide +kernel) rfl
theorem sfl_span_beats : (sf h p w o hd l m mt rl sp).lookup ("span_beats" : Str) = some (.int (sp : Nat)) := lk_at 5 ["home", "post_rows", "watcher_rows", "has_meet", "relief_beats"] rfl (by decide +kernel) rfl
theorem sfl_orders : (sf h p w o hd l m mt rl sp).lookup ("orders" : Str) = some (.ref o) := lk_at 6 ["home", "post_rows", "watcher_rows", "has_meet", "relief_beats", "span_beats"] rfl (by decide +kernel) rfl
theorem sfl_hands : (sf h p w o hd l m mt rl sp).lookup ("hands" : Str) = some (.ref hd) := lk_at 7 ["home", "post_rows", "watcher_rows", "has_meet", "relief_beats", "span_beats", "orders"] rfl (by decide +kernel) rfl
theorem sfl_lights : (sf h p w o hd l m mt rl sp).lookup ("lights" : Str) = some (.ref l) := lk_at 8 ["home", "post_rows", "watcher_rows", "has_meet", "relief_beats", "span_beats", "orders", "hands"] rfl (by decide +kernel) rfl
theorem sfl_moves : (sf h p w o hd l m mt rl sp).lookup ("moves" : Str) = some (.ref m) := lk_at 9 ["home", "post_rows", "watcher_rows", "has_meet", "relief_beats", "span_beats", "orders", "hands", "lights"] rfl (by decide +kernel) rfl
theorem sf_no {f : Str} (n : f ∉ (["home", "post_rows", "watcher_rows", "has_meet", "relief_beats", "span_beats", "orders", "hands", "lights", "moves"] : List Str)) : (sf h p w o hd l m mt rl sp).lookup f = none := lk_none _ rfl n
end
structure STxt (K : PySem.W.Frag) (CS : Addr) : Prop where
  cl : Cls K CS
  n_home : NoAttr K CS "home"
  n_post_rows : NoAttr K CS "post_rows"
  n_watcher_rows : NoAttr K CS "watcher_rows"
  n_has_meet : NoAttr K CS "has_meet"
  n_relief_beats : NoAttr K CS "relief_beats"
  n_span_beats : NoAttr K CS "span_beats"
  n_orders : NoAttr K CS "orders"
  n_hands : NoAttr K CS "hands"
  n_lights : NoAttr K CS "lights"
  n_moves : NoAttr K CS "moves"
/-! ### what a scene tells -/
def Sc (C CS : Addr) (H : Hp) (s : Addr) (zs : List Str) (ds ss : List SS) (ps : List Pst) (ws : List Wtc) (mt : Bool) (rl W : Nat) : Prop := SceneAt C CS H s zs ds ss ps ws mt rl W
def beatOk (b : Int) : Prop := -1000000000 ≤ b ∧ b ≤ 1000000000
def spIsBeat : Sp := fun vs H Q _ => ∃ b : Int, vs = [.int b] ∧ beatOk b ∧ Q (.bl true) H
def spNeedBeat : Sp := fun vs H Q _ => ∃ b : Int, vs = [.int b] ∧ beatOk b ∧ Q .non H
def spPostNo (C CS : Addr) : Sp := fun vs H Q _ => ∃ (s : Addr) (zs : List Str) (ds ss : List SS) (ps : List Pst) (ws : List Wtc) (mt : Bool) (rl W i : Nat) (q : Pst), vs = [.ref s, .str q.1] ∧ SceneAt C CS H s zs ds ss ps ws mt rl W ∧ ps[i]? = some q ∧ ∀ H', Same H H' → Q (.int (i : Nat)) H'
def spRoomsOf (C CS : Addr) : Sp := fun vs H Q _ => ∃ (s : Addr) (zs : List Str) (ds ss : List SS) (ps : List Pst) (ws : List Wtc) (mt : Bool) (rl W i : Nat) (q : Pst), vs = [.ref s, .str q.1] ∧ SceneAt C CS H s zs ds ss ps ws mt rl W ∧ ps[i]? = some q ∧ ∀ (H' : Hp) (t : Addr), Same H H' → H' t = some (.tup (q.2.1.map V.str)) → Q (.ref t) H'
def spDelayOf (C CS : Addr) : Sp := fun vs H Q _ => ∃ (s : Addr) (zs : List Str) (ds ss : List SS) (ps : List Pst) (ws : List Wtc) (mt : Bool) (rl W i : Nat) (q : Pst), vs = [.ref s, .str q.1] ∧ SceneAt C CS H s zs ds ss ps ws mt rl W ∧ ps[i]? = some q ∧ ∀ H', Same H H' → Q (.int (q.2.2 : Nat)) H'
def spWhere (C CS : Addr) : Sp := fun vs H Q _ => ∃ (s : Addr) (zs : List Str) (ds ss : List SS) (ps : List Pst) (ws : List Wtc) (mt : Bool) (rl W i : Nat) (q : Pst) (b : Int), vs = [.ref s, .str q.1, .int b] ∧ SceneAt C CS H s zs ds ss ps ws mt rl W ∧ ps[i]? = some q ∧ beatOk b ∧ ∀ H', Same H H' → Q (.str (plcS q.2.1 (b - ((q.2.2 : Nat) : Int)))) H'
def spLawRoomAt : Sp := fun vs H Q _ => ∃ (v : V) (q : Pst) (b : Int), vs = [v, .int b] ∧ PsA H v q ∧ 0 < q.2.1.length ∧ Q (.str (plcS q.2.1 (b - ((q.2.2 : Nat) : Int)))) H
theorem plcS_at {r : List Str} (h : 0 < r.length) (n : Int) : atI (r.map V.str) (n % ((r.map V.str).length : Nat)) = some (.str (plcS r n)) := by
  rw [← plc_str h]
  exact plc_at (by rw [List.length_map]; exact h) n
theorem Lk.same2 {n : Nat} {H : Hp} {a b : Addr} {zs : List Str} (ha : H a = some (.lst (zs.map V.str))) (hb : H b = some (.lst (zs.map V.str))) (hl : zs.length ≤ 1000) : Lk (n + 2) H (.ref a) (.ref b) := Lk.strs ha hb hl
end Dk
namespace Dk
open PySem L2
/-! ### a scene stays while the box is drawn from -/
section
variable {b l : Addr} {H H' : Hp}
theorem Box.str {q : Addr} {zs : List Str} (hB : Box H b l) (h : H q = some (.lst (zs.map V.str))) : q ≠ b := fun z => by
  obtain ⟨ns, i, c, s, t, h1, _⟩ := hB
  rw [z, h1] at h
  cases zs with
  | nil => cases HO.lst.inj (Option.some.inj h)
  | cons x r => cases (List.cons.inj (HO.lst.inj (Option.some.inj h))).1
theorem Box.nat {q : Addr} {os : List Nat} (hB : Box H b l) (h : H q = some (.lst (os.map natV))) : q ≠ b := fun z => by
  obtain ⟨ns, i, c, s, t, h1, _⟩ := hB
  rw [z, h1] at h
  cases os with
  | nil => cases HO.lst.inj (Option.some.inj h)
  | cons x r => cases (List.cons.inj (HO.lst.inj (Option.some.inj h))).1
theorem Box.refs {α : Type} {R : Hp → V → α → Prop} {q : Addr} {xs : List V} {ps : List α} (hB : Box H b l) (h : H q = some (.lst xs)) (a : AL R H xs ps) (m : ∀ x p, R H x p → ∃ r, x = V.ref r) : q ≠ b := fun z => by
  obtain ⟨ns, i, c, s, t, h1, _⟩ := hB
  rw [z, h1] at h
  have e : bxv l i c s t = xs := HO.lst.inj (Option.some.inj h)
  have e1 : xs[1]? = some (.int i) := by rw [← e]; rfl
  obtain ⟨p, _, hp⟩ := a.at e1
  obtain ⟨r, hr⟩ := m _ _ hp
  cases hr
theorem Box.ndk {q : Addr} {m : List (Key × V)} (hB : Box H b l) (h : H q = some (.dK m)) : q ≠ b := fun z => by
  obtain ⟨ns, i, c, s, t, h1, _⟩ := hB
  rw [z, h1] at h
  cases h
theorem Box.nins {q C dx : Addr} {fs : List (Str × V)} (hB : Box H b l) (h : H q = some (.ins C dx fs)) : q ≠ b := fun z => by
  obtain ⟨ns, i, c, s, t, h1, _⟩ := hB
  rw [z, h1] at h
  cases h
theorem LinkAt.sav {d : Addr} {zs : List Str} {f : Str → List Str} (a : LinkAt H d zs f) (hB : Box H b l) (v : Sav b H H') : LinkAt H' d zs f := by
  obtain ⟨as, h1, h2, h3⟩ := a
  exact ⟨as, h1, v _ _ (hB.ndk h2) h2, fun i z p x y => v _ _ (hB.str (h3 i z p x y)) (h3 i z p x y)⟩
theorem HouseAt.sav {C h : Addr} {zs : List Str} {bh vw : Str → List Str} (a : HouseAt C H h zs bh vw) (hB : Box H b l) (v : Sav b H H') : HouseAt C H' h zs bh vw := by
  obtain ⟨dx, n, bx, vx, h1, h2, h3, h4, h5⟩ := a
  exact ⟨dx, n, bx, vx, v _ _ (hB.nins h1) h1, v _ _ (hB.str h2) h2, h3.sav hB v, h4.sav hB v, h5⟩
theorem OrL.sav {xs : List V} {ps : List (List Nat)} (h : OrL H xs ps) (hB : Box H b l) (v : Sav b H H') : OrL H' xs ps := AL.mono h fun x p ⟨q, e, z⟩ => ⟨q, e, v _ _ (hB.nat z) z⟩
theorem SsL.sav {xs : List V} {ps : List (List Str)} (h : SsL H xs ps) (hB : Box H b l) (v : Sav b H H') : SsL H' xs ps := AL.mono h fun x p ⟨q, e, z⟩ => ⟨q, e, v _ _ (hB.str z) z⟩
theorem PL.refs {xs : List V} {ps : List SS} (h : PL H xs ps) : AL Pr H xs ps := h
theorem MvL.sav {xs : List V} {ps : List (List SS)} (h : MvL H xs ps) (hB : Box H b l) (v : Sav b H H') : MvL H' xs ps := AL.mono h fun x p ⟨q, ys, e, z, y⟩ => ⟨q, ys, e, v _ _ (hB.refs z (PL.refs y) fun _ _ ⟨r, e, _⟩ => ⟨r, e⟩) z, y.keep (v.keepT hB)⟩
theorem ScA.sav {C CS : Addr} {s : Addr} {zs : List Str} {ds ss : List SS} {ps : List Pst} {ws : List Wtc} {mt : Bool} {rl W : Nat} {dx h p w o hd lg m : Addr} {xs ys os ls ms : List V} (a : ScA C CS H s zs ds ss ps ws mt rl W dx h p w o hd lg m xs ys os ls ms) (hB : Box H b l) (v : Sav b H H') : ScA C CS H' s zs ds ss ps ws mt rl W dx h p w o hd lg m xs ys os ls ms :=
  ⟨v _ _ (hB.nins a.obj) a.obj, a.fh.sav hB v, v _ _ (hB.refs a.fp a.fps fun _ _ ⟨q, t, e, _⟩ => ⟨q, e⟩) a.fp, PsL.keep a.fps (v.keepT hB), v _ _ (hB.refs a.fw a.fws fun _ _ ⟨q, e, _⟩ => ⟨q, e⟩) a.fw, WtL.keep a.fws (v.keepT hB), v _ _ (hB.refs a.fo a.fos fun _ _ ⟨q, e, _⟩ => ⟨q, e⟩) a.fo, OrL.sav a.fos hB v, a.fhd.sav hB v, v _ _ (hB.refs a.fl a.fls fun _ _ ⟨q, e, _⟩ => ⟨q, e⟩) a.fl, SsL.sav a.fls hB v, v _ _ (hB.refs a.fm a.fms fun _ _ ⟨q, _, e, _⟩ => ⟨q, e⟩) a.fm, MvL.sav a.fms hB v, a.fwh⟩
theorem SceneAt.sav {C CS : Addr} {s : Addr} {zs : List Str} {ds ss : List SS} {ps : List Pst} {ws : List Wtc} {mt : Bool} {rl W : Nat} (a : SceneAt C CS H s zs ds ss ps ws mt rl W) (hB : Box H b l) (v : Sav b H H') : SceneAt C CS H' s zs ds ss ps ws mt rl W := by
  obtain ⟨h1, dx, h, p, w, o, hd, lg, m, xs, ys, os, ls, ms, h2⟩ := a
  exact ⟨h1, dx, h, p, w, o, hd, lg, m, xs, ys, os, ls, ms, h2.sav hB v⟩
end
theorem int_at {bs : List Int} {i : Nat} {x : V} (e : (bs.map V.int)[i]? = some x) : ∃ k, bs[i]? = some k ∧ x = V.int k := by
  rw [List.getElem?_map] at e
  cases h : bs[i]? with
  | none =>
    rw [h] at e
    cases e
  | some k =>
    rw [h] at e
    exact ⟨k, rfl, (Option.some.inj e).symm⟩
theorem MA.posts {b : Addr} {H H' : Hp} {m t f lm : Addr} {zs : List Str} {ds ss : List SS} {xs ys : List V} {ps : List Pst} {ws : List Wtc} {mt : Bool} {rl : Nat} (a : MA b H m t f lm zs ds ss xs ys ps ws mt rl) (e : Same H H') : DGet H' m (.str "posts") (some (.ref f)) := by
  have h : valV (mkv t f lm mt rl) (Sum.inr "posts" : Key) = some (.ref f) := valK_at 1 ["house"] rfl (by decide +kernel) rfl
  rw [← h]
  exact DGet.k (k := (Sum.inr "posts" : Key)) (e _ _ a.md)
theorem MA.lamps {b : Addr} {H H' : Hp} {m t f lm : Addr} {zs : List Str} {ds ss : List SS} {xs ys : List V} {ps : List Pst} {ws : List Wtc} {mt : Bool} {rl : Nat} (a : MA b H m t f lm zs ds ss xs ys ps ws mt rl) (e : Same H H') : DGet H' m (.str "lamps") (some (.ref lm)) := by
  have h : valV (mkv t f lm mt rl) (Sum.inr "lamps" : Key) = some (.ref lm) := valK_at 2 ["house", "posts"] rfl (by decide +kernel) rfl
  rw [← h]
  exact DGet.k (k := (Sum.inr "lamps" : Key)) (e _ _ a.md)
end Dk
namespace Dk
open PySem L2
/-! ### each watcher stands at one place -/
def Inj (o : List Nat) : Prop := ∀ (i j x : Nat), o[i]? = some x → o[j]? = some x → i = j
theorem Inj.nodup {o : List Nat} (h : Inj o) : o.Nodup := by
  refine List.pairwise_iff_getElem.mpr fun i j hi hj hij e => ?_
  have := h i j o[i] (List.getElem?_eq_getElem hi) (by rw [List.getElem?_eq_getElem hj, e])
  omega
theorem inj_range (n : Nat) : Inj (List.range n) := fun i j x h1 h2 => by
  have a := (List.getElem?_eq_some_iff.mp h1)
  have b := (List.getElem?_eq_some_iff.mp h2)
  obtain ⟨_, e1⟩ := a
  obtain ⟨_, e2⟩ := b
  rw [List.getElem_range] at e1 e2
  omega
theorem inj_map {o u : List Nat} {f : Nat → Nat} (h : Inj o) (hu : ∀ k x, u[k]? = some x → o[f k]? = some x) (hf : ∀ i j, i < u.length → j < u.length → f i = f j → i = j) : Inj u := fun i j x h1 h2 =>
  hf i j (List.getElem?_eq_some_iff.mp h1).1 (List.getElem?_eq_some_iff.mp h2).1 (h _ _ x (hu i x h1) (hu j x h2))
theorem inj_sw {o : List Nat} {i j : Nat} (h : Inj o) (hi : i < o.length) (hj : j < o.length) : Inj (swN o i j) := by
  refine inj_map (f := fun k => if k = j then i else if k = i then j else k) h (fun k x e => ?_) (fun a b _ _ e => ?_)
  · rw [swN_at hi hj] at e
    show o[if k = j then i else if k = i then j else k]? = some x
    split
    · rename_i z
      rw [if_pos z] at e
      exact e
    · rename_i z
      rw [if_neg z] at e
      split
      · rename_i y
        rw [if_pos y] at e
        exact e
      · rename_i y
        rw [if_neg y] at e
        exact e
  · split at e <;> split at e <;> (try split at e) <;> (try split at e) <;> omega
theorem inj_hoIn {rs : List Str} {f : Nat} {o : List Nat} (h : Inj o) : ∀ {k}, f + k < o.length → Inj (hoIn rs f k o)
  | 0, _ => h
  | k + 1, hk => by
    unfold hoIn
    split
    · exact inj_sw (inj_hoIn h (by omega)) (by rw [hoIn_len]; omega) (by rw [hoIn_len]; omega)
    · exact inj_hoIn h (by omega)
theorem inj_hoUp {rs : List Str} {o : List Nat} (h : Inj o) (hr : rs.length ≤ o.length) : ∀ {f}, f ≤ rs.length → Inj (hoUp rs f o)
  | 0, _ => h
  | f + 1, hf => by
    unfold hoUp
    exact inj_hoIn (inj_hoUp h hr (by omega)) (by rw [hoUp_len]; omega)
theorem relN_at {n p : Nat} {o : List Nat} (hn : n < o.length) (hp : p < n) {k : Nat} (hk : k < o.length) : (relN n p o)[k]? = o[if k = p then n else if k < n then k else if k + 1 < o.length then k + 1 else p]? := by
  have l1 : ((o.take n).set p (o.getD n 0)).length = n := by
    rw [List.length_set, List.length_take]
    omega
  have l2 : (o.drop (n + 1)).length = o.length - (n + 1) := List.length_drop ..
  unfold relN
  by_cases k1 : k < n
  · rw [List.getElem?_append_left (by rw [List.length_append, l1]; omega), List.getElem?_append_left (by rw [l1]; exact k1)]
    by_cases k2 : k = p
    · subst k2
      rw [if_pos rfl, List.getElem?_set_self (by rw [List.length_take]; omega), getD_at hn]
    · rw [if_neg k2, if_pos k1, List.getElem?_set_ne (fun z => k2 z.symm), List.getElem?_take_of_lt k1]
  · rw [if_neg (by omega), if_neg k1]
    by_cases k3 : k + 1 < o.length
    · rw [if_pos k3, List.getElem?_append_left (by rw [List.length_append, l1, l2]; omega), List.getElem?_append_right (by rw [l1]; omega), l1, List.getElem?_drop]
      congr 1
      omega
    · have ez : k - ((o.take n).set p (o.getD n 0) ++ o.drop (n + 1)).length = 0 := by
        rw [List.length_append, l1, l2]
        omega
      rw [if_neg k3, List.getElem?_append_right (by rw [List.length_append, l1, l2]; omega), ez, getD_at (o := o) (i := p) (by omega)]
      rfl
theorem inj_rel {n p : Nat} {o : List Nat} (h : Inj o) (hn : n < o.length) (hp : p < n) : Inj (relN n p o) := by
  refine inj_map (f := fun k => if k = p then n else if k < n then k else if k + 1 < o.length then k + 1 else p) h (fun k x e => ?_) (fun a b ha hb e => ?_)
  · have hk : k < o.length := by
      rw [← relN_len (p := p) hn]
      exact (List.getElem?_eq_some_iff.mp e).1
    rw [relN_at hn hp hk] at e
    exact e
  · rw [relN_len hn] at ha hb
    split at e <;> (try split at e) <;> (try split at e) <;> (try split at e) <;> (try split at e) <;> (try split at e) <;> omega
theorem inj_chg {tr : List Trk} {mt : Bool} {rl b : Nat} {o : List Nat} (h : Inj o) (ht : tr.length ≤ o.length) : Inj (chgN tr mt rl b o) := by
  have one : Inj (if mt = true then hoN (stnd tr b) o else o) := by
    split
    · exact inj_hoUp h (by rw [stnd_len]; exact ht) (Nat.le_refl _)
    · exact h
  unfold chgN
  split
  · rename_i hr
    have h2 := hr.1.2.1
    exact inj_rel one (by rw [ho1_len]; exact hr.1.2.2) (Nat.mod_lt _ h2)
  · exact one
theorem inj_ord {tr : List Trk} {many : Nat} {mt : Bool} {rl : Nat} (ht : tr.length ≤ many) : ∀ b, Inj (ordN tr many mt rl b)
  | 0 => inj_range many
  | b + 1 => inj_chg (inj_ord ht b) (by rw [(ordN_ok ht b).1]; exact ht)
theorem all_in {many : Nat} {o : List Nat} (h : OkO many o) (i : Inj o) {k : Nat} (hk : k < many) : k ∈ o := by
  apply Classical.byContradiction
  intro no
  have := nodup_le (U := (List.range many).erase k) i.nodup fun x hx => (List.mem_erase_of_ne (fun z => no (by rw [← z]; exact hx))).mpr (List.mem_range.mpr (h.2 x hx))
  rw [List.length_erase_of_mem (List.mem_range.mpr hk), List.length_range, h.1] at this
  omega
theorem place_of {many : Nat} {o : List Nat} (h : OkO many o) (i : Inj o) {k : Nat} (hk : k < many) : ∃ j, j < many ∧ o[j]? = some k := by
  obtain ⟨j, hj, e⟩ := List.getElem_of_mem (all_in h i hk)
  exact ⟨j, by rw [← h.1]; exact hj, by rw [List.getElem?_eq_getElem hj, e]⟩
/-! ### who bears, and what -/
def rest (b : Int) (W : Nat) : Nat := (b % (W : Int)).toNat
theorem rest_lt {W : Nat} (h : 0 < W) (b : Int) : rest b W < W ∧ ((rest b W : Nat) : Int) = b % (W : Int) := modlen h b
/-- the watcher at place i at a beat -/
def bearer (ps : List Pst) (ws : List Wtc) (mt : Bool) (rl W : Nat) (b : Int) (i : Nat) : Nat := (ordN (ps.map (·.2)) ws.length mt rl (rest b W)).getD i 0
def wname (ws : List Wtc) (k : Nat) : Str := (ws.getD k (Str.empty, 0)).1
def spWheelM (C CS : Addr) : Sp := fun vs H Q _ => ∃ (s : Addr) (zs : List Str) (ds ss : List SS) (ps : List Pst) (ws : List Wtc) (mt : Bool) (rl W : Nat), vs = [.ref s] ∧ SceneAt C CS H s zs ds ss ps ws mt rl W ∧ Q (.int (W : Nat)) H
def spWho (C CS : Addr) : Sp := fun vs H Q _ => ∃ (s : Addr) (zs : List Str) (ds ss : List SS) (ps : List Pst) (ws : List Wtc) (mt : Bool) (rl W i : Nat) (q : Pst) (b : Int), vs = [.ref s, .str q.1, .int b] ∧ SceneAt C CS H s zs ds ss ps ws mt rl W ∧ ps[i]? = some q ∧ beatOk b ∧ ∀ H', Same H H' → Q (.str (wname ws (bearer ps ws mt rl W b i))) H'
def spWatcherNo (C CS : Addr) : Sp := fun vs H Q _ => ∃ (s : Addr) (zs : List Str) (ds ss : List SS) (ps : List Pst) (ws : List Wtc) (mt : Bool) (rl W i : Nat) (q : Wtc), vs = [.ref s, .str q.1] ∧ SceneAt C CS H s zs ds ss ps ws mt rl W ∧ ws[i]? = some q ∧ ∀ H', Same H H' → Q (.int (i : Nat)) H'
/-- the post at a place, None behind the posts -/
def pname (ps : List Pst) (j : Nat) : V := match ps[j]? with
  | some q => .str q.1
  | none => .non
def spPostOf (C CS : Addr) : Sp := fun vs H Q _ => ∃ (s : Addr) (zs : List Str) (ds ss : List SS) (ps : List Pst) (ws : List Wtc) (mt : Bool) (rl W i j : Nat) (q : Wtc) (b : Int), vs = [.ref s, .str q.1, .int b] ∧ SceneAt C CS H s zs ds ss ps ws mt rl W ∧ ws[i]? = some q ∧ beatOk b ∧ (ordN (ps.map (·.2)) ws.length mt rl (rest b W))[j]? = some i ∧ ∀ H', Same H H' → Q (pname ps j) H'
def spLawFirst : Sp := fun vs H Q _ => ∃ (b m t f lm : Addr) (zs : List Str) (ds ss : List SS) (xs ys : List V) (ps : List Pst) (ws : List Wtc) (mt : Bool) (rl : Nat), vs = [.ref m] ∧ MA b H m t f lm zs ds ss xs ys ps ws mt rl ∧ ∀ (H' : Hp) (p : Addr), Same H H' → H p = none → H' p = some (.lst ((ws.map (·.1)).map V.str)) → Q (.ref p) H'
theorem ScA.order {C CS : Addr} {H : Hp} {s : Addr} {zs : List Str} {ds ss : List SS} {ps : List Pst} {ws : List Wtc} {mt : Bool} {rl W : Nat} {dx h p w o hd lg m : Addr} {xs ys os ls ms : List V} (a : ScA C CS H s zs ds ss ps ws mt rl W dx h p w o hd lg m xs ys os ls ms) (b : Int) : os.length = W ∧ ∃ q, atI os (b % ((W : Nat) : Int)) = some (V.ref q) ∧ H q = some (.lst ((ordN (ps.map (·.2)) ws.length mt rl (rest b W)).map natV)) := by
  have ol : os.length = W := by
    have := a.fos.1
    rw [List.length_map, List.length_range] at this
    exact this
  obtain ⟨h1, h2⟩ := rest_lt a.fwh.1 b
  have e : ((List.range W).map (ordN (ps.map (·.2)) ws.length mt rl))[rest b W]? = some (ordN (ps.map (·.2)) ws.length mt rl (rest b W)) := by
    rw [List.getElem?_map, List.getElem?_range h1]
    rfl
  obtain ⟨x, ex, q, rfl, hq⟩ := a.fos.of e
  exact ⟨ol, q, by rw [← h2]; exact atI_nat ex, hq⟩
end Dk
namespace Dk
open PySem L2
/-! ### meetings -/
def posOf : List Nat → Nat → Nat
  | [], _ => 0
  | x :: r, i => if x = i then 0 else posOf r i + 1
theorem posOf_at : ∀ {o : List Nat} {i : Nat}, i ∈ o → o[posOf o i]? = some i
  | [], _, h => by cases h
  | x :: r, i, h => by
    unfold posOf
    by_cases e : x = i
    · rw [if_pos e, e]
      rfl
    · rw [if_neg e, List.getElem?_cons_succ]
      exact posOf_at ((List.mem_cons.mp h).resolve_left fun z => e z.symm)
def wroom (ps : List Pst) (j : Nat) (b : Int) : V := match ps[j]? with
  | some q => .str (plcS q.2.1 (b - ((q.2.2 : Nat) : Int)))
  | none => .non
/-- where watcher i is -/
def wrm (ps : List Pst) (ws : List Wtc) (mt : Bool) (rl W : Nat) (i : Nat) (b : Int) : V := wroom ps (posOf (ordN (ps.map (·.2)) ws.length mt rl (rest b W)) i) b
def eqR (q1 q2 : Pst) (b : Int) : Bool := decide (plcS q1.2.1 (b - ((q1.2.2 : Nat) : Int)) = plcS q2.2.1 (b - ((q2.2.2 : Nat) : Int)))
def pRests (q1 q2 : Pst) (n : Nat) : List Nat := (List.range n).filter fun r => eqR q1 q2 (r : Nat)
def eqW (x y : V) : Bool := decide (x ≠ .non) && decide (x = y)
def wRests (ps : List Pst) (ws : List Wtc) (mt : Bool) (rl W i j n : Nat) : List Nat := (List.range n).filter fun r => eqW (wrm ps ws mt rl W i (r : Nat)) (wrm ps ws mt rl W j (r : Nat))
def lcm2 (q1 q2 : Pst) : Nat := lcmL [q1.2.1.length, q2.2.1.length]
def spPostsMeet (C CS : Addr) : Sp := fun vs H Q _ => ∃ (s : Addr) (zs : List Str) (ds ss : List SS) (ps : List Pst) (ws : List Wtc) (mt : Bool) (rl W i j : Nat) (q1 q2 : Pst), vs = [.ref s, .str q1.1, .str q2.1] ∧ SceneAt C CS H s zs ds ss ps ws mt rl W ∧ ps[i]? = some q1 ∧ ps[j]? = some q2 ∧
  ∀ (H' : Hp) (t L : Addr), Same H H' → H' t = some (.tup [.int (lcm2 q1 q2 : Nat), .ref L]) → H' L = some (.lst ((pRests q1 q2 (lcm2 q1 q2)).map natV)) → Q (.ref t) H'
def spWRoom (C CS : Addr) : Sp := fun vs H Q _ => ∃ (s : Addr) (zs : List Str) (ds ss : List SS) (ps : List Pst) (ws : List Wtc) (mt : Bool) (rl W i : Nat) (q : Wtc) (b : Int), vs = [.ref s, .str q.1, .int b] ∧ SceneAt C CS H s zs ds ss ps ws mt rl W ∧ ws[i]? = some q ∧ beatOk b ∧ ∀ H', Same H H' → Q (wrm ps ws mt rl W i b) H'
def spWtsMeet (C CS : Addr) : Sp := fun vs H Q _ => ∃ (s : Addr) (zs : List Str) (ds ss : List SS) (ps : List Pst) (ws : List Wtc) (mt : Bool) (rl W i j : Nat) (q1 q2 : Wtc), vs = [.ref s, .str q1.1, .str q2.1] ∧ SceneAt C CS H s zs ds ss ps ws mt rl W ∧ ws[i]? = some q1 ∧ ws[j]? = some q2 ∧
  ∀ (H' : Hp) (t L : Addr), Same H H' → H' t = some (.tup [.int (W : Nat), .ref L]) → H' L = some (.lst ((wRests ps ws mt rl W i j W).map natV)) → Q (.ref t) H'
theorem SceneAt.pos {C CS : Addr} {H : Hp} {s : Addr} {zs : List Str} {ds ss : List SS} {ps : List Pst} {ws : List Wtc} {mt : Bool} {rl W : Nat} (a : SceneAt C CS H s zs ds ss ps ws mt rl W) {i : Nat} (hi : i < ws.length) (b : Int) : (ordN (ps.map (·.2)) ws.length mt rl (rest b W))[posOf (ordN (ps.map (·.2)) ws.length mt rl (rest b W)) i]? = some i :=
  posOf_at (all_in (ordN_ok (by rw [List.length_map]; exact a.1.bare) _) (inj_ord (by rw [List.length_map]; exact a.1.bare) _) hi)
theorem lcm2_pos {q1 q2 : Pst} (h1 : 0 < q1.2.1.length) (h2 : 0 < q2.2.1.length) : 0 < lcm2 q1 q2 := foldl_pos _ (by decide) fun n hn => by
  rcases List.mem_cons.mp hn with rfl | hn
  · exact h1
  · rw [List.mem_singleton.mp hn]
    exact h2
theorem lcm2_le {q1 q2 : Pst} (h1 : q1.2.1.length ≤ 6) (h2 : q2.2.1.length ≤ 6) : lcm2 q1 q2 ≤ 36 := by
  have : lcm2 q1 q2 ≤ 1 * q1.2.1.length * q2.2.1.length := foldl_le [q1.2.1.length, q2.2.1.length] 1
  have h3 : 1 * q1.2.1.length * q2.2.1.length ≤ 1 * 6 * 6 := Nat.mul_le_mul (Nat.mul_le_mul (Nat.le_refl _) h1) h2
  omega
theorem plcS_rest {r : List Str} {w : Nat} (h : r.length ∣ w) (hw : 0 < w) (b : Int) (d : Nat) : plcS r (((rest b w : Nat) : Int) - (d : Nat)) = plcS r (b - (d : Nat)) := by
  obtain ⟨_, e⟩ := rest_lt hw b
  obtain ⟨k, hk⟩ := h
  unfold plcS
  congr 2
  rw [e]
  have : (w : Int) = (r.length : Int) * (k : Int) := by rw [hk, Int.natCast_mul]
  have e2 := Int.emod_add_mul_ediv b (w : Int)
  have e3 : b - (d : Nat) = b % (w : Int) - (d : Nat) + (r.length : Int) * ((k : Int) * (b / (w : Int))) := by
    rw [← Int.mul_assoc, ← this]
    omega
  rw [e3, Int.add_mul_emod_self_left]
theorem eqR_rest {q1 q2 : Pst} (h1 : 0 < q1.2.1.length) (h2 : 0 < q2.2.1.length) (b : Int) : eqR q1 q2 ((rest b (lcm2 q1 q2) : Nat) : Int) = eqR q1 q2 b := by
  have hw := lcm2_pos h1 h2
  have d := ((foldl_dvd [q1.2.1.length, q2.2.1.length] 1 (lcm2 q1 q2)).mp (Nat.dvd_refl _)).2
  unfold eqR
  rw [plcS_rest (d _ (by simp)) hw, plcS_rest (d _ (by simp)) hw]
theorem restW {W : Nat} (h : 0 < W) (b : Int) : rest ((rest b W : Nat) : Int) W = rest b W := by
  obtain ⟨h1, _⟩ := rest_lt h b
  show ((((rest b W : Nat) : Int) % (W : Int)).toNat) = rest b W
  rw [Int.emod_eq_of_lt (by omega) (by omega)]
  rfl
theorem wrm_rest {ps : List Pst} {ws : List Wtc} {mt : Bool} {rl W : Nat} (hW : 0 < W) (hd : ∀ p ∈ ps, p.2.1.length ∣ W) (i : Nat) (b : Int) : wrm ps ws mt rl W i ((rest b W : Nat) : Int) = wrm ps ws mt rl W i b := by
  unfold wrm
  rw [restW hW]
  unfold wroom
  cases e : ps[posOf (ordN (ps.map (·.2)) ws.length mt rl (rest b W)) i]? with
  | none => rfl
  | some q =>
    show V.str _ = V.str _
    rw [plcS_rest (hd q (List.mem_of_getElem? e)) hW]
theorem in_nats (k : Nat) : ∀ os : List Nat, inV (.int ((k : Nat) : Int)) (os.map natV) = decide (k ∈ os)
  | [] => by simp [inV]
  | o :: r => by
    have ih := in_nats k r
    unfold inV at ih ⊢
    rw [List.map_cons, List.any_cons, ih, Bool.eq_iff_iff, Bool.or_eq_true, decide_eq_true_eq, decide_eq_true_eq, List.mem_cons]
    show ((o : Int) == (k : Int)) = true ∨ _ ↔ _
    rw [beq_iff_eq]
    constructor
    · rintro (h | h)
      · exact .inl (by omega)
      · exact .inr h
    · rintro (h | h)
      · exact .inl (by omega)
      · exact .inr h
theorem flat_nats (os : List Nat) : (os.map natV).all flatV = true := List.all_eq_true.mpr fun x hx => by
  obtain ⟨z, _, rfl⟩ := List.mem_map.mp hx
  rfl
theorem range_filter_take {P : Nat → Bool} (n : Nat) : (List.range (n + 1)).filter P = (List.range n).filter P ++ (if P n = true then [n] else []) := by
  rw [List.range_succ, List.filter_append]
  congr 1
  by_cases h : P n = true
  · rw [if_pos h]
    simp [h]
  · rw [if_neg h]
    simp [h]
/-! ### posts and watchers as data -/
def psd (q : Pst) : PyData := .tuple [.str q.1, .tuple (q.2.1.map PyData.str), .int (q.2.2 : Nat)]
def wtd (q : Wtc) : PyData := .tuple [.str q.1, .int (q.2 : Nat)]
theorem PsL.dp {K : PySem.W.Frag} {H : Hp} : ∀ {xs : List V} {ps : List Pst}, PsL H xs ps → DpAll K H xs (ps.map psd)
  | [], [], _ => .nil
  | [], _ :: _, h => by cases h.1
  | _ :: _, [], h => by cases h.1
  | x :: xs, p :: ps, h => by
    obtain ⟨q, t, rfl, h1, h2⟩ := h.2 0 x p rfl rfl
    exact .cons (.tup (SqT.of h1) (.cons (.str _) (.cons (.tup (SqT.of h2) (dp_strs _)) (.cons (.int _) .nil)))) (PsL.dp ⟨Nat.succ.inj h.1, fun i y z a b => h.2 (i + 1) y z a b⟩)
theorem WtL.dp {K : PySem.W.Frag} {H : Hp} : ∀ {xs : List V} {ps : List Wtc}, WtL H xs ps → DpAll K H xs (ps.map wtd)
  | [], [], _ => .nil
  | [], _ :: _, h => by cases h.1
  | _ :: _, [], h => by cases h.1
  | x :: xs, p :: ps, h => by
    obtain ⟨q, rfl, h1⟩ := h.2 0 x p rfl rfl
    exact .cons (.tup (SqT.of h1) (.cons (.str _) (.cons (.int _) .nil))) (WtL.dp ⟨Nat.succ.inj h.1, fun i y z a b => h.2 (i + 1) y z a b⟩)
theorem psd_lay : ∀ {ps : List Pst}, (∀ p ∈ ps, PyData.strOk p.1 = true ∧ ∀ r ∈ p.2.1, PyData.strOk r = true) → PyData.canLayAll0 (ps.map psd) = true ∧ PyData.depthAll (ps.map psd) ≤ 2
  | [], _ => ⟨rfl, Nat.zero_le _⟩
  | p :: r, h => by
    obtain ⟨h1, h2⟩ := psd_lay (ps := r) fun q hq => h q (List.mem_cons_of_mem _ hq)
    obtain ⟨a1, a2⟩ := h p List.mem_cons_self
    obtain ⟨b1, b2⟩ := lay_strs a2
    constructor
    · show ((PyData.strOk p.1 && (PyData.canLayAll0 (p.2.1.map PyData.str) && ((PyData.int (p.2.2 : Nat)).canLay0 && true))) && PyData.canLayAll0 (r.map psd)) = true
      rw [h1, a1, b1]
      rfl
    · show max (max 0 (max (PyData.depthAll (p.2.1.map PyData.str) + 1) (max 0 0)) + 1) (PyData.depthAll (r.map psd)) ≤ 2
      rw [b2]
      omega
theorem wtd_lay : ∀ {ps : List Wtc}, (∀ p ∈ ps, PyData.strOk p.1 = true) → PyData.canLayAll0 (ps.map wtd) = true ∧ PyData.depthAll (ps.map wtd) ≤ 1
  | [], _ => ⟨rfl, Nat.zero_le _⟩
  | p :: r, h => by
    obtain ⟨h1, h2⟩ := wtd_lay (ps := r) fun q hq => h q (List.mem_cons_of_mem _ hq)
    have a1 := h p List.mem_cons_self
    constructor
    · show ((PyData.strOk p.1 && ((PyData.int (p.2 : Nat)).canLay0 && true)) && PyData.canLayAll0 (r.map wtd)) = true
      rw [h1, a1]
      rfl
    · show max (max 0 (max 0 0) + 1) (PyData.depthAll (r.map wtd)) ≤ 1
      omega
theorem shaped_list {l : List PyData} (h1 : PyData.canLayAll0 l = true) (h2 : PyData.depthAll l ≤ 2) : SeqAt.shaped (.list l) = true := by
  unfold SeqAt.shaped
  have e1 : (PyData.list l).canLay0 = true := h1
  have e2 : (PyData.list l).depth ≤ 64 := by
    show PyData.depthAll l + 1 ≤ 64
    omega
  rw [e1, decide_eq_true e2]
  rfl
theorem eqv_empty : ∀ l : List PyData, PyData.eqv (.list l) (.list []) = decide (l = [])
  | [] => by simp [PyData.eqv, PyData.eqvAll]
  | x :: r => by simp [PyData.eqv, PyData.eqvAll]
end Dk
namespace Dk
open PySem L2
theorem wrm_scal (ps : List Pst) (ws : List Wtc) (mt : Bool) (rl W i : Nat) (b : Int) : wrm ps ws mt rl W i b = .non ∨ ∃ u, wrm ps ws mt rl W i b = .str u := by
  unfold wrm wroom
  split
  · exact .inr ⟨_, rfl⟩
  · exact .inl rfl
end Dk
namespace Dk
open PySem L2
theorem meetP {q1 q2 : Pst} (h1 : 0 < q1.2.1.length) (h2 : 0 < q2.2.1.length) (bt : Int) : inV (.int (bt % ((lcm2 q1 q2 : Nat) : Int))) ((pRests q1 q2 (lcm2 q1 q2)).map natV) = decide (V.str (plcS q1.2.1 (bt - ((q1.2.2 : Nat) : Int))) = V.str (plcS q2.2.1 (bt - ((q2.2.2 : Nat) : Int)))) := by
  obtain ⟨a1, a2⟩ := rest_lt (lcm2_pos h1 h2) bt
  have e := eqR_rest h1 h2 bt
  rw [← a2, in_nats, Bool.eq_iff_iff, decide_eq_true_eq, decide_eq_true_eq]
  unfold pRests
  rw [List.mem_filter, List.mem_range]
  show (_ ∧ eqR q1 q2 ((rest bt (lcm2 q1 q2) : Nat) : Int) = true) ↔ _
  rw [e]
  unfold eqR
  rw [decide_eq_true_eq]
  exact ⟨fun z => by rw [z.2], fun z => ⟨a1, by injection z⟩⟩
theorem meetW {ps : List Pst} {ws : List Wtc} {mt : Bool} {rl W : Nat} (hW : 0 < W) (hd : ∀ p ∈ ps, p.2.1.length ∣ W) (i j : Nat) (bt : Int) : inV (.int (bt % ((W : Nat) : Int))) ((wRests ps ws mt rl W i j W).map natV) = eqW (wrm ps ws mt rl W i bt) (wrm ps ws mt rl W j bt) := by
  obtain ⟨a1, a2⟩ := rest_lt hW bt
  rw [← a2, in_nats, Bool.eq_iff_iff, decide_eq_true_eq]
  unfold wRests
  rw [List.mem_filter, List.mem_range]
  show (_ ∧ eqW (wrm ps ws mt rl W i ((rest bt W : Nat) : Int)) (wrm ps ws mt rl W j ((rest bt W : Nat) : Int)) = true) ↔ _
  rw [wrm_rest hW hd, wrm_rest hW hd]
  exact ⟨fun z => z.2, fun z => ⟨a1, z⟩⟩
theorem ScOk.shp {zs : List Str} {ds ss : List SS} {ps : List Pst} {ws : List Wtc} {rl : Nat} (h : ScOk zs ds ss ps ws rl) : SeqAt.shaped (.list (ps.map psd)) = true := by
  have := psd_lay (ps := ps) fun p hp => ⟨nm_ok (h.pok.names.2 p.1 (List.mem_map.mpr ⟨p, hp, rfl⟩)), fun r hr => nm_ok (h.names.2 r ((h.pok.rnd p hp).mem r hr))⟩
  exact shaped_list this.1 this.2
theorem ScOk.shw {zs : List Str} {ds ss : List SS} {ps : List Pst} {ws : List Wtc} {rl : Nat} (h : ScOk zs ds ss ps ws rl) : SeqAt.shaped (.list (ws.map wtd)) = true := by
  have := wtd_lay (ps := ws) fun p hp => nm_ok (h.wok.names.2 p.1 (List.mem_map.mpr ⟨p, hp, rfl⟩))
  exact shaped_list this.1 (Nat.le_trans this.2 (by decide))
def someV : V → Bool
  | .non => false
  | _ => true
theorem name_room (ps : List Pst) (j : Nat) (b : Int) : (pname ps j = .non ∧ wroom ps j b = .non) ∨ ∃ q, ps[j]? = some q ∧ pname ps j = .str q.1 ∧ wroom ps j b = .str (plcS q.2.1 (b - ((q.2.2 : Nat) : Int))) := by
  unfold pname wroom
  cases e : ps[j]? with
  | none => exact .inl ⟨rfl, rfl⟩
  | some q => exact .inr ⟨q, rfl, rfl, rfl⟩
theorem room_at2 {ps : List Pst} {j1 j2 jj : Nat} {b : Int} {y : V} (h : [pname ps j1, pname ps j2][jj]? = some y) : ∃ j, y = pname ps j ∧ [wroom ps j1 b, wroom ps j2 b][jj]? = some (wroom ps j b) := by
  match jj, h with
  | 0, h => exact ⟨j1, (Option.some.inj h).symm, rfl⟩
  | 1, h => exact ⟨j2, (Option.some.inj h).symm, rfl⟩
end Dk
namespace Dk
open PySem L2
/-! ### rows of names, changed by the law's own steps -/
def swS (zs : List Str) (i j : Nat) : List Str := (zs.set i (zs.getD j Str.empty)).set j (zs.getD i Str.empty)
def spExch : Sp := fun vs H Q _ => ∃ (r : Addr) (zs : List Str) (x y : Nat), vs = [.ref r, .int (x : Nat), .int (y : Nat)] ∧ H r = some (.lst (zs.map V.str)) ∧ x < zs.length ∧ y < zs.length ∧ zs.length ≤ 1000 ∧
  ∀ (H' : Hp) (q : Addr), Same H H' → H q = none → H' q = some (.lst ((swS zs x y).map V.str)) → Q (.ref q) H'
/-- whether the law relieves at a beat -/
def relB (n many rl : Nat) (b : Int) : Bool := decide (0 < rl) && (decide (b % (rl : Int) = 0) && (decide (0 < n) && decide (n < many)))
def spRelv : Sp := fun vs H Q _ => ∃ (bx m t f lm : Addr) (zs : List Str) (ds ss : List SS) (xs ys : List V) (ps : List Pst) (ws : List Wtc) (mt : Bool) (rl : Nat) (b : Int), vs = [.ref m, .int b] ∧ MA bx H m t f lm zs ds ss xs ys ps ws mt rl ∧ Q (.bl (relB ps.length ws.length rl b)) H
theorem MA.meet {b : Addr} {H H' : Hp} {m t f lm : Addr} {zs : List Str} {ds ss : List SS} {xs ys : List V} {ps : List Pst} {ws : List Wtc} {mt : Bool} {rl : Nat} (a : MA b H m t f lm zs ds ss xs ys ps ws mt rl) (e : Same H H') : DGet H' m (.str "meet") (some (.bl mt)) := by
  have h : valV (mkv t f lm mt rl) (Sum.inr "meet" : Key) = some (.bl mt) := valK_at 3 ["house", "posts", "lamps"] rfl (by decide +kernel) rfl
  rw [← h]
  exact DGet.k (k := (Sum.inr "meet" : Key)) (e _ _ a.md)
theorem MA.relief {b : Addr} {H H' : Hp} {m t f lm : Addr} {zs : List Str} {ds ss : List SS} {xs ys : List V} {ps : List Pst} {ws : List Wtc} {mt : Bool} {rl : Nat} (a : MA b H m t f lm zs ds ss xs ys ps ws mt rl) (e : Same H H') : DGet H' m (.str "relief") (some (.int (rl : Nat))) := by
  have h : valV (mkv t f lm mt rl) (Sum.inr "relief" : Key) = some (.int (rl : Nat)) := valK_at 4 ["house", "posts", "lamps", "meet"] rfl (by decide +kernel) rfl
  rw [← h]
  exact DGet.k (k := (Sum.inr "relief" : Key)) (e _ _ a.md)
/-- the change at a beat, which may lie below nought -/
def chgI (tr : List Trk) (mt : Bool) (rl : Nat) (b : Int) (o : List Nat) : List Nat :=
  if relB tr.length o.length rl b = true then relN tr.length (b / (rl : Int) % (tr.length : Int)).toNat (if mt = true then hoN (stnd tr b) o else o) else (if mt = true then hoN (stnd tr b) o else o)
def spChange : Sp := fun vs H Q _ => ∃ (bx m t f lm : Addr) (zs : List Str) (ds ss : List SS) (xs ys : List V) (ps : List Pst) (ws : List Wtc) (mt : Bool) (rl : Nat) (r : Addr) (nm : Nat → Str) (o : List Nat) (b : Int), vs = [.ref m, .ref r, .int b] ∧ MA bx H m t f lm zs ds ss xs ys ps ws mt rl ∧ H r = some (.lst ((o.map nm).map V.str)) ∧ o.length = ws.length ∧
  ∀ (H' : Hp) (q : Addr), Same H H' → H q = none → H' q = some (.lst (((chgI (ps.map (·.2)) mt rl b o).map nm).map V.str)) → Q (.ref q) H'
theorem swS_map (nm : Nat → Str) {o : List Nat} {i j : Nat} (hi : i < o.length) (hj : j < o.length) : swS (o.map nm) i j = (swN o i j).map nm := by
  unfold swS swN
  have e : ∀ k, k < o.length → (o.map nm).getD k Str.empty = nm (o.getD k 0) := fun k hk => by
    rw [List.getD_eq_getElem?_getD, List.getD_eq_getElem?_getD, List.getElem?_map, List.getElem?_eq_getElem hk]
    rfl
  rw [e i hi, e j hj, List.map_set, List.map_set]
theorem cut_range {xs : List V} {i j : Nat} (hi : i ≤ xs.length) (hj : j ≤ xs.length) : cutV xs (some ((i : Nat) : Int)) (some ((j : Nat) : Int)) = (xs.drop i).take (j - i) := by
  unfold cutV
  rw [HT.sIx_nat, HT.sIx_nat, Nat.min_eq_left hi, Nat.min_eq_left hj]
theorem relN_eq {n p : Nat} {o : List Nat} (hp : p < n) (hn : n < o.length) : relN n p o = o.take p ++ [o.getD n 0] ++ (o.drop (p + 1)).take (n - (p + 1)) ++ (o.drop (n + 1) ++ [o.getD p 0]) := by
  unfold relN
  rw [List.set_eq_take_append_cons_drop, if_pos (by rw [List.length_take]; omega), List.take_take, Nat.min_eq_left (by omega), List.drop_take]
  simp [List.append_assoc]
theorem none_of {H H' : Hp} {q : Addr} (s : Same H H') (h : H' q = none) : H q = none := by
  cases e : H q with
  | none => rfl
  | some z =>
    have := s _ _ e
    rw [h] at this
    cases this
def nmW (ws : List Wtc) (i : Nat) : Str := (ws.map (·.1)).getD i Str.empty
/-- the steps undone -/
def spUnch : Sp := fun vs H Q _ => ∃ (bx m t f lm : Addr) (zs : List Str) (ds ss : List SS) (xs ys : List V) (ps : List Pst) (ws : List Wtc) (mt : Bool) (rl : Nat) (r : Addr) (nm : Nat → Str) (o : List Nat) (b : Int), vs = [.ref m, .ref r, .int b] ∧ MA bx H m t f lm zs ds ss xs ys ps ws mt rl ∧ H r = some (.lst (((chgI (ps.map (·.2)) mt rl b o).map nm).map V.str)) ∧ o.length = ws.length ∧
  ∀ (H' : Hp) (q : Addr), Same H H' → H q = none → H' q = some (.lst ((o.map nm).map V.str)) → Q (.ref q) H'
/-- rows of names for the beats from lo to hi -/
def RowsIn (H H' : Hp) (D : Addr) (ws : List Wtc) (od : Int → List Nat) (lo hi : Int) : Prop := ∃ kvs : List (Key × V), H' D = some (.dK kvs) ∧ (kvs.length : Int) ≤ hi - lo + 1 ∧ ∀ b, lo ≤ b → b ≤ hi → ∃ p, valV kvs (Sum.inl b : Key) = some (.ref p) ∧ H p = none ∧ p ≠ D ∧ H' p = some (.lst (((od b).map (nmW ws)).map V.str))
structure OrdI (tr : List Trk) (many : Nat) (mt : Bool) (rl : Nat) (od : Int → List Nat) : Prop where
  zero : od 0 = List.range many
  next : ∀ b, od b = chgI tr mt rl b (od (b - 1))
  len : ∀ b, (od b).length = many
def spLawRows : Sp := fun vs H Q _ => ∃ (bx m t f lm : Addr) (zs : List Str) (ds ss : List SS) (xs ys : List V) (ps : List Pst) (ws : List Wtc) (mt : Bool) (rl : Nat) (a n : Nat) (od : Int → List Nat), vs = [.ref m, .int (-(a : Int)), .int (n : Nat)] ∧ MA bx H m t f lm zs ds ss xs ys ps ws mt rl ∧ a ≤ 60 ∧ n ≤ 60 ∧ OrdI (ps.map (·.2)) ws.length mt rl od ∧
  ∀ (H' : Hp) (D : Addr), Same H H' → H D = none → RowsIn H H' D ws od (-(a : Int)) (n : Nat) → Q (.ref D) H'
theorem first_map (ws : List Wtc) : (List.range ws.length).map (nmW ws) = ws.map (·.1) := by
  apply List.ext_getElem?
  intro i
  rw [List.getElem?_map]
  by_cases h : i < ws.length
  · rw [List.getElem?_range h]
    show some (nmW ws i) = _
    unfold nmW
    rw [List.getD_eq_getElem?_getD, List.getElem?_eq_getElem (by rw [List.length_map]; exact h)]
    rfl
  · rw [List.getElem?_eq_none (by rw [List.length_range]; omega), List.getElem?_eq_none (by rw [List.length_map]; omega)]
    rfl
theorem RowsIn.put {H H' : Hp} {D : Addr} {ws : List Wtc} {od : Int → List Nat} {lo hi b : Int} {kvs : List (Key × V)} {p : Addr} (hl : (kvs.length : Int) ≤ hi - lo + 1) (h : ∀ c, lo ≤ c → c ≤ hi → ∃ p, valV kvs (Sum.inl c : Key) = some (.ref p) ∧ H p = none ∧ p ≠ D ∧ H' p = some (.lst (((od c).map (nmW ws)).map V.str))) (np : H p = none) (nD : p ≠ D) (hp : H' p = some (.lst (((od b).map (nmW ws)).map V.str))) {lo' hi' : Int} (hw : hi' - lo' = hi - lo + 1) (hh : ∀ c, lo' ≤ c → c ≤ hi' → c = b ∨ (lo ≤ c ∧ c ≤ hi)) : RowsIn H (upd H' D (.dK (putK kvs (Sum.inl b : Key) (.ref p)))) D ws od lo' hi' := by
  refine ⟨_, upd_same, ?_, fun c h1 h2 => ?_⟩
  · unfold putK
    split
    · rw [List.length_map]
      omega
    · rw [List.length_append]
      show ((_ + 1 : Nat) : Int) ≤ _
      omega
  · rw [valV_put]
    by_cases e : c = b
    · rw [if_pos (by rw [e])]
      exact ⟨p, rfl, np, nD, by rw [upd_ne nD, hp, e]⟩
    · rw [if_neg (by intro z; injection z; contradiction)]
      obtain ⟨q, a1, a2, a3, a4⟩ := h c ((hh c h1 h2).resolve_left e).1 ((hh c h1 h2).resolve_left e).2
      exact ⟨q, a1, a2, a3, by rw [upd_ne a3, a4]⟩
theorem swN_swN {o : List Nat} {i j : Nat} (hi : i < o.length) (hj : j < o.length) : swN (swN o i j) i j = o := by
  apply List.ext_getElem?
  intro k
  rw [swN_at (by rw [swN_len]; exact hi) (by rw [swN_len]; exact hj), swN_at hi hj, swN_at hi hj, swN_at hi hj]
  by_cases h1 : k = j
  · rw [if_pos h1]
    by_cases h2 : i = j
    · rw [if_pos h2, h1, h2]
    · rw [if_neg h2, if_pos rfl, h1]
  · rw [if_neg h1]
    by_cases h2 : k = i
    · rw [if_pos h2, if_pos rfl, h2]
    · rw [if_neg h2, if_neg h1, if_neg h2]
theorem cut_but_last {xs ys : List V} {n : Nat} {x : V} (e : xs = ys ++ [x]) (h : n ≤ ys.length) : cutV xs (some ((n : Nat) : Int)) (some (-1)) = ys.drop n := by
  subst e
  have l : (ys ++ [x]).length = ys.length + 1 := by rw [List.length_append]; rfl
  unfold cutV
  rw [HT.sIx_nat, l, Nat.min_eq_left (by omega)]
  have : HT.sIx (ys.length + 1) (ys.length + 1) (some (-1)) = ys.length := by
    show (if (-1 : Int) < 0 then ((-1 : Int) + ((ys.length + 1 : Nat) : Int)).toNat else min (-1 : Int).toNat (ys.length + 1)) = ys.length
    rw [if_pos (by decide)]
    omega
  rw [this, List.drop_append_of_le_length h, List.take_append_of_le_length (by rw [List.length_drop]; omega), List.take_of_length_le (by rw [List.length_drop]; omega)]
theorem five_parts {A M B : List V} {x y : V} {n p : Nat} (ha : A.length = p) (hm : M.length = n - (p + 1)) (hp : p < n) {row : List V} (e : row = A ++ [y] ++ M ++ (B ++ [x])) : row[p]? = some y ∧ cutV row (some ((n : Nat) : Int)) (some (-1)) = B ∧ cutV row none (some ((p : Nat) : Int)) = A ∧ atI row (-1) = some x ∧ cutV row (some ((p + 1 : Nat) : Int)) (some ((n : Nat) : Int)) = M := by
  have l1 : (A ++ [y] ++ M).length = n := by
    rw [List.length_append, List.length_append]
    show A.length + 1 + _ = _
    omega
  have e1 : row = (A ++ [y] ++ M ++ B) ++ [x] := by rw [e]; simp
  have l2 : (A ++ [y] ++ M ++ B).length = n + B.length := by rw [List.length_append, l1]
  have l3 : row.length = n + B.length + 1 := by rw [e1, List.length_append, l2]; rfl
  have e2 : row = A ++ (y :: (M ++ (B ++ [x]))) := by rw [e]; simp
  have e3 : row = (A ++ [y]) ++ (M ++ (B ++ [x])) := by rw [e]; simp
  refine ⟨?_, ?_, ?_, ?_, ?_⟩
  · rw [e2, List.getElem?_append_right (by omega), ha, Nat.sub_self]
    rfl
  · rw [cut_but_last e1 (by omega)]
    exact List.drop_left' l1
  · rw [cut_to (by omega), e2]
    exact List.take_left' ha
  · refine at_last ?_
    rw [l3, e1, List.getElem?_append_right (by omega), l2]
    rw [show n + B.length + 1 - 1 - (n + B.length) = 0 by omega]
    rfl
  · rw [cut_range (by omega) (by omega), e3, List.drop_left' (by rw [List.length_append]; show A.length + 1 = _; omega)]
    exact List.take_left' hm
theorem o_parts {n p : Nat} {o : List Nat} (hp : p < n) (hn : n < o.length) : o = o.take p ++ [o.getD p 0] ++ (o.drop (p + 1)).take (n - (p + 1)) ++ ([o.getD n 0] ++ o.drop (n + 1)) := by
  have e1 : o.drop n = o.getD n 0 :: o.drop (n + 1) := by
    rw [List.drop_eq_getElem_cons hn, List.getD_eq_getElem?_getD, List.getElem?_eq_getElem hn]
    rfl
  have e2 : o.drop p = o.getD p 0 :: o.drop (p + 1) := by
    rw [List.drop_eq_getElem_cons (by omega), List.getD_eq_getElem?_getD, List.getElem?_eq_getElem (by omega)]
    rfl
  have e3 : o.drop (p + 1) = (o.drop (p + 1)).take (n - (p + 1)) ++ o.drop n := by
    have := (List.take_append_drop (n - (p + 1)) (o.drop (p + 1))).symm
    rw [List.drop_drop, show p + 1 + (n - (p + 1)) = n by omega] at this
    exact this
  calc o = o.take p ++ o.drop p := (List.take_append_drop p o).symm
    _ = o.take p ++ (o.getD p 0 :: ((o.drop (p + 1)).take (n - (p + 1)) ++ (o.getD n 0 :: o.drop (n + 1)))) := by
      rw [e2]
      congr 2
      rw [← e1]
      exact e3
    _ = _ := by simp [List.append_assoc]
end Dk
namespace Dk
open PySem L2
theorem chgI_nat {tr : List Trk} {mt : Bool} {rl : Nat} (b : Nat) (o : List Nat) : chgI tr mt rl ((b : Nat) : Int) o = chgN tr mt rl b o := by
  unfold chgI chgN
  have e : relB tr.length o.length rl ((b : Nat) : Int) = decide (hasR tr.length o.length rl ∧ b % rl = 0) := by
    rw [Bool.eq_iff_iff]
    unfold relB hasR
    simp only [Bool.and_eq_true, decide_eq_true_eq]
    have : ((b : Int) % (rl : Int) = 0) ↔ b % rl = 0 := by omega
    rw [this]
    constructor
    · rintro ⟨a, b, c, d⟩
      exact ⟨⟨a, c, d⟩, b⟩
    · rintro ⟨⟨a, c, d⟩, b⟩
      exact ⟨a, b, c, d⟩
  rw [e]
  have e2 : ((b : Int) / (rl : Int) % (tr.length : Int)).toNat = b / rl % tr.length := by
    rw [← Int.natCast_ediv, ← Int.natCast_emod]
    rfl
  rw [e2]
  by_cases z : hasR tr.length o.length rl ∧ b % rl = 0
  · rw [if_pos (decide_eq_true z), if_pos z]
  · rw [if_neg (by rw [decide_eq_false z]; decide), if_neg z]
theorem chgI_rest {tr : List Trk} {mt : Bool} {rl W : Nat} {o : List Nat} (hW : 0 < W) (hd : ∀ p ∈ tr, p.1.length ∣ W) (hr : hasR tr.length o.length rl → rl * tr.length ∣ W) (b : Int) : chgI tr mt rl ((rest b W : Nat) : Int) o = chgI tr mt rl b o := by
  obtain ⟨_, e⟩ := rest_lt hW b
  have es : stnd tr ((rest b W : Nat) : Int) = stnd tr b := by
    unfold stnd
    apply List.map_congr_left
    intro p hp
    exact plcS_rest (hd p hp) hW b p.2
  unfold chgI
  rw [es]
  by_cases z : hasR tr.length o.length rl
  · obtain ⟨k, hk⟩ := hr z
    obtain ⟨z1, z2, z3⟩ := z
    have e2 := Int.emod_add_mul_ediv b (W : Int)
    have e3 : b = ((rest b W : Nat) : Int) + (rl : Int) * ((tr.length : Int) * ((k : Int) * (b / (W : Int)))) := by
      rw [← Int.mul_assoc, ← Int.mul_assoc, ← Int.natCast_mul, ← Int.natCast_mul, ← hk, e]
      omega
    have f1 : b % (rl : Int) = ((rest b W : Nat) : Int) % (rl : Int) := by
      conv => lhs; rw [e3]
      rw [Int.add_mul_emod_self_left]
    have f2 : b / (rl : Int) % (tr.length : Int) = ((rest b W : Nat) : Int) / (rl : Int) % (tr.length : Int) := by
      conv => lhs; rw [e3]
      rw [Int.add_mul_ediv_left _ _ (by omega), Int.add_mul_emod_self_left]
    unfold relB
    rw [f1, f2]
  · have n : ∀ c : Int, relB tr.length o.length rl c = false := fun c => by
      rw [← Bool.not_eq_true]
      intro y
      unfold relB at y
      simp only [Bool.and_eq_true, decide_eq_true_eq] at y
      exact z ⟨y.1, y.2.2.1, y.2.2.2⟩
    rw [n, n]
    generalize (if mt = true then hoN (stnd tr b) o else o) = oo
    rfl
theorem ord_all {tr : List Trk} {many : Nat} {mt : Bool} {rl W : Nat} (ht : tr.length ≤ many) (h : IsWh tr many mt rl W) : OrdI tr many mt rl (fun b => ordN tr many mt rl (rest b W)) := by
  obtain ⟨h0, h1, h2, h3, _⟩ := h
  have sd : spanN tr many rl ∣ W := Nat.dvd_of_mod_eq_zero h2
  have hd : ∀ p ∈ tr, p.1.length ∣ W := fun p hp => Nat.dvd_trans (span_len hp) sd
  have len : ∀ b, (ordN tr many mt rl b).length = many := fun b => (ordN_ok ht b).1
  refine ⟨?_, fun b => ?_, fun b => len _⟩
  · show ordN tr many mt rl (((0 : Int) % (W : Int)).toNat) = _
    rw [Int.zero_emod]
    rfl
  · obtain ⟨a1, a2⟩ := rest_lt h0 b
    obtain ⟨c1, c2⟩ := rest_lt h0 (b - 1)
    have hr : ∀ o : List Nat, o.length = many → hasR tr.length o.length rl → rl * tr.length ∣ W := fun o ho z => Nat.dvd_trans (span_rel (by rw [← ho]; exact z)) sd
    show ordN tr many mt rl (rest b W) = chgI tr mt rl b (ordN tr many mt rl (rest (b - 1) W))
    by_cases z : rest b W = 0
    · have e : rest (b - 1) W = W - 1 := by
        have d1 : b % (W : Int) = 0 := by omega
        have d2 : (b - 1) % (W : Int) = ((W - 1 : Nat) : Int) := by
          have q := Int.emod_add_mul_ediv b (W : Int)
          rw [show b - 1 = ((W - 1 : Nat) : Int) + (W : Int) * (b / (W : Int) - 1) by rw [Int.mul_sub]; omega, Int.add_mul_emod_self_left, Int.emod_eq_of_lt (by omega) (by omega)]
        omega
      have e5 : ordN tr many mt rl W = chgN tr mt rl W (ordN tr many mt rl (W - 1)) := by
        obtain ⟨v, rfl⟩ : ∃ v, W = v + 1 := ⟨W - 1, by omega⟩
        rfl
      have rW : rest ((W : Nat) : Int) W = rest b W := by
        rw [z]
        show (((W : Int) % (W : Int)).toNat) = 0
        rw [Int.emod_self]
        rfl
      rw [e, ← chgI_rest h0 hd (hr _ (len _)) b, ← rW, chgI_rest h0 hd (hr _ (len _)), chgI_nat, ← e5, h3]
      rw [rW, z]
      rfl
    · have e : rest (b - 1) W = rest b W - 1 := by
        have q := Int.emod_add_mul_ediv b (W : Int)
        have d2 : (b - 1) % (W : Int) = ((rest b W - 1 : Nat) : Int) := by
          rw [show b - 1 = ((rest b W - 1 : Nat) : Int) + (W : Int) * (b / (W : Int)) by omega, Int.add_mul_emod_self_left, Int.emod_eq_of_lt (by omega) (by omega)]
        omega
      rw [e, ← chgI_rest h0 hd (hr _ (len _)) b, chgI_nat]
      obtain ⟨v, hv⟩ : ∃ v, rest b W = v + 1 := ⟨rest b W - 1, by omega⟩
      rw [hv]
      rfl
theorem RowsIn.same {H H' H2 : Hp} {D : Addr} {ws : List Wtc} {od : Int → List Nat} {lo hi : Int} (h : RowsIn H H' D ws od lo hi) (s : Same H' H2) : RowsIn H H2 D ws od lo hi := by
  obtain ⟨kvs, h1, h2, h3⟩ := h
  refine ⟨kvs, s _ _ h1, h2, fun b a1 a2 => ?_⟩
  obtain ⟨p, e1, e2, e3, e4⟩ := h3 b a1 a2
  exact ⟨p, e1, e2, e3, s _ _ e4⟩
theorem nmW_wname (ws : List Wtc) {i : Nat} (h : i < ws.length) : nmW ws i = wname ws i := by
  unfold nmW wname
  rw [List.getD_eq_getElem?_getD, List.getD_eq_getElem?_getD, List.getElem?_map, List.getElem?_eq_getElem h]
  rfl
theorem pnames_all {ps : List Pst} {many : Nat} (h : ps.length ≤ many) : (List.range many).map (pname ps) = (ps.map (·.1)).map V.str ++ List.replicate (many - ps.length) V.non := by
  apply List.ext_getElem?
  intro i
  by_cases h1 : i < ps.length
  · rw [List.getElem?_append_left (by rw [List.length_map, List.length_map]; exact h1), List.getElem?_map, List.getElem?_range (by omega), List.getElem?_map, List.getElem?_map]
    show some (pname ps i) = _
    unfold pname
    rw [List.getElem?_eq_getElem h1]
    rfl
  · by_cases h2 : i < many
    · rw [List.getElem?_append_right (by rw [List.length_map, List.length_map]; omega), List.getElem?_map, List.getElem?_range h2, List.length_map, List.length_map, List.getElem?_replicate, if_pos (by omega)]
      show some (pname ps i) = _
      unfold pname
      rw [List.getElem?_eq_none (by omega)]
    · rw [List.getElem?_eq_none (by rw [List.length_map, List.length_range]; omega), List.getElem?_eq_none (by rw [List.length_append, List.length_map, List.length_map, List.length_replicate]; omega)]
end Dk
namespace Dk
open PySem PySem.Spec PyProof.Rows L2
/-! ### a list gone through forth or back, by a step that is reckoned -/
def fb (z : Bool) (xs : List V) : List V := if z = true then xs.reverse else xs
def fbI (z : Bool) : Int := if z = true then -1 else 1
theorem pick_fb (z : Bool) (its : List Value) : slicePick its.toArray none none (some (fbI z)) = (if z = true then its.reverse else its).toArray := by
  cases z with
  | true => exact PySem.W.krv_pick its.toArray
  | false =>
    show slicePick its.toArray none none (some 1) = its.toArray
    have e : slicePick its.toArray none none (some 1) = slicePick its.toArray none none none := rfl
    rw [e, slicePick_cut]
    simp [HT.sIx]
def tFB (K : PySem.W.Frag) (te ts : TE) : TE := fun σ H Q => te σ H fun x H1 => tPart ts σ H1 fun o H2 => ∃ (a : Addr) (xs : List V) (z : Bool), x = .ref a ∧ o = some (fbI z) ∧ SqL K H2 a xs ∧ ∀ p, H2 p = none → Q (.ref p) (upd H2 p (.lst (fb z xs)))
section
variable {X : Cx}
theorem pe_fb {e st : Expr} {te ts : TE} {q3 ps : Pos} (h1 : PE X e te) (h2 : PE X st ts) : PE X (.Subscript e (.Slice none none (some st) q3) ps) (tFB X.K te ts) := by
  constructor
  intro pn sh σ H Q J hh
  refine Subscript_ (thn (h1.run pn sh σ H _ J hh) fun v sa ⟨x, Ha, Ja, ra, qa⟩ => ?_)
  refine wpAny_Slice (thn (po_none.run pn sa σ Ha (fun o Hb => o = none ∧ Hb = Ha) Ja ⟨rfl, rfl⟩) fun vl sb ⟨lo, Hb, Jb, pl, elo, eb⟩ => ?_)
  subst elo eb
  refine thn (po_none.run pn sb σ Hb (fun o Hc => o = none ∧ Hc = Hb) Jb ⟨rfl, rfl⟩) fun vu sc ⟨up, Hc, Jc, pu, eup, ec⟩ => ?_
  subst eup ec
  have pst : PO X (some st) (tPart ts) := po_some h2
  refine thn (pst.run pn sc σ Hc _ Jc qa) fun vs sd ⟨o, Hd, Jd, pq, a, xs, z, ea, eo, hx, q⟩ => ?_
  subst ea eo
  cases ra
  have Je : Inv X pn σ Hd { sd with heap := sd.heap.push { cls := .type "slice", data := .fields #[vl, vu, vs] } } := Jd.kept (t' := sd.toks) fun _ _ y => Heap.get?_push_of_some _ y
  obtain ⟨its, rr, ht, hz⟩ := Je.list hx
  have hlen := rr.length
  show wpAny (model X.prog X.w) X.A (subscriptTail e (.Slice none none (some st) q3) (.ref a) (.ref sd.heap.objs.size)) (EP X pn σ Q) X.xe _
  refine tail_any (ops := [.ref a, .ref sd.heap.objs.size]) ht.isList.typeIs (PySem.slot_list_getitem.lookup) ?_ (by with_unfolding_all rfl)
  refine wpAny_getItem_list_slice ht.isList (Heap.IsSliceOf.new _ vl vu vs) pl pu pq (by cases z <;> decide) ?_ (by
    rw [List.size_toArray]
    omega)
  rw [pick_fb]
  have lf : (fb z xs).length = xs.length := by
    cases z
    · rfl
    · exact List.length_reverse
  refine ⟨.ref _, _, Je.laid (t' := sd.toks) (o := .lst (fb z xs)) (fun _ _ y => Heap.get?_push_of_some _ y) (Nat.le_refl _) ?_, rfl, q _ (Je.hok.fresh (Nat.le_refl _))⟩
  refine ⟨by rw [lf]; exact hz, _, 0, ?_, Heap.get?_push_size _ rfl⟩
  cases z
  · exact rr
  · exact rr.reverse
end
end Dk
namespace Dk
open PySem PySem.Spec PyProof.Rows L2
/-! ### xs[-2::-1] -/
theorem bk2_bounds (n : Nat) : sliceBounds (some (-2)) none (some (-1)) n = (((n - 1 : Nat) : Int) - 1, -1, -1) := by
  show (max (-1) (min ((-2 : Int) + (n : Int)) ((n : Int) - 1)), (-1 : Int), (-1 : Int)) = _
  have e : max (-1 : Int) (min ((-2 : Int) + (n : Int)) ((n : Int) - 1)) = ((n - 1 : Nat) : Int) - 1 := by omega
  rw [e]
theorem bk2_pick (its : List Value) : slicePick its.toArray (some (-2)) none (some (-1)) = (its.take (its.length - 1)).reverse.toArray := by
  unfold slicePick
  rw [bk2_bounds]
  show ((sliceRange (((its.toArray.size - 1 : Nat) : Int) - 1) (-1) (-1)).filterMap (its.toArray[·]?)).toArray = _
  rw [PySem.W.krv_sliceRange, PySem.W.krv_range, List.filterMap_reverse]
  have h := pick_run its.toArray 0 (its.toArray.size - 1)
  have e : (List.range (its.toArray.size - 1)).map (0 + ·) = List.range (its.toArray.size - 1) := by
    rw [show ((0 + ·) : Nat → Nat) = id from funext fun k => Nat.zero_add k, List.map_id]
  rw [e] at h
  rw [h, List.drop_zero, List.size_toArray]
def tBk2 (K : PySem.W.Frag) (te tl ts : TE) : TE := fun σ H Q => te σ H fun x H1 => tPart tl σ H1 fun l H2 => tPart ts σ H2 fun o H3 => ∃ (a : Addr) (xs : List V), x = .ref a ∧ l = some (-2) ∧ o = some (-1) ∧ SqL K H3 a xs ∧ ∀ p, H3 p = none → Q (.ref p) (upd H3 p (.lst (xs.take (xs.length - 1)).reverse))
theorem vtake : ∀ {xs : List V} {vs : List Value} (_ : Vals xs vs) (n : Nat), Vals (xs.take n) (vs.take n)
  | _, _, .nil, n => by rw [List.take_nil, List.take_nil]; exact .nil
  | _, _, .cons a r, 0 => .nil
  | _, _, .cons a r, n + 1 => .cons a (vtake r n)
section
variable {X : Cx}
theorem pe_bk2 {e lo st : Expr} {te tl ts : TE} {q3 ps : Pos} (h1 : PE X e te) (hl : PE X lo tl) (h2 : PE X st ts) : PE X (.Subscript e (.Slice (some lo) none (some st) q3) ps) (tBk2 X.K te tl ts) := by
  constructor
  intro pn sh σ H Q J hh
  refine Subscript_ (thn (h1.run pn sh σ H _ J hh) fun v sa ⟨x, Ha, Ja, ra, qa⟩ => ?_)
  have plo : PO X (some lo) (tPart tl) := po_some hl
  refine wpAny_Slice (thn (plo.run pn sa σ Ha _ Ja qa) fun vl sb ⟨lw, Hb, Jb, pl, qb⟩ => ?_)
  refine thn (po_none.run pn sb σ Hb (fun o Hc => o = none ∧ Hc = Hb) Jb ⟨rfl, rfl⟩) fun vu sc ⟨up, Hc, Jc, pu, eup, ec⟩ => ?_
  subst eup ec
  have pst : PO X (some st) (tPart ts) := po_some h2
  refine thn (pst.run pn sc σ Hc _ Jc qb) fun vs sd ⟨o, Hd, Jd, pq, a, xs, ea, elw, eo, hx, q⟩ => ?_
  subst ea eo elw
  cases ra
  have Je : Inv X pn σ Hd { sd with heap := sd.heap.push { cls := .type "slice", data := .fields #[vl, vu, vs] } } := Jd.kept (t' := sd.toks) fun _ _ y => Heap.get?_push_of_some _ y
  obtain ⟨its, rr, ht, hz⟩ := Je.list hx
  have hlen := rr.length
  show wpAny (model X.prog X.w) X.A (subscriptTail e (.Slice (some lo) none (some st) q3) (.ref a) (.ref sd.heap.objs.size)) (EP X pn σ Q) X.xe _
  refine tail_any (ops := [.ref a, .ref sd.heap.objs.size]) ht.isList.typeIs (PySem.slot_list_getitem.lookup) ?_ (by with_unfolding_all rfl)
  refine wpAny_getItem_list_slice ht.isList (Heap.IsSliceOf.new _ vl vu vs) pl pu pq (by decide) ?_ (by
    rw [List.size_toArray]
    omega)
  rw [bk2_pick]
  refine ⟨.ref _, _, Je.laid (t' := sd.toks) (o := .lst (xs.take (xs.length - 1)).reverse) (fun _ _ y => Heap.get?_push_of_some _ y) (Nat.le_refl _) ?_, rfl, q _ (Je.hok.fresh (Nat.le_refl _))⟩
  refine ⟨by rw [List.length_reverse, List.length_take]; omega, _, 0, ?_, Heap.get?_push_size _ rfl⟩
  rw [← hlen]
  exact (vtake rr _).reverse
end
end Dk
namespace Dk
open PySem L2
/-! ### sightings and what they leave -/
abbrev Sgt := Int × Str × Bool
def SgA (H : Hp) (v : V) (s : Sgt) : Prop := ∃ q, v = V.ref q ∧ H q = some (.tup [.int s.1, .str s.2.1, .bl s.2.2])
abbrev SgL := AL SgA
theorem SgA.keep {H H' : Hp} {v : V} {s : Sgt} (k : KeepT H H') (h : SgA H v s) : SgA H' v s := by
  obtain ⟨q, e, h⟩ := h
  exact ⟨q, e, k _ _ h⟩
theorem SgL.keep {H H' : Hp} {xs : List V} {sg : List Sgt} (h : SgL H xs sg) (k : KeepT H H') : SgL H' xs sg := AL.mono h fun _ _ => SgA.keep k
theorem SgL.same {H H' : Hp} {xs : List V} {sg : List Sgt} (h : SgL H xs sg) (k : Same H H') : SgL H' xs sg := SgL.keep h (KeepT.of k)
structure SgOk (zs : List Str) (sg : List Sgt) : Prop where
  bt : ∀ s ∈ sg, beatOk s.1
  rm : ∀ s ∈ sg, s.2.1 ∈ zs
  ln : sg.length ≤ 40
def atP (n : Nat) (i : Nat) (s : Sgt) : Bool := decide (s.1 % (n : Int) = ((i : Nat) : Int))
def agr (r : Str) (s : Sgt) : Bool := decide (decide (r = s.2.1) = s.2.2)
def isL (n : Nat) (sg : List Sgt) (i : Nat) (r : Str) : Bool := (sg.filter (atP n i)).all (agr r)
theorem isL_snoc (n : Nat) (sg : List Sgt) (s : Sgt) (i : Nat) (r : Str) : isL n (sg ++ [s]) i r = (isL n sg i r && (!atP n i s || agr r s)) := by
  unfold isL
  rw [List.filter_append, List.all_append]
  cases e : atP n i s <;> simp [e]
def leftN (zs : List Str) (n : Nat) (sg : List Sgt) : List (List Str) := (List.range n).map fun i => zs.filter (isL n sg i)
def hnd (bh : Str → List Str) (a b : Str) : Bool := decide (b ∈ bh a) || decide (a = b)
def nxtT (bh : Str → List Str) (ah rs : List Str) : List Str := rs.filter fun r => ah.any fun o => hnd bh o r
def trlAt (bh : Str → List Str) (lf : List (List Str)) (f : Str) : Nat → List Str
  | 0 => (lf.getD 0 []).filter fun r => decide (r = f)
  | i + 1 => nxtT bh (trlAt bh lf f i) (lf.getD (i + 1) [])
def trlN (bh : Str → List Str) (lf : List (List Str)) (f : Str) : List (List Str) := (List.range lf.length).map (trlAt bh lf f)
def rowAt (bh : Str → List Str) (rv : List (List Str)) (e : Str) : Nat → Str
  | 0 => e
  | j + 1 => (nxtT bh [rowAt bh rv e j] (rv.getD j [])).headD Str.empty
def alongN (bh : Str → List Str) (ts : List (List Str)) : Option (List Str) :=
  match nxtT bh (ts.getD 0 []) (ts.getD (ts.length - 1) []) with
  | [] => none
  | e :: _ => some ((List.range ts.length).map (rowAt bh (ts.take (ts.length - 1)).reverse e)).reverse
def someN (zs : List Str) (bh : Str → List Str) (lf : List (List Str)) : Option (List Str) := zs.findSome? fun f => alongN bh (trlN bh lf f)
def nrw (lf : List (List Str)) (i : Nat) (rs : List Str) : List (List Str) := lf.take i ++ [rs] ++ lf.drop (i + 1)
structure LfOk (zs : List Str) (lf : List (List Str)) : Prop where
  one : 1 ≤ lf.length
  six : lf.length ≤ 6
  mem : ∀ t ∈ lf, ∀ r ∈ t, r ∈ zs
  eight : ∀ t ∈ lf, t.length ≤ 8
theorem getD_mem' {α : Type} {l : List α} {i : Nat} {d : α} (h : i < l.length) : l.getD i d ∈ l := by
  rw [List.getD_eq_getElem?_getD, List.getElem?_eq_getElem h]
  exact List.getElem_mem h
theorem getD_some {α : Type} {l : List α} {i : Nat} {d x : α} (h : l[i]? = some x) : l.getD i d = x := by
  rw [List.getD_eq_getElem?_getD, h]
  rfl
theorem LfOk.memD {zs : List Str} {lf : List (List Str)} (h : LfOk zs lf) (i : Nat) : ∀ r ∈ lf.getD i [], r ∈ zs := by
  intro r hr
  by_cases e : i < lf.length
  · exact h.mem _ (getD_mem' e) r hr
  · rw [List.getD_eq_getElem?_getD, List.getElem?_eq_none (by omega)] at hr
    simp at hr
theorem LfOk.eightD {zs : List Str} {lf : List (List Str)} (h : LfOk zs lf) (i : Nat) : (lf.getD i []).length ≤ 8 := by
  by_cases e : i < lf.length
  · exact h.eight _ (getD_mem' e)
  · rw [List.getD_eq_getElem?_getD, List.getElem?_eq_none (by omega)]
    simp
theorem leftN_len (zs : List Str) (n : Nat) (sg : List Sgt) : (leftN zs n sg).length = n := by unfold leftN; rw [List.length_map, List.length_range]
theorem leftN_ok {zs : List Str} {n : Nat} {sg : List Sgt} (h1 : 1 ≤ n) (h6 : n ≤ 6) (h8 : zs.length ≤ 8) : LfOk zs (leftN zs n sg) := by
  refine ⟨by rw [leftN_len]; exact h1, by rw [leftN_len]; exact h6, fun t ht r hr => ?_, fun t ht => ?_⟩ <;>
  · obtain ⟨i, _, rfl⟩ := List.mem_map.mp ht
    first
    | exact (List.mem_filter.mp hr).1
    | exact Nat.le_trans (List.length_filter_le ..) h8
theorem nrw_len {lf : List (List Str)} {i : Nat} {rs : List Str} (h : i < lf.length) : (nrw lf i rs).length = lf.length := by
  unfold nrw
  rw [List.length_append, List.length_append, List.length_take, List.length_drop, List.length_singleton]
  omega
theorem nrw_ok {zs : List Str} {lf : List (List Str)} {i : Nat} {rs : List Str} (h : LfOk zs lf) (hi : i < lf.length) (hr : ∀ r ∈ rs, r ∈ zs) (h8 : rs.length ≤ 8) : LfOk zs (nrw lf i rs) := by
  have hm : ∀ t ∈ nrw lf i rs, t = rs ∨ t ∈ lf := fun t ht => by
    unfold nrw at ht
    rcases List.mem_append.mp ht with h1 | h1
    · rcases List.mem_append.mp h1 with h2 | h2
      · exact .inr (List.mem_of_mem_take h2)
      · exact .inl (List.mem_singleton.mp h2)
    · exact .inr (List.mem_of_mem_drop h1)
  refine ⟨by rw [nrw_len hi]; exact h.one, by rw [nrw_len hi]; exact h.six, fun t ht => ?_, fun t ht => ?_⟩
  · rcases hm t ht with rfl | h1
    · exact hr
    · exact h.mem t h1
  · rcases hm t ht with rfl | h1
    · exact h8
    · exact h.eight t h1
theorem trlAt_sub {bh : Str → List Str} {lf : List (List Str)} {f : Str} : ∀ i, ∀ r ∈ trlAt bh lf f i, r ∈ lf.getD i []
  | 0, r, h => (List.mem_filter.mp h).1
  | i + 1, r, h => (List.mem_filter.mp h).1
theorem trlAt_len {bh : Str → List Str} {lf : List (List Str)} {f : Str} : ∀ i, (trlAt bh lf f i).length ≤ (lf.getD i []).length
  | 0 => List.length_filter_le ..
  | i + 1 => List.length_filter_le ..
theorem trlN_len (bh : Str → List Str) (lf : List (List Str)) (f : Str) : (trlN bh lf f).length = lf.length := by unfold trlN; rw [List.length_map, List.length_range]
theorem trlN_get {bh : Str → List Str} {lf : List (List Str)} {f : Str} {i : Nat} (h : i < lf.length) : (trlN bh lf f)[i]? = some (trlAt bh lf f i) := by
  unfold trlN
  rw [List.getElem?_map, List.getElem?_range h]
  rfl
theorem trlN_ok {zs : List Str} {bh : Str → List Str} {lf : List (List Str)} {f : Str} (h : LfOk zs lf) : LfOk zs (trlN bh lf f) := by
  refine ⟨by rw [trlN_len]; exact h.one, by rw [trlN_len]; exact h.six, fun t ht r hr => ?_, fun t ht => ?_⟩ <;>
  · obtain ⟨i, _, rfl⟩ := List.mem_map.mp ht
    first
    | exact h.memD i r (trlAt_sub i r hr)
    | exact Nat.le_trans (trlAt_len i) (h.eightD i)
def SymH (zs : List Str) (bh : Str → List Str) : Prop := ∀ a ∈ zs, ∀ b ∈ zs, hnd bh a b = hnd bh b a
theorem sym_lnk (zs : List Str) (ds : List SS) : SymH zs (lnk zs (both ds)) := by
  intro a ha b hb
  have e : ∀ x ∈ zs, ∀ y ∈ zs, (y ∈ lnk zs (both ds) x ↔ ((x, y) ∈ ds ∨ (y, x) ∈ ds)) := fun x hx y hy => by
    rw [lnk_mem, both_iff]
    exact ⟨fun h => h.2, fun h => ⟨hy, h⟩⟩
  unfold hnd
  rw [Bool.eq_iff_iff, Bool.or_eq_true, Bool.or_eq_true, decide_eq_true_eq, decide_eq_true_eq, decide_eq_true_eq, decide_eq_true_eq, e a ha b hb, e b hb a ha]
  exact ⟨fun h => h.elim (fun h => .inl h.symm) (fun h => .inr h.symm), fun h => h.elim (fun h => .inl h.symm) (fun h => .inr h.symm)⟩
/-- a trail: each room behind the first place has one ahead of it at hand -/
structure TrailOk (zs : List Str) (bh : Str → List Str) (ts : List (List Str)) : Prop extends LfOk zs ts where
  lead : ∀ i x, i + 1 < ts.length → x ∈ ts.getD (i + 1) [] → ∃ o ∈ ts.getD i [], hnd bh o x = true
theorem trlN_trail {zs : List Str} {bh : Str → List Str} {lf : List (List Str)} {f : Str} (h : LfOk zs lf) : TrailOk zs bh (trlN bh lf f) := by
  refine ⟨trlN_ok h, fun i x hi hx => ?_⟩
  rw [trlN_len] at hi
  rw [getD_some (trlN_get hi)] at hx
  rw [getD_some (trlN_get (by omega))]
  have := (List.mem_filter.mp hx).2
  exact List.any_eq_true.mp this
theorem row_in {zs : List Str} {bh : Str → List Str} {ts : List (List Str)} {e : Str} (T : TrailOk zs bh ts) (sy : SymH zs bh) (he : e ∈ ts.getD (ts.length - 1) []) : ∀ j, j < ts.length → rowAt bh (ts.take (ts.length - 1)).reverse e j ∈ ts.getD (ts.length - 1 - j) []
  | 0, _ => he
  | j + 1, hj => by
    have ih := row_in T sy he j (by omega)
    have e1 : (ts.take (ts.length - 1)).reverse.getD j [] = ts.getD (ts.length - 1 - (j + 1)) [] := by
      rw [List.getD_eq_getElem?_getD, List.getD_eq_getElem?_getD, List.getElem?_reverse (by rw [List.length_take]; omega), List.length_take, List.getElem?_take, if_pos (by omega)]
      congr 2
      omega
    obtain ⟨o, ho, hh⟩ := T.lead (ts.length - 1 - (j + 1)) _ (by omega) (by rw [show ts.length - 1 - (j + 1) + 1 = ts.length - 1 - j by omega]; exact ih)
    show (nxtT bh [rowAt bh (ts.take (ts.length - 1)).reverse e j] ((ts.take (ts.length - 1)).reverse.getD j [])).headD Str.empty ∈ _
    rw [e1]
    have hne : o ∈ nxtT bh [rowAt bh (ts.take (ts.length - 1)).reverse e j] (ts.getD (ts.length - 1 - (j + 1)) []) := by
      refine List.mem_filter.mpr ⟨ho, ?_⟩
      rw [List.any_cons, List.any_nil, Bool.or_false, sy _ (T.memD _ _ ih) _ (T.memD _ _ ho)]
      exact hh
    have hs : ∀ r ∈ nxtT bh [rowAt bh (ts.take (ts.length - 1)).reverse e j] (ts.getD (ts.length - 1 - (j + 1)) []), r ∈ ts.getD (ts.length - 1 - (j + 1)) [] := fun r hr => (List.mem_filter.mp hr).1
    generalize nxtT bh [rowAt bh (ts.take (ts.length - 1)).reverse e j] (ts.getD (ts.length - 1 - (j + 1)) []) = l at hne hs
    match l, hne, hs with
    | y :: _, _, hs => exact hs y (List.mem_cons_self ..)
/-- the next step of the way back is there -/
theorem row_next {zs : List Str} {bh : Str → List Str} {ts : List (List Str)} {e : Str} (T : TrailOk zs bh ts) (sy : SymH zs bh) (he : e ∈ ts.getD (ts.length - 1) []) {j : Nat} (hj : j + 1 < ts.length) : (ts.take (ts.length - 1)).reverse[j]? = some (ts.getD (ts.length - 1 - (j + 1)) []) ∧ (nxtT bh [rowAt bh (ts.take (ts.length - 1)).reverse e j] (ts.getD (ts.length - 1 - (j + 1)) []))[0]? = some (rowAt bh (ts.take (ts.length - 1)).reverse e (j + 1)) := by
  have ih := row_in T sy he j (by omega)
  have e0 : (ts.take (ts.length - 1)).reverse[j]? = some (ts.getD (ts.length - 1 - (j + 1)) []) := by
    rw [List.getElem?_reverse (by rw [List.length_take]; omega), List.length_take, List.getElem?_take, if_pos (by omega), List.getD_eq_getElem?_getD]
    rw [show min (ts.length - 1) ts.length - 1 - j = ts.length - 1 - (j + 1) by omega, List.getElem?_eq_getElem (by omega)]
    rfl
  refine ⟨e0, ?_⟩
  obtain ⟨o, ho, hh⟩ := T.lead (ts.length - 1 - (j + 1)) _ (by omega) (by rw [show ts.length - 1 - (j + 1) + 1 = ts.length - 1 - j by omega]; exact ih)
  have hne : o ∈ nxtT bh [rowAt bh (ts.take (ts.length - 1)).reverse e j] (ts.getD (ts.length - 1 - (j + 1)) []) := by
    refine List.mem_filter.mpr ⟨ho, ?_⟩
    rw [List.any_cons, List.any_nil, Bool.or_false, sy _ (T.memD _ _ ih) _ (T.memD _ _ ho)]
    exact hh
  show _ = some ((nxtT bh [rowAt bh (ts.take (ts.length - 1)).reverse e j] ((ts.take (ts.length - 1)).reverse.getD j [])).headD Str.empty)
  rw [getD_some e0]
  generalize nxtT bh [rowAt bh (ts.take (ts.length - 1)).reverse e j] (ts.getD (ts.length - 1 - (j + 1)) []) = l at hne
  match l, hne with
  | y :: _, _ => rfl
/-! ### the law's counting -/
def cAt (zs : List Str) (bh : Str → List Str) (lf : List (List Str)) (f : Str) : Nat → List (Str × Int)
  | 0 => [(f, 1)]
  | i + 1 => (lf.getD (i + 1) []).map fun r => (r, (((cAt zs bh lf f i).filter fun p => decide (p.1 ∈ handN zs bh r)).map (·.2)).sum)
def cFin (zs : List Str) (bh : Str → List Str) (lf : List (List Str)) (f : Str) : Int := (((cAt zs bh lf f (lf.length - 1)).filter fun p => decide (p.1 ∈ handN zs bh f)).map (·.2)).sum
def cntN (zs : List Str) (bh : Str → List Str) (lf : List (List Str)) : Int := ((lf.getD 0 []).map (cFin zs bh lf)).sum
theorem sum_nn : ∀ {l : List Int}, (∀ x ∈ l, 0 ≤ x) → 0 ≤ l.sum ∧ (0 < l.sum ↔ ∃ x ∈ l, 0 < x)
  | [], _ => ⟨by simp, by simp⟩
  | x :: l, h => by
    obtain ⟨a, b⟩ := sum_nn (l := l) fun y hy => h y (List.mem_cons_of_mem _ hy)
    have hx := h x (List.mem_cons_self ..)
    rw [List.sum_cons]
    refine ⟨by omega, ⟨fun p => ?_, fun ⟨y, hy, py⟩ => ?_⟩⟩
    · by_cases e : 0 < x
      · exact ⟨x, List.mem_cons_self .., e⟩
      · obtain ⟨y, hy, py⟩ := b.mp (by omega)
        exact ⟨y, List.mem_cons_of_mem _ hy, py⟩
    · rcases List.mem_cons.mp hy with rfl | hy
      · omega
      · have := b.mpr ⟨y, hy, py⟩
        omega
theorem hand_mem {zs : List Str} {bh : Str → List Str} {a b : Str} : b ∈ handN zs bh a ↔ b ∈ zs ∧ hnd bh a b = true := by
  unfold handN hnd
  rw [List.mem_filter]
theorem psum {l : List (Str × Int)} {p : Str × Int → Bool} (h : ∀ x ∈ l, 0 ≤ x.2) : 0 ≤ ((l.filter p).map (·.2)).sum ∧ (0 < ((l.filter p).map (·.2)).sum ↔ ∃ x ∈ l, p x = true ∧ 0 < x.2) := by
  obtain ⟨a, b⟩ := sum_nn (l := (l.filter p).map (·.2)) fun y hy => by
    obtain ⟨x, hx, rfl⟩ := List.mem_map.mp hy
    exact h x (List.mem_filter.mp hx).1
  refine ⟨a, b.trans ⟨fun ⟨y, hy, py⟩ => ?_, fun ⟨x, hx, px, qx⟩ => ⟨x.2, List.mem_map.mpr ⟨x, List.mem_filter.mpr ⟨hx, px⟩, rfl⟩, qx⟩⟩⟩
  obtain ⟨x, hx, rfl⟩ := List.mem_map.mp hy
  exact ⟨x, (List.mem_filter.mp hx).1, (List.mem_filter.mp hx).2, py⟩
theorem c_trl {zs : List Str} {bh : Str → List Str} {lf : List (List Str)} {f : Str} (L : LfOk zs lf) (sy : SymH zs bh) (hf : f ∈ lf.getD 0 []) : ∀ i, (∀ x ∈ cAt zs bh lf f i, x.1 ∈ lf.getD i [] ∧ 0 ≤ x.2 ∧ (0 < x.2 ↔ x.1 ∈ trlAt bh lf f i)) ∧ ∀ r ∈ trlAt bh lf f i, ∃ c, (r, c) ∈ cAt zs bh lf f i
  | 0 => by
    refine ⟨fun x hx => ?_, fun r hr => ?_⟩
    · rw [show x = (f, 1) from List.mem_singleton.mp hx]
      exact ⟨hf, by show (0 : Int) ≤ 1; decide, ⟨fun _ => List.mem_filter.mpr ⟨hf, decide_eq_true rfl⟩, fun _ => by show (0 : Int) < 1; decide⟩⟩
    · have := of_decide_eq_true (List.mem_filter.mp hr).2
      subst this
      exact ⟨1, List.mem_singleton.mpr rfl⟩
  | i + 1 => by
    obtain ⟨h1, h2⟩ := c_trl L sy hf i
    refine ⟨fun x hx => ?_, fun r hr => ⟨_, List.mem_map.mpr ⟨r, trlAt_sub (i + 1) r hr, rfl⟩⟩⟩
    obtain ⟨r, hr, rfl⟩ := List.mem_map.mp hx
    obtain ⟨a, b⟩ := psum (l := cAt zs bh lf f i) (p := fun p => decide (p.1 ∈ handN zs bh r)) fun x hx => (h1 x hx).2.1
    refine ⟨hr, a, b.trans ⟨fun ⟨x, hx, px, qx⟩ => ?_, fun h => ?_⟩⟩
    · obtain ⟨k1, k2, k3⟩ := h1 x hx
      refine List.mem_filter.mpr ⟨hr, List.any_eq_true.mpr ⟨x.1, k3.mp qx, ?_⟩⟩
      have := hand_mem.mp (of_decide_eq_true px)
      rw [sy _ (L.memD _ _ k1) _ (L.memD _ _ hr)]
      exact this.2
    · obtain ⟨o, ho, hh⟩ := List.any_eq_true.mp (List.mem_filter.mp h).2
      obtain ⟨c, hc⟩ := h2 o ho
      obtain ⟨k1, k2, k3⟩ := h1 _ hc
      refine ⟨_, hc, decide_eq_true (hand_mem.mpr ⟨L.memD _ _ k1, ?_⟩), k3.mpr ho⟩
      rw [sy _ (L.memD _ _ hr) _ (L.memD _ _ k1)]
      exact hh
theorem fin_trl {zs : List Str} {bh : Str → List Str} {lf : List (List Str)} {f : Str} (L : LfOk zs lf) (sy : SymH zs bh) (hf : f ∈ lf.getD 0 []) : 0 ≤ cFin zs bh lf f ∧ (0 < cFin zs bh lf f ↔ (alongN bh (trlN bh lf f)).isSome = true) := by
  obtain ⟨h1, h2⟩ := c_trl L sy hf (lf.length - 1)
  have l1 := L.one
  obtain ⟨a, b⟩ := psum (l := cAt zs bh lf f (lf.length - 1)) (p := fun p => decide (p.1 ∈ handN zs bh f)) fun x hx => (h1 x hx).2.1
  refine ⟨a, b.trans ?_⟩
  unfold alongN
  rw [trlN_len, getD_some (trlN_get (show 0 < lf.length by omega)), getD_some (trlN_get (show lf.length - 1 < lf.length by omega))]
  have hz := L.memD _ _ hf
  have e : ∀ r, r ∈ nxtT bh (trlAt bh lf f 0) (trlAt bh lf f (lf.length - 1)) ↔ r ∈ trlAt bh lf f (lf.length - 1) ∧ hnd bh f r = true := fun r => by
    unfold nxtT
    rw [List.mem_filter]
    refine and_congr_right fun _ => List.any_eq_true.trans ⟨fun ⟨o, ho, hh⟩ => ?_, fun hh => ⟨f, List.mem_filter.mpr ⟨hf, decide_eq_true rfl⟩, hh⟩⟩
    have := of_decide_eq_true (List.mem_filter.mp ho).2
    subst this
    exact hh
  generalize nxtT bh (trlAt bh lf f 0) (trlAt bh lf f (lf.length - 1)) = l at e
  have e2 : (∃ r, r ∈ l) ↔ (match l with | [] => none | e :: _ => some ((List.range lf.length).map (rowAt bh ((trlN bh lf f).take (lf.length - 1)).reverse e)).reverse).isSome = true := by
    cases l with
    | nil => simp
    | cons y r => exact ⟨fun _ => rfl, fun _ => ⟨y, List.mem_cons_self ..⟩⟩
  refine Iff.trans ?_ e2
  constructor
  · rintro ⟨x, hx, px, qx⟩
    obtain ⟨k1, k2, k3⟩ := h1 x hx
    exact ⟨x.1, (e _).mpr ⟨k3.mp qx, (hand_mem.mp (of_decide_eq_true px)).2⟩⟩
  · rintro ⟨r, hr⟩
    obtain ⟨k1, k2⟩ := (e r).mp hr
    obtain ⟨c, hc⟩ := h2 r k1
    exact ⟨_, hc, decide_eq_true (hand_mem.mpr ⟨L.memD _ _ (h1 _ hc).1, k2⟩), (h1 _ hc).2.2.mpr k1⟩
theorem along_none {bh : Str → List Str} {lf : List (List Str)} {f : Str} (l1 : 1 ≤ lf.length) (hf : f ∉ lf.getD 0 []) : alongN bh (trlN bh lf f) = none := by
  unfold alongN
  rw [trlN_len, getD_some (trlN_get (show 0 < lf.length by omega))]
  have e : trlAt bh lf f 0 = [] := List.filter_eq_nil_iff.mpr fun r hr hd => hf ((of_decide_eq_true hd) ▸ hr)
  rw [e]
  have : ∀ rs, nxtT bh [] rs = [] := fun rs => List.filter_eq_nil_iff.mpr fun r _ h => by simp at h
  rw [this]
/-- a round is found just where the law counts one -/
theorem some_cnt {zs : List Str} {bh : Str → List Str} {lf : List (List Str)} (L : LfOk zs lf) (sy : SymH zs bh) : 0 < cntN zs bh lf ↔ (someN zs bh lf).isSome = true := by
  obtain ⟨a, b⟩ := sum_nn (l := (lf.getD 0 []).map (cFin zs bh lf)) fun y hy => by
    obtain ⟨f, hf, rfl⟩ := List.mem_map.mp hy
    exact (fin_trl L sy hf).1
  refine b.trans ?_
  unfold someN
  rw [List.isSome_findSome?, List.any_eq_true]
  constructor
  · rintro ⟨y, hy, py⟩
    obtain ⟨f, hf, rfl⟩ := List.mem_map.mp hy
    exact ⟨f, L.memD _ _ hf, (fin_trl L sy hf).2.mp py⟩
  · rintro ⟨f, hf, h⟩
    by_cases e : f ∈ lf.getD 0 []
    · exact ⟨_, List.mem_map.mpr ⟨f, e, rfl⟩, (fin_trl L sy e).2.mpr h⟩
    · rw [along_none L.one e] at h
      exact absurd h (by simp)
end Dk
namespace Dk
open PySem L2
/-! ### a comprehension over a list or a tuple -/
theorem lc_sq {K : PySem.W.Frag} {j : Nat} {p : Addr} {xs : List V} {g : TG} {tt : TT} {te : TE} {vs : List Nat} {σ : L2.St} {H0 H : Hp} {Q : VK} (hS : Sq K H0 p xs) (hv : σ[j]? = some (some (V.ref p))) (s0 : Same H0 H) (Pv : Addr → Nat → Hp → Prop)
    (h0 : ∀ D, H D = none → Pv D 0 (upd H D (.lst []))) (hk : ∀ D i H', Pv D i H' → Same H0 H')
    (hs : ∀ D i x H', H D = none → xs[i]? = some x → Pv D i H' → g x (wipe σ vs) H' fun σ2 H2 => wipe σ2 vs = wipe σ vs ∧ tt σ2 H2 fun b H3 => if b = true then te σ2 H3 fun y H4 => ∃ acc, H4 D = some (.lst acc) ∧ acc.length < sizeLine ∧ Pv D (i + 1) (upd H4 D (.lst (acc ++ [y]))) else Pv D (i + 1) H3)
    (hd : ∀ D H', H D = none → Pv D xs.length H' → Q (.ref D) H') : tLc (fun σ H R => iList K (tVar j) σ H R ∨ iTup K (tVar j) σ H R) g tt te vs σ H Q := by
  rcases hS with hS | hS
  · refine .inl ⟨_, hv, p, rfl, ⟨_, s0.seq hS⟩, fun D nD => ?_⟩
    refine it_any (walk_list (K := K) (a := p) (xs := xs)) (fun i H' => Pv D i H') (h0 D nD) (fun i H' _ z => (hk D i H' z).seq hS) ?_ (fun H' z => hd D H' nD z)
    rintro i x H1 H2 hi z ⟨rfl, hx⟩
    exact hs D i x _ nD hx z
  · refine .inr ⟨_, hv, p, rfl, ⟨_, Same.tup s0 hS⟩, fun D nD => ?_⟩
    refine it_any (walk_tup (K := K) (a := p) (xs := xs)) (fun i H' => Pv D i H') (h0 D nD) (fun i H' _ z => Same.tup (hk D i H' z) hS) ?_ (fun H' z => hd D H' nD z)
    rintro i x H1 H2 hi z ⟨rfl, hx⟩
    exact hs D i x _ nD hx z
/-! ### rows of rows whose places have some property -/
def SlX (N : Addr → Prop) (H : Hp) (v : V) (o : List Str) : Prop := ∃ q, N q ∧ v = V.ref q ∧ H q = some (.lst (o.map V.str))
abbrev SxL (N : Addr → Prop) := AL (SlX N)
theorem SxL.same {N : Addr → Prop} {H H' : Hp} {xs : List V} {ps : List (List Str)} (h : SxL N H xs ps) (k : Same H H') : SxL N H' xs ps := AL.mono h fun _ _ ⟨q, n, e, h⟩ => ⟨q, n, e, k _ _ h⟩
theorem SxL.put {N : Addr → Prop} {H : Hp} {xs : List V} {ps : List (List Str)} {D : Addr} {o : HO} (h : SxL N H xs ps) (k : ¬ N D) : SxL N (upd H D o) xs ps := ⟨h.1, fun i x p a b => by
  obtain ⟨q, n, e, z⟩ := h.2 i x p a b
  exact ⟨q, n, e, by rw [upd_ne (show q ≠ D from fun y => k (y ▸ n))]; exact z⟩⟩
theorem SxL.of {N : Addr → Prop} {H : Hp} {xs : List V} {ps : List (List Str)} (h : SxL N H xs ps) : SsL H xs ps := ⟨h.1, fun i x p a b => by
  obtain ⟨q, n, e, z⟩ := h.2 i x p a b
  exact ⟨q, e, z⟩⟩
theorem SxL.mono {N M : Addr → Prop} {H : Hp} {xs : List V} {ps : List (List Str)} (h : SxL N H xs ps) (k : ∀ q, N q → M q) : SxL M H xs ps := ⟨h.1, fun i x p a b => by
  obtain ⟨q, n, e, z⟩ := h.2 i x p a b
  exact ⟨q, k q n, e, z⟩⟩
theorem filter_takeG' {α : Type} {zs : List α} {f : α → Bool} {b : α} {i : Nat} (e : zs[i]? = some b) : (zs.take (i + 1)).filter f = (zs.take i).filter f ++ (if f b = true then [b] else []) := by
  rw [take_snoc' e, List.filter_append]
  cases h : f b <;> simp [h]
theorem range_take {n i : Nat} (h : i ≤ n) : (List.range n).take i = List.range i := by
  rw [List.take_range, Nat.min_eq_left h]
theorem map_range_snoc {α : Type} (f : Nat → α) (i : Nat) : (List.range (i + 1)).map f = (List.range i).map f ++ [f i] := by rw [List.range_succ, List.map_append]; rfl
/-! ### promises -/
def spNeedSeen (K : PySem.W.Frag) (C : Addr) : Sp := fun vs H Q _ => ∃ (h p : Addr) (zs : List Str) (bh vw : Str → List Str) (n : Nat) (xs : List V) (sg : List Sgt), vs = [.ref h, .int (n : Nat), .ref p] ∧ Hs C H h zs bh vw ∧ 1 ≤ n ∧ n ≤ 6 ∧ Sq K H p xs ∧ SgL H xs sg ∧ SgOk zs sg ∧ ∀ H', Same H H' → Q .non H'
def spIsLeft (K : PySem.W.Frag) : Sp := fun vs H Q _ => ∃ (p : Addr) (n i : Nat) (xs : List V) (sg : List Sgt) (r : Str), vs = [.int (n : Nat), .ref p, .int (i : Nat), .str r] ∧ 1 ≤ n ∧ Sq K H p xs ∧ SgL H xs sg ∧ sg.length ≤ 40 ∧ ∀ H', Same H H' → Q (.bl (isL n sg i r)) H'
def spRoomsLeft (K : PySem.W.Frag) (C : Addr) : Sp := fun vs H Q _ => ∃ (h p : Addr) (zs : List Str) (bh vw : Str → List Str) (n : Nat) (xs : List V) (sg : List Sgt), vs = [.ref h, .int (n : Nat), .ref p] ∧ Hs C H h zs bh vw ∧ zs.length ≤ 8 ∧ 1 ≤ n ∧ n ≤ 6 ∧ Sq K H p xs ∧ SgL H xs sg ∧ SgOk zs sg ∧ ∀ (H' : Hp) (q : Addr) (ys : List V), Same H H' → H q = none → H' q = some (.lst ys) → SsL H' ys (leftN zs n sg) → Q (.ref q) H'
def spNextTo (C : Addr) : Sp := fun vs H Q _ => ∃ (h a r : Addr) (zs : List Str) (bh vw : Str → List Str) (ah rs : List Str), vs = [.ref h, .ref a, .ref r] ∧ Hs C H h zs bh vw ∧ H a = some (.lst (ah.map V.str)) ∧ H r = some (.lst (rs.map V.str)) ∧ (∀ x ∈ ah, x ∈ zs) ∧ (∀ x ∈ rs, x ∈ zs) ∧ ah.length ≤ 100 ∧ rs.length ≤ 100 ∧ ∀ (H' : Hp) (q : Addr), Same H H' → H q = none → H' q = some (.lst ((nxtT bh ah rs).map V.str)) → Q (.ref q) H'
def spTrailOf (C : Addr) : Sp := fun vs H Q _ => ∃ (h l : Addr) (zs : List Str) (bh vw : Str → List Str) (xs : List V) (lf : List (List Str)) (f : Str), vs = [.ref h, .ref l, .str f] ∧ Hs C H h zs bh vw ∧ H l = some (.lst xs) ∧ SsL H xs lf ∧ LfOk zs lf ∧ ∀ (H' : Hp) (q : Addr) (ys : List V), Same H H' → H q = none → H' q = some (.lst ys) → SxL (fun a => H a = none ∧ a ≠ q) H' ys (trlN bh lf f) → Q (.ref q) H'
def OptR (Q : VK) (H H' : Hp) (o : Option (List Str)) : Prop := match o with
  | none => Q .non H'
  | some r => ∀ q, H q = none → H' q = some (.tup (r.map V.str)) → Q (.ref q) H'
def spAlong (C : Addr) : Sp := fun vs H Q _ => ∃ (h l : Addr) (zs : List Str) (bh vw : Str → List Str) (xs : List V) (ts : List (List Str)), vs = [.ref h, .ref l] ∧ Hs C H h zs bh vw ∧ SymH zs bh ∧ H l = some (.lst xs) ∧ SsL H xs ts ∧ TrailOk zs bh ts ∧ (alongN bh ts = none → ∀ H', Same H H' → Q .non H') ∧ ∀ r, alongN bh ts = some r → ∀ (H' : Hp) (q : Addr), Same H H' → H q = none → H' q = some (.tup (r.map V.str)) → Q (.ref q) H'
def spSome (C : Addr) : Sp := fun vs H Q _ => ∃ (h l : Addr) (zs : List Str) (bh vw : Str → List Str) (xs : List V) (lf : List (List Str)), vs = [.ref h, .ref l] ∧ Hs C H h zs bh vw ∧ SymH zs bh ∧ zs.length ≤ 8 ∧ H l = some (.lst xs) ∧ SsL H xs lf ∧ LfOk zs lf ∧ (someN zs bh lf = none → ∀ H', Same H H' → Q .non H') ∧ ∀ r, someN zs bh lf = some r → ∀ (H' : Hp) (q : Addr), Same H H' → H q = none → H' q = some (.tup (r.map V.str)) → Q (.ref q) H'
def spNarrowed : Sp := fun vs H Q _ => ∃ (l r : Addr) (xs : List V) (lf : List (List Str)) (rs : List Str) (i : Nat), vs = [.ref l, .int (i : Nat), .ref r] ∧ H l = some (.lst xs) ∧ SsL H xs lf ∧ H r = some (.lst (rs.map V.str)) ∧ i < lf.length ∧ lf.length ≤ 6 ∧ ∀ (H' : Hp) (q : Addr) (ys : List V), Same H H' → H q = none → H' q = some (.lst ys) → SsL H' ys (nrw lf i rs) → Q (.ref q) H'
def canN (zs : List Str) (bh : Str → List Str) (lf : List (List Str)) (i : Nat) : List Str := (lf.getD i []).filter fun r => (someN zs bh (nrw lf i [r])).isSome
def spCanBe (K : PySem.W.Frag) (C : Addr) : Sp := fun vs H Q _ => ∃ (h p : Addr) (zs : List Str) (bh vw : Str → List Str) (n : Nat) (xs : List V) (sg : List Sgt) (b : Int), vs = [.ref h, .int (n : Nat), .ref p, .int b] ∧ Hs C H h zs bh vw ∧ SymH zs bh ∧ zs.length ≤ 8 ∧ 1 ≤ n ∧ n ≤ 6 ∧ Sq K H p xs ∧ SgL H xs sg ∧ SgOk zs sg ∧ beatOk b ∧ ∀ (H' : Hp) (q : Addr), Same H H' → H q = none → H' q = some (.lst ((canN zs bh (leftN zs n sg) (rest b n)).map V.str)) → Q (.ref q) H'
end Dk
namespace Dk
open PySem L2
theorem cut_dropV (xs : List V) (i : Nat) : cutV xs (some ((i : Nat) : Int)) none = xs.drop i := by
  unfold cutV
  rw [show HT.sIx xs.length 0 (some ((i : Nat) : Int)) = min i xs.length from HT.sIx_nat _ 0 i, HT.sIx_none]
  by_cases h : i ≤ xs.length
  · rw [Nat.min_eq_left h, List.take_of_length_le (by rw [List.length_drop]; omega)]
  · rw [Nat.min_eq_right (by omega), List.drop_of_length_le (Nat.le_refl _), List.drop_of_length_le (by omega)]
    simp
theorem SsL.get {H : Hp} {xs : List V} {lf : List (List Str)} (h : SsL H xs lf) {i : Nat} (hi : i < lf.length) : ∃ q, xs[i]? = some (V.ref q) ∧ H q = some (.lst ((lf.getD i []).map V.str)) := by
  obtain ⟨x, ex, q, rfl, hq⟩ := AL.of h (List.getElem?_eq_getElem hi)
  refine ⟨q, ex, ?_⟩
  rw [hq, getD_some (List.getElem?_eq_getElem hi)]
theorem SsL.drop {H : Hp} {xs : List V} {lf : List (List Str)} (h : SsL H xs lf) (n : Nat) : SsL H (xs.drop n) (lf.drop n) := ⟨by rw [List.length_drop, List.length_drop, h.1], fun i x p a b => h.2 (n + i) x p (by rw [← List.getElem?_drop]; exact a) (by rw [← List.getElem?_drop]; exact b)⟩
theorem take_get {α : Type} {l : List α} {n i : Nat} {x : α} (h : (l.take n)[i]? = some x) : l[i]? = some x := by
  rw [List.getElem?_take] at h
  split at h
  · exact h
  · cases h
theorem SsL.take {H : Hp} {xs : List V} {lf : List (List Str)} (h : SsL H xs lf) (n : Nat) : SsL H (xs.take n) (lf.take n) := ⟨by rw [List.length_take, List.length_take, h.1], fun i x p a b => h.2 i x p (take_get a) (take_get b)⟩
theorem SsL.append {H : Hp} {xs ys : List V} {lf lg : List (List Str)} (h : SsL H xs lf) (g : SsL H ys lg) : SsL H (xs ++ ys) (lf ++ lg) := by
  refine ⟨by rw [List.length_append, List.length_append, h.1, g.1], fun i x p a b => ?_⟩
  by_cases e : i < xs.length
  · rw [List.getElem?_append_left e] at a
    rw [List.getElem?_append_left (by rw [← h.1]; exact e)] at b
    exact h.2 i x p a b
  · rw [List.getElem?_append_right (by omega)] at a
    rw [List.getElem?_append_right (by rw [← h.1]; omega), ← h.1] at b
    exact g.2 _ x p a b
theorem SsL.reverse {H : Hp} {xs : List V} {lf : List (List Str)} (h : SsL H xs lf) : SsL H xs.reverse lf.reverse := by
  refine ⟨by rw [List.length_reverse, List.length_reverse, h.1], fun i x p a b => ?_⟩
  have hi : i < xs.length := by
    have := (List.getElem?_eq_some_iff.mp a).1
    rw [List.length_reverse] at this
    exact this
  rw [List.getElem?_reverse hi] at a
  rw [List.getElem?_reverse (by rw [← h.1]; exact hi), ← h.1] at b
  exact h.2 _ x p a b
end Dk
namespace Dk
open PySem L2
theorem find_at {α β : Type} {g : α → Option β} : ∀ {l : List α} {j : Nat} {x : α} {r : β}, l[j]? = some x → (∀ y ∈ l.take j, g y = none) → g x = some r → l.findSome? g = some r
  | y :: l, 0, x, r, e, _, h => by
    have : y = x := Option.some.inj e
    subst this
    rw [List.findSome?_cons, h]
  | y :: l, j + 1, x, r, e, hn, h => by
    rw [List.findSome?_cons, hn y (by rw [List.take_succ_cons]; exact List.mem_cons_self ..)]
    exact find_at (l := l) (j := j) e (fun z hz => hn z (by rw [List.take_succ_cons]; exact List.mem_cons_of_mem _ hz)) h
theorem find_no {α β : Type} {g : α → Option β} {l : List α} (h : ∀ y ∈ l, g y = none) : l.findSome? g = none := List.findSome?_eq_none_iff.mpr h
theorem str_dec (a b : Str) : decide (V.str a = V.str b) = decide (a = b) := by
  rw [Bool.eq_iff_iff, decide_eq_true_eq, decide_eq_true_eq]
  exact ⟨fun z => V.str.inj z, fun z => by rw [z]⟩
theorem int_dec (a b : Int) : decide (V.int a = V.int b) = decide (a = b) := by
  rw [Bool.eq_iff_iff, decide_eq_true_eq, decide_eq_true_eq]
  exact ⟨fun z => V.int.inj z, fun z => by rw [z]⟩
end Dk
namespace Dk
open PySem L2
/-! ### lists of things cut and joined -/
section
variable {α : Type} {R : Hp → V → α → Prop} {H : Hp} {xs ys : List V} {ps qs : List α}
theorem AL.take' (h : AL R H xs ps) (n : Nat) : AL R H (xs.take n) (ps.take n) := ⟨by rw [List.length_take, List.length_take, h.1], fun i x p a b => h.2 i x p (take_get a) (take_get b)⟩
theorem AL.drop' (h : AL R H xs ps) (n : Nat) : AL R H (xs.drop n) (ps.drop n) := ⟨by rw [List.length_drop, List.length_drop, h.1], fun i x p a b => h.2 (n + i) x p (by rw [← List.getElem?_drop]; exact a) (by rw [← List.getElem?_drop]; exact b)⟩
theorem AL.app (h : AL R H xs ps) (g : AL R H ys qs) : AL R H (xs ++ ys) (ps ++ qs) := by
  refine ⟨by rw [List.length_append, List.length_append, h.1, g.1], fun i x p a b => ?_⟩
  by_cases e : i < xs.length
  · rw [List.getElem?_append_left e] at a
    rw [List.getElem?_append_left (by rw [← h.1]; exact e)] at b
    exact h.2 i x p a b
  · rw [List.getElem?_append_right (by omega)] at a
    rw [List.getElem?_append_right (by rw [← h.1]; omega), ← h.1] at b
    exact g.2 _ x p a b
end
theorem SgOk.put {zs : List Str} {sg : List Sgt} {x : Sgt} {i : Nat} (h : SgOk zs sg) (l : sg.length < 40) (hb : beatOk x.1) (hr : x.2.1 ∈ zs) : SgOk zs (sg.take i ++ [x] ++ sg.drop i) := by
  have hm : ∀ s ∈ sg.take i ++ [x] ++ sg.drop i, s = x ∨ s ∈ sg := fun s hs => by
    rcases List.mem_append.mp hs with h1 | h1
    · rcases List.mem_append.mp h1 with h2 | h2
      · exact .inr (List.mem_of_mem_take h2)
      · exact .inl (List.mem_singleton.mp h2)
    · exact .inr (List.mem_of_mem_drop h1)
  refine ⟨fun s hs => ?_, fun s hs => ?_, ?_⟩
  · rcases hm s hs with rfl | h1
    · exact hb
    · exact h.bt s h1
  · rcases hm s hs with rfl | h1
    · exact hr
    · exact h.rm s h1
  · rw [List.length_append, List.length_append, List.length_take, List.length_drop, List.length_singleton]
    omega
theorem SgOk.take {zs : List Str} {sg : List Sgt} (h : SgOk zs sg) (n : Nat) : SgOk zs (sg.take n) := ⟨fun s hs => h.bt s (List.mem_of_mem_take hs), fun s hs => h.rm s (List.mem_of_mem_take hs), by rw [List.length_take]; have := h.ln; omega⟩
theorem SgOk.nil {zs : List Str} : SgOk zs [] := ⟨(fun s hs => absurd hs (List.not_mem_nil)), (fun s hs => absurd hs (List.not_mem_nil)), (by show 0 ≤ 40; decide)⟩
theorem SgOk.snoc {zs : List Str} {sg : List Sgt} {x : Sgt} (h : SgOk zs sg) (l : sg.length < 40) (hb : beatOk x.1) (hr : x.2.1 ∈ zs) : SgOk zs (sg ++ [x]) := by
  have := h.put (i := sg.length) (x := x) l hb hr
  rw [List.take_length, List.drop_length, List.append_nil] at this
  exact this
/-! ### promises of the law's parts -/
def spLied : Sp := fun vs H Q _ => ∃ (b l t p : Addr) (zs : List Str) (ds ss : List SS) (xs : List V) (sg : List Sgt), vs = [.ref b, .ref t, .ref p] ∧ Box H b l ∧ LHouseN b H t zs ds ss ∧ Good zs ds ss ∧ H p = some (.lst xs) ∧ SgL H xs sg ∧ SgOk zs sg ∧ sg.length ≤ 30 ∧ ∀ (H' : Hp) (q : Addr) (ys : List V) (sg' : List Sgt), Sav b H H' → Box H' b l → H q = none → H' q = some (.lst ys) → SgL H' ys sg' → SgOk zs sg' → sg'.length ≤ sg.length + 2 → Q (.ref q) H'
def spSightings : Sp := fun vs H Q _ => ∃ (b l t p : Addr) (m : Int) (zs : List Str) (ds ss : List SS) (rs : List Str), vs = [.ref b, .ref t, .ref p, .int m] ∧ Box H b l ∧ LHouseN b H t zs ds ss ∧ Good zs ds ss ∧ H p = some (.tup (rs.map V.str)) ∧ 0 < rs.length ∧ rs.length ≤ 100 ∧ (∀ r ∈ rs, r ∈ zs) ∧ 0 ≤ m ∧ m ≤ 20 ∧ ∀ (H' : Hp) (q : Addr) (ys : List V) (sg : List Sgt), Sav b H H' → Box H' b l → H q = none → H' q = some (.lst ys) → SgL H' ys sg → SgOk zs sg → (sg.length : Int) ≤ m → Q (.ref q) H'
def spLawLet (K : PySem.W.Frag) : Sp := fun vs H Q _ => ∃ (t p : Addr) (n : Nat) (zs : List Str) (ds ss : List SS) (xs : List V) (sg : List Sgt), vs = [.ref t, .int (n : Nat), .ref p] ∧ LHouse H t zs ds ss ∧ Good zs ds ss ∧ 1 ≤ n ∧ n ≤ 6 ∧ H p = some (.lst xs) ∧ SgL H xs sg ∧ sg.length ≤ 40 ∧ ∀ (H' : Hp) (q : Addr) (ys : List V), Same H H' → H q = none → H' q = some (.lst ys) → SsL H' ys (leftN zs n sg) → Q (.ref q) H'
def spCount : Sp := fun vs H Q _ => ∃ (t p : Addr) (zs : List Str) (ds ss : List SS) (xs : List V) (lf : List (List Str)), vs = [.ref t, .ref p] ∧ LHouse H t zs ds ss ∧ Good zs ds ss ∧ H p = some (.lst xs) ∧ SsL H xs lf ∧ LfOk zs lf ∧ ∀ H', Same H H' → Q (.int (cntN zs (lnk zs (both ds)) lf)) H'
/-- pairs of a room and a number -/
def CpA (H : Hp) (v : V) (p : Str × Int) : Prop := ∃ q, v = V.ref q ∧ H q = some (.tup [.str p.1, .int p.2])
abbrev CpL := AL CpA
theorem CpL.keep {H H' : Hp} {xs : List V} {ps : List (Str × Int)} (h : CpL H xs ps) (k : KeepT H H') : CpL H' xs ps := AL.mono h fun _ _ ⟨q, e, z⟩ => ⟨q, e, k _ _ z⟩
theorem CpL.same {H H' : Hp} {xs : List V} {ps : List (Str × Int)} (h : CpL H xs ps) (k : Same H H') : CpL H' xs ps := CpL.keep h (KeepT.of k)
theorem isL_take {n : Nat} {sg : List Sgt} {j : Nat} {s : Sgt} (e : sg[j]? = some s) (i : Nat) (zs : List Str) : zs.filter (isL n (sg.take (j + 1)) i) = if atP n i s = true then (zs.filter (isL n (sg.take j) i)).filter (fun r => agr r s) else zs.filter (isL n (sg.take j) i) := by
  have e1 : isL n (sg.take (j + 1)) i = fun r => (isL n (sg.take j) i r && (!atP n i s || agr r s)) := by
    funext r
    rw [take_snoc' e, isL_snoc]
  rw [e1]
  by_cases h : atP n i s = true
  · rw [if_pos h, List.filter_filter]
    congr 1
    funext r
    rw [h]
    simp [Bool.and_comm]
  · rw [if_neg h]
    congr 1
    funext r
    have : atP n i s = false := by simpa using h
    rw [this]
    simp
theorem isL_nil (n i : Nat) (zs : List Str) : zs.filter (isL n [] i) = zs := List.filter_eq_self.mpr fun r _ => rfl
theorem bl_dec (a b : Bool) : decide (V.bl a = V.bl b) = decide (a = b) := by
  rw [Bool.eq_iff_iff, decide_eq_true_eq, decide_eq_true_eq]
  exact ⟨fun z => V.bl.inj z, fun z => by rw [z]⟩
theorem beat_ok {x r : Int} (h : x = -1 ∨ x = 1) (h0 : 0 ≤ r) (h1 : r < 1000000000) : beatOk (x * r) := by
  rcases h with rfl | rfl <;> unfold beatOk <;> omega
end Dk
namespace Dk
open PySem L2
theorem cut_takeV (xs : List V) (i : Nat) : cutV xs none (some ((i : Nat) : Int)) = xs.take i := by
  by_cases h : i ≤ xs.length
  · exact cut_upto xs h
  · unfold cutV
    rw [show HT.sIx xs.length xs.length (some ((i : Nat) : Int)) = min i xs.length from HT.sIx_nat _ _ i, HT.sIx_none]
    rw [Nat.min_eq_right (by omega), List.drop_zero, Nat.sub_zero, List.take_length, List.take_of_length_le (by omega)]
theorem rep_map (k : Nat) (rs : List Str) : (List.replicate k (rs.map V.str)).flatten = ((List.replicate k rs).flatten).map V.str := by
  rw [List.map_flatten, List.map_replicate]
theorem rep_mem {k : Nat} {rs : List Str} {r : Str} (h : r ∈ (List.replicate k rs).flatten) : r ∈ rs := by
  obtain ⟨l, hl, hr⟩ := List.mem_flatten.mp h
  rw [(List.mem_replicate.mp hl).2] at hr
  exact hr
theorem rep_len (k : Nat) (rs : List Str) : ((List.replicate k rs).flatten).length = k * rs.length := by
  rw [List.length_flatten, List.map_replicate, List.sum_replicate_nat]
theorem cnt_dec {zs : List Str} {ds : List SS} {lf : List (List Str)} (L : LfOk zs lf) : decide (0 < cntN zs (lnk zs (both ds)) lf) = (someN zs (lnk zs (both ds)) lf).isSome := by
  rw [Bool.eq_iff_iff, decide_eq_true_eq]
  exact some_cnt L (sym_lnk zs ds)
end Dk
namespace Dk
open PySem L2
def rNotN : R2 := fun x y H Q => y = .non ∧ Q (.bl (!decide (x = .non))) H
theorem op_notN1 {X : Cx} : OpR X (compareOp .IsNot) rNotN := op_notN
end Dk
namespace Dk
open PySem L2
/-! ### rounds that fit -/
abbrev at0 (w : List Str) (i : Nat) : Str := w.getD i Str.empty
structure Rd (bh : Str → List Str) (lf : List (List Str)) (w : List Str) : Prop where
  len : w.length = lf.length
  mem : ∀ i, i < lf.length → at0 w i ∈ lf.getD i []
  stp : ∀ i, i + 1 < lf.length → hnd bh (at0 w i) (at0 w (i + 1)) = true
  cls : hnd bh (at0 w (lf.length - 1)) (at0 w 0) = true
section
variable {zs : List Str} {bh : Str → List Str} {lf lf' : List (List Str)} {w : List Str}
theorem Rd.trl (R : Rd bh lf w) : ∀ i, i < lf.length → at0 w i ∈ trlAt bh lf (at0 w 0) i
  | 0, h => List.mem_filter.mpr ⟨R.mem 0 h, decide_eq_true rfl⟩
  | i + 1, h => List.mem_filter.mpr ⟨R.mem (i + 1) h, List.any_eq_true.mpr ⟨_, Rd.trl R i (by omega), R.stp i h⟩⟩
/-- where a round fits, one is found -/
theorem Rd.some (L : LfOk zs lf) (sy : SymH zs bh) (R : Rd bh lf w) : (someN zs bh lf).isSome = true := by
  have l1 := L.one
  have m0 := R.mem 0 (by omega)
  have ml := R.mem (lf.length - 1) (by omega)
  unfold someN
  rw [List.isSome_findSome?, List.any_eq_true]
  refine ⟨at0 w 0, L.memD _ _ m0, ?_⟩
  unfold alongN
  rw [trlN_len, getD_some (trlN_get (show 0 < lf.length by omega)), getD_some (trlN_get (show lf.length - 1 < lf.length by omega))]
  have h : at0 w (lf.length - 1) ∈ nxtT bh (trlAt bh lf (at0 w 0) 0) (trlAt bh lf (at0 w 0) (lf.length - 1)) := List.mem_filter.mpr ⟨R.trl _ (by omega), List.any_eq_true.mpr ⟨at0 w 0, R.trl 0 (by omega), by rw [sy _ (L.memD _ _ m0) _ (L.memD _ _ ml)]; exact R.cls⟩⟩
  generalize nxtT bh (trlAt bh lf (at0 w 0) 0) (trlAt bh lf (at0 w 0) (lf.length - 1)) = l at h
  cases l with
  | nil => cases h
  | cons y r => rfl
/-- what is found lies in what is left -/
theorem along_mem {ts : List (List Str)} (T : TrailOk zs bh ts) (sy : SymH zs bh) {r : List Str} (h : alongN bh ts = some r) : r.length = ts.length ∧ ∀ i, i < ts.length → at0 r i ∈ ts.getD i [] := by
  unfold alongN at h
  split at h
  · cases h
  · rename_i e l eq
    have he : e ∈ ts.getD (ts.length - 1) [] := by
      have : e ∈ nxtT bh (ts.getD 0 []) (ts.getD (ts.length - 1) []) := by rw [eq]; exact List.mem_cons_self ..
      exact (List.mem_filter.mp this).1
    obtain rfl := Option.some.inj h
    refine ⟨by rw [List.length_reverse, List.length_map, List.length_range], fun i hi => ?_⟩
    have := row_in T sy he (ts.length - 1 - i) (by omega)
    rw [show ts.length - 1 - (ts.length - 1 - i) = i by omega] at this
    show (List.getD _ i Str.empty) ∈ _
    have e3 : ((List.range ts.length).map (rowAt bh (ts.take (ts.length - 1)).reverse e)).reverse[i]? = some (rowAt bh (ts.take (ts.length - 1)).reverse e (ts.length - 1 - i)) := by
      rw [List.getElem?_reverse (by rw [List.length_map, List.length_range]; exact hi), List.length_map, List.length_range, List.getElem?_map, List.getElem?_range (by omega)]
      rfl
    rw [getD_some e3]
    exact this
theorem some_mem (L : LfOk zs lf) (sy : SymH zs bh) {r : List Str} (h : someN zs bh lf = some r) : r.length = lf.length ∧ ∀ i, i < lf.length → at0 r i ∈ lf.getD i [] := by
  obtain ⟨f, _, hf⟩ := List.exists_of_findSome?_eq_some h
  obtain ⟨h1, h2⟩ := along_mem (trlN_trail (bh := bh) (f := f) L) sy hf
  rw [trlN_len] at h1 h2
  refine ⟨h1, fun i hi => trlAt_sub (bh := bh) (f := f) i _ ?_⟩
  have := h2 i hi
  rw [getD_some (trlN_get hi)] at this
  exact this
theorem nrw_get {rs : List Str} {i j : Nat} (hi : i < lf.length) : (nrw lf i rs).getD j [] = if j = i then rs else lf.getD j [] := by
  unfold nrw
  have l1 : (lf.take i).length = i := by rw [List.length_take]; omega
  rw [List.getD_eq_getElem?_getD, List.getD_eq_getElem?_getD]
  by_cases h1 : j < i
  · rw [if_neg (by omega), List.getElem?_append_left (by rw [List.length_append, l1]; show j < i + 1; omega), List.getElem?_append_left (by omega), List.getElem?_take_of_lt h1]
  · by_cases h2 : j = i
    · rw [if_pos h2, h2, List.getElem?_append_left (by rw [List.length_append, l1]; show i < i + 1; omega), List.getElem?_append_right (by omega), l1, Nat.sub_self]
      rfl
    · rw [if_neg h2, List.getElem?_append_right (by rw [List.length_append, l1]; show i + 1 ≤ j; omega), List.length_append, l1, List.getElem?_drop]
      congr 2
      show i + 1 + (j - (i + 1)) = j
      omega
/-- two rounds that part at a place: another is found there -/
theorem Rd.nrw (R : Rd bh lf w) {i : Nat} {r : Str} (hi : i < lf.length) (ne : at0 w i ≠ r) : Rd bh (nrw lf i ((lf.getD i []).filter fun x => decide (x ≠ r))) w := by
  refine ⟨by rw [nrw_len hi]; exact R.len, fun j hj => ?_, fun j hj => R.stp j (by rw [nrw_len hi] at hj; exact hj), by rw [nrw_len hi]; exact R.cls⟩
  rw [nrw_len hi] at hj
  rw [nrw_get hi]
  split
  · rename_i e
    rw [e]
    exact List.mem_filter.mpr ⟨R.mem i hi, decide_eq_true ne⟩
  · exact R.mem j hj
/-- what is found in a narrowed row -/
theorem nrw_none (L : LfOk zs lf) (sy : SymH zs bh) {i : Nat} {rs : List Str} (hi : i < lf.length) (h : rs = []) : someN zs bh (nrw lf i rs) = none := by
  subst h
  cases e : someN zs bh (nrw lf i []) with
  | none => rfl
  | some r =>
    have := (some_mem (nrw_ok L hi (fun _ h => by cases h) (Nat.zero_le _)) sy e).2 i (by rw [nrw_len hi]; exact hi)
    rw [nrw_get hi, if_pos rfl] at this
    cases this
/-! ### how many fit -/
def rwA (lf : List (List Str)) (f : Str) (i : Nat) : List Str := if i = 0 then (lf.getD 0 []).filter fun r => decide (r = f) else lf.getD i []
def vAt (bh : Str → List Str) (lf : List (List Str)) (f : Str) : Nat → Str → Int
  | 0, _ => 1
  | i + 1, r => (((rwA lf f i).filter fun o => hnd bh o r).map (vAt bh lf f i)).sum
def pFin (bh : Str → List Str) (lf : List (List Str)) (f : Str) : Int := (((rwA lf f (lf.length - 1)).filter fun o => hnd bh o f).map (vAt bh lf f (lf.length - 1))).sum
def fitN (zs : List Str) (bh : Str → List Str) (lf : List (List Str)) : Int := (zs.map (pFin bh lf)).sum
theorem sum_pos {l : List Int} (h : ∀ x ∈ l, 0 ≤ x) : 0 ≤ l.sum := (sum_nn h).1
theorem vAt_nn (bh : Str → List Str) (lf : List (List Str)) (f : Str) : ∀ i r, 0 ≤ vAt bh lf f i r
  | 0, _ => by show (0 : Int) ≤ 1; decide
  | i + 1, r => sum_pos fun x hx => by
    obtain ⟨o, _, rfl⟩ := List.mem_map.mp hx
    exact vAt_nn bh lf f i o
theorem sum_sub {p : Str → Bool} {g g' : Str → Int} (nn : ∀ r, 0 ≤ g r) (le : ∀ r, g' r ≤ g r) : ∀ {l' l : List Str}, l'.Sublist l → ((l'.filter p).map g').sum ≤ ((l.filter p).map g).sum
  | _, _, .slnil => Int.le_refl _
  | _, _, .cons (l₂ := l) a s => by
    have ih := sum_sub (p := p) nn le s
    rw [List.filter_cons]
    split
    · rw [List.map_cons, List.sum_cons]
      have := nn a
      omega
    · exact ih
  | _, _, .cons₂ (l₂ := l) a s => by
    have ih := sum_sub (p := p) nn le s
    rw [List.filter_cons, List.filter_cons]
    split
    · rw [List.map_cons, List.sum_cons, List.map_cons, List.sum_cons]
      have := le a
      omega
    · exact ih
def SubL (lf' lf : List (List Str)) : Prop := lf'.length = lf.length ∧ ∀ i, (lf'.getD i []).Sublist (lf.getD i [])
theorem rwA_sub (s : SubL lf' lf) (f : Str) (i : Nat) : (rwA lf' f i).Sublist (rwA lf f i) := by
  unfold rwA
  split
  · exact (s.2 0).filter _
  · exact s.2 i
theorem vAt_sub (s : SubL lf' lf) (f : Str) : ∀ i r, vAt bh lf' f i r ≤ vAt bh lf f i r
  | 0, _ => Int.le_refl _
  | i + 1, r => sum_sub (vAt_nn bh lf f i) (vAt_sub s f i) (rwA_sub s f i)
theorem pFin_nn (f : Str) : 0 ≤ pFin bh lf f := sum_pos fun x hx => by
  obtain ⟨o, _, rfl⟩ := List.mem_map.mp hx
  exact vAt_nn bh lf f _ o
theorem pFin_sub (s : SubL lf' lf) (f : Str) : pFin bh lf' f ≤ pFin bh lf f := by
  unfold pFin
  rw [s.1]
  exact sum_sub (vAt_nn bh lf f _) (vAt_sub s f _) (rwA_sub s f _)
theorem fit_sub (s : SubL lf' lf) : ∀ zs, fitN zs bh lf' ≤ fitN zs bh lf
  | [] => Int.le_refl _
  | f :: r => by
    show pFin bh lf' f + fitN r bh lf' ≤ pFin bh lf f + fitN r bh lf
    have := pFin_sub (bh := bh) s f
    have := fit_sub s r
    omega
theorem one_in {p : Str → Bool} {g : Str → Int} (nn : ∀ r, 0 ≤ g r) {l : List Str} {r : Str} (h : r ∈ l) (hp : p r = true) : g r ≤ ((l.filter p).map g).sum := by
  have := sum_sub (p := p) (g := g) (g' := g) nn (fun _ => Int.le_refl _) (List.singleton_sublist.mpr h)
  rw [List.filter_cons, if_pos hp, List.filter_nil, List.map_cons, List.map_nil, List.sum_cons, List.sum_nil] at this
  omega
theorem Rd.rw (R : Rd bh lf w) {i : Nat} (hi : i < lf.length) : at0 w i ∈ rwA lf (at0 w 0) i := by
  unfold rwA
  split
  · rename_i e
    subst e
    exact List.mem_filter.mpr ⟨R.mem 0 hi, decide_eq_true rfl⟩
  · exact R.mem i hi
theorem Rd.val (R : Rd bh lf w) : ∀ i, i < lf.length → 1 ≤ vAt bh lf (at0 w 0) i (at0 w i)
  | 0, _ => Int.le_refl _
  | i + 1, h => Int.le_trans (Rd.val R i (by omega)) (one_in (p := fun o => hnd bh o (at0 w (i + 1))) (vAt_nn bh lf _ i) (R.rw (by omega)) (R.stp i h))
theorem Rd.fit (L : LfOk zs lf) (R : Rd bh lf w) : 0 < fitN zs bh lf := by
  have l1 := L.one
  have h : 1 ≤ pFin bh lf (at0 w 0) := Int.le_trans (R.val (lf.length - 1) (by omega)) (one_in (p := fun o => hnd bh o (at0 w 0)) (vAt_nn bh lf _ _) (R.rw (by omega)) R.cls)
  have hz : at0 w 0 ∈ zs := L.memD _ _ (R.mem 0 (by omega))
  refine (sum_nn fun x hx => ?_).2.mpr ⟨_, List.mem_map.mpr ⟨_, hz, rfl⟩, by omega⟩
  obtain ⟨f, _, rfl⟩ := List.mem_map.mp hx
  exact pFin_nn f
/-- more sightings leave less -/
theorem left_sub {n : Nat} {sg : List Sgt} (s : Sgt) : SubL (leftN zs n (sg ++ [s])) (leftN zs n sg) := by
  refine ⟨by rw [leftN_len, leftN_len], fun i => ?_⟩
  unfold leftN
  rw [List.getD_eq_getElem?_getD, List.getD_eq_getElem?_getD, List.getElem?_map, List.getElem?_map]
  by_cases h : i < n
  · rw [List.getElem?_range h]
    show (zs.filter _).Sublist (zs.filter _)
    have e : zs.filter (isL n (sg ++ [s]) i) = (zs.filter (isL n sg i)).filter (fun r => !atP n i s || agr r s) := by
      rw [List.filter_filter]
      congr 1
      funext r
      rw [isL_snoc, Bool.and_comm]
    rw [e]
    exact List.filter_sublist
  · rw [List.getElem?_eq_none (by rw [List.length_range]; omega)]
    exact List.Sublist.refl _
theorem left_get {n : Nat} {sg : List Sgt} {i : Nat} (h : i < n) : (leftN zs n sg).getD i [] = zs.filter (isL n sg i) := by
  unfold leftN
  rw [List.getD_eq_getElem?_getD, List.getElem?_map, List.getElem?_range h]
  rfl
end
/-! ### the promises -/
def spRoundsFrom (C : Addr) : Sp := fun vs H Q _ => ∃ (h l : Addr) (zs : List Str) (bh vw : Str → List Str) (xs : List V) (lf : List (List Str)) (f : Str), vs = [.ref h, .ref l, .str f] ∧ Hs C H h zs bh vw ∧ H l = some (.lst xs) ∧ SsL H xs lf ∧ LfOk zs lf ∧ (∀ t ∈ lf, t.Nodup) ∧ f ∈ zs ∧ ∀ H', Same H H' → Q (.int (pFin bh lf f)) H'
def spFits (K : PySem.W.Frag) (C : Addr) : Sp := fun vs H Q _ => ∃ (h p : Addr) (zs : List Str) (bh vw : Str → List Str) (n : Nat) (xs : List V) (sg : List Sgt), vs = [.ref h, .int (n : Nat), .ref p] ∧ Hs C H h zs bh vw ∧ zs.Nodup ∧ zs.length ≤ 8 ∧ 1 ≤ n ∧ n ≤ 6 ∧ Sq K H p xs ∧ SgL H xs sg ∧ SgOk zs sg ∧ ∀ H', Same H H' → Q (.int (fitN zs bh (leftN zs n sg))) H'
def TbA (bh : Str → List Str) (lf : List (List Str)) (N : Addr → Prop) (H : Hp) (v : V) (f : Str) : Prop := ∃ q ys, N q ∧ v = V.ref q ∧ H q = some (.lst ys) ∧ SxL N H ys (trlN bh lf f)
/-- one round, or two, or none -/
def spReadRound (K : PySem.W.Frag) (C : Addr) : Sp := fun vs H Q _ => ∃ (h p : Addr) (zs : List Str) (bh vw : Str → List Str) (n : Nat) (xs : List V) (sg : List Sgt), vs = [.ref h, .int (n : Nat), .ref p] ∧ Hs C H h zs bh vw ∧ SymH zs bh ∧ zs.length ≤ 8 ∧ 1 ≤ n ∧ n ≤ 6 ∧ Sq K H p xs ∧ SgL H xs sg ∧ SgOk zs sg ∧
  (someN zs bh (leftN zs n sg) = none → ∀ (H' : Hp) (tp cp : Addr) (ys : List V), Same H H' → H tp = none → H cp = none → H' tp = some (.tup [.str "none", .ref cp]) → H' cp = some (.lst ys) → AL (TbA bh (leftN zs n sg) (fun a => H a = none ∧ a ≠ cp)) H' ys zs → Q (.ref tp) H') ∧
  ∀ (r : List Str), someN zs bh (leftN zs n sg) = some r →
    ((∀ i, i < n → someN zs bh (nrw (leftN zs n sg) i (((leftN zs n sg).getD i []).filter fun x => decide (x ≠ at0 r i))) = none) → ∀ (H' : Hp) (tp rp : Addr), Same H H' → H tp = none → H' tp = some (.tup [.str "one", .ref rp]) → H' rp = some (.tup (r.map V.str)) → Q (.ref tp) H') ∧
    ∀ (i : Nat) (r2 : List Str), i < n → someN zs bh (nrw (leftN zs n sg) i (((leftN zs n sg).getD i []).filter fun x => decide (x ≠ at0 r i))) = some r2 → (∀ j, j < i → someN zs bh (nrw (leftN zs n sg) j (((leftN zs n sg).getD j []).filter fun x => decide (x ≠ at0 r j))) = none) →
      ∀ (H' : Hp) (tp rp rq : Addr), Same H H' → H tp = none → H' tp = some (.tup [.str "many", .ref rp, .ref rq, .int ((i : Nat) : Int)]) → H' rp = some (.tup (r.map V.str)) → H' rq = some (.tup (r2.map V.str)) → Q (.ref tp) H'
end Dk
namespace Dk
open PySem L2
/-! ### dicts of counts -/
def dcK (rows : List Str) (g : Str → Int) : List (Key × V) := rows.map fun r => ((Sum.inr r : Key), V.int (g r))
theorem dcK_keys (rows : List Str) (g : Str → Int) : (dcK rows g).map (·.1) = rows.map (fun z => (Sum.inr z : Key)) := by
  unfold dcK
  rw [List.map_map]
  rfl
theorem dcK_val {rows : List Str} {g : Str → Int} {r : Str} (h : r ∈ rows) : valV (dcK rows g) (Sum.inr r : Key) = some (.int (g r)) := by
  unfold valV dcK
  induction rows with
  | nil => cases h
  | cons a l ih =>
    rw [List.map_cons, List.find?_cons]
    by_cases e : a = r
    · subst e
      rw [show decide ((Sum.inr a : Key) = Sum.inr a) = true from decide_eq_true rfl]
      rfl
    · rw [show decide ((Sum.inr a : Key) = Sum.inr r) = false from decide_eq_false (fun z => e (Sum.inr.inj z))]
      exact ih ((List.mem_cons.mp h).resolve_left (fun z => e z.symm))
theorem dcK_put {rows : List Str} {g : Str → Int} {r : Str} (h : r ∉ rows) : putK (dcK rows g) (Sum.inr r : Key) (.int (g r)) = dcK (rows ++ [r]) g := by
  rw [putK_str rows (dcK_keys rows g) h]
  unfold dcK
  rw [List.map_append]
  rfl
theorem dget_frz {H : Hp} {d : Addr} {od : Obj} {kvs : List (Key × V)} {k : Key} (e : H d = some (.frz od (.dK kvs))) : DGet H d (kV k) (valV kvs k) := .inl ⟨kvs, k, .inr ⟨od, e⟩, rfl, rfl⟩
theorem dcK_len (rows : List Str) (g : Str → Int) : (dcK rows g).length = rows.length := List.length_map ..
theorem nodup_tk {rows : List Str} {i : Nat} {r : Str} (nd : rows.Nodup) (e : rows[i]? = some r) : r ∉ rows.take i := fun h => by
  obtain ⟨j, hj, ej⟩ := List.getElem_of_mem h
  rw [List.getElem_take] at ej
  rw [List.length_take] at hj
  obtain ⟨hi, ei⟩ := List.getElem?_eq_some_iff.mp e
  exact List.pairwise_iff_getElem.mp nd j i (by omega) hi (by omega) (by rw [ej, ei])
end Dk
namespace Dk
open PySem L2
theorem TbA.same {bh : Str → List Str} {lf : List (List Str)} {N : Addr → Prop} {H H' : Hp} {v : V} {f : Str} (h : TbA bh lf N H v f) (s : Same H H') : TbA bh lf N H' v f := by
  obtain ⟨q, ys, n, e, g, x⟩ := h
  exact ⟨q, ys, n, e, s _ _ g, SxL.same x s⟩
theorem TbA.put {bh : Str → List Str} {lf : List (List Str)} {N : Addr → Prop} {H : Hp} {D : Addr} {o : HO} {v : V} {f : Str} (h : TbA bh lf N H v f) (k : ¬ N D) : TbA bh lf N (upd H D o) v f := by
  obtain ⟨q, ys, n, e, g, x⟩ := h
  exact ⟨q, ys, n, e, by rw [upd_ne (show q ≠ D from fun z => k (by rw [← z]; exact n))]; exact g, SxL.put x k⟩
theorem at0_some {w : List Str} {i : Nat} (h : i < w.length) : w[i]? = some (at0 w i) := by
  rw [List.getElem?_eq_getElem h]
  unfold at0
  rw [List.getD_eq_getElem?_getD, List.getElem?_eq_getElem h]
  rfl
end Dk
namespace Dk
open PySem L2
theorem KeepT.dk {H : Hp} {p : Addr} {o : HO} {m : List (Key × V)} (h : H p = some (.dK m)) : KeepT H (upd H p o) := fun t ys e => by
  rw [upd_ne (fun z => by rw [z, h] at e; cases e)]
  exact e
/-- the law's drawn scene with some of its keys set anew -/
theorem MA.put {b : Addr} {H : Hp} {m t f lm lm2 : Addr} {zs : List Str} {ds ss : List SS} {xs ys ys2 : List V} {ps : List Pst} {ws ws2 : List Wtc} {mt mt2 : Bool} {rl rl2 : Nat} (a : MA b H m t f lm zs ds ss xs ys ps ws mt rl) (n2 : lm2 ≠ b) (h2 : H lm2 = some (.lst ys2)) (w2 : WtL H ys2 ws2) (ok : ScOk zs ds ss ps ws2 rl2) : MA b (upd H m (.dK (mkv t f lm2 mt2 rl2))) m t f lm2 zs ds ss xs ys2 ps ws2 mt2 rl2 := by
  have k := KeepT.dk (o := .dK (mkv t f lm2 mt2 rl2)) a.md
  have nl : ∀ {q : Addr} {us : List V}, H q = some (.lst us) → (upd H m (.dK (mkv t f lm2 mt2 rl2))) q = some (.lst us) := fun h => by
    rw [upd_ne (fun z => by rw [z, a.md] at h; cases h)]
    exact h
  obtain ⟨r, d, s, xs', us, m1, m2, m3, g1, g2, g3, g4, g5, g6⟩ := a.lh
  exact ⟨upd_same, a.nm, a.nf, n2, ⟨r, d, s, xs', us, m1, m2, m3, k _ _ g1, nl g2, nl g3, g4.keep k, nl g5, g6.keep k⟩, nl a.fp, a.fps.keep k, nl h2, WtL.keep w2 k, a.good, ok⟩
theorem mkv_lamps {t f lm lm2 : Addr} {mt : Bool} {rl : Nat} : putK (mkv t f lm mt rl) (Sum.inr "lamps" : Key) (.ref lm2) = mkv t f lm2 mt rl := rfl
theorem mkv_meet {t f lm : Addr} {mt mt2 : Bool} {rl : Nat} : putK (mkv t f lm mt rl) (Sum.inr "meet" : Key) (.bl mt2) = mkv t f lm mt2 rl := rfl
theorem mkv_relief {t f lm : Addr} {mt : Bool} {rl rl2 : Nat} : putK (mkv t f lm mt rl) (Sum.inr "relief" : Key) (.int (rl2 : Nat)) = mkv t f lm mt rl2 := rfl
theorem Box.ndl {b l q : Addr} {H : Hp} {m : List (Key × V)} (hB : Box H b l) (h : H q = some (.dK m)) : q ≠ l := by
  obtain ⟨ns, i, c, s0, t, h1, h2, r⟩ := hB
  exact fun e => by
    rw [e, h2] at h
    cases h
theorem idx_at {o : List Nat} {j : Nat} (h : j ∈ o) : o[o.idxOf j]? = some j := by
  have l := List.idxOf_lt_length_of_mem h
  rw [List.getElem?_eq_getElem l, List.getElem_idxOf l]
/-- the names of an order, each once -/
theorem row_nodup {ws : List Wtc} {o : List Nat} (nd : (ws.map (·.1)).Nodup) (lt : ∀ k ∈ o, k < ws.length) (inj : Inj o) : (o.map (nmW ws)).Nodup := by
  have no := inj.nodup
  have key : ∀ a b, a < ws.length → b < ws.length → nmW ws a = nmW ws b → a = b := fun a b ha hb e => by
    unfold nmW at e
    have la : a < (ws.map (·.1)).length := by rw [List.length_map]; exact ha
    have lb : b < (ws.map (·.1)).length := by rw [List.length_map]; exact hb
    rw [List.getD_eq_getElem?_getD, List.getD_eq_getElem?_getD, List.getElem?_eq_getElem la, List.getElem?_eq_getElem lb] at e
    exact (List.getElem_inj nd).mp e
  induction o with
  | nil => exact List.nodup_nil
  | cons a r ih =>
    rw [List.nodup_cons] at no
    rw [List.map_cons, List.nodup_cons]
    have ir : Inj r := fun i j x h1 h2 => by
      have := inj (i + 1) (j + 1) x (by rw [List.getElem?_cons_succ]; exact h1) (by rw [List.getElem?_cons_succ]; exact h2)
      omega
    refine ⟨fun h => ?_, ih (fun k hk => lt k (List.mem_cons_of_mem _ hk)) ir no.2⟩
    obtain ⟨b, hb, e⟩ := List.mem_map.mp h
    have := key b a (lt b (List.mem_cons_of_mem _ hb)) (lt a List.mem_cons_self) e
    rw [this] at hb
    exact no.1 hb
theorem posts_at {ps : List Pst} {j : Nat} (h : j < ps.length + 6) : ((ps.map (·.1)).map V.str ++ List.replicate 6 V.non)[j]? = some (pname ps j) := by
  by_cases h1 : j < ps.length
  · rw [List.getElem?_append_left (by rw [List.length_map, List.length_map]; exact h1), List.getElem?_map, List.getElem?_map]
    unfold pname
    rw [List.getElem?_eq_getElem h1]
    rfl
  · rw [List.getElem?_append_right (by rw [List.length_map, List.length_map]; omega), List.length_map, List.length_map, List.getElem?_replicate, if_pos (by omega)]
    unfold pname
    rw [List.getElem?_eq_none (by omega)]
end Dk
namespace Dk
open PySem L2
/-! ### what is lit, as the program tells it -/
def spLitM (C CS : Addr) : Sp := fun vs H Q _ => ∃ (s : Addr) (zs : List Str) (ds ss : List SS) (ps : List Pst) (ws : List Wtc) (mt : Bool) (rl W : Nat) (b : Int), vs = [.ref s, .int b] ∧ SceneAt C CS H s zs ds ss ps ws mt rl W ∧ beatOk b ∧
  ∀ (H' : Hp) (q : Addr), Same H H' → H q = none → H' q = some (.lst ((litAt zs (lnk zs ss) (ps.map (·.2)) ws mt rl (rest b W)).map V.str)) → Q (.ref q) H'
def spDarkM (C CS : Addr) : Sp := fun vs H Q _ => ∃ (s : Addr) (zs : List Str) (ds ss : List SS) (ps : List Pst) (ws : List Wtc) (mt : Bool) (rl W : Nat) (z : Str) (b : Int), vs = [.ref s, .str z, .int b] ∧ SceneAt C CS H s zs ds ss ps ws mt rl W ∧ z ∈ zs ∧ beatOk b ∧
  ∀ H', Same H H' → Q (.bl (!decide (z ∈ litAt zs (lnk zs ss) (ps.map (·.2)) ws mt rl (rest b W)))) H'
theorem ScA.light {C CS : Addr} {H : Hp} {s : Addr} {zs : List Str} {ds ss : List SS} {ps : List Pst} {ws : List Wtc} {mt : Bool} {rl W : Nat} {dx h p w o hd lg m : Addr} {xs ys os ls ms : List V} (a : ScA C CS H s zs ds ss ps ws mt rl W dx h p w o hd lg m xs ys os ls ms) (b : Int) : ∃ q, atI ls (b % ((W : Nat) : Int)) = some (V.ref q) ∧ H q = some (.lst ((litAt zs (lnk zs ss) (ps.map (·.2)) ws mt rl (rest b W)).map V.str)) := by
  obtain ⟨h1, h2⟩ := rest_lt a.fwh.1 b
  have e : ((List.range W).map (litAt zs (lnk zs ss) (ps.map (·.2)) ws mt rl))[rest b W]? = some (litAt zs (lnk zs ss) (ps.map (·.2)) ws mt rl (rest b W)) := by
    rw [List.getElem?_map, List.getElem?_range h1]
    rfl
  obtain ⟨x, ex, q, rfl, hq⟩ := a.fls.of e
  exact ⟨q, by rw [← h2]; exact atI_nat ex, hq⟩
/-! ### and by the law's own steps -/
def rmN (ps : List Pst) (b : Int) (n : Nat) : Str := plcS (ps.getD n (Str.empty, [], 0)).2.1 (b - (((ps.getD n (Str.empty, [], 0)).2.2 : Nat) : Int))
def rcN (ws : List Wtc) (o : List Nat) (n : Nat) : Nat := (ws.getD (o.getD n 0) (Str.empty, 0)).2
def lf (vw : Str → List Str) (ps : List Pst) (ws : List Wtc) (o : List Nat) (b : Int) : Nat → List Str
  | 0 => []
  | n + 1 => lf vw ps ws o b n ++ [rmN ps b n] ++ (if rcN ws o n = 1 then vw (rmN ps b n) else [])
theorem mem_lf {vw : Str → List Str} {ps : List Pst} {ws : List Wtc} {o : List Nat} {b : Int} {r : Str} : ∀ n, r ∈ lf vw ps ws o b n ↔ ∃ j, j < n ∧ (r = rmN ps b j ∨ (rcN ws o j = 1 ∧ r ∈ vw (rmN ps b j)))
  | 0 => by
    constructor
    · intro h
      cases h
    · rintro ⟨j, h, _⟩
      omega
  | n + 1 => by
    unfold lf
    rw [List.mem_append, List.mem_append, mem_lf n, List.mem_singleton]
    constructor
    · rintro ((⟨j, h1, h2⟩ | h) | h)
      · exact ⟨j, by omega, h2⟩
      · exact ⟨n, by omega, .inl h⟩
      · by_cases c : rcN ws o n = 1
        · rw [if_pos c] at h
          exact ⟨n, by omega, .inr ⟨c, h⟩⟩
        · rw [if_neg c] at h
          cases h
    · rintro ⟨j, h1, h2⟩
      by_cases e : j = n
      · subst e
        rcases h2 with h | ⟨c, h⟩
        · exact .inl (.inr h)
        · exact .inr (by rw [if_pos c]; exact h)
      · exact .inl (.inl ⟨j, by omega, h2⟩)
theorem mem_ligs {vw : Str → List Str} {r : Str} : ∀ l : List (Str × Nat), r ∈ ligs vw l ↔ ∃ p ∈ l, p.2 = 1 ∧ r ∈ vw p.1
  | [] => by
    constructor
    · intro h
      cases h
    · rintro ⟨p, h, _⟩
      cases h
  | q :: l => by
    show r ∈ (if q.2 = 1 then vw q.1 else []) ++ ligs vw l ↔ _
    rw [List.mem_append, mem_ligs l]
    constructor
    · rintro (h | ⟨p, h1, h2⟩)
      · by_cases c : q.2 = 1
        · rw [if_pos c] at h
          exact ⟨q, List.mem_cons_self, c, h⟩
        · rw [if_neg c] at h
          cases h
      · exact ⟨p, List.mem_cons_of_mem _ h1, h2⟩
    · rintro ⟨p, h1, c, h⟩
      rcases List.mem_cons.mp h1 with e | e
      · subst e
        exact .inl (by rw [if_pos c]; exact h)
      · exact .inr ⟨p, e, c, h⟩
theorem lit_law {zs : List Str} {vw : Str → List Str} {ps : List Pst} {ws : List Wtc} {mt : Bool} {rl W : Nat} (hW : IsWh (ps.map (·.2)) ws.length mt rl W) (bare : ps.length ≤ ws.length) (b : Int) : (zs.filter fun z => decide (z ∈ lf vw ps ws (ordN (ps.map (·.2)) ws.length mt rl (rest b W)) b ps.length)) = litAt zs vw (ps.map (·.2)) ws mt rl (rest b W) := by
  have sd : spanN (ps.map (·.2)) ws.length rl ∣ W := Nat.dvd_of_mod_eq_zero hW.2.2.1
  have es : stnd (ps.map (·.2)) ((rest b W : Nat) : Int) = stnd (ps.map (·.2)) b := by
    unfold stnd
    apply List.map_congr_left
    intro p hp
    exact plcS_rest (Nat.dvd_trans (span_len hp) sd) hW.1 b p.2
  have ol := (ordN_ok (tr := ps.map (·.2)) (many := ws.length) (mt := mt) (rl := rl) (by rw [List.length_map]; exact bare) (rest b W)).1
  unfold litAt litN
  rw [es]
  generalize ordN (ps.map (·.2)) ws.length mt rl (rest b W) = o at *
  apply List.filter_congr
  intro z _
  apply decide_eq_decide.mpr
  have st : ∀ j, j < ps.length → (stnd (ps.map (·.2)) b)[j]? = some (rmN ps b j) := fun j hj => by
    unfold stnd rmN
    rw [List.getElem?_map, List.getElem?_map, List.getD_eq_getElem?_getD, List.getElem?_eq_getElem hj]
    rfl
  have rc : ∀ j, j < ps.length → (reachN ws (o.take (ps.map (·.2)).length))[j]? = some (rcN ws o j) := fun j hj => by
    unfold reachN rcN
    rw [List.getElem?_map, List.getElem?_take_of_lt (by rw [List.length_map]; exact hj), List.getD_eq_getElem?_getD (l := o), List.getElem?_eq_getElem (by omega)]
    rfl
  rw [mem_lf, List.mem_append, mem_ligs]
  constructor
  · rintro ⟨j, hj, h | ⟨c, h⟩⟩
    · rw [h]
      exact .inl (List.mem_of_getElem? (st j hj))
    · refine .inr ⟨(rmN ps b j, rcN ws o j), List.mem_of_getElem? (i := j) ?_, c, h⟩
      exact List.getElem?_zip_eq_some.mpr ⟨st j hj, rc j hj⟩
  · have sl : (stnd (ps.map (·.2)) b).length = ps.length := by rw [stnd_len, List.length_map]
    rintro (h | ⟨p, hp, c, h⟩)
    · obtain ⟨j, hj, e⟩ := List.mem_iff_getElem.mp h
      have := st j (by omega)
      rw [List.getElem?_eq_getElem hj, e] at this
      exact ⟨j, by omega, .inl (Option.some.inj this)⟩
    · obtain ⟨j, hj, e⟩ := List.mem_iff_getElem.mp hp
      have e2 : ((stnd (ps.map (·.2)) b).zip (reachN ws (o.take (ps.map (·.2)).length)))[j]? = some p := by rw [List.getElem?_eq_getElem hj, e]
      obtain ⟨e3, e4⟩ := List.getElem?_zip_eq_some.mp e2
      have j1 : j < ps.length := by
        have := (List.getElem?_eq_some_iff.mp e3).1
        omega
      rw [st j j1] at e3
      rw [rc j j1] at e4
      refine ⟨j, j1, .inr ⟨?_, ?_⟩⟩
      · rw [Option.some.inj e4]
        exact c
      · rw [Option.some.inj e3]
        exact h
/-! ### a dict of the lamps -/
theorem merge_out {k : Key} : ∀ {kvs acc : List (Key × V)}, k ∉ kvs.map (·.1) → valV (mergeK acc kvs) k = valV acc k
  | [], _, _ => rfl
  | kv :: r, acc, h => by
    rw [List.map_cons, List.mem_cons, not_or] at h
    show valV (mergeK (putK acc kv.1 kv.2) r) k = _
    rw [merge_out h.2, valV_put, if_neg h.1]
theorem merge_in {k : Key} {v : V} : ∀ {kvs acc : List (Key × V)}, (kvs.map (·.1)).Nodup → (k, v) ∈ kvs → valV (mergeK acc kvs) k = some v
  | [], _, _, h => by cases h
  | kv :: r, acc, nd, h => by
    rw [List.map_cons, List.nodup_cons] at nd
    show valV (mergeK (putK acc kv.1 kv.2) r) k = _
    rcases List.mem_cons.mp h with e | e
    · rw [← e] at nd ⊢
      rw [merge_out nd.1, valV_put, if_pos rfl]
    · exact merge_in nd.2 e
def lmp (ws : List Wtc) : List (Key × V) := ws.map fun w => ((Sum.inr w.1 : Key), V.int ((w.2 : Nat) : Int))
theorem lmp_at {ws : List Wtc} (nd : (ws.map (·.1)).Nodup) {i : Nat} (h : i < ws.length) : valV (mergeK [] (lmp ws)) (Sum.inr (nmW ws i) : Key) = some (.int (((ws.getD i (Str.empty, 0)).2 : Nat) : Int)) := by
  have e : ws[i]? = some (ws[i]'h) := List.getElem?_eq_getElem h
  have e1 : nmW ws i = (ws[i]'h).1 := by
    unfold nmW
    rw [List.getD_eq_getElem?_getD, List.getElem?_map, e]
    rfl
  rw [e1, List.getD_eq_getElem?_getD, e]
  refine merge_in ?_ (List.mem_map.mpr ⟨_, List.mem_of_getElem? e, rfl⟩)
  unfold lmp
  rw [List.map_map]
  show (ws.map fun w => (Sum.inr w.1 : Key)).Nodup
  rw [show (ws.map fun w => (Sum.inr w.1 : Key)) = (ws.map (·.1)).map (fun z => (Sum.inr z : Key)) by rw [List.map_map]; rfl]
  exact List.Pairwise.map _ (fun a b h e => h (Sum.inr.inj e)) nd
theorem MA.house {b : Addr} {H H' : Hp} {m t f lm : Addr} {zs : List Str} {ds ss : List SS} {xs ys : List V} {ps : List Pst} {ws : List Wtc} {mt : Bool} {rl : Nat} (a : MA b H m t f lm zs ds ss xs ys ps ws mt rl) (e : Same H H') : DGet H' m (.str "house") (some (.ref t)) := by
  have h : valV (mkv t f lm mt rl) (Sum.inr "house" : Key) = some (.ref t) := valK_at 0 [] rfl (by simp) rfl
  rw [← h]
  exact DGet.k (k := (Sum.inr "house" : Key)) (e _ _ a.md)
theorem lf_len {zs : List Str} {ss : List SS} {ps : List Pst} {ws : List Wtc} {o : List Nat} {b : Int} : ∀ n, (lf (lnk zs ss) ps ws o b n).length ≤ n * (1 + zs.length)
  | 0 => Nat.zero_le _
  | n + 1 => by
    have ih := lf_len (zs := zs) (ss := ss) (ps := ps) (ws := ws) (o := o) (b := b) n
    have v : (lnk zs ss (rmN ps b n)).length ≤ zs.length := List.length_filter_le ..
    unfold lf
    rw [List.length_append, List.length_append, Nat.succ_mul]
    show _ + 1 + _ ≤ _
    split
    · omega
    · show _ + 1 + 0 ≤ _
      omega
def spLitBy : Sp := fun vs H Q _ => ∃ (bx m t f lm : Addr) (zs : List Str) (ds ss : List SS) (xs ys : List V) (ps : List Pst) (ws : List Wtc) (mt : Bool) (rl : Nat) (r : Addr) (o : List Nat) (b : Int), vs = [.ref m, .ref r, .int b] ∧ MA bx H m t f lm zs ds ss xs ys ps ws mt rl ∧ H r = some (.lst ((o.map (nmW ws)).map V.str)) ∧ OkO ws.length o ∧
  ∀ (H' : Hp) (q : Addr), Same H H' → H q = none → H' q = some (.lst ((zs.filter fun z => decide (z ∈ lf (lnk zs ss) ps ws o b ps.length)).map V.str)) → Q (.ref q) H'
theorem WtL.pairs {K : PySem.W.Frag} {H : Hp} : ∀ {ys : List V} {ws : List Wtc}, WtL H ys ws → ∃ as, ys = as.map V.ref ∧ Paired (fun p kv => SqT K H p [kV kv.1, kv.2]) as (lmp ws)
  | [], [], _ => ⟨[], rfl, .nil⟩
  | [], _ :: _, h => by cases h.1
  | _ :: _, [], h => by cases h.1
  | y :: ys, w :: ws, h => by
    obtain ⟨as, e, p⟩ := WtL.pairs (K := K) (H := H) (ys := ys) (ws := ws) ⟨Nat.succ.inj h.1, fun i x q a b => h.2 (i + 1) x q a b⟩
    obtain ⟨q, rfl, hq⟩ := h.2 0 y w rfl rfl
    exact ⟨q :: as, by rw [e]; rfl, .cons (SqT.of hq) p⟩
end Dk
namespace Dk
open PySem L2
/-! ### a drawn scene copied -/
theorem MA.copy {b : Addr} {H : Hp} {m t f lm q : Addr} {zs : List Str} {ds ss : List SS} {xs ys : List V} {ps : List Pst} {ws : List Wtc} {mt : Bool} {rl : Nat} (a : MA b H m t f lm zs ds ss xs ys ps ws mt rl) (n : H q = none) (nb : q ≠ b) : MA b (upd H q (.dK (mkv t f lm mt rl))) q t f lm zs ds ss xs ys ps ws mt rl := by
  have e := a.same (same_new (o := .dK (mkv t f lm mt rl)) n)
  exact ⟨upd_same, nb, e.nf, e.nl, e.lh, e.fp, e.fps, e.fl, e.fls, e.good, e.ok⟩
/-- with other posts -/
theorem MA.putP {b : Addr} {H : Hp} {m t f f2 lm : Addr} {zs : List Str} {ds ss : List SS} {xs xs2 ys : List V} {ps ps2 : List Pst} {ws : List Wtc} {mt : Bool} {rl : Nat} (a : MA b H m t f lm zs ds ss xs ys ps ws mt rl) (n2 : f2 ≠ b) (h2 : H f2 = some (.lst xs2)) (w2 : PsL H xs2 ps2) (ok : ScOk zs ds ss ps2 ws rl) : MA b (upd H m (.dK (mkv t f2 lm mt rl))) m t f2 lm zs ds ss xs2 ys ps2 ws mt rl := by
  have k := KeepT.dk (o := .dK (mkv t f2 lm mt rl)) a.md
  have nl : ∀ {q : Addr} {us : List V}, H q = some (.lst us) → (upd H m (.dK (mkv t f2 lm mt rl))) q = some (.lst us) := fun h => by
    rw [upd_ne (fun z => by rw [z, a.md] at h; cases h)]
    exact h
  obtain ⟨r, d, s, xs', us, m1, m2, m3, g1, g2, g3, g4, g5, g6⟩ := a.lh
  exact ⟨upd_same, a.nm, n2, a.nl, ⟨r, d, s, xs', us, m1, m2, m3, k _ _ g1, nl g2, nl g3, g4.keep k, nl g5, g6.keep k⟩, nl h2, w2.keep k, nl a.fl, WtL.keep a.fls k, a.good, ok⟩
theorem mkv_posts {t f f2 lm : Addr} {mt : Bool} {rl : Nat} : putK (mkv t f lm mt rl) (Sum.inr "posts" : Key) (.ref f2) = mkv t f2 lm mt rl := rfl
/-- nothing that stood is changed by a put into a dict that did not stand -/
def spPlain : Sp := fun vs H Q _ => ∃ (b l m t f lm : Addr) (zs : List Str) (ds ss : List SS) (xs ys : List V) (ps : List Pst) (ws : List Wtc) (mt : Bool) (rl : Nat), vs = [.ref m] ∧ Box H b l ∧ MA b H m t f lm zs ds ss xs ys ps ws mt rl ∧
  ∀ (H' : Hp) (q : Addr), Same H H' → H q = none → MA b H' q t f lm zs ds ss xs ys ps ws false 0 → Q (.ref q) H'
/-! ### barred steps -/
def spBarred (C CS : Addr) : Sp := fun vs H Q _ => ∃ (s : Addr) (zs : List Str) (ds ss : List SS) (ps : List Pst) (ws : List Wtc) (mt : Bool) (rl W : Nat) (x y : Str) (b : Int), vs = [.ref s, .str x, .str y, .int b] ∧ SceneAt C CS H s zs ds ss ps ws mt rl W ∧ x ∈ zs ∧ y ∈ zs ∧ beatOk b ∧
  ∀ H', Same H H' → Q (.bl (decide ((y, x) ∈ movAt (ps.map (·.2)) (rest b W)))) H'
theorem ScA.move {C CS : Addr} {H : Hp} {s : Addr} {zs : List Str} {ds ss : List SS} {ps : List Pst} {ws : List Wtc} {mt : Bool} {rl W : Nat} {dx h p w o hd lg m : Addr} {xs ys os ls ms : List V} (a : ScA C CS H s zs ds ss ps ws mt rl W dx h p w o hd lg m xs ys os ls ms) (b : Int) : ∃ q us, atI ms (b % ((W : Nat) : Int)) = some (V.ref q) ∧ H q = some (.lst us) ∧ PL H us (movAt (ps.map (·.2)) (rest b W)) := by
  obtain ⟨h1, h2⟩ := rest_lt a.fwh.1 b
  have e : ((List.range W).map (movAt (ps.map (·.2))))[rest b W]? = some (movAt (ps.map (·.2)) (rest b W)) := by
    rw [List.getElem?_map, List.getElem?_range h1]
    rfl
  obtain ⟨x, ex, q, us, rfl, hq, hu⟩ := a.fms.of e
  exact ⟨q, us, by rw [← h2]; exact atI_nat ex, hq, hu⟩
theorem stnd_mem {zs : List Str} {tr : List Trk} (hp : ∀ t ∈ tr, 0 < t.1.length) (hz : ∀ t ∈ tr, ∀ r ∈ t.1, r ∈ zs) (b : Int) : ∀ z ∈ stnd tr b, z ∈ zs := fun z h => by
  obtain ⟨t, ht, rfl⟩ := List.mem_map.mp h
  exact hz t ht _ (plcS_mem (hp t ht) _)
theorem mov_ok {zs : List Str} {tr : List Trk} (hn : Names zs) (hp : ∀ t ∈ tr, 0 < t.1.length) (hz : ∀ t ∈ tr, ∀ r ∈ t.1, r ∈ zs) (r : Nat) : ∀ p ∈ movAt tr r, okP p := fun p h => by
  have h1 := (List.mem_filter.mp h).1
  obtain ⟨j, hj, e⟩ := List.mem_iff_getElem.mp h1
  have e2 : ((stnd tr ((r : Int) - 1)).zip (stnd tr (r : Nat)))[j]? = some p := by rw [List.getElem?_eq_getElem hj, e]
  obtain ⟨e3, e4⟩ := List.getElem?_zip_eq_some.mp e2
  exact ⟨nm_ok (hn.2 _ (stnd_mem hp hz _ _ (List.mem_of_getElem? e3))), nm_ok (hn.2 _ (stnd_mem hp hz _ _ (List.mem_of_getElem? e4)))⟩
theorem stnd_rest {tr : List Trk} {W : Nat} (hW : 0 < W) (hd : ∀ p ∈ tr, p.1.length ∣ W) (b : Int) : stnd tr ((rest b W : Nat) : Int) = stnd tr b := by
  unfold stnd
  apply List.map_congr_left
  intro p hp
  exact plcS_rest (hd p hp) hW b p.2
theorem stnd_rest1 {tr : List Trk} {W : Nat} (hW : 0 < W) (hd : ∀ p ∈ tr, p.1.length ∣ W) (b : Int) : stnd tr (((rest b W : Nat) : Int) - 1) = stnd tr (b - 1) := by
  unfold stnd
  apply List.map_congr_left
  intro p hp
  have := plcS_rest (hd p hp) hW b (p.2 + 1)
  rw [show ((rest b W : Nat) : Int) - 1 - ((p.2 : Nat) : Int) = ((rest b W : Nat) : Int) - ((p.2 + 1 : Nat) : Int) by omega, this]
  congr 1
  omega
theorem IsWh.dvd {tr : List Trk} {many : Nat} {mt : Bool} {rl W : Nat} (h : IsWh tr many mt rl W) : ∀ p ∈ tr, p.1.length ∣ W := fun p hp => Nat.dvd_trans (span_len hp) (Nat.dvd_of_mod_eq_zero h.2.2.1)
/-- from y to x, from the beat ahead to the beat -/
def mvd (tr : List Trk) (b : Int) (y x : Str) : Prop := y ≠ x ∧ ∃ i : Nat, (stnd tr (b - 1))[i]? = some y ∧ (stnd tr b)[i]? = some x
theorem mem_mov {tr : List Trk} {many : Nat} {mt : Bool} {rl W : Nat} (h : IsWh tr many mt rl W) (b : Int) (y x : Str) : (y, x) ∈ movAt tr (rest b W) ↔ mvd tr b y x := by
  unfold movAt movN mvd
  rw [stnd_rest h.1 h.dvd, stnd_rest1 h.1 h.dvd, List.mem_filter]
  constructor
  · rintro ⟨h1, h2⟩
    obtain ⟨j, hj, e⟩ := List.mem_iff_getElem.mp h1
    have e2 : ((stnd tr (b - 1)).zip (stnd tr b))[j]? = some (y, x) := by rw [List.getElem?_eq_getElem hj, e]
    obtain ⟨e3, e4⟩ := List.getElem?_zip_eq_some.mp e2
    exact ⟨of_decide_eq_true h2, j, e3, e4⟩
  · rintro ⟨h1, j, h2, h3⟩
    exact ⟨List.mem_of_getElem? (i := j) (List.getElem?_zip_eq_some.mpr ⟨h2, h3⟩), decide_eq_true h1⟩
open Classical in
noncomputable def mvB (tr : List Trk) (b : Int) (y x : Str) : Bool := decide (mvd tr b y x)
theorem mvB_iff {tr : List Trk} {b : Int} {y x : Str} : mvB tr b y x = true ↔ mvd tr b y x := by
  unfold mvB
  exact @decide_eq_true_iff _ (_)
theorem mvB_mov {tr : List Trk} {many : Nat} {mt : Bool} {rl W : Nat} (h : IsWh tr many mt rl W) (b : Int) (y x : Str) : decide ((y, x) ∈ movAt tr (rest b W)) = mvB tr b y x := by
  rw [Bool.eq_iff_iff, decide_eq_true_eq, mvB_iff]
  exact mem_mov h b y x
theorem filter_takeG {α : Type} {p : α → Bool} {l : List α} {i : Nat} {x : α} (e : l[i]? = some x) : (l.take (i + 1)).filter p = (l.take i).filter p ++ (if p x = true then [x] else []) := by
  rw [take_snoc' e, List.filter_append]
  cases h : p x <;> simp [h]
theorem ps_shp {zs : List Str} {ds ss : List SS} {ps qs : List Pst} {ws : List Wtc} {rl : Nat} (h : ScOk zs ds ss ps ws rl) (m : ∀ q ∈ qs, q ∈ ps) : SeqAt.shaped (.list (qs.map psd)) = true := by
  have := psd_lay (ps := qs) fun p hp => ⟨nm_ok (h.pok.names.2 p.1 (List.mem_map.mpr ⟨p, m p hp, rfl⟩)), fun r hr => nm_ok (h.names.2 r ((h.pok.rnd p (m p hp)).mem r hr))⟩
  exact shaped_list this.1 this.2
def hitB (b : Int) (y x : Str) (q : Pst) : Bool := decide (plcS q.2.1 (b - 1 - ((q.2.2 : Nat) : Int)) = y) && decide (plcS q.2.1 (b - ((q.2.2 : Nat) : Int)) = x)
theorem hit_any {ps : List Pst} {b : Int} {y x : Str} : mvB (ps.map (·.2)) b y x = (decide (x ≠ y) && decide (ps.filter (hitB b y x) ≠ [])) := by
  rw [Bool.eq_iff_iff, mvB_iff, Bool.and_eq_true, decide_eq_true_eq, decide_eq_true_eq]
  unfold mvd
  have st : ∀ (c : Int) (i : Nat) (z : Str), (stnd (ps.map (·.2)) c)[i]? = some z ↔ ∃ q, ps[i]? = some q ∧ plcS q.2.1 (c - ((q.2.2 : Nat) : Int)) = z := fun c i z => by
    unfold stnd
    rw [List.getElem?_map, List.getElem?_map]
    cases ps[i]? with
    | none =>
      constructor
      · intro h
        cases h
      · rintro ⟨q, h, _⟩
        cases h
    | some q =>
      constructor
      · intro h
        exact ⟨q, rfl, Option.some.inj h⟩
      · rintro ⟨q', h, e⟩
        rw [← Option.some.inj h] at e
        exact congrArg some e
  constructor
  · rintro ⟨n, i, h1, h2⟩
    refine ⟨fun e => n e.symm, fun e => ?_⟩
    obtain ⟨q, e1, f1⟩ := (st _ _ _).mp h1
    obtain ⟨q', e2, f2⟩ := (st _ _ _).mp h2
    rw [e1] at e2
    rw [← Option.some.inj e2] at f2
    have : q ∈ ps.filter (hitB b y x) := List.mem_filter.mpr ⟨List.mem_of_getElem? e1, by
      unfold hitB
      rw [decide_eq_true f1, decide_eq_true f2]
      rfl⟩
    rw [e] at this
    cases this
  · rintro ⟨n, h⟩
    obtain ⟨q, hq⟩ := List.exists_mem_of_ne_nil _ h
    obtain ⟨h1, h2⟩ := List.mem_filter.mp hq
    obtain ⟨i, hi, e⟩ := List.mem_iff_getElem.mp h1
    unfold hitB at h2
    rw [Bool.and_eq_true, decide_eq_true_eq, decide_eq_true_eq] at h2
    have e1 : ps[i]? = some q := by rw [List.getElem?_eq_getElem hi, e]
    exact ⟨fun e => n e.symm, i, (st _ _ _).mpr ⟨q, e1, h2.1⟩, (st _ _ _).mpr ⟨q, e1, h2.2⟩⟩
def spCrossed : Sp := fun vs H Q _ => ∃ (bx m t f lm : Addr) (zs : List Str) (ds ss : List SS) (xs ys : List V) (ps : List Pst) (ws : List Wtc) (mt : Bool) (rl : Nat) (x y : Str) (b : Int), vs = [.ref m, .str x, .str y, .int b] ∧ MA bx H m t f lm zs ds ss xs ys ps ws mt rl ∧
  ∀ H', Same H H' → Q (.bl (mvB (ps.map (·.2)) b y x)) H'
/-! ### nobody changes -/
theorem ord_plain {tr : List Trk} {many : Nat} : ∀ b, ordN tr many false 0 b = List.range many
  | 0 => rfl
  | b + 1 => by
    show chgN tr false 0 (b + 1) (ordN tr many false 0 b) = _
    rw [ord_plain b]
    unfold chgN
    rw [if_neg (fun h => absurd h.1.1 (by decide))]
    rfl
theorem lit_plain {zs : List Str} {vw : Str → List Str} {tr : List Trk} {ws : List Wtc} {W : Nat} (h : IsWh tr ws.length false 0 W) (b : Int) : litAt zs vw tr ws false 0 (rest b W) = litN zs vw (stnd tr b) (reachN ws ((List.range ws.length).take tr.length)) := by
  unfold litAt
  rw [ord_plain, stnd_rest h.1 h.dvd]
/-! ### rounds turned about -/
def trnS (rs : List Str) : List Str := (List.range rs.length).map fun (i : Nat) => plcS rs (-(i : Int))
theorem trnS_len (rs : List Str) : (trnS rs).length = rs.length := by
  unfold trnS
  rw [List.length_map, List.length_range]
theorem trn_strs {rs : List Str} (h : 0 < rs.length) : trn (rs.map V.str) = (trnS rs).map V.str := by
  unfold trn trnS
  rw [List.map_map, List.length_map]
  apply List.map_congr_left
  intro i _
  exact plc_str h _
theorem plcS_mod {rs : List Str} {a c : Int} (h : a % (rs.length : Int) = c % (rs.length : Int)) : plcS rs a = plcS rs c := by
  unfold plcS
  rw [h]
theorem plcS_trn {rs : List Str} (h : 0 < rs.length) (n : Int) : plcS (trnS rs) n = plcS rs (-n) := by
  obtain ⟨h1, h2⟩ := modlen h n
  show (trnS rs).getD (n % ((trnS rs).length : Int)).toNat Str.empty = _
  rw [trnS_len]
  unfold trnS
  rw [List.getD_eq_getElem?_getD, List.getElem?_map, List.getElem?_range h1]
  show plcS rs (-(((n % (rs.length : Int)).toNat : Nat) : Int)) = _
  rw [h2]
  refine plcS_mod ?_
  rw [Int.neg_emod_eq_sub_emod, Int.neg_emod_eq_sub_emod, ← Int.sub_emod_emod (rs.length : Int) n]
def abt (q : Pst) : Pst := (q.1, trnS q.2.1, ((-((q.2.2 : Nat) : Int)) % (q.2.1.length : Int)).toNat)
theorem stnd_abt {ps : List Pst} (h : ∀ q ∈ ps, 0 < q.2.1.length) (b : Int) : stnd ((ps.map abt).map (·.2)) (-b) = stnd (ps.map (·.2)) b := by
  unfold stnd
  rw [List.map_map, List.map_map, List.map_map]
  apply List.map_congr_left
  intro q hq
  have h0 := h q hq
  obtain ⟨h1, h2⟩ := modlen h0 (-((q.2.2 : Nat) : Int))
  show plcS (trnS q.2.1) (-b - ((((-((q.2.2 : Nat) : Int)) % (q.2.1.length : Int)).toNat : Nat) : Int)) = plcS q.2.1 (b - ((q.2.2 : Nat) : Int))
  rw [plcS_trn h0, h2]
  refine plcS_mod ?_
  rw [show -(-b - (-((q.2.2 : Nat) : Int)) % (q.2.1.length : Int)) = b + (-((q.2.2 : Nat) : Int)) % (q.2.1.length : Int) by omega, Int.add_emod_emod]
  congr 1
theorem rnd_trn {zs : List Str} {ds : List SS} {rs : List Str} (h : Rnd zs (lnk zs (both ds)) rs) : Rnd zs (lnk zs (both ds)) (trnS rs) := by
  have h1 := h.one
  refine rnd_of (by rw [trnS_len]; exact h1) (by rw [trnS_len]; exact h.six) (fun r hr => ?_) (fun i x y hx hy => ?_)
  · obtain ⟨i, _, rfl⟩ := List.mem_map.mp hr
    exact h.mem _ (plcS_mem h1 _)
  · rw [trnS_len] at hy
    have at_ : ∀ (j : Nat) (z : Str), (trnS rs)[j]? = some z → z = plcS rs (-(j : Int)) := fun j z e => by
      unfold trnS at e
      rw [List.getElem?_map] at e
      cases g : (List.range rs.length)[j]? with
      | none =>
        rw [g] at e
        cases e
      | some k =>
        rw [g] at e
        have kj : k = j := by
          have := (List.getElem?_eq_some_iff.mp g).2
          rw [List.getElem_range] at this
          exact this.symm
        rw [← kj]
        exact (Option.some.inj e).symm
    have ex := at_ _ _ hx
    have ey := at_ _ _ hy
    -- y stands one ahead of x
    obtain ⟨k, hk, ek⟩ : ∃ k : Nat, k < rs.length ∧ ((k : Nat) : Int) = (-(i : Int) - 1) % (rs.length : Int) := by
      obtain ⟨a1, a2⟩ := modlen h1 (-(i : Int) - 1)
      exact ⟨_, a1, a2⟩
    have ey2 : y = plcS rs ((k : Nat) : Int) := by
      rw [ey]
      refine plcS_mod ?_
      rw [ek, Int.emod_emod, Int.natCast_emod, Int.neg_emod_eq_sub_emod]
      rw [← Int.sub_emod_emod (rs.length : Int), Int.emod_emod, Int.sub_emod_emod]
      rw [show (rs.length : Int) - ((i + 1 : Nat) : Int) = (-(i : Int) - 1) + (rs.length : Int) by omega, Int.add_emod_right]
    have ey3 : rs[k]? = some y := by
      rw [ey2]
      unfold plcS
      rw [Int.emod_eq_of_lt (by omega) (by omega), List.getD_eq_getElem?_getD]
      show _ = some ((rs[k]?).getD _)
      rw [List.getElem?_eq_getElem hk]
      rfl
    have en : nxt rs k = x := by
      rw [ex]
      unfold nxt plcS
      congr 1
      have : (((k + 1) % rs.length : Nat) : Int) = (-(i : Int)) % (rs.length : Int) := by
        rw [Int.natCast_emod, Int.natCast_add, ek]
        show ((-(i : Int) - 1) % (rs.length : Int) + 1) % (rs.length : Int) = _
        rw [Int.emod_add_emod]
        congr 1
        omega
      omega
    have ad := h.hand k y ey3
    rw [en] at ad
    exact adj_sym (h.mem _ (List.mem_of_getElem? ey3)) ad
theorem abt_at {q : Pst} (h : 0 < q.2.1.length) (b : Int) : plcS (abt q).2.1 (-b - (((abt q).2.2 : Nat) : Int)) = plcS q.2.1 (b - ((q.2.2 : Nat) : Int)) := by
  have := stnd_abt (ps := [q]) (fun z hz => by rw [List.mem_singleton.mp hz]; exact h) b
  exact (List.cons.inj this).1
theorem abt_mvB {ps : List Pst} (h : ∀ q ∈ ps, 0 < q.2.1.length) (b : Int) (y x : Str) : mvB ((ps.map abt).map (·.2)) (1 - b) x y = mvB (ps.map (·.2)) b y x := by
  rw [Bool.eq_iff_iff, mvB_iff, mvB_iff]
  unfold mvd
  rw [show 1 - b - 1 = -b by omega, show 1 - b = -(b - 1) by omega, stnd_abt h, stnd_abt h]
  constructor
  · rintro ⟨n, i, h1, h2⟩
    exact ⟨n.symm, i, h2, h1⟩
  · rintro ⟨n, i, h1, h2⟩
    exact ⟨n.symm, i, h2, h1⟩
/-! ### rows of truth values -/
theorem dp_bls {K : PySem.W.Frag} {H : Hp} : ∀ bs : List Bool, DpAll K H (bs.map V.bl) (bs.map PyData.bool)
  | [] => .nil
  | b :: r => .cons (.bl b) (dp_bls r)
theorem lay_bls : ∀ bs : List Bool, PyData.canLayAll0 (bs.map PyData.bool) = true ∧ PyData.depthAll (bs.map PyData.bool) ≤ 2
  | [] => ⟨rfl, Nat.zero_le _⟩
  | b :: r => by
    obtain ⟨h1, h2⟩ := lay_bls r
    constructor
    · show ((PyData.bool b).canLay0 && PyData.canLayAll0 (r.map PyData.bool)) = true
      rw [h1]
      rfl
    · show max (PyData.bool b).depth (PyData.depthAll (r.map PyData.bool)) ≤ 2
      have e : (PyData.bool b).depth = 0 := rfl
      omega
theorem eqv_bls : ∀ bs : List Bool, PyData.eqv (.list (bs.map PyData.bool)) (.list (bs.map PyData.bool)) = true
  | [] => by simp [PyData.eqv, PyData.eqvAll]
  | b :: r => by
    have ih := eqv_bls r
    simp only [PyData.eqv, List.map_cons, PyData.eqvAll] at ih ⊢
    rw [ih]
    cases b <;> rfl
theorem bls_ne {K : PySem.W.Frag} {H : Hp} {a c : Addr} {bs : List Bool} {Q : VK} (ha : H a = some (.lst (bs.map V.bl))) (hc : H c = some (.lst (bs.map V.bl))) (q : Q (.bl false) H) : rNeD K (.ref a) (.ref c) H Q := by
  refine ⟨_, _, .lst (SqL.of ha) (dp_bls bs), .lst (SqL.of hc) (dp_bls bs), shaped_list (lay_bls bs).1 (lay_bls bs).2, shaped_list (lay_bls bs).1 (lay_bls bs).2, ?_⟩
  rw [eqv_bls]
  exact q
end Dk
namespace Dk
open PySem L2
/-! ### steps -/
noncomputable def stpN (zs : List Str) (ds ss : List SS) (tr : List Trk) (ks : List Nat) (b : Int) (z : Str) : List Str := (handN zs (lnk zs (both ds)) z).filter fun o => !decide (o ∈ litN zs (lnk zs ss) (stnd tr b) ks) && !mvB tr b o z
def spSteps (C CS : Addr) : Sp := fun vs H Q _ => ∃ (s : Addr) (zs : List Str) (ds ss : List SS) (ps : List Pst) (ws : List Wtc) (mt : Bool) (rl W : Nat) (z : Str) (b : Int), vs = [.ref s, .str z, .int b] ∧ SceneAt C CS H s zs ds ss ps ws mt rl W ∧ z ∈ zs ∧ beatOk b ∧
  ∀ (H' : Hp) (q : Addr), Same H H' → H q = none → H' q = some (.lst ((stpN zs ds ss (ps.map (·.2)) (reachN ws ((ordN (ps.map (·.2)) ws.length mt rl (rest (b + 1) W)).take (ps.map (·.2)).length)) (b + 1) z).map V.str)) → Q (.ref q) H'
theorem stp_len {zs : List Str} {ds ss : List SS} {tr : List Trk} {ks : List Nat} {b : Int} {z : Str} : (stpN zs ds ss tr ks b z).length ≤ zs.length := Nat.le_trans (List.length_filter_le ..) (List.length_filter_le ..)
theorem stp_mem {zs : List Str} {ds ss : List SS} {tr : List Trk} {ks : List Nat} {b : Int} {z : Str} : ∀ o ∈ stpN zs ds ss tr ks b z, o ∈ zs := fun o h => (List.mem_filter.mp (List.mem_filter.mp h).1).1
/-! ### rows of texts told equal -/
theorem strs_ne {K : PySem.W.Frag} {H : Hp} {a c : Addr} {zs : List Str} {Q : VK} (ok : ∀ z ∈ zs, PyData.strOk z = true) (ha : H a = some (.lst (zs.map V.str))) (hc : H c = some (.lst (zs.map V.str))) (q : Q (.bl false) H) : rNeD K (.ref a) (.ref c) H Q := by
  have sh : SeqAt.shaped (.list (zs.map PyData.str)) = true := by
    obtain ⟨h1, h2⟩ := lay_strs ok
    exact shaped_list h1 (by omega)
  refine ⟨_, _, .lst (SqL.of ha) (dp_strs zs), .lst (SqL.of hc) (dp_strs zs), sh, sh, ?_⟩
  rw [eqv_lstrs, decide_eq_true rfl]
  exact q
/-! ### later by some beats -/
def ltr (n : Int) (q : Pst) : Pst := (q.1, q.2.1, ((((q.2.2 : Nat) : Int) + n) % (q.2.1.length : Int)).toNat)
theorem ltr_at {q : Pst} (h : 0 < q.2.1.length) (n b : Int) : plcS (ltr n q).2.1 (b + n - (((ltr n q).2.2 : Nat) : Int)) = plcS q.2.1 (b - ((q.2.2 : Nat) : Int)) := by
  obtain ⟨h1, h2⟩ := modlen h (((q.2.2 : Nat) : Int) + n)
  show plcS q.2.1 (b + n - (((((q.2.2 : Nat) : Int) + n) % (q.2.1.length : Int)).toNat : Nat)) = _
  rw [h2]
  refine plcS_mod ?_
  rw [Int.sub_emod_emod]
  congr 1
  omega
theorem stnd_ltr {ps : List Pst} (h : ∀ q ∈ ps, 0 < q.2.1.length) (n b : Int) : stnd ((ps.map (ltr n)).map (·.2)) (b + n) = stnd (ps.map (·.2)) b := by
  unfold stnd
  rw [List.map_map, List.map_map, List.map_map]
  apply List.map_congr_left
  intro q hq
  exact ltr_at (h q hq) n b
theorem ltr_mvB {ps : List Pst} (h : ∀ q ∈ ps, 0 < q.2.1.length) (n b : Int) (y x : Str) : mvB ((ps.map (ltr n)).map (·.2)) (b + n) y x = mvB (ps.map (·.2)) b y x := by
  rw [Bool.eq_iff_iff, mvB_iff, mvB_iff]
  unfold mvd
  rw [show b + n - 1 = b - 1 + n by omega, stnd_ltr h, stnd_ltr h]
theorem lens_ltr (n : Int) (ps : List Pst) : ((ps.map (ltr n)).map (·.2)).map (fun p => p.1.length) = (ps.map (·.2)).map (fun p => p.1.length) := by
  rw [List.map_map, List.map_map, List.map_map]
  rfl
theorem wheel_ltr {ps : List Pst} {many W W2 : Nat} {n : Int} (h : IsWh (ps.map (·.2)) many false 0 W) (h2 : IsWh ((ps.map (ltr n)).map (·.2)) many false 0 W2) : W2 = W := by
  have es : spanN ((ps.map (ltr n)).map (·.2)) many 0 = spanN (ps.map (·.2)) many 0 := by
    unfold spanN
    rw [lens_ltr, if_neg (fun z => absurd z.1 (by decide)), if_neg (fun z => absurd z.1 (by decide))]
  obtain ⟨a1, _, a3, _, a5⟩ := h
  obtain ⟨b1, _, b3, _, b5⟩ := h2
  rw [es] at b3 b5
  rcases Nat.lt_trichotomy W2 W with z | z | z
  · exact absurd ⟨b3, ord_plain _⟩ (a5 W2 b1 z)
  · exact z
  · exact absurd ⟨a3, ord_plain _⟩ (b5 W a1 z)
/-- a put into another dict -/
theorem MA.other {b : Addr} {H : Hp} {m t f lm q : Addr} {zs : List Str} {ds ss : List SS} {xs ys : List V} {ps : List Pst} {ws : List Wtc} {mt : Bool} {rl : Nat} {kv : List (Key × V)} {o : HO} (a : MA b H m t f lm zs ds ss xs ys ps ws mt rl) (hq : H q = some (.dK kv)) (n : q ≠ m) : MA b (upd H q o) m t f lm zs ds ss xs ys ps ws mt rl := by
  have k := KeepT.dk (o := o) hq
  have nl : ∀ {p : Addr} {us : List V}, H p = some (.lst us) → (upd H q o) p = some (.lst us) := fun h => by
    rw [upd_ne (fun z => by rw [z, hq] at h; cases h)]
    exact h
  obtain ⟨r, d, s, xs', us, m1, m2, m3, g1, g2, g3, g4, g5, g6⟩ := a.lh
  exact ⟨by rw [upd_ne n.symm]; exact a.md, a.nm, a.nf, a.nl, ⟨r, d, s, xs', us, m1, m2, m3, k _ _ g1, nl g2, nl g3, g4.keep k, nl g5, g6.keep k⟩, nl a.fp, a.fps.keep k, nl a.fl, WtL.keep a.fls k, a.good, a.ok⟩
theorem ltr_ok {zs : List Str} {ds ss : List SS} {ps : List Pst} {ws : List Wtc} {rl : Nat} (n : Int) (ok : ScOk zs ds ss ps ws rl) : ScOk zs ds ss (ps.map (ltr n)) ws rl := ⟨ok.names, ok.eight, ok.dg, ok.sg, ⟨by rw [List.length_map]; exact ok.pok.five, by rw [List.map_map]; exact ok.pok.names, fun p hp => by
      obtain ⟨z, hz, rfl⟩ := List.mem_map.mp hp
      exact ok.pok.rnd z hz, fun p hp => by
      obtain ⟨z, hz, rfl⟩ := List.mem_map.mp hp
      exact (modlen (ok.pok.rnd z hz).one _).1⟩, ok.wok, by rw [List.length_map]; exact ok.bare, ok.rl4⟩
theorem stp_ltr {zs : List Str} {ds ss : List SS} {ps : List Pst} (h : ∀ q ∈ ps, 0 < q.2.1.length) (ks : List Nat) (n b : Int) (z : Str) : stpN zs ds ss ((ps.map (ltr n)).map (·.2)) ks (b + n + 1) z = stpN zs ds ss (ps.map (·.2)) ks (b + 1) z := by
  unfold stpN
  rw [show b + n + 1 = b + 1 + n by omega, stnd_ltr h]
  congr 1
  funext o
  rw [ltr_mvB h]
end Dk
namespace Dk
open PySem L2
/-! ### a walk that was seen -/
section
variable {zs : List Str} {bh : Str → List Str} {lf : List (List Str)} {w r : List Str}
theorem at0_nxt (w : List Str) (i : Nat) : nxt w i = at0 w ((i + 1) % w.length) := rfl
theorem plc_at0 {w : List Str} (h : 0 < w.length) {b : Int} {i : Nat} (e : b % ((w.length : Nat) : Int) = ((i : Nat) : Int)) : plcS w b = at0 w i := by
  unfold plcS at0
  rw [e]
  rfl
theorem rnd_step (R : Rnd zs bh w) {i : Nat} (hi : i < w.length) : hnd bh (at0 w i) (at0 w ((i + 1) % w.length)) = true := by
  unfold hnd
  rw [Bool.or_eq_true, decide_eq_true_eq, decide_eq_true_eq]
  exact R.hand i _ (at0_some hi)
theorem rd_walk {sg : List Sgt} (R : Rnd zs bh w) (t : ∀ s ∈ sg, agr (plcS w s.1) s = true) : Rd bh (leftN zs w.length sg) w := by
  have w1 := R.one
  refine ⟨(leftN_len ..).symm, fun i hi => ?_, fun i hi => ?_, ?_⟩
  · rw [leftN_len] at hi
    rw [left_get hi]
    refine List.mem_filter.mpr ⟨R.mem _ (List.mem_of_getElem? (at0_some hi)), ?_⟩
    unfold isL
    rw [List.all_eq_true]
    intro s hs
    obtain ⟨h1, h2⟩ := List.mem_filter.mp hs
    have := t s h1
    rw [plc_at0 w1 (of_decide_eq_true h2)] at this
    exact this
  · rw [leftN_len] at hi
    have := rnd_step R (i := i) (by omega)
    rw [Nat.mod_eq_of_lt (by omega)] at this
    exact this
  · rw [leftN_len]
    have := rnd_step R (i := w.length - 1) (by omega)
    rw [show w.length - 1 + 1 = w.length by omega, Nat.mod_self] at this
    exact this
theorem can_walk (L : LfOk zs lf) (sy : SymH zs bh) (R : Rd bh lf w) {i : Nat} (hi : i < lf.length) : at0 w i ∈ canN zs bh lf i := by
  refine List.mem_filter.mpr ⟨R.mem i hi, ?_⟩
  refine Rd.some (w := w) (nrw_ok L hi (fun x hx => by rw [List.mem_singleton.mp hx]; exact L.memD i _ (R.mem i hi)) (by show 1 ≤ 8; decide)) sy ⟨by rw [nrw_len hi]; exact R.len, fun j hj => ?_, fun j hj => R.stp j (by rw [nrw_len hi] at hj; exact hj), by rw [nrw_len hi]; exact R.cls⟩
  rw [nrw_len hi] at hj
  rw [nrw_get hi]
  split
  · rename_i e
    rw [e]
    exact List.mem_singleton.mpr rfl
  · exact R.mem j hj
theorem list_at0 {a b : List Str} (hl : a.length = b.length) (h : ∀ i, i < b.length → at0 a i = at0 b i) : a = b := by
  apply List.ext_getElem? 
  intro i
  by_cases hi : i < b.length
  · rw [at0_some hi, at0_some (by omega), h i hi]
  · rw [List.getElem?_eq_none (by omega), List.getElem?_eq_none (by omega)]
theorem one_eq (L : LfOk zs lf) (sy : SymH zs bh) (R : Rd bh lf w) (e : someN zs bh lf = some r) (h : ∀ i, i < lf.length → someN zs bh (nrw lf i ((lf.getD i []).filter fun x => decide (x ≠ at0 r i))) = none) : r = w := by
  obtain ⟨l1, m1⟩ := some_mem L sy e
  refine list_at0 (l1.trans R.len.symm) fun i hi => ?_
  rw [R.len] at hi
  by_cases q : at0 w i = at0 r i
  · exact q.symm
  · have := Rd.some (nrw_ok L hi (fun x hx => L.memD i x (List.mem_filter.mp hx).1) (Nat.le_trans (List.length_filter_le ..) (L.eightD i))) sy (R.nrw hi q)
    rw [h i hi] at this
    cases this
/-- where one room alone is left at each place -/
theorem pin_eq (L : LfOk zs lf) (sy : SymH zs bh) (R : Rd bh lf w) (p : ∀ i, i < lf.length → ∀ x ∈ lf.getD i [], x = at0 w i) : someN zs bh lf = some w ∧ ∀ i, i < lf.length → someN zs bh (nrw lf i ((lf.getD i []).filter fun x => decide (x ≠ at0 w i))) = none := by
  constructor
  · cases e : someN zs bh lf with
    | none =>
      have := R.some L sy
      rw [e] at this
      cases this
    | some r =>
      obtain ⟨l1, m1⟩ := some_mem L sy e
      congr 1
      refine list_at0 (l1.trans R.len.symm) fun i hi => ?_
      rw [R.len] at hi
      exact p i hi _ (m1 i hi)
  · intro i hi
    refine nrw_none L sy hi (List.filter_eq_nil_iff.mpr fun x hx q => ?_)
    exact of_decide_eq_true q (p i hi x hx)
/-- every place was seen -/
theorem pin_left {sg : List Sgt} (R : Rnd zs bh w) (h : ∀ i, i < w.length → ∃ s ∈ sg, s.1 % ((w.length : Nat) : Int) = ((i : Nat) : Int) ∧ s.2.1 = at0 w i ∧ s.2.2 = true) : ∀ i, i < (leftN zs w.length sg).length → ∀ x ∈ (leftN zs w.length sg).getD i [], x = at0 w i := by
  intro i hi x hx
  rw [leftN_len] at hi
  rw [left_get hi] at hx
  obtain ⟨s, hs, e1, e2, e3⟩ := h i hi
  have := (List.mem_filter.mp hx).2
  unfold isL at this
  have := List.all_eq_true.mp this s (List.mem_filter.mpr ⟨hs, decide_eq_true e1⟩)
  have := of_decide_eq_true this
  rw [e3, e2] at this
  exact of_decide_eq_true this
end
theorem strsT_ne {K : PySem.W.Frag} {H : Hp} {a c : Addr} {zs : List Str} {Q : VK} (ok : ∀ z ∈ zs, PyData.strOk z = true) (ha : H a = some (.tup (zs.map V.str))) (hc : H c = some (.tup (zs.map V.str))) (q : Q (.bl false) H) : rNeD K (.ref a) (.ref c) H Q := by
  have sh := shaped_strs ok
  refine ⟨_, _, .tup (SqT.of ha) (dp_strs zs), .tup (SqT.of hc) (dp_strs zs), sh, sh, ?_⟩
  rw [show PyData.eqv (.tuple (zs.map PyData.str)) (.tuple (zs.map PyData.str)) = true from (eqv_strs zs zs).trans (decide_eq_true rfl)]
  exact q
end Dk
namespace Dk
open PySem L2
/-! ### every beat of a round -/
def evS (rs : List Str) (bt : Int) (n : Nat) : List Sgt := (List.range n).map fun k => (bt + ((k : Nat) : Int), plcS rs (bt + ((k : Nat) : Int)), true)
theorem evS_succ (rs : List Str) (bt : Int) (n : Nat) : evS rs bt (n + 1) = evS rs bt n ++ [(bt + ((n : Nat) : Int), plcS rs (bt + ((n : Nat) : Int)), true)] := by
  unfold evS
  rw [List.range_succ, List.map_append]
  rfl
theorem evS_len (rs : List Str) (bt : Int) (n : Nat) : (evS rs bt n).length = n := by
  unfold evS
  rw [List.length_map, List.length_range]
theorem evS_true (rs : List Str) (bt : Int) (n : Nat) : ∀ s ∈ evS rs bt n, agr (plcS rs s.1) s = true := fun s hs => by
  obtain ⟨k, _, rfl⟩ := List.mem_map.mp hs
  show decide (decide (_ = _) = true) = true
  rw [decide_eq_true (rfl : plcS rs (bt + ((k : Nat) : Int)) = plcS rs (bt + ((k : Nat) : Int)))]
  rfl
theorem evS_at (rs : List Str) (bt : Int) {n : Nat} (h : 0 < n) (c : Int) : ∃ s ∈ evS rs bt n, s.1 % ((n : Nat) : Int) = c % ((n : Nat) : Int) ∧ s.2.1 = plcS rs s.1 ∧ s.2.2 = true := by
  obtain ⟨h1, h2⟩ := rest_lt h (c - bt)
  refine ⟨_, List.mem_map.mpr ⟨rest (c - bt) n, List.mem_range.mpr h1, rfl⟩, ?_, rfl, rfl⟩
  show (bt + ((rest (c - bt) n : Nat) : Int)) % ((n : Nat) : Int) = _
  rw [h2, Int.add_emod_emod]
  congr 1
  omega
def negS (sg : List Sgt) : List Sgt := sg.map fun s => (-s.1, s.2)
theorem pins_ev {zs : List Str} {bh : Str → List Str} {rs : List Str} {sg : List Sgt} (R : Rnd zs bh rs) (bt : Int) : ∀ i, i < rs.length → ∃ s ∈ sg ++ evS rs bt rs.length, s.1 % ((rs.length : Nat) : Int) = ((i : Nat) : Int) ∧ s.2.1 = at0 rs i ∧ s.2.2 = true := fun i hi => by
  obtain ⟨s, hs, e1, e2, e3⟩ := evS_at rs bt R.one ((i : Nat) : Int)
  have e1 := e1.trans (Int.emod_eq_of_lt (a := ((i : Nat) : Int)) (by omega) (by omega))
  exact ⟨s, List.mem_append_right _ hs, e1, by rw [e2, plc_at0 R.one e1], e3⟩
theorem pins_neg {zs : List Str} {bh : Str → List Str} {rs : List Str} {sg : List Sgt} (R : Rnd zs bh rs) (bt : Int) : ∀ i, i < (trnS rs).length → ∃ s ∈ negS (sg ++ evS rs bt rs.length), s.1 % (((trnS rs).length : Nat) : Int) = ((i : Nat) : Int) ∧ s.2.1 = at0 (trnS rs) i ∧ s.2.2 = true := fun i hi => by
  have hl := trnS_len rs
  have r1 := R.one
  obtain ⟨s, hs, e1, e2, e3⟩ := evS_at rs bt R.one (-((i : Nat) : Int))
  have e4 : (-s.1) % ((rs.length : Nat) : Int) = ((i : Nat) : Int) := by
    have d : ((rs.length : Nat) : Int) ∣ (s.1 - -((i : Nat) : Int)) := Int.dvd_of_emod_eq_zero (by rw [Int.sub_emod, e1, Int.sub_self]; rfl)
    obtain ⟨c, hc⟩ := d
    have e5 : -s.1 = ((i : Nat) : Int) + ((rs.length : Nat) : Int) * (-c) := by
      rw [Int.mul_neg, ← hc]
      omega
    rw [e5, Int.add_mul_emod_self_left]
    exact Int.emod_eq_of_lt (by omega) (by omega)
  refine ⟨(-s.1, s.2), List.mem_map.mpr ⟨s, List.mem_append_right _ hs, rfl⟩, by rw [hl]; exact e4, ?_, e3⟩
  show s.2.1 = _
  rw [e2, ← plc_at0 (w := trnS rs) (b := -s.1) (by omega) (by rw [hl]; exact e4), plcS_trn r1, Int.neg_neg]
theorem neg_true {rs : List Str} (h : 0 < rs.length) {sg : List Sgt} (t : ∀ s ∈ sg, agr (plcS rs s.1) s = true) : ∀ s ∈ negS sg, agr (plcS (trnS rs) s.1) s = true := fun s hs => by
  obtain ⟨q, hq, rfl⟩ := List.mem_map.mp hs
  show agr (plcS (trnS rs) (-q.1)) (-q.1, q.2) = true
  rw [plcS_trn h, Int.neg_neg]
  exact t q hq
end Dk
namespace Dk
open PySem L2
theorem Lk.one {H : Hp} {a b p q : Addr} {rs : List Str} (ha : H a = some (.tup [.str "one", .ref p])) (hb : H b = some (.tup [.str "one", .ref q])) (hp : H p = some (.tup (rs.map V.str))) (hq : H q = some (.tup (rs.map V.str))) (hl : rs.length ≤ 1000) : Lk 4 H (.ref a) (.ref b) := by
  refine .inr ⟨a, b, [.str "one", .ref p], [.str "one", .ref q], rfl, rfl, rfl, by show 2 ≤ 1000; decide, .inr ⟨ha, hb⟩, fun i x y hx hy => ?_⟩
  match i with
  | 0 =>
    obtain rfl := Option.some.inj hx
    obtain rfl := Option.some.inj hy
    exact Lk.flat rfl
  | 1 =>
    obtain rfl := Option.some.inj hx
    obtain rfl := Option.some.inj hy
    exact Lk.tup hp hq (by rw [List.length_map]; exact hl) flat_strs
  | n + 2 => simp at hx
end Dk
namespace Dk
open PySem L2
def top (i : Nat) : Stmt := PySem.Challenge.pw_darkthread_k51_whole_what_was_seen_fits.main.body.getD i (.Pass ⟨0, 0, 0, 0⟩)
abbrev sIsBeat : Stmt := top 16
abbrev sNeedBeat : Stmt := top 17
abbrev sIsName : Stmt := top 22
abbrev sNewName : Stmt := top 23
abbrev sNeed : Stmt := top 24
abbrev sNeeds : Stmt := top 25
abbrev sNU : Stmt := top 26
abbrev sNew : Stmt := top 27
abbrev sUnlike : Stmt := top 28
abbrev sLinked : Stmt := top 29
abbrev sInit : Stmt := inClass (top 30) 0
abbrev sRooms : Stmt := inClass (top 30) 1
abbrev sDoors : Stmt := inClass (top 30) 2
abbrev sSights : Stmt := inClass (top 30) 3
abbrev sHas : Stmt := inClass (top 30) 4
abbrev sNear : Stmt := inClass (top 30) 5
abbrev sSees : Stmt := inClass (top 30) 6
abbrev sHasDoor : Stmt := inClass (top 30) 7
abbrev sHasSight : Stmt := inClass (top 30) 8
abbrev sAtHand : Stmt := inClass (top 30) 9
abbrev sLen : Stmt := inClass (top 30) 10
abbrev sEq : Stmt := inClass (top 30) 11
abbrev sStr : Stmt := inClass (top 30) 12
abbrev sRepr : Stmt := inClass (top 30) 13
abbrev sNeedRound : Stmt := top 33
abbrev sPlace : Stmt := top 34
abbrev sTurned : Stmt := top 35
abbrev sDas : Stmt := top 36
abbrev sWheel : Stmt := top 37
abbrev sNeedSeen : Stmt := top 39
abbrev sIsLeft : Stmt := top 40
abbrev sRoomsLeft : Stmt := top 41
abbrev sNextTo : Stmt := top 42
abbrev sTrailOf : Stmt := top 43
abbrev sAlong : Stmt := top 44
abbrev sSome : Stmt := top 45
abbrev sNarrowed : Stmt := top 46
abbrev sRoundsFrom : Stmt := top 47
abbrev sFits : Stmt := top 48
abbrev sCanBe : Stmt := top 49
abbrev sReadRound : Stmt := top 50
abbrev sRoomsAt : Stmt := top 52
abbrev sHasRelief : Stmt := top 53
abbrev sSpanOf : Stmt := top 54
abbrev sHanded : Stmt := top 55
abbrev sRelieved : Stmt := top 56
abbrev sChanged : Stmt := top 57
abbrev sOrders : Stmt := top 58
abbrev sLitRooms : Stmt := top 60
abbrev sMoves : Stmt := top 61
abbrev sHands : Stmt := top 62
abbrev sNeedDelay : Stmt := top 68
abbrev sNeedReach : Stmt := top 69
abbrev sNeedRelief : Stmt := top 70
abbrev sNeedCounts : Stmt := top 71
abbrev sNamesOf : Stmt := top 72
abbrev sNewPosts : Stmt := top 73
abbrev sNewWatchers : Stmt := top 74
abbrev sc_init : Stmt := inClass (top 75) 0
abbrev sc_reaches_in : Stmt := inClass (top 75) 1
abbrev sc_post_number : Stmt := inClass (top 75) 2
abbrev sc_watcher_number : Stmt := inClass (top 75) 3
abbrev sc_house : Stmt := inClass (top 75) 4
abbrev sc_posts : Stmt := inClass (top 75) 5
abbrev sc_watchers : Stmt := inClass (top 75) 6
abbrev sc_rooms_of : Stmt := inClass (top 75) 7
abbrev sc_delay_of : Stmt := inClass (top 75) 8
abbrev sc_reach_of : Stmt := inClass (top 75) 9
abbrev sc_where : Stmt := inClass (top 75) 10
abbrev sc_who : Stmt := inClass (top 75) 11
abbrev sc_post_of : Stmt := inClass (top 75) 12
abbrev sc_lit : Stmt := inClass (top 75) 13
abbrev sc_is_dark : Stmt := inClass (top 75) 14
abbrev sc_barred : Stmt := inClass (top 75) 15
abbrev sc_steps : Stmt := inClass (top 75) 16
abbrev sc_span : Stmt := inClass (top 75) 17
abbrev sc_turning : Stmt := inClass (top 75) 18
abbrev sc_wheel : Stmt := inClass (top 75) 19
abbrev sc_len : Stmt := inClass (top 75) 20
abbrev sc_eq : Stmt := inClass (top 75) 21
abbrev sc_repr : Stmt := inClass (top 75) 22
abbrev sBox : Stmt := top 77
abbrev sDraw : Stmt := top 78
abbrev sOf : Stmt := top 79
abbrev sNames : Stmt := top 80
abbrev sLawHouse : Stmt := top 81
abbrev sLawMade : Stmt := top 82
abbrev sLawNear : Stmt := top 83
abbrev sLawHand : Stmt := top 84
abbrev sLawRound : Stmt := top 85
abbrev sLike : Stmt := top 86
abbrev sLaw : Stmt := top 87
end Dk
namespace Dk
open PySem L2
section
variable {P : Program} {w : World} {K : PySem.W.Frag} {mg : Str → Option Value} {base : Heap}
theorem scIs : FnScope ["text", "sign"] ["text"] (defScope sIsName) := ⟨rfl, rfl, rfl, by decide +kernel, rfl, by decide +kernel, by decide +kernel⟩
theorem ok_is {f : Addr} {fd : FuncData} (F : Fun K "is_name" "is_name" sIsName f fd) (ml : mg "len" = none) (ma : mg "all" = none) {t1 t2 : Tok} (g1 : mg "LONGEST_NAME" = some (.int 8 t1)) (g2 : mg "SMALL_LETTERS" = some (.str abc t2)) : FnOk P w K mg base CX0 1 f fd ["text"] spName := by
  refine F.ok scIs (fun vs H Q E h => ?_) (fun cdv A outer s H vs Q E hr h => ?_)
  · obtain ⟨z, rfl, _⟩ := h
    rfl
  · obtain ⟨z, rfl, hz, k⟩ := h
    refine ⟨_, pss_cons (ps_if (pt_not (pt_chain op_le op_le pe_int (pe_callB call_len_str (by rfl) ml PySem.boot_len (pa_cons (pv 0) pa_nil)) (pe_glob (v := .int 8) (by rfl) g1 ⟨_, rfl⟩))) (pss_one (ps_ret pe_bl)) pss_nil)
      (pss_one (ps_ret (pe_callB (cr_all rfl) (by rfl) ma (by decide +kernel) (pa_cons (pe_lc (own := [("sign", 1)]) (g := gName 1) (tt := tYes) rfl scIs.nd (pi_str (pv 0))
        (blkOk_by (N := ["text", "sign"]) (sc := defScope sIsName) (by decide +kernel)) (fun _ _ _ _ _ => pg_name (i := 1) scIs.nd rfl (Or.inl rfl)) (fun _ _ _ _ _ => pts_nil)
        (fun _ _ _ _ _ => pe_cmpR op_in_sign (pv 1) (pe_glob (v := .str abc) (by rfl) g2 ⟨_, rfl⟩) (by rfl))) pa_nil)))), ?_⟩
    refine ⟨_, rfl, z, rfl, Nat.le_of_lt (small1000 hz), _, _, rfl, rfl, _, rfl, ite2 (fun e => ?_) (fun e => ?_)⟩
    · refine ⟨_, _, rfl, rfl, _, rfl, ?_⟩
      have e1 : (1 : Int) ≤ (z.length : Int) := of_decide_eq_true e
      by_cases e2 : (z.length : Int) ≤ 8
      · rw [decide_eq_true e2]
        refine iteF ?_
        refine ⟨_, rfl, z, rfl, fun D nD => lc_it walk_str (fun i H' => Same H H' ∧ H' D = some (.lst ((inAbc z i).map V.bl))) ⟨same_new nD, upd_same⟩ (fun _ _ _ _ => trivial) ?_ ?_⟩
        · rintro i x H1 H2 hin ⟨s1, hD⟩ ⟨rfl, c, ec, rfl⟩
          refine ⟨rfl, ?_⟩
          refine ⟨_, rfl, c, abc, rfl, rfl, _, hD, inAbc_len hz, fun q o hq => ?_, ?_⟩
          · rw [upd_ne (ne_of_none hq nD)]
            exact s1 _ _ hq
          · rw [upd_same, inAbc_succ ec, List.map_append]
            rfl
        · rintro H1 ⟨s1, hD⟩
          refine ⟨D, _, rfl, SqL.of hD, ?_⟩
          rw [inAbc_all]
          have z1 := k H1 s1
          rw [nm_in (b := true) (decide_eq_true ⟨by omega, by omega⟩), Bool.true_and] at z1
          exact z1
      · rw [decide_eq_false e2]
        refine iteT ?_
        have z1 := k H (Same.refl H)
        rw [nm_in (b := false) (decide_eq_false (fun q => e2 (by omega))), Bool.false_and] at z1
        exact z1
    · refine ⟨false, rfl, ?_⟩
      refine iteT ?_
      have e1 : ¬ (1 : Int) ≤ (z.length : Int) := fun q => e (decide_eq_true q)
      have z1 := k H (Same.refl H)
      rw [nm_in (b := false) (decide_eq_false (fun q => e1 (by omega))), Bool.false_and] at z1
      exact z1
theorem scNewName : FnScope ["name", "others"] ["name", "others"] (defScope sNewName) := ⟨rfl, rfl, rfl, by decide +kernel, rfl, by decide +kernel, by decide +kernel⟩
theorem ok_newname {f fI : Addr} {fd fdI : FuncData} (F : Fun K "need_new_name" "need_new_name" sNewName f fd) (FI : Fun K "is_name" "is_name" sIsName fI fdI) (bI : Binds K fdI ["text"] []) (gI : mg "is_name" = some (.ref fI)) (GI : FnOk P w K mg base CX0 1 fI fdI ["text"] spName) :
    FnOk P w K mg base CX0 2 f fd ["name", "others"] spNewName := by
  refine F.ok scNewName (fun vs H Q E h => ?_) (fun cdv A outer s H vs Q E hr h => ?_)
  · obtain ⟨z, o, zs, rfl, _⟩ := h
    rfl
  · obtain ⟨z, o, zs, rfl, hN, ho, hz, k⟩ := h
    refine ⟨_, pss_cons (ps_if (pt_not (pt_val (pe_call GI hr (by rfl) gI FI.kp bI .nil pass0 (pa_cons (pv 0) pa_nil)))) (pss_one (ps_never)) pss_nil)
      (pss_one (ps_if (pt_cmpR op_in_seq (pv 0) (pv 1) (by rfl)) (pss_one (ps_never)) pss_nil)), ?_⟩
    refine ⟨_, rfl, z, rfl, nm_len hN, fun H1 s1 => ?_⟩
    rw [hN]
    refine ⟨true, rfl, iteF ?_⟩
    refine ⟨_, rfl, _, rfl, o, _, rfl, .inl (SqL.of (s1 _ _ ho)), rfl, flat_all zs, _, rfl, ?_⟩
    show if inV (.str z) (zs.map V.str) = true then _ else _
    rw [in_strs, decide_eq_false hz]
    exact iteF (k H1 s1)
theorem scHas : FnScope ["self", "name"] ["self", "name"] (defScope sHas) := ⟨rfl, rfl, rfl, by decide +kernel, rfl, by decide +kernel, by decide +kernel⟩
structure HTxt (K : PySem.W.Frag) (C : Addr) : Prop where
  cl : Cls K C
  nN : NoAttr K C "names"
  nB : NoAttr K C "behind"
  nV : NoAttr K C "views"
  ha : PySem.W.findIn K (.ref C) "__class__" = some (some (.builtin "object.__class__"))
  hn : PySem.W.specialIn K (.builtin "object.__class__") "__get__" = some (some (.builtin "getset_descriptor.__get__"))
  htk : PySem.W.takesIn K (.builtin "object.__class__") = some true
  hm : PySem.W.mroIn K C (.type "object") = some true
  k1 : PySem.W.kitOne K (.ref C) (.ref C) = some true
theorem ok_has {f C : Addr} {fd : FuncData} (F : Fun K "has_room" "House.has_room" sHas f fd) (T : HTxt K C) : FnOk P w K mg base CX0 1 f fd ["self", "name"] (spHas C) := by
  refine F.ok scHas (fun vs H Q E h => ?_) (fun cdv A outer s H vs Q E hr h => ?_)
  · obtain ⟨h, zs, z, rfl, _⟩ := h
    rfl
  · obtain ⟨h, zs, z, rfl, ⟨dx, n, fs, h1, h2, h3, h4⟩, k⟩ := h
    refine ⟨_, pss_one (ps_ret (pe_cmpR op_in_seq (pv 1) (pe_fld (pv 0) rfl) (by rfl))), ?_⟩
    refine ⟨_, rfl, _, rfl, h, C, dx, fs, _, rfl, h1, T.cl, T.nN, h2, n, _, rfl, .inl (SqL.of h4), rfl, flat_all zs, ?_⟩
    show Q (V.bl (inV (.str z) (zs.map V.str))) H
    rw [in_strs]
    exact k
theorem scNeed : FnScope ["house", "room"] ["house", "room"] (defScope sNeed) := ⟨rfl, rfl, rfl, by decide +kernel, rfl, by decide +kernel, by decide +kernel⟩
theorem ok_need {f fH C : Addr} {fd fdH : FuncData} (F : Fun K "need_room" "need_room" sNeed f fd) (T : HTxt K C) (mH : Meth K C "has_room" fH) (bH : Binds K fdH ["self", "name"] []) (GH : FnOk P w K mg base CX0 1 fH fdH ["self", "name"] (spHas C)) : FnOk P w K mg base CX0 2 f fd ["house", "room"] (spNeed C) := by
  refine F.ok scNeed (fun vs H Q E h => ?_) (fun cdv A outer s H vs Q E hr h => ?_)
  · obtain ⟨h, zs, z, rfl, _⟩ := h
    rfl
  · obtain ⟨h, zs, z, rfl, ⟨dx, n, fs, h1, h2, h3, h4⟩, hz, k⟩ := h
    refine ⟨_, pss_one (ps_if (pt_not (pt_val (pe_meth (pv 0) T.cl mH GH hr bH .nil pass0 (pa_cons (pv 1) pa_nil)))) (pss_one (ps_never)) pss_nil), ?_⟩
    refine ⟨_, rfl, h, dx, fs, rfl, h1, h3, _, rfl, h, zs, z, rfl, ⟨dx, n, fs, h1, h2, h3, h4⟩, ?_⟩
    rw [decide_eq_true hz]
    exact ⟨true, rfl, iteF k⟩
theorem scNeeds : FnScope ["house", "a", "b"] ["house", "a", "b"] (defScope sNeeds) := ⟨rfl, rfl, rfl, by decide +kernel, rfl, by decide +kernel, by decide +kernel⟩
theorem ok_needs {f fN C : Addr} {fd fdN : FuncData} (F : Fun K "need_rooms" "need_rooms" sNeeds f fd) (FN : Fun K "need_room" "need_room" sNeed fN fdN) (bN : Binds K fdN ["house", "room"] []) (gN : mg "need_room" = some (.ref fN)) (GN : FnOk P w K mg base CX0 2 fN fdN ["house", "room"] (spNeed C)) :
    FnOk P w K mg base CX0 3 f fd ["house", "a", "b"] (spNeeds C) := by
  refine F.ok scNeeds (fun vs H Q E h => ?_) (fun cdv A outer s H vs Q E hr h => ?_)
  · obtain ⟨h, zs, y, z, rfl, _⟩ := h
    rfl
  · obtain ⟨h, zs, y, z, rfl, hN, hy, hz, k⟩ := h
    refine ⟨_, pss_cons (ps_expr (pe_call GN hr (by rfl) gN FN.kp bN .nil pass0 (pa_cons (pv 0) (pa_cons (pv 1) pa_nil))))
      (pss_one (ps_expr (pe_call GN hr (by rfl) gN FN.kp bN .nil pass0 (pa_cons (pv 0) (pa_cons (pv 2) pa_nil))))), ?_⟩
    exact ⟨_, rfl, _, rfl, h, zs, y, rfl, hN, hy, _, rfl, _, rfl, h, zs, z, rfl, hN, hz, k⟩
theorem scNew : FnScope ["names", "copied", "name"] ["names"] (defScope sNew) := ⟨rfl, rfl, rfl, by decide +kernel, rfl, by decide +kernel, by decide +kernel⟩
theorem ok_new {f fW : Addr} {fd fdW : FuncData} (F : Fun K "new_names" "new_names" sNew f fd) (FW : Fun K "need_new_name" "need_new_name" sNewName fW fdW) (bW : Binds K fdW ["name", "others"] []) (gW : mg "need_new_name" = some (.ref fW)) (GW : FnOk P w K mg base CX0 2 fW fdW ["name", "others"] spNewName) :
    FnOk P w K mg base CX0 3 f fd ["names"] (spNew K) := by
  refine F.ok scNew (fun vs H Q E h => ?_) (fun cdv A outer s H vs Q E hr h => ?_)
  · obtain ⟨p, zs, rfl, _⟩ := h
    rfl
  · obtain ⟨p, zs, rfl, hS, hN, hl, k⟩ := h
    refine ⟨_, pss_cons (ps_set (i := 1) scNew.nd rfl (Or.inl rfl) (pe_lst pa_nil))
      (pss_cons (ps_for PassesOwn.never rfl (pi_any (pi_list (pv 0)) (pi_tup (pv 0))) (pg_name (i := 2) scNew.nd rfl (Or.inl rfl))
      (pss_cons (ps_expr (pe_call GW hr (by rfl) gW FW.kp bW .nil pass0 (pa_cons (pv 2) (pa_cons (pv 1) pa_nil))))
      (pss_one (ps_expr (pe_bm PySem.F.plainAttrs_list PySem.F.slot_list_append PySem.F.type_list_append mt_append (pv 1) (pa_cons (pv 2) pa_nil))))))
      (pss_one (ps_ret (pv 1)))), ?_⟩
    refine ⟨Nat.zero_le _, fun o no => ?_⟩
    refine for_sq hS rfl (fun i σ H' => ∃ y2 : Option V, σ = [some (.ref p), some (.ref o), y2] ∧ Same H H' ∧ H' o = some (.lst ((zs.take i).map V.str))) ⟨_, rfl, same_new no, upd_same⟩ (fun i σ H' h => by obtain ⟨_, _, s1, _⟩ := h; exact s1) ?_ ?_
    · rintro i x σ H' hx ⟨y2, rfl, s1, ho⟩
      obtain ⟨z, ez, rfl⟩ := str_at hx
      have hi : i < zs.length := (List.getElem?_eq_some_iff.mp ez).1
      refine ⟨_, rfl, _, rfl, z, o, zs.take i, rfl, hN.2 z (List.mem_of_getElem? ez), ho, nodup_at hN.1 ez, fun H2 s2 => ?_⟩
      have ho2 := s2 _ _ ho
      refine ⟨_, rfl, .inl ⟨rfl, _, SqL.of ho2⟩, _, rfl, o, _, _, rfl, rfl, ho2, ?_, ?_⟩
      · rw [List.length_map, List.length_take]
        exact small1000 (by omega)
      · refine ⟨_, rfl, same_put (s1.trans s2) no, ?_⟩
        rw [upd_same, take_snoc ez, List.map_append]
        rfl
    · rintro σ H' ⟨y2, rfl, s1, ho⟩
      rw [List.length_map, List.take_length] at ho
      exact ⟨_, rfl, k H' o s1 no ho⟩
theorem scNU : FnScope ["house", "a", "b"] ["house", "a", "b"] (defScope sNU) := ⟨rfl, rfl, rfl, by decide +kernel, rfl, by decide +kernel, by decide +kernel⟩
theorem ok_nu {f fS C : Addr} {fd fdS : FuncData} (F : Fun K "need_unlike" "need_unlike" sNU f fd) (FS : Fun K "need_rooms" "need_rooms" sNeeds fS fdS) (bS : Binds K fdS ["house", "a", "b"] []) (gS : mg "need_rooms" = some (.ref fS)) (GS : FnOk P w K mg base CX0 3 fS fdS ["house", "a", "b"] (spNeeds C)) :
    FnOk P w K mg base CX0 4 f fd ["house", "a", "b"] (spNU C) := by
  refine F.ok scNU (fun vs H Q E h => ?_) (fun cdv A outer s H vs Q E hr h => ?_)
  · obtain ⟨h, zs, y, z, rfl, _⟩ := h
    rfl
  · obtain ⟨h, zs, y, z, rfl, hN, hy, hz, hu, k⟩ := h
    refine ⟨_, pss_cons (ps_expr (pe_call GS hr (by rfl) gS FS.kp bS .nil pass0 (pa_cons (pv 0) (pa_cons (pv 1) (pa_cons (pv 2) pa_nil)))))
      (pss_one (ps_if (pt_cmpR op_eq (pv 1) (pv 2) (nomark _)) (pss_one (ps_never)) pss_nil)), ?_⟩
    refine ⟨_, rfl, _, rfl, _, rfl, h, zs, y, z, rfl, hN, hy, hz, ?_⟩
    refine ⟨_, rfl, _, rfl, rfl, _, rfl, ?_⟩
    rw [decide_eq_false (fun e => hu (V.str.inj e))]
    exact iteF k
theorem scUnlike : FnScope ["house", "pairs", "copied", "a", "b"] ["house", "pairs"] (defScope sUnlike) := ⟨rfl, rfl, rfl, by decide +kernel, rfl, by decide +kernel, by decide +kernel⟩
theorem ok_unlike {f fS C : Addr} {fd fdS : FuncData} (F : Fun K "unlike_pairs" "unlike_pairs" sUnlike f fd) (FS : Fun K "need_unlike" "need_unlike" sNU fS fdS) (bS : Binds K fdS ["house", "a", "b"] []) (gS : mg "need_unlike" = some (.ref fS)) (GS : FnOk P w K mg base CX0 4 fS fdS ["house", "a", "b"] (spNU C)) :
    FnOk P w K mg base CX0 5 f fd ["house", "pairs"] (spUnlike K C) := by
  refine F.ok scUnlike (fun vs H Q E h => ?_) (fun cdv A outer s H vs Q E hr h => ?_)
  · obtain ⟨h, p, zs, xs, ps, rfl, _⟩ := h
    rfl
  · obtain ⟨h, p, zs, xs, ps, rfl, hN, hS, hP, hl, hg, k⟩ := h
    refine ⟨_, pss_cons (ps_set (i := 2) scUnlike.nd rfl (Or.inl rfl) (pe_lst pa_nil))
      (pss_cons (ps_for PassesOwn.never rfl (pi_any (pi_list (pv 1)) (pi_tup (pv 1))) (pg_tup rfl (pgs_cons (pg_name (i := 3) scUnlike.nd rfl (Or.inl rfl)) (pgs_cons (pg_name (i := 4) scUnlike.nd rfl (Or.inl rfl)) pgs_nil)))
      (pss_cons (ps_expr (pe_call GS hr (by rfl) gS FS.kp bS .nil pass0 (pa_cons (pv 0) (pa_cons (pv 3) (pa_cons (pv 4) pa_nil)))))
      (pss_one (ps_expr (pe_bm PySem.F.plainAttrs_list PySem.F.slot_list_append PySem.F.type_list_append mt_append (pv 2) (pa_cons (pe_tup (pa_cons (pv 3) (pa_cons (pv 4) pa_nil))) pa_nil))))))
      (pss_one (ps_ret (pv 2)))), ?_⟩
    refine ⟨Nat.zero_le _, fun o no => ?_⟩
    refine for_sq hS rfl (fun i σ H' => ∃ y3 y4 : Option V, σ = [some (.ref h), some (.ref p), some (.ref o), y3, y4] ∧ Same H H' ∧ ∃ ys, H' o = some (.lst ys) ∧ PL H' ys (ps.take i)) ⟨_, _, rfl, same_new no, [], upd_same, PL.nil⟩ (fun i σ H' h => by obtain ⟨_, _, _, s1, _⟩ := h; exact s1) ?_ ?_
    · rintro i x σ H' hx ⟨y3, y4, rfl, s1, ys, ho, hy⟩
      obtain ⟨⟨a, b⟩, eab, q, rfl, hq⟩ := hP.at hx
      have hi : i < ps.length := (List.getElem?_eq_some_iff.mp eab).1
      have hg1 := hg _ (List.mem_of_getElem? eab)
      refine ⟨q, _, rfl, SqT.of (s1 _ _ hq), rfl, _, _, rfl, _, _, rfl, rfl, ?_⟩
      refine ⟨_, rfl, _, rfl, _, rfl, h, zs, a, b, rfl, hN.same s1, hg1.1, hg1.2.1, hg1.2.2, ?_⟩
      refine ⟨_, rfl, .inl ⟨rfl, _, SqL.of ho⟩, _, rfl, _, rfl, by show 2 ≤ sizeLine; decide, fun t nt => ?_⟩
      have nto : o ≠ t := ne_of_none ho nt
      have s2 := same_new (o := .tup [.str a, .str b]) nt
      have ylen : ys.length ≤ 1000 := by
        rw [hy.1, List.length_take]
        have := hP.1
        omega
      refine ⟨o, _, _, rfl, rfl, by rw [upd_ne nto]; exact ho, small1000 ylen, ?_⟩
      refine ⟨_, _, rfl, same_put (s1.trans s2) no, ys ++ [.ref t], upd_same, ?_⟩
      have kt : KeepT H' (upd (upd H' t (.tup [.str a, .str b])) o (.lst (ys ++ [.ref t]))) := (KeepT.of s2).trans (KeepT.lst (s2 _ _ ho))
      rw [List.take_add_one, eab]
      exact (hy.keep kt).snoc ⟨t, rfl, by rw [upd_ne nto.symm, upd_same]⟩
    · rintro σ H' ⟨y3, y4, rfl, s1, ys, ho, hy⟩
      rw [hP.1, List.take_length] at hy
      exact ⟨_, rfl, k H' o ys s1 no ho hy⟩
theorem scLinked : FnScope ["rooms", "pairs", "a", "b"] ["rooms", "pairs"] (defScope sLinked) := ⟨rfl, rfl, rfl, by decide +kernel, rfl, by decide +kernel, by decide +kernel⟩
theorem ok_linked {f : Addr} {fd : FuncData} (F : Fun K "linked" "linked" sLinked f fd) : FnOk P w K mg base CX0 1 f fd ["rooms", "pairs"] spLinked := by
  refine F.ok scLinked (fun vs H Q E h => ?_) (fun cdv A outer s H vs Q E hr h => ?_)
  · obtain ⟨n, p, zs, ys, ps, rfl, _⟩ := h
    rfl
  · obtain ⟨n, p, zs, ys, ps, rfl, hn, hN, hl, hp, hP, hok, k⟩ := h
    have hu65 : (A.deeper (PyProof.Rows.envOfC "linked" (defScope sLinked) s.heap.objs.size f cdv)).units + 65 < cLine := by
      have := hr.un
      omega
    refine ⟨_, pss_one (ps_ret (pe_dc (own := [("a", 2)]) (g := gName 2) (tt := tYes) (tv := tLc (iList K (tVar 0)) (gName 3) (tTest (tOp (rInD K) (tTup (tCons (tVar 2) (tCons (tVar 3) tNil))) (tVar 1))) (tVar 3) [3]) rfl scLinked.nd (pi_list (pv 0)) (blkOk_by (N := ["rooms", "pairs", "a", "b"]) (sc := defScope sLinked) (by decide +kernel)) (fun _ _ _ _ _ => (pg_name (i := 2) scLinked.nd rfl (Or.inr rfl))) (fun _ _ _ _ _ => pts_nil) (fun _ _ _ _ _ => (pv 2)) (fun _ _ _ _ _ => (pe_lc (own := [("b", 3)]) (g := gName 3)  rfl scLinked.nd (pi_list (pv 0)) (blkOk_by (N := ["rooms", "pairs", "a", "b"]) (sc := { kind := .function, names := [(".0", .local), ("a", .cell), ("pairs", .cell), ("rooms", .cell)], isGenerator := false, isCoroutine := false }) (by decide +kernel)) (fun _ _ _ _ _ => (pg_name (i := 3) scLinked.nd rfl (Or.inl rfl))) (fun _ _ _ _ _ => pts_one (pt_cmpR (op_inD hu65) (pe_tup (pa_cons (pv 2) (pa_cons (pv 3) pa_nil))) (pv 1) (by rfl))) (fun _ _ _ _ _ => (pv 3)))))), ?_⟩
    refine ⟨_, rfl, n, rfl, ⟨_, SqL.of hn⟩, fun D nD => ?_⟩
    refine dc_list (K := K) (a := n) (xs := zs.map V.str) (fun i H' => Same H H' ∧ ∃ as : List Addr, as.length = i ∧ H' D = some (.dK (kvs (zs.take i) as)) ∧ ∀ (j : Nat) (z : Str) (q : Addr), (zs.take i)[j]? = some z → as[j]? = some q → H q = none ∧ H' q = some (.lst ((lnk zs ps z).map V.str)))
      ⟨same_new nD, [], rfl, upd_same, fun j z q e _ => by simp at e⟩ (fun i H' _ h => SqL.of (h.1 _ _ hn)) ?_ ?_
    · rintro i x H' hx ⟨s1, as, el, hD, has⟩
      obtain ⟨z, ez, rfl⟩ := str_at hx
      have hi : i < zs.length := (List.getElem?_eq_some_iff.mp ez).1
      have hn1 := s1 _ _ hn
      refine ⟨rfl, ?_⟩
      refine ⟨_, rfl, _, rfl, n, rfl, ⟨_, SqL.of hn1⟩, fun B nB => ?_⟩
      have nBD : D ≠ B := ne_of_none hD nB
      have nBH : H B = none := s1.free nB
      refine lc_list (K := K) (a := n) (xs := zs.map V.str) (fun m H2 => Same H' H2 ∧ H2 B = some (.lst ((lnk (zs.take m) ps z).map V.str))) ⟨same_new nB, upd_same⟩ (fun m H2 _ h => SqL.of (h.1 _ _ hn1)) ?_ ?_
      · rintro m y H2 hy ⟨s2, hB⟩
        obtain ⟨b, eb, rfl⟩ := str_at hy
        refine ⟨rfl, ?_⟩
        refine ⟨_, rfl, _, rfl, by show 2 ≤ sizeLine; decide, fun t nt => ?_⟩
        have s3 := same_new (o := .tup [.str z, .str b]) nt
        have s123 := s1.trans (s2.trans s3)
        have hok2 : okP (z, b) := ⟨nm_ok (hN.2 _ (List.mem_of_getElem? ez)), nm_ok (hN.2 _ (List.mem_of_getElem? eb))⟩
        refine ⟨_, rfl, pd (z, b), ps.map pd, pr_dp ⟨t, rfl, upd_same⟩, .lst (SqL.of (s123 _ _ hp)) (pl_dp (hP.same s123)), pd_shaped hok2, pds_shaped hok, _, rfl, ?_⟩
        rw [any_pd]
        refine ite2 (fun e => ?_) (fun e => ?_)
        · have e1 : (z, b) ∈ ps := of_decide_eq_true e
          refine ⟨_, rfl, _, s3 _ _ hB, ?_, same_put (s2.trans s3) nB, ?_⟩
          · rw [List.length_map]
            have := lnk_len (zs.take m) ps z
            rw [List.length_take] at this
            exact small1000 (by omega)
          · rw [upd_same, lnk_take eb, if_pos e1, List.map_append]
            rfl
        · have e1 : ¬ (z, b) ∈ ps := fun q => e (decide_eq_true q)
          refine ⟨s2.trans s3, ?_⟩
          rw [s3 _ _ hB, lnk_take eb, if_neg e1, List.append_nil]
      · rintro H2 ⟨s2, hB⟩
        rw [List.length_map, List.take_length] at hB
        have hD2 := s2 _ _ hD
        have eT := take_snoc ez
        have hnz : valV (kvs (zs.take i) as) (Sum.inr z : Key) = none := kvs_none (nodup_at hN.1 ez)
        have hel : as.length = (zs.take i).length := by
          rw [el, List.length_take]
          omega
        refine ⟨_, (Sum.inr z : Key), rfl, hD2, ?_, same_put (s1.trans s2) nD, as ++ [B], ?_, ?_, ?_⟩
        · rw [kvs_len _ _ hel, List.length_take]
          exact small1000 (by omega)
        · rw [List.length_append, el]
          rfl
        · rw [upd_same, putK_new _ hnz, eT, kvs_snoc hel]
        · intro j y q h1 h2
          have nq : ∀ {q : Addr} {xs : List V}, H2 q = some (.lst xs) → q ≠ D := fun {q xs} hq e => by
            rw [e, hD2] at hq
            cases hq
          rw [eT] at h1
          by_cases hj : j < (zs.take i).length
          · rw [List.getElem?_append_left hj] at h1
            rw [List.getElem?_append_left (by omega)] at h2
            obtain ⟨h3n, h3o⟩ := has j y q h1 h2
            have h3 := s2 _ _ h3o
            rw [upd_ne (nq h3)]
            exact ⟨h3n, h3⟩
          · rw [List.getElem?_append_right (by omega)] at h1 h2
            have ej : j - (zs.take i).length = 0 := by
              have := (List.getElem?_eq_some_iff.mp h1).1
              simp at this
              omega
            rw [ej] at h1
            rw [hel, ej] at h2
            rw [← Option.some.inj h1, ← Option.some.inj h2, upd_ne (nq hB)]
            exact ⟨nBH, hB⟩
    · rintro H' ⟨s1, as, el, hD, has⟩
      rw [List.length_map, List.take_length] at hD has
      rw [List.length_map] at el
      exact k H' D s1 nD ⟨as, el, by rw [new_at nD]; exact hD, fun j z q a b => by rw [new_at (has j z q a b).1]; exact (has j z q a b).2⟩
theorem scInit : FnScope ["self", "rooms", "doors", "sights", "door_pairs", "sight_pairs", "a", "b"] ["self", "rooms", "doors", "sights"] (defScope sInit) := ⟨rfl, rfl, rfl, by decide +kernel, rfl, by decide +kernel, by decide +kernel⟩
abbrev FunI (K : PySem.W.Frag) (dvs : List V) (f : Addr) (fd : FuncData) : Prop := FunD K "__init__" "House.__init__" (defArgs sInit) (defBody sInit) (defScope sInit) dvs [] f fd
theorem ok_init {f fW fU fK C : Addr} {fd fdW fdU fdK : FuncData} {dvs : List V} {tm : Tok} (F : FunI K dvs f fd) (T : HTxt K C) (ml : mg "len" = none) (gM : mg "MOST_ROOMS" = some (.int 8 tm))
    (FW : Fun K "new_names" "new_names" sNew fW fdW) (bW : Binds K fdW ["names"] []) (gW : mg "new_names" = some (.ref fW)) (GW : FnOk P w K mg base CX0 3 fW fdW ["names"] (spNew K))
    (FU : Fun K "unlike_pairs" "unlike_pairs" sUnlike fU fdU) (bU : Binds K fdU ["house", "pairs"] []) (gU : mg "unlike_pairs" = some (.ref fU)) (GU : FnOk P w K mg base CX0 5 fU fdU ["house", "pairs"] (spUnlike K C))
    (FK : Fun K "linked" "linked" sLinked fK fdK) (bK : Binds K fdK ["rooms", "pairs"] []) (gK : mg "linked" = some (.ref fK)) (GK : FnOk P w K mg base CX0 1 fK fdK ["rooms", "pairs"] spLinked) :
    FnOk P w K mg base CX0 6 f fd ["self", "rooms", "doors", "sights"] (spInit K C) := by
  refine F.ok scInit (fun vs H Q E h => ?_) (fun cdv A outer s H vs Q E hr h => ?_)
  · obtain ⟨H0, x, dx, r, d, s, zs, xs, us, ds, ss, rfl, _⟩ := h
    rfl
  · obtain ⟨H0, x, dx, r, d, u, zs, xs, us, ds, ss, rfl, s0, x0, hx, hr', hN, hl, hd, hD, hdl, hdg, hs, hS, hsl, hsg, k⟩ := h
    refine ⟨_, pss_cons (ps_if (pt_cmpR op_gt (pe_callB call_len_seq (by rfl) ml PySem.boot_len (pa_cons (pv 1) pa_nil)) (pe_glob (v := .int 8) (by rfl) gM ⟨_, rfl⟩) (nomark _)) (pss_one (ps_never)) pss_nil)
      (pss_cons (ps_fld (pv 0) (pe_call GW (hr.mono (by decide)) (by rfl) gW FW.kp bW .nil pass0 (pa_cons (pv 1) pa_nil)) rfl)
      (pss_cons (ps_set (i := 4) scInit.nd rfl (Or.inl rfl) (pe_call GU hr (by rfl) gU FU.kp bU .nil pass0 (pa_cons (pv 0) (pa_cons (pv 2) pa_nil))))
      (pss_cons (ps_set (i := 5) scInit.nd rfl (Or.inl rfl) (pe_call GU hr (by rfl) gU FU.kp bU .nil pass0 (pa_cons (pv 0) (pa_cons (pv 3) pa_nil))))
      (pss_cons (ps_fld (pv 0) (pe_call GK (hr.mono (by decide)) (by rfl) gK FK.kp bK .nil pass0 (pa_cons (pe_fld (pv 0) rfl) (pa_cons (pe_op op_cat (pv 4) (pe_lc (own := [("a", 6), ("b", 7)]) (g := gTup K 2 (gCons (gName 6) (gCons (gName 7) gNil))) (tt := tYes)  rfl scInit.nd (pi_list (pv 4)) (blkOk_by (N := ["self", "rooms", "doors", "sights", "door_pairs", "sight_pairs", "a", "b"]) (sc := defScope sInit) (by decide +kernel)) (fun _ _ _ _ _ => (pg_tup rfl (pgs_cons (pg_name (i := 6) scInit.nd rfl (Or.inl rfl)) (pgs_cons (pg_name (i := 7) scInit.nd rfl (Or.inl rfl)) pgs_nil)))) (fun _ _ _ _ _ => pts_nil) (fun _ _ _ _ _ => (pe_tup (pa_cons (pv 7) (pa_cons (pv 6) pa_nil)))))) pa_nil))) rfl)
      (pss_one (ps_fld (pv 0) (pe_call GK (hr.mono (by decide)) (by rfl) gK FK.kp bK .nil pass0 (pa_cons (pe_fld (pv 0) rfl) (pa_cons (pv 5) pa_nil))) rfl)))))), ?_⟩
    refine ⟨_, rfl, r, _, rfl, hr'.same s0, _, _, rfl, rfl, _, rfl, ?_⟩
    rw [List.length_map, decide_eq_false (show ¬ (8 : Int) < ((zs.length : Nat) : Int) by omega)]
    refine iteF ?_
    -- names
    refine ⟨_, rfl, r, zs, rfl, hr'.same s0, hN, by omega, fun H1 n s1 nn hn => ?_⟩
    have hx1 := s1 _ _ hx
    have nxn : n ≠ x := fun e => by
      rw [e, hx] at nn
      cases nn
    refine ⟨_, rfl, x, C, dx, [], rfl, hx1, T.cl, T.nN, by show 0 < 1000; decide, ?_⟩
    have s02 : Same H0 (upd H1 x (.ins C dx (putF "names" (.ref n) []))) := same_put (s0.trans s1) x0
    have hx2 : (upd H1 x (.ins C dx (putF "names" (.ref n) []))) x = some (.ins C dx [(("names" : Str), V.ref n)]) := upd_same
    have hn2 : (upd H1 x (.ins C dx (putF "names" (.ref n) []))) n = some (.lst (zs.map V.str)) := by
      rw [upd_ne nxn]
      exact hn
    generalize upd H1 x (.ins C dx (putF "names" (.ref n) [])) = H2 at s02 hx2 hn2
    have nmd : Nmd C H2 x zs := ⟨dx, n, _, hx2, List.lookup_cons_self, one_no n (by decide +kernel), hn2⟩
    -- pairs
    refine ⟨_, rfl, _, rfl, x, d, zs, xs, ds, rfl, nmd, hd.same s02, hD.same s02, by omega, hdg, fun H3 dp es s3 ndp hdp hes => ?_⟩
    refine ⟨_, rfl, _, rfl, x, u, zs, us, ss, rfl, nmd.same s3, hs.same (s02.trans s3), hS.same (s02.trans s3), by omega, hsg, fun H4 sp fs s4 nsp hsp hfs => ?_⟩
    have s24 := s3.trans s4
    have hx4 := s24 _ _ hx2
    have hn4 := s24 _ _ hn2
    have hdp4 := s4 _ _ hdp
    have hes4 := hes.same s4
    have nl4 : ([(("names" : Str), V.ref n)] : List (Str × V)).lookup ("names" : Str) = some (V.ref n) := List.lookup_cons_self
    -- behind
    refine ⟨_, rfl, x, C, dx, _, _, rfl, hx4, T.cl, T.nN, nl4, _, rfl, _, rfl, dp, rfl, ⟨_, SqL.of hdp4⟩, fun B nB => ?_⟩
    refine lc_list (K := K) (a := dp) (xs := es) (fun i H' => Same H4 H' ∧ ∃ ys, H' B = some (.lst ys) ∧ PL H' ys ((swp ds).take i)) ⟨same_new nB, [], upd_same, PL.nil⟩ (fun i H' _ h => SqL.of (h.1 _ _ hdp4)) ?_ ?_
    · rintro i y H' hy ⟨s5, ys, hB, hys⟩
      obtain ⟨⟨a, b⟩, eab, q, rfl, hq⟩ := hes4.at hy
      have hi : i < ds.length := (List.getElem?_eq_some_iff.mp eab).1
      refine ⟨q, _, rfl, SqT.of (s5 _ _ hq), rfl, _, _, rfl, _, _, rfl, rfl, rfl, ?_⟩
      refine ⟨_, rfl, _, rfl, by show 2 ≤ sizeLine; decide, fun t nt => ?_⟩
      have s6 := same_new (o := .tup [.str b, .str a]) nt
      have nBt : B ≠ t := ne_of_none hB nt
      have yl : ys.length ≤ 400 := by
        rw [hys.1, List.length_take, swp_len]
        have := hD.1
        omega
      refine ⟨_, s6 _ _ hB, small1000 (by omega), same_put (s5.trans s6) nB, ys ++ [.ref t], upd_same, ?_⟩
      have kt : KeepT H' (upd (upd H' t (.tup [.str b, .str a])) B (.lst (ys ++ [.ref t]))) := (KeepT.of s6).trans (KeepT.lst (s6 _ _ hB))
      have e2 : (swp ds)[i]? = some (b, a) := by
        unfold swp
        rw [List.getElem?_map, eab]
        rfl
      rw [List.take_add_one, e2]
      exact (hys.keep kt).snoc ⟨t, rfl, by rw [upd_ne nBt.symm, upd_same]⟩
    rintro H5 ⟨s5, ys, hB, hys⟩
    have eal : es.length = (swp ds).length := by rw [hes4.1, swp_len]
    rw [eal, List.take_length] at hys
    have el5 : es.length ≤ 400 := by
      rw [hes4.1]
      have := hD.1
      omega
    have yl5 : ys.length ≤ 400 := by
      rw [hys.1, ← eal]
      exact el5
    refine ⟨dp, B, _, _, rfl, rfl, s5 _ _ hdp4, hB, Nat.le_of_lt (small1000 (by omega)), fun b2 nb2 => ?_⟩
    have s6 := same_new (o := .lst (es ++ ys)) nb2
    have s46 := s5.trans s6
    have okd : ∀ ab ∈ both ds, okP ab := by
      intro ab hab
      rcases List.mem_append.mp hab with h | h
      · exact pred_ok hN (hdg ab h)
      · obtain ⟨cd, hcd, rfl⟩ := List.mem_map.mp h
        have := pred_ok hN (hdg cd hcd)
        exact ⟨this.2, this.1⟩
    refine ⟨n, b2, zs, es ++ ys, both ds, rfl, s46 _ _ hn4, hN, by omega, upd_same, ((hes4.same s5).append hys).same s6, okd, fun H7 bd s7 nbd hbd => ?_⟩
    have hx7 := s7 _ _ (s46 _ _ hx4)
    refine ⟨_, rfl, x, C, dx, _, rfl, hx7, T.cl, T.nB, by show 1 < 1000; decide, ?_⟩
    rw [put_b]
    have s07 := s02.trans (s24.trans (s46.trans s7))
    have s08 : Same H0 (upd H7 x (.ins C dx [(("names" : Str), V.ref n), (("behind" : Str), V.ref bd)])) := same_put s07 x0
    have hx8 : (upd H7 x (.ins C dx [(("names" : Str), V.ref n), (("behind" : Str), V.ref bd)])) x = some (.ins C dx [(("names" : Str), V.ref n), (("behind" : Str), V.ref bd)]) := upd_same
    have hn8 : (upd H7 x (.ins C dx [(("names" : Str), V.ref n), (("behind" : Str), V.ref bd)])) n = some (.lst (zs.map V.str)) := by
      rw [upd_ne nxn]
      exact s7 _ _ (s46 _ _ hn4)
    have hsp7 := s7 _ _ (s46 _ _ hsp)
    have hsp8 : (upd H7 x (.ins C dx [(("names" : Str), V.ref n), (("behind" : Str), V.ref bd)])) sp = some (.lst fs) := by
      rw [upd_ne (fun e => by rw [e, hx7] at hsp7; cases hsp7)]
      exact hsp7
    have hfs8 : PL (upd H7 x (.ins C dx [(("names" : Str), V.ref n), (("behind" : Str), V.ref bd)])) fs ss := (hfs.same (s46.trans s7)).keep (KeepT.ins hx7)
    have up8 : ∀ q o, newPart (upd H5 b2 (.lst (es ++ ys))) H7 q = some o → (upd H7 x (.ins C dx [(("names" : Str), V.ref n), (("behind" : Str), V.ref bd)])) q = some o := fun q o e => by
      obtain ⟨e1, e2⟩ := new_inv e
      rw [upd_ne (fun z => by rw [z, s46 _ _ hx4] at e1; cases e1)]
      exact e2
    generalize upd H7 x (.ins C dx [(("names" : Str), V.ref n), (("behind" : Str), V.ref bd)]) = H8 at s08 hx8 hn8 hsp8 hfs8 up8
    -- views
    refine ⟨_, rfl, x, C, dx, _, _, rfl, hx8, T.cl, T.nN, List.lookup_cons_self, _, rfl, n, sp, zs, fs, ss, rfl, hn8, hN, by omega, hsp8, hfs8, fun ab hab => pred_ok hN (hsg ab hab), fun H9 vd s9 nvd hvd => ?_⟩
    have hx9 := s9 _ _ hx8
    refine ⟨_, rfl, x, C, dx, _, rfl, hx9, T.cl, T.nV, by show 2 < 1000; decide, ?_⟩
    rw [put_v]
    have sF := same_put (o := .ins C dx (hf n bd vd)) (s08.trans s9) x0
    have n0 : H0 n = none := s0.free nn
    have s0a : Same H0 (upd H5 b2 (.lst (es ++ ys))) := s02.trans (s24.trans s46)
    have upF : ∀ {Ha : Hp} (q : Addr) (o : HO), Ha x ≠ none → Ha q = none → H9 q = some o → (upd H9 x (.ins C dx (hf n bd vd))) q = some o := fun {Ha} q o hx e1 e2 => by
      rw [upd_ne (fun z => hx (by rw [← z]; exact e1))]
      exact e2
    refine k _ sF ⟨dx, n, bd, vd, ?_, ?_, hbd.same (new_up s0a fun q o e1 e2 => ?_), hvd.same (new_up s08 fun q o e1 e2 => ?_), hN, hl⟩
    · rw [new_at x0, upd_same]
    · rw [new_at n0, upd_ne nxn]
      exact s9 _ _ hn8
    · exact upF (Ha := upd H5 b2 (.lst (es ++ ys))) q o (by rw [s46 _ _ hx4]; exact fun z => by cases z) e1 (s9 _ _ (up8 q o (by rw [new_at e1]; exact e2)))
    · exact upF (Ha := H8) q o (by rw [hx8]; exact fun z => by cases z) e1 e2
theorem bind_init0 {t1 t2 t3 f : Addr} {fd : FuncData} (F : FunI K [V.ref t1, V.ref t2, V.ref t3] f fd) : ∃ ds, Vals [V.ref t1, V.ref t2, V.ref t3] ds ∧ Binds K fd ["self", "rooms", "doors", "sights"] ds := by
  refine FunD.binds1 F 1 0 (by simp) rfl ?_
  intro T kV doc pm an cdv ct us its h1 h2
  match us, h1, its, h2 with
  | [_], _, [_, _, _], _ => exact ⟨_, rfl, rfl⟩
theorem bind_init {t1 t2 t3 f : Addr} {fd : FuncData} (F : FunI K [V.ref t1, V.ref t2, V.ref t3] f fd) : Binds K fd ["self", "rooms", "doors", "sights"] [] := by
  obtain ⟨ds, v, b⟩ := FunD.binds1 (ps := ["self", "rooms", "doors", "sights"]) F 4 3 (by simp) rfl (by
    intro T kV doc pm an cdv ct us its h1 h2
    match us, h1, its, h2 with
    | [_, _, _, _], _, [_, _, _], _ => exact ⟨_, rfl, rfl⟩)
  cases v
  exact b
end
end Dk
namespace Dk
open PySem L2
section
variable {P : Program} {w : World} {K : PySem.W.Frag} {mg : Str → Option Value} {base : Heap}
theorem scHD : FnScope ["self", "a", "b"] ["self", "a", "b"] (defScope sHasDoor) := ⟨rfl, rfl, rfl, by decide +kernel, rfl, by decide +kernel, by decide +kernel⟩
theorem ok_hasdoor {f C fNs : Addr} {fd dNs : FuncData} (F : Fun K "has_door" "House.has_door" sHasDoor f fd) (T : HTxt K C) (FNs : Fun K "need_rooms" "need_rooms" sNeeds fNs dNs) (bNs : Binds K dNs ["house", "a", "b"] []) (gNs : mg "need_rooms" = some (.ref fNs)) (GNs : FnOk P w K mg base CX0 3 fNs dNs ["house", "a", "b"] (spNeeds C)) : FnOk P w K mg base CX0 4 f fd ["self", "a", "b"] (spHasDoor C) := by
  refine F.ok scHD (fun vs H Q E h => ?_) (fun cdv A outer s H vs Q E hr h => ?_)
  · obtain ⟨h, zs, bh, vw, a, b, rfl, _⟩ := h
    rfl
  · obtain ⟨h, zs, bh, vw, a, b, rfl, hH, ha, hb, k⟩ := h
    refine ⟨_, pss_cons (ps_expr (pe_call GNs hr (by rfl) gNs FNs.kp bNs .nil pass0 (pa_cons (pv 0) (pa_cons (pv 1) (pa_cons (pv 2) pa_nil)))))
      (pss_one (ps_ret (pe_cmpR op_in_seq (pv 2) (pe_dget (hu_of hr) (pe_fld (pv 0) rfl) (pv 1) (fun _ _ => rfl)) (by rfl)))), ?_⟩
    obtain ⟨⟨dx, n, bx, v, h1, h2, h3, h4, hN, hl⟩, _⟩ := id hH
    obtain ⟨p, hp0, hg⟩ := h3.get hN.1 ha
    refine ⟨_, rfl, _, rfl, _, rfl, h, zs, a, b, rfl, hH.nmd, ha, hb, ?_⟩
    refine ⟨_, rfl, _, rfl, h, C, dx, _, _, rfl, h1, T.cl, T.nB, hf_b _ _ _, _, rfl, bx, _, rfl, hg _ (fun _ _ z => z), p, _, rfl, .inl (SqL.of hp0), rfl, flat_all _, ?_⟩
    show Q (V.bl (inV (.str b) ((bh a).map V.str))) H
    rw [in_strs]
    exact k
theorem scAH : FnScope ["self", "a", "b"] ["self", "a", "b"] (defScope sAtHand) := ⟨rfl, rfl, rfl, by decide +kernel, rfl, by decide +kernel, by decide +kernel⟩
theorem ok_athand {f C fHD : Addr} {fd dHD : FuncData} (F : Fun K "at_hand" "House.at_hand" sAtHand f fd) (T : HTxt K C) (mHD : Meth K C "has_door" fHD) (bHD : Binds K dHD ["self", "a", "b"] []) (GHD : FnOk P w K mg base CX0 4 fHD dHD ["self", "a", "b"] (spHasDoor C)) : FnOk P w K mg base CX0 5 f fd ["self", "a", "b"] (spAtHand C) := by
  refine F.ok scAH (fun vs H Q E h => ?_) (fun cdv A outer s H vs Q E hr h => ?_)
  · obtain ⟨h, zs, bh, vw, a, b, rfl, _⟩ := h
    rfl
  · obtain ⟨h, zs, bh, vw, a, b, rfl, hH, ha, hb, k⟩ := h
    refine ⟨_, pss_one (ps_ret (pe_or (pe_meth (pv 0) T.cl mHD GHD hr bHD .nil pass0 (pa_cons (pv 1) (pa_cons (pv 2) pa_nil))) (pe_one (pe_cmpR op_eq (pv 1) (pv 2) (nomark _))))), ?_⟩
    obtain ⟨⟨dx, n, bx, v, h1, h2, h3, h4, hN, hl⟩, _⟩ := id hH
    refine ⟨_, rfl, h, dx, _, rfl, h1, hf_no _ _ _ (by decide +kernel) (by decide +kernel) (by decide +kernel), _, rfl, _, rfl, h, zs, bh, vw, a, b, rfl, hH, ha, hb, ?_⟩
    cases e : decide (b ∈ bh a) with
    | true =>
      rw [e] at k
      exact ⟨_, rfl, iteT k⟩
    | false =>
      rw [e] at k
      refine ⟨_, rfl, iteF ⟨_, rfl, _, rfl, rfl, ?_⟩⟩
      have e2 : decide (V.str a = V.str b) = decide (a = b) := by
        rw [Bool.eq_iff_iff, decide_eq_true_eq, decide_eq_true_eq]
        exact ⟨fun z => V.str.inj z, fun z => by rw [z]⟩
      rw [e2]
      exact k
theorem scSees : FnScope ["self", "room"] ["self", "room"] (defScope sSees) := ⟨rfl, rfl, rfl, by decide +kernel, rfl, by decide +kernel, by decide +kernel⟩
theorem ok_sees {f C fNe : Addr} {fd dNe : FuncData} (F : Fun K "sees" "House.sees" sSees f fd) (T : HTxt K C) (FNe : Fun K "need_room" "need_room" sNeed fNe dNe) (bNe : Binds K dNe ["house", "room"] []) (gNe : mg "need_room" = some (.ref fNe)) (GNe : FnOk P w K mg base CX0 2 fNe dNe ["house", "room"] (spNeed C)) (m_list : mg "list" = none) : FnOk P w K mg base CX0 3 f fd ["self", "room"] (spSees C) := by
  refine F.ok scSees (fun vs H Q E h => ?_) (fun cdv A outer s H vs Q E hr h => ?_)
  · obtain ⟨h, zs, bh, vw, a, rfl, _⟩ := h
    rfl
  · obtain ⟨h, zs, bh, vw, a, rfl, hH, ha, k⟩ := h
    refine ⟨_, pss_cons (ps_expr (pe_call GNe hr (by rfl) gNe FNe.kp bNe .nil pass0 (pa_cons (pv 0) (pa_cons (pv 1) pa_nil))))
      (pss_one (ps_ret (pe_callTy call_list_of (by rfl) m_list (by decide +kernel) (pa_cons (pe_dget (hu_of hr) (pe_fld (pv 0) rfl) (pv 1) (fun _ _ => rfl)) pa_nil)))), ?_⟩
    obtain ⟨⟨dx, n, bx, v, h1, h2, h3, h4, hN, hl⟩, _⟩ := id hH
    obtain ⟨p, hp0, hg⟩ := h4.get hN.1 ha
    refine ⟨_, rfl, _, rfl, h, zs, a, rfl, hH.nmd, ha, ?_⟩
    refine ⟨_, rfl, h, C, dx, _, _, rfl, h1, T.cl, T.nV, hf_v _ _ _, _, rfl, v, _, rfl, hg _ (fun _ _ z => z), p, _, rfl, .inl (SqL.of hp0), fun q nq => ?_⟩
    exact k _ q (same_new nq) nq upd_same
theorem scNR : FnScope ["house", "rooms", "room", "at"] ["house", "rooms"] (defScope sNeedRound) := ⟨rfl, rfl, rfl, by decide +kernel, rfl, by decide +kernel, by decide +kernel⟩
theorem ok_needround {f C fNe fAH : Addr} {fd dNe dAH : FuncData} (F : Fun K "need_round" "need_round" sNeedRound f fd) {tk : Tok} (T : HTxt K C) (FNe : Fun K "need_room" "need_room" sNeed fNe dNe) (bNe : Binds K dNe ["house", "room"] []) (gNe : mg "need_room" = some (.ref fNe)) (GNe : FnOk P w K mg base CX0 2 fNe dNe ["house", "room"] (spNeed C)) (mAH : Meth K C "at_hand" fAH) (bAH : Binds K dAH ["self", "a", "b"] []) (GAH : FnOk P w K mg base CX0 5 fAH dAH ["self", "a", "b"] (spAtHand C)) (m_len : mg "len" = none) (m_enumerate : mg "enumerate" = none) (cR : mg "MOST_ROUND" = some (.int 6 tk)) : FnOk P w K mg base CX0 6 f fd ["house", "rooms"] (spNeedRound C) := by
  refine F.ok scNR (fun vs H Q E h => ?_) (fun cdv A outer s H vs Q E hr h => ?_)
  · obtain ⟨h, t, zs, bh, vw, rs, rfl, _⟩ := h
    rfl
  · obtain ⟨h, t, zs, bh, vw, rs, rfl, hH, ht, hR, k⟩ := h
    refine ⟨_, pss_cons (ps_if (pt_not (pt_chain op_le op_le pe_int (pe_callB call_len_seq (by rfl) m_len PySem.boot_len (pa_cons (pv 1) pa_nil)) (pe_glob (v := .int 6) (by rfl) cR ⟨_, rfl⟩))) (pss_one (ps_never)) pss_nil)
      (pss_cons (ps_for PassesOwn.never rfl (pi_tup (pv 1)) (pg_name (i := 2) scNR.nd rfl (Or.inl rfl))
      (pss_one (ps_expr (pe_call GNe (hr.mono (by decide)) (by rfl) gNe FNe.kp bNe .nil pass0 (pa_cons (pv 0) (pa_cons (pv 2) pa_nil))))))
      (pss_one (ps_for PassesOwn.never rfl (pi_enumT (by rfl) m_enumerate (pa_cons (pv 1) pa_nil)) (pg_tup rfl (pgs_cons (pg_name (i := 3) scNR.nd rfl (Or.inl rfl)) (pgs_cons (pg_name (i := 2) scNR.nd rfl (Or.inl rfl)) pgs_nil)))
      (pss_one (ps_if (pt_not (pt_val (pe_meth (pv 0) T.cl mAH GAH hr bAH .nil pass0 (pa_cons (pv 2) (pa_cons (pe_ix ix_tup (pv 1) (pe_op op_mod (pe_op op_add (pv 3) pe_int) (pe_callB call_len_seq (by rfl) m_len PySem.boot_len (pa_cons (pv 1) pa_nil))) (fun _ _ => rfl)) pa_nil))))) (pss_one (ps_never)) pss_nil))))), ?_⟩
    have o1 := hR.one
    have o6 := hR.six
    have lR : (rs.map V.str).length = rs.length := List.length_map ..
    refine ⟨_, rfl, t, _, rfl, .inr (SqT.of ht), _, _, rfl, rfl, _, rfl, ?_⟩
    rw [decide_eq_true (show (1 : Int) ≤ (((rs.map V.str).length : Nat) : Int) by rw [lR]; omega)]
    refine iteT ⟨_, _, rfl, rfl, _, rfl, ?_⟩
    rw [decide_eq_true (show (((rs.map V.str).length : Nat) : Int) ≤ 6 by rw [lR]; omega)]
    refine iteF ?_
    refine ⟨_, rfl, t, rfl, ⟨_, SqT.of ht⟩, for_tup (K := K) (a := t) (xs := rs.map V.str) (fun i σ H' => ∃ y2, σ = [some (.ref h), some (.ref t), y2, none] ∧ H' = H) ⟨_, rfl, rfl⟩ (fun i σ H' _ z => by obtain ⟨_, _, rfl⟩ := z; exact SqT.of ht) ?_ ?_⟩
    · rintro i x σ H' hx ⟨y2, rfl, rfl⟩
      obtain ⟨r, er, rfl⟩ := str_at hx
      exact ⟨_, rfl, _, rfl, h, zs, r, rfl, hH.nmd, hR.mem r (List.mem_of_getElem? er), ⟨_, rfl, rfl⟩⟩
    · rintro σ H' ⟨y2, rfl, rfl⟩
      refine ⟨_, rfl, t, _, rfl, SqT.of ht, for_it (walk_enumT (K := K) (a := t) (xs := rs.map V.str)) (fun i σ H2 => ∃ y2 y3, σ = [some (.ref h), some (.ref t), y2, y3] ∧ Same H' H2) ⟨_, _, rfl, fun _ _ z => z⟩ (fun i σ H2 _ z => by obtain ⟨_, _, _, z⟩ := z; exact SqT.of (z _ _ ht)) ?_ ?_⟩
      · rintro i x σ H1 H2 hi ⟨y2, y3, rfl, s1⟩ ⟨tq, x1, y1, rfl, ntq, rfl, e1, e2⟩
        have e1' : x1 = .int (i : Nat) := (Option.some.inj e1).symm
        subst e1'
        obtain ⟨r, er, rfl⟩ := str_at e2
        have s2 := same_new (o := .tup [.int (i : Nat), .str r]) ntq
        have s12 := s1.trans s2
        have hH2 := hH.same s12
        obtain ⟨⟨dx, n, bx, v, h1, _⟩, _⟩ := id hH2
        obtain ⟨m1, m2⟩ := hR.nxt_mem i
        have ei : ((((i : Nat) : Int) + 1) % (((rs.map V.str).length : Nat) : Int)) = (((i + 1) % rs.length : Nat) : Int) := by
          rw [lR, Int.natCast_emod]
          rfl
        refine ⟨tq, _, rfl, SqT.of upd_same, rfl, _, _, rfl, _, _, rfl, rfl, ?_⟩
        refine ⟨_, rfl, h, dx, _, rfl, h1, hf_no _ _ _ (by decide +kernel) (by decide +kernel) (by decide +kernel), _, rfl, _, rfl, _, rfl, _, _, rfl, rfl, _, rfl, t, _, rfl, .inr (SqT.of (s12 _ _ ht)), _, _, rfl, rfl, by rw [lR]; omega, t, _, _, _, rfl, rfl, SqT.of (s12 _ _ ht), by rw [ei]; exact at_str m2 rfl, h, zs, bh, vw, r, nxt rs i, rfl, hH2, hR.mem r (List.mem_of_getElem? er), m1, ?_⟩
        have ok : (decide (nxt rs i ∈ bh r) || decide (r = nxt rs i)) = true := by
          rcases hR.hand i r er with z | z
          · rw [decide_eq_true z]
            rfl
          · rw [decide_eq_true z, Bool.or_true]
        rw [ok]
        exact ⟨true, rfl, iteF ⟨_, _, rfl, s12⟩⟩
      · rintro σ H2 ⟨y2, y3, rfl, s1⟩
        exact k H2 s1
theorem scDas : FnScope ["one", "other", "rest", "behind", "share", "share_behind", "times"] ["one", "other"] (defScope sDas) := ⟨rfl, rfl, rfl, by decide +kernel, rfl, by decide +kernel, by decide +kernel⟩
theorem ok_das {f : Addr} {fd : FuncData} (F : Fun K "divisor_and_share" "divisor_and_share" sDas f fd) : FnOk P w K mg base CX0 1 f fd ["one", "other"] spDas := by
  refine F.ok scDas (fun vs H Q E h => ?_) (fun cdv A outer s H vs Q E hr h => ?_)
  · obtain ⟨x, y, rfl, _⟩ := h
    rfl
  · obtain ⟨x, y, rfl, hx0, hx, hy, k⟩ := h
    refine ⟨_, pss_cons (ps_par (i := 2) (j := 3) (by rfl) scDas.nd rfl rfl (by decide) rfl rfl (pa_cons (pv 0) (pa_cons (pv 1) pa_nil)) (by rfl))
      (pss_cons (ps_asg (pe_tup (pa_cons pe_int (pa_cons pe_int pa_nil))) (pg_tup rfl (pgs_cons (pg_name (i := 4) scDas.nd rfl (Or.inl rfl)) (pgs_cons (pg_name (i := 5) scDas.nd rfl (Or.inl rfl)) pgs_nil))))
      (pss_cons (ps_while PassesOwn.never (pt_cmpR op_gt (pv 3) pe_int (nomark _))
      (pss_cons (ps_set (i := 6) scDas.nd rfl (Or.inl rfl) (pe_op op_fdivW (pv 2) (pv 3)))
      (pss_cons (ps_par (i := 2) (j := 3) (by rfl) scDas.nd rfl rfl (by decide) rfl rfl (pa_cons (pv 3) (pa_cons (pe_op op_sub (pv 2) (pe_op op_mul (pv 6) (pv 3))) pa_nil)) (by rfl))
      (pss_one (ps_par (i := 4) (j := 5) (by rfl) scDas.nd rfl rfl (by decide) rfl rfl (pa_cons (pv 5) (pa_cons (pe_op op_sub (pv 4) (pe_op op_mul (pv 6) (pv 5))) pa_nil)) (by rfl))))))
      (pss_one (ps_ret (pe_tup (pa_cons (pv 2) (pa_cons (pv 4) pa_nil))))))), ?_⟩
    refine ⟨_, rfl, _, rfl, _, _, rfl, by show 2 ≤ sizeLine; decide, fun t0 nt0 => ?_⟩
    refine ⟨t0, _, rfl, SqT.of upd_same, rfl, _, _, rfl, _, _, rfl, rfl, ?_⟩
    refine while_by (fun σ H' => ∃ (r b : Nat) (c d p q : Int) (y6 : Option V), σ = [some (.int (x : Int)), some (.int (y : Int)), some (.int (r : Int)), some (.int (b : Int)), some (.int c), some (.int d), y6] ∧ Same H H' ∧ 0 < r ∧ r < 2 ^ 64 ∧ b < 2 ^ 64 ∧ Nat.gcd r b = Nat.gcd x y ∧ c * x = r + p * y ∧ d * x = b + q * y)
      (fun σ _ => match σ with | [_, _, _, some (.int b), _, _, _] => b.toNat | _ => 0) ⟨x, y, 1, 0, 0, -1, _, rfl, same_new nt0, hx0, hx, hy, rfl, by omega, by omega⟩ ?_ (mono_test (mono_var 3) (mono_const _) ?_)
    · rintro σ H' ⟨r, b, c, d, p, q, y6, rfl, sm, hr0, hr1, hb1, hg, e1, e2⟩
      refine ⟨_, rfl, _, _, rfl, rfl, _, rfl, ite2 (fun e => ?_) (fun e => ?_)⟩
      · have hb0 : (0 : Int) < (b : Int) := of_decide_eq_true e
        have hd : CDivW (r : Int) (b : Int) := wide_div (b := 64) hb0 hb1 (by decide) (by decide)
        refine ⟨_, rfl, _, rfl, _, _, rfl, rfl, hd, ?_⟩
        have hq0 : (0 : Int) ≤ (r : Int) / (b : Int) := Int.ediv_nonneg (by omega) (by omega)
        have hq1 : (r : Int) / (b : Int) ≤ r := Int.ediv_le_self _ (by omega)
        have hmod := Int.emod_add_mul_ediv (r : Int) (b : Int)
        have hrb : ((r % b : Nat) : Int) = (r : Int) - (r : Int) / (b : Int) * (b : Int) := by
          rw [Int.natCast_emod, Int.mul_comm]
          omega
        have hml := Nat.mod_lt r (show 0 < b by omega)
        refine ⟨_, rfl, _, rfl, _, rfl, _, rfl, _, _, rfl, rfl, .inl ⟨by omega, by omega⟩, _, _, rfl, rfl, _, _, rfl, ?_⟩
        refine ⟨_, rfl, _, rfl, _, rfl, _, rfl, _, _, rfl, rfl, .inl ⟨by omega, by omega⟩, _, _, rfl, rfl, _, _, rfl, ?_⟩
        refine ⟨⟨b, r % b, d, c - (r : Int) / (b : Int) * d, q, p - (r : Int) / (b : Int) * q, some (.int ((r : Int) / (b : Int))), by rw [hrb]; rfl, sm, by omega, hb1, by omega, ?_, e2, ?_⟩, ?_⟩
        · rw [← hg, Nat.gcd_comm r b, Nat.gcd_rec b r, Nat.gcd_comm]
        · rw [Int.sub_mul, Int.sub_mul, Int.mul_assoc, Int.mul_assoc, e1, e2, hrb, Int.mul_add]
          omega
        · show ((r : Int) - (r : Int) / (b : Int) * (b : Int)).toNat < ((b : Nat) : Int).toNat
          rw [← hrb]
          omega
      · have hb0 : ¬ (0 : Int) < (b : Int) := fun z => e (decide_eq_true z)
        have eb : b = 0 := by omega
        subst eb
        rw [Nat.gcd_zero_right] at hg
        subst hg
        refine ⟨_, rfl, _, rfl, by show 2 ≤ sizeLine; decide, fun t nt => ?_⟩
        exact k _ t c p (sm.trans (same_new nt)) (sm.free nt) upd_same e1
    · rintro a b H' Q1 Q2 h ⟨i, j, e1, e2, q⟩
      exact ⟨i, j, e1, e2, h _ _ q⟩
theorem scWheel : FnScope ["sizes", "wheel", "size"] ["sizes"] (defScope sWheel) := ⟨rfl, rfl, rfl, by decide +kernel, rfl, by decide +kernel, by decide +kernel⟩
theorem ok_wheel {f fS : Addr} {fd fdS : FuncData} (F : Fun K "wheel_of" "wheel_of" sWheel f fd) (FS : Fun K "divisor_and_share" "divisor_and_share" sDas fS fdS) (bS : Binds K fdS ["one", "other"] []) (gS : mg "divisor_and_share" = some (.ref fS)) : FnOk P w K mg base CX0 2 f fd ["sizes"] (spWheel K) := by
  have GS : FnOk P w K mg base CX0 1 fS fdS ["one", "other"] spDas := ok_das FS
  refine F.ok scWheel (fun vs H Q E h => ?_) (fun cdv A outer s H vs Q E hr h => ?_)
  · obtain ⟨p, ns, rfl, _⟩ := h
    rfl
  · obtain ⟨p, ns, rfl, hS, hn, hl, k⟩ := h
    refine ⟨_, pss_cons (ps_set (i := 1) scWheel.nd rfl (Or.inl rfl) pe_int)
      (pss_cons (ps_for PassesOwn.never rfl (pi_any (pi_list (pv 0)) (pi_tup (pv 0))) (pg_name (i := 2) scWheel.nd rfl (Or.inl rfl))
      (pss_one (ps_set (i := 1) scWheel.nd rfl (Or.inl rfl) (pe_op op_mul (pe_op op_fdivW (pv 1) (pe_ix ix_tup (pe_call GS hr (by rfl) gS FS.kp bS .nil pass0 (pa_cons (pv 1) (pa_cons (pv 2) pa_nil))) pe_int (fun _ _ => rfl))) (pv 2)))))
      (pss_one (ps_ret (pv 1)))), ?_⟩
    have turn : ∀ (D : Ends) (i : Nat) (x : V) (σ : L2.St) (H' : Hp), D.nx = (fun σ H' => ∃ y2 : Option V, σ = [some (.ref p), some (.int (lcmL (ns.take (i + 1)) : Nat)), y2] ∧ Same H H') → (ns.map natV)[i]? = some x → (∃ y2 : Option V, σ = [some (.ref p), some (.int (lcmL (ns.take i) : Nat)), y2] ∧ Same H H') →
        gName 2 x σ H' fun σ2 H2 => (tAsg (tOp (rI CMul fun i j => .int (i * j)) (tOp (rI CDivW fun i j => .int (i / j)) (tVar 1) (tOp (rIxT K) (tCall spDas [] E0 (tCons (tVar 1) (tCons (tVar 2) tNil))) (tC (.int 0)))) (tVar 2)) (gName 1)) D σ2 H2 := by
      rintro D i x σ H' hD hx ⟨y2, rfl, s1⟩
      rw [List.getElem?_map] at hx
      obtain ⟨n, en, rfl⟩ : ∃ n, ns[i]? = some n ∧ x = natV n := by
        cases e : ns[i]? with
        | none =>
          rw [e] at hx
          cases hx
        | some n =>
          rw [e] at hx
          exact ⟨n, rfl, (Option.some.inj hx).symm⟩
      obtain ⟨hn0, hn1⟩ := hn n (List.mem_of_getElem? en)
      have hw := hl i
      have hw0 : 0 < lcmL (ns.take i) := foldl_pos _ (by decide) fun m hm => (hn m (List.mem_of_mem_take hm)).1
      generalize ew : lcmL (ns.take i) = w at *
      refine ⟨_, rfl, _, rfl, _, rfl, w, n, rfl, hw0, hw, hn1, fun H2 t c q s2 nt ht _ => ?_⟩
      have hgp : 0 < Nat.gcd w n := Nat.gcd_pos_of_pos_left n hw0
      have hgl : Nat.gcd w n ≤ w := Nat.le_of_dvd hw0 (Nat.gcd_dvd_left w n)
      have hd : CDivW (w : Int) (Nat.gcd w n : Nat) := wide_div (b := 64) (by omega) (by show ((Nat.gcd w n : Nat) : Int).natAbs < 2 ^ 64; omega) (by decide) (by decide)
      refine ⟨t, _, 0, _, rfl, rfl, SqT.of ht, atI_nat (j := 0) rfl, _, _, rfl, rfl, hd, _, rfl, _, _, rfl, rfl, .inr ⟨by omega, by omega⟩, ?_⟩
      show D.nx _ H2
      rw [hD]
      refine ⟨some (natV n), ?_, s1.trans s2⟩
      have e2 : ((w : Int) / (Nat.gcd w n : Nat)) * (n : Int) = ((lcmL (ns.take (i + 1)) : Nat) : Int) := by
        rw [lcmL_take en, ew, ← lcm_eq, Int.natCast_mul, Int.natCast_ediv]
      rw [← e2]
      rfl
    rcases hS with hS | hS
    · refine .inl ⟨_, rfl, p, rfl, ⟨_, hS⟩, for_list (K := K) (a := p) (xs := ns.map natV) (fun i σ H' => ∃ y2 : Option V, σ = [some (.ref p), some (.int (lcmL (ns.take i) : Nat)), y2] ∧ Same H H') ⟨_, rfl, Same.refl H⟩ (fun i σ H' _ h => by obtain ⟨_, _, s1⟩ := h; exact s1.seq hS) (fun i x σ H' hx h => turn _ i x σ H' rfl hx h) ?_⟩
      rintro σ H' ⟨y2, rfl, s1⟩
      rw [List.length_map, List.take_length]
      exact ⟨_, rfl, k H' s1⟩
    · refine .inr ⟨_, rfl, p, rfl, ⟨_, hS⟩, for_tup (K := K) (a := p) (xs := ns.map natV) (fun i σ H' => ∃ y2 : Option V, σ = [some (.ref p), some (.int (lcmL (ns.take i) : Nat)), y2] ∧ Same H H') ⟨_, rfl, Same.refl H⟩ (fun i σ H' _ h => by obtain ⟨_, _, s1⟩ := h; exact Same.tup s1 hS) (fun i x σ H' hx h => turn _ i x σ H' rfl hx h) ?_⟩
      rintro σ H' ⟨y2, rfl, s1⟩
      rw [List.length_map, List.take_length]
      exact ⟨_, rfl, k H' s1⟩
def spPlace (K : PySem.W.Frag) : Sp := fun vs H Q _ => ∃ (p : Addr) (xs : List V) (b d : Int), vs = [.ref p, .int b, .int d] ∧ Sq K H p xs ∧ 0 < xs.length ∧ Q (plc xs (b - d)) H
def spTurned (K : PySem.W.Frag) : Sp := fun vs H Q _ => ∃ (p : Addr) (xs : List V), vs = [.ref p] ∧ Sq K H p xs ∧ 0 < xs.length ∧ xs.length ≤ 1000 ∧
  ∀ (H' : Hp) (t : Addr), Same H H' → H t = none → H' t = some (.tup (trn xs)) → Q (.ref t) H'
abbrev FunP (K : PySem.W.Frag) (f : Addr) (fd : FuncData) : Prop := FunD K "place" "place" (defArgs sPlace) (defBody sPlace) (defScope sPlace) [] [("delay", .int 0)] f fd
theorem scPlace : FnScope ["rooms", "beat", "delay"] ["rooms", "beat", "delay"] (defScope sPlace) := ⟨rfl, rfl, rfl, by decide +kernel, rfl, by decide +kernel, by decide +kernel⟩
theorem ok_place {f : Addr} {fd : FuncData} (F : FunP K f fd) (ml : mg "len" = none) : FnOk P w K mg base CX0 1 f fd ["rooms", "beat", "delay"] (spPlace K) := by
  refine F.ok scPlace (fun vs H Q E h => ?_) (fun cdv A outer s H vs Q E hr h => ?_)
  · obtain ⟨p, xs, b, d, rfl, _⟩ := h
    rfl
  · obtain ⟨p, xs, b, d, rfl, hS, h0, k⟩ := h
    refine ⟨_, pss_one (ps_ret (pe_ix ix_seq (pv 0) (pe_op op_mod (pe_op op_sub (pv 1) (pv 2)) (pe_callB call_len_seq (by rfl) ml PySem.boot_len (pa_cons (pv 0) pa_nil))) (fun _ _ => rfl))), ?_⟩
    refine ⟨_, rfl, _, rfl, _, rfl, _, _, rfl, rfl, _, rfl, p, xs, rfl, hS, _, _, rfl, rfl, by omega, ?_⟩
    rcases hS with hS | hS
    · exact .inl ⟨p, xs, _, _, rfl, rfl, hS, plc_at h0 _, k⟩
    · exact .inr (.inl ⟨p, xs, _, _, rfl, rfl, hS, plc_at h0 _, k⟩)
theorem bind_place {f : Addr} {fd : FuncData} (F : FunP K f fd) : ∃ ds, Vals [V.int 0] ds ∧ Binds K fd ["rooms", "beat", "delay"] ds := by
  refine FunD.binds0 F 2 (by simp) rfl ?_
  intro D doc pm an cdv ct us ks h1 h2
  match us, h1, ks, h2 with
  | [_, _], _, [_], _ => exact ⟨_, _, _, _, _, _, rfl, rfl, rfl⟩
theorem bindk_place {f : Addr} {fd : FuncData} (F : FunP K f fd) : KBn K fd ["rooms", "beat", "delay"] 2 ["delay"] (fun us ws => us ++ ws) (fun vs zs => vs ++ zs) := by
  obtain ⟨oc, od, dV, kV, doc, pm, an, cdv, ct, osl, rfl, lk, hcd, hD, hK⟩ := F.ex
  rcases hD with ⟨_, rfl⟩ | ⟨e, _⟩
  · refine ⟨fun s us ws _ h1 h2 => ?_, fun r1 r2 => r1.append r2⟩
    match us, h1, ws, h2 with
    | [_, _], _, [_], _ => exact .of_eq rfl
  · exact absurd rfl e
theorem scTurned : FnScope ["rooms", "at"] ["rooms"] (defScope sTurned) := ⟨rfl, rfl, rfl, by decide +kernel, rfl, by decide +kernel, by decide +kernel⟩
theorem ok_turned {f fP : Addr} {fd fdP : FuncData} (F : Fun K "turned" "turned" sTurned f fd) (FP : FunP K fP fdP) (gP : mg "place" = some (.ref fP)) (ml : mg "len" = none) (mt : mg "tuple" = none) (mr : mg "range" = none) : FnOk P w K mg base CX0 2 f fd ["rooms"] (spTurned K) := by
  have GP : FnOk P w K mg base CX0 1 fP fdP ["rooms", "beat", "delay"] (spPlace K) := ok_place FP ml
  obtain ⟨ds, vds, bP⟩ := bind_place FP
  refine F.ok scTurned (fun vs H Q E h => ?_) (fun cdv A outer s H vs Q E hr h => ?_)
  · obtain ⟨p, xs, rfl, _⟩ := h
    rfl
  · obtain ⟨p, xs, rfl, hS, h0, h1, k⟩ := h
    refine ⟨_, pss_one (ps_ret (pe_callTy call_tuple_of (by rfl) mt (by decide +kernel) (pa_cons (pe_lc (own := [("at", 1)]) (g := gName 1) (tt := tYes) rfl scTurned.nd (pi_range1 (by rfl) mr (pa_cons (pe_callB call_len_seq (by rfl) ml PySem.boot_len (pa_cons (pv 0) pa_nil)) pa_nil))
      (blkOk_by (N := ["rooms", "at"]) (sc := defScope sTurned) (by decide +kernel)) (fun _ _ _ _ _ => pg_name (i := 1) scTurned.nd rfl (Or.inl rfl)) (fun _ _ _ _ _ => pts_nil)
      (fun _ _ _ _ _ => pe_call GP hr (by rfl) gP FP.kp bP vds pass0 (pa_cons (pv 0) (pa_cons (pe_un un_neg (pv 1)) pa_nil)))) pa_nil))), ?_⟩
    refine ⟨_, rfl, p, xs, rfl, hS, _, rfl, by omega, by omega, fun D nD => ?_⟩
    refine lc_range (lo := 0) (n := xs.length) (fun j H' => Same H H' ∧ H' D = some (.lst ((List.range j).map fun (i : Nat) => plc xs (-(i : Int))))) ⟨same_new nD, upd_same⟩ ?_ ?_
    · rintro j H3 hj ⟨s3, hD⟩
      refine ⟨rfl, ?_⟩
      refine ⟨_, rfl, _, rfl, _, rfl, p, xs, _, _, rfl, hS.same s3, h0, ?_⟩
      refine ⟨_, hD, by rw [List.length_map, List.length_range]; exact small1000 (by omega), fun q o hq => ?_, ?_⟩
      · rw [upd_ne (ne_of_none hq nD)]
        exact s3 _ _ hq
      · rw [upd_same, List.range_succ, List.map_append, show -(0 + (j : Int)) - 0 = -(j : Int) by omega]
        rfl
    · rintro H3 ⟨s3, hD⟩
      refine ⟨D, _, rfl, .inl ⟨SqL.of hD, fun t nt => ?_⟩⟩
      exact k _ t (s3.trans (same_new nt)) (s3.free nt) upd_same
theorem scRA : FnScope ["tracks", "beat", "rooms", "delay"] ["tracks", "beat"] (defScope sRoomsAt) := ⟨rfl, rfl, rfl, by decide +kernel, rfl, by decide +kernel, by decide +kernel⟩
theorem ok_roomsat {f fPl : Addr} {fd dPl : FuncData} (F : Fun K "rooms_at" "rooms_at" sRoomsAt f fd) (FPl : FunP K fPl dPl) (gPl : mg "place" = some (.ref fPl)) (GPl : FnOk P w K mg base CX0 1 fPl dPl ["rooms", "beat", "delay"] (spPlace K)) : FnOk P w K mg base CX0 2 f fd ["tracks", "beat"] spRoomsAt := by
  refine F.ok scRA (fun vs H Q E h => ?_) (fun cdv A outer s H vs Q E hr h => ?_)
  · obtain ⟨p, xs, tr, b, rfl, _⟩ := h
    rfl
  · obtain ⟨p, xs, tr, b, rfl, hp, hT, ho, k⟩ := h
    refine ⟨_, pss_one (ps_ret (pe_lc (own := [("rooms", 2), ("delay", 3)]) (g := gTup K 2 (gCons (gName 2) (gCons (gName 3) gNil))) (tt := tYes)  rfl scRA.nd (pi_list (pv 0)) (blkOk_by (N := ["tracks", "beat", "rooms", "delay"]) (sc := defScope sRoomsAt) (by decide +kernel)) (fun _ _ _ _ _ => (pg_tup rfl (pgs_cons (pg_name (i := 2) scRA.nd rfl (Or.inl rfl)) (pgs_cons (pg_name (i := 3) scRA.nd rfl (Or.inl rfl)) pgs_nil)))) (fun _ _ _ _ _ => pts_nil) (fun _ _ _ _ _ => (pe_callN GPl hr (by rfl) gPl FPl.kp (bindk_place FPl) pass0 (pa_cons (pv 2) (pa_cons (pv 1) pa_nil)) (pk_cons (pv 3) pk_nil))))), ?_⟩
    have l5 := ho.five
    refine ⟨_, rfl, p, rfl, ⟨_, SqL.of hp⟩, fun D nD => ?_⟩
    refine it_any (walk_list (K := K) (a := p) (xs := xs)) (fun j H' => Same H H' ∧ H' D = some (.lst (((stnd tr b).take j).map V.str))) ⟨same_new nD, upd_same⟩ (fun j H' _ z => SqL.of (z.1 _ _ hp)) ?_ ?_
    · rintro j x H1 H2 hj ⟨s1, hD⟩ ⟨rfl, hx⟩
      obtain ⟨⟨r, dl⟩, et, q, t, rfl, hq, ht⟩ := (hT.same s1).at hx
      have tm := List.mem_of_getElem? et
      refine ⟨q, _, rfl, SqT.of hq, rfl, _, _, rfl, _, _, rfl, rfl, rfl, ?_⟩
      have r0 : 0 < r.length := ho.pos _ tm
      refine ⟨_, rfl, _, rfl, _, rfl, rfl, rfl, t, _, _, _, rfl, .inr (SqT.of ht), by rw [List.length_map]; exact r0, ?_⟩
      rw [plc_str r0]
      refine ⟨_, hD, small1000 (by rw [List.length_map, List.length_take, stnd_len]; omega), same_put s1 nD, ?_⟩
      have es : (stnd tr b)[j]? = some (plcS r (b - ((dl : Nat) : Int))) := by
        unfold stnd
        rw [List.getElem?_map, et]
        rfl
      rw [upd_same, take_snoc' es, List.map_append]
      rfl
    rintro H1 ⟨s1, hD⟩
    rw [hT.1, ← stnd_len tr b, List.take_length] at hD
    exact k H1 D s1 nD hD
theorem scHR : FnScope ["tracks", "many", "relief"] ["tracks", "many", "relief"] (defScope sHasRelief) := ⟨rfl, rfl, rfl, by decide +kernel, rfl, by decide +kernel, by decide +kernel⟩
theorem ok_hasrelief {f : Addr} {fd : FuncData} (F : Fun K "has_relief" "has_relief" sHasRelief f fd) (m_len : mg "len" = none) : FnOk P w K mg base CX0 1 f fd ["tracks", "many", "relief"] spHasRelief := by
  refine F.ok scHR (fun vs H Q E h => ?_) (fun cdv A outer s H vs Q E hr h => ?_)
  · obtain ⟨p, xs, many, rl, rfl, _⟩ := h
    rfl
  · obtain ⟨p, xs, many, rl, rfl, hp, k⟩ := h
    refine ⟨_, pss_one (ps_ret (pe_and (pe_cmpR op_gt (pv 2) pe_int (nomark _)) (pe_one (pe_chain op_lt op_lt pe_int (pe_callB call_len_seq (by rfl) m_len PySem.boot_len (pa_cons (pv 0) pa_nil)) (pv 1))))), ?_⟩
    refine ⟨_, rfl, _, _, rfl, rfl, _, rfl, ?_⟩
    by_cases e1 : 0 < rl
    · rw [decide_eq_true (show (0 : Int) < ((rl : Nat) : Int) by omega)]
      refine iteT ⟨_, rfl, p, _, rfl, .inl (SqL.of hp), _, _, rfl, rfl, _, rfl, ?_⟩
      by_cases e2 : 0 < xs.length
      · rw [decide_eq_true (show (0 : Int) < ((xs.length : Nat) : Int) by omega)]
        refine iteT ⟨_, rfl, _, _, rfl, rfl, ?_⟩
        have e : decide (((xs.length : Nat) : Int) < ((many : Nat) : Int)) = decide (hasR xs.length many rl) := by
          rw [Bool.eq_iff_iff, decide_eq_true_eq, decide_eq_true_eq]
          unfold hasR
          omega
        show Q (V.bl (decide (((xs.length : Nat) : Int) < ((many : Nat) : Int)))) H
        rw [e]
        exact k
      · rw [decide_eq_false (show ¬ (0 : Int) < ((xs.length : Nat) : Int) by omega)]
        refine iteF ?_
        rw [decide_eq_false (fun z => e2 z.2.1)] at k
        exact k
    · rw [decide_eq_false (show ¬ (0 : Int) < ((rl : Nat) : Int) by omega)]
      refine iteF ?_
      rw [decide_eq_false (fun z => e1 z.1)] at k
      exact k
theorem scSO : FnScope ["tracks", "many", "relief", "sizes", "rooms", "delay"] ["tracks", "many", "relief"] (defScope sSpanOf) := ⟨rfl, rfl, rfl, by decide +kernel, rfl, by decide +kernel, by decide +kernel⟩
theorem ok_spanof {f fHr fWh : Addr} {fd dHr dWh : FuncData} (F : Fun K "span_of" "span_of" sSpanOf f fd) (FHr : Fun K "has_relief" "has_relief" sHasRelief fHr dHr) (bHr : Binds K dHr ["tracks", "many", "relief"] []) (gHr : mg "has_relief" = some (.ref fHr)) (GHr : FnOk P w K mg base CX0 1 fHr dHr ["tracks", "many", "relief"] spHasRelief) (FWh : Fun K "wheel_of" "wheel_of" sWheel fWh dWh) (bWh : Binds K dWh ["sizes"] []) (gWh : mg "wheel_of" = some (.ref fWh)) (GWh : FnOk P w K mg base CX0 2 fWh dWh ["sizes"] (spWheel K)) (m_len : mg "len" = none) : FnOk P w K mg base CX0 3 f fd ["tracks", "many", "relief"] spSpanOf := by
  refine F.ok scSO (fun vs H Q E h => ?_) (fun cdv A outer s H vs Q E hr h => ?_)
  · obtain ⟨p, xs, tr, many, rl, rfl, _⟩ := h
    rfl
  · obtain ⟨p, xs, tr, many, rl, rfl, hp, hT, ho, h4, k⟩ := h
    refine ⟨_, pss_cons (ps_setLc (i := 3) (own := [("rooms", 4), ("delay", 5)]) (g := gTup K 2 (gCons (gName 4) (gCons (gName 5) gNil))) (tt := tYes) (te := tCB (fun xs H Q => ∃ p ys, xs = [V.ref p] ∧ (SqL K H p ys ∨ SqT K H p ys) ∧ Q (.int ys.length) H) (tCons (tVar 4) tNil)) rfl scSO.nd rfl rfl (sw_true rfl rfl rfl (by decide +kernel)) (pi_list (pv 0)) (blkOk_by (N := ["tracks", "many", "relief", "sizes", "rooms", "delay"]) (sc := defScope sSpanOf) (by decide +kernel)) (fun _ _ _ _ _ => (pg_tup rfl (pgs_cons (pg_name (i := 4) scSO.nd rfl (Or.inl rfl)) (pgs_cons (pg_name (i := 5) scSO.nd rfl (Or.inl rfl)) pgs_nil)))) (fun _ _ _ _ _ => pts_nil) (fun _ _ _ _ _ => (pe_callB call_len_seq (by rfl) m_len PySem.boot_len (pa_cons (pv 4) pa_nil))))
      (pss_cons (ps_if (pt_val (pe_call GHr (hr.mono (by decide)) (by rfl) gHr FHr.kp bHr .nil pass0 (pa_cons (pv 0) (pa_cons (pv 1) (pa_cons (pv 2) pa_nil))))) (pss_one (ps_expr (pe_bm PySem.F.plainAttrs_list PySem.F.slot_list_append PySem.F.type_list_append mt_append (pv 3) (pa_cons (pe_op op_mul (pv 2) (pe_callB call_len_seq (by rfl) m_len PySem.boot_len (pa_cons (pv 0) pa_nil))) pa_nil)))) pss_nil)
      (pss_one (ps_ret (pe_call GWh hr (by rfl) gWh FWh.kp bWh .nil pass0 (pa_cons (pv 3) pa_nil))))), ?_⟩
    have l5 := ho.five
    have xl := hT.1
    refine ⟨_, rfl, p, rfl, ⟨_, SqL.of hp⟩, fun D nD => ?_⟩
    refine it_any (walk_list (K := K) (a := p) (xs := xs)) (fun j H' => Same H H' ∧ H' D = some (.lst (((tr.map fun q => q.1.length).take j).map natV))) ⟨same_new nD, upd_same⟩ (fun j H' _ z => SqL.of (z.1 _ _ hp)) ?_ ?_
    · rintro j x H1 H2 hj ⟨s1, hD⟩ ⟨rfl, hx⟩
      obtain ⟨⟨r, dl⟩, et, q, t, rfl, hq, ht⟩ := (hT.same s1).at hx
      refine ⟨q, _, rfl, SqT.of hq, rfl, _, _, rfl, _, _, rfl, rfl, rfl, ?_⟩
      refine ⟨_, rfl, t, _, rfl, .inr (SqT.of ht), ?_⟩
      rw [List.length_map]
      refine ⟨_, hD, small1000 (by rw [List.length_map, List.length_take, List.length_map]; omega), same_put s1 nD, ?_⟩
      have es : (tr.map fun q => q.1.length)[j]? = some r.length := by
        rw [List.getElem?_map, et]
        rfl
      rw [upd_same, take_snoc' es, List.map_append]
      rfl
    rintro H1 ⟨s1, hD⟩
    rw [xl, show tr.length = (tr.map fun q => q.1.length).length from (List.length_map ..).symm, List.take_length] at hD
    have fin : ∀ (ns : List Nat), lcmL ns = spanN tr many rl → (∀ n ∈ ns, 0 < n ∧ n ≤ 20) → (∀ i, lcmL (ns.take i) < 2 ^ 64) := by
      intro ns el hn i
      have d1 : lcmL (ns.take i) ∣ lcmL ns := foldl_dvd_of _ _ _ (Nat.one_dvd _) fun n h => ((foldl_dvd ns 1 _).mp (Nat.dvd_refl _)).2 n (List.mem_of_mem_take h)
      rw [el] at d1
      have := Nat.le_of_dvd (span_pos ho) d1
      have := span_le (many := many) ho h4
      omega
    have base : ∀ n ∈ (tr.map fun q => q.1.length), 0 < n ∧ n ≤ 20 := fun n hn => by
      obtain ⟨q, hq, rfl⟩ := List.mem_map.mp hn
      have := ho.pos q hq
      have := ho.six q hq
      omega
    refine ⟨_, rfl, _, rfl, _, rfl, p, xs, many, rl, rfl, s1 _ _ hp, _, rfl, ?_⟩
    rw [xl]
    by_cases hh : hasR tr.length many rl
    · rw [decide_eq_true hh]
      have es : lcmL ((tr.map fun q => q.1.length) ++ [rl * tr.length]) = spanN tr many rl := by
        unfold spanN
        rw [if_pos hh]
      have hn : ∀ n ∈ (tr.map fun q => q.1.length) ++ [rl * tr.length], 0 < n ∧ n ≤ 20 := fun n hn => by
        rcases List.mem_append.mp hn with hn | hn
        · exact base n hn
        · rw [List.mem_singleton.mp hn]
          exact ⟨Nat.mul_pos hh.1 hh.2.1, Nat.mul_le_mul h4 l5⟩
      have hl := fin _ es hn
      refine iteT ⟨_, rfl, .inl ⟨rfl, _, SqL.of hD⟩, _, rfl, _, rfl, p, _, rfl, .inl (SqL.of (s1 _ _ hp)), _, _, rfl, rfl, .inl ⟨by omega, by omega⟩, D, _, _, rfl, rfl, hD, small1000 (by rw [List.length_map, List.length_map]; omega), ?_⟩
      have eD : (tr.map fun q => q.1.length).map natV ++ [V.int (((rl : Nat) : Int) * ((xs.length : Nat) : Int))] = ((tr.map fun q => q.1.length) ++ [rl * tr.length]).map natV := by
        rw [List.map_append, xl, ← Int.natCast_mul]
        rfl
      rw [eD]
      refine ⟨_, rfl, D, _, rfl, .inl (SqL.of upd_same), fun n h => ⟨(hn n h).1, by have := (hn n h).2; omega⟩, hl, fun H3 s3 => ?_⟩
      rw [es]
      exact k H3 ((same_put s1 nD).trans s3)
    · rw [decide_eq_false hh]
      have es : lcmL (tr.map fun q => q.1.length) = spanN tr many rl := by
        unfold spanN
        rw [if_neg hh, List.append_nil]
      have hl := fin _ es base
      refine iteF ⟨_, rfl, D, _, rfl, .inl (SqL.of hD), fun n h => ⟨(base n h).1, by have := (base n h).2; omega⟩, hl, fun H3 s3 => ?_⟩
      rw [es]
      exact k H3 (s1.trans s3)
end
end Dk
namespace Dk
open PySem L2
section
variable {P : Program} {w : World} {K : PySem.W.Frag} {mg : Str → Option Value} {base : Heap}
theorem scHO : FnScope ["order", "rooms", "changed", "first", "second"] ["order", "rooms"] (defScope sHanded) := ⟨rfl, rfl, rfl, by decide +kernel, rfl, by decide +kernel, by decide +kernel⟩
theorem ok_handed {f : Addr} {fd : FuncData} (F : Fun K "handed_over" "handed_over" sHanded f fd) (m_list : mg "list" = none) (m_len : mg "len" = none) (m_range : mg "range" = none) : FnOk P w K mg base CX0 1 f fd ["order", "rooms"] spHanded := by
  refine F.ok scHO (fun vs H Q E h => ?_) (fun cdv A outer s H vs Q E hr h => ?_)
  · obtain ⟨o, r, os, rs, rfl, _⟩ := h
    rfl
  · obtain ⟨o, r, os, rs, rfl, ho, hr', l1, l2, okr, k⟩ := h
    refine ⟨_, pss_cons (ps_set (i := 2) scHO.nd rfl (Or.inl rfl) (pe_callTy call_list_of (by rfl) m_list (by decide +kernel) (pa_cons (pv 0) pa_nil)))
      (pss_cons (ps_for PassesOwn.never rfl (pi_range1 (by rfl) m_range (pa_cons (pe_callB call_len_seq (by rfl) m_len PySem.boot_len (pa_cons (pv 1) pa_nil)) pa_nil)) (pg_name (i := 3) scHO.nd rfl (Or.inl rfl))
      (pss_one (ps_for PassesOwn.never rfl (pi_range2 (by rfl) m_range (pa_cons (pe_op op_add (pv 3) pe_int) (pa_cons (pe_callB call_len_seq (by rfl) m_len PySem.boot_len (pa_cons (pv 1) pa_nil)) pa_nil))) (pg_name (i := 4) scHO.nd rfl (Or.inl rfl))
      (pss_one (ps_if (pt_cmpR op_eq (pe_ix ix_list (pv 1) (pv 3) (fun _ _ => rfl)) (pe_ix ix_list (pv 1) (pv 4) (fun _ _ => rfl)) (nomark _)) (pss_one (ps_asg (pe_tup (pa_cons (pe_ix ix_list (pv 2) (pv 4) (fun _ _ => rfl)) (pa_cons (pe_ix ix_list (pv 2) (pv 3) (fun _ _ => rfl)) pa_nil))) (pg_tup rfl (pgs_cons (pg_sub (pv 2) (pv 3) set_list) (pgs_cons (pg_sub (pv 2) (pv 4) set_list) pgs_nil))))) pss_nil)))))
      (pss_one (ps_ret (pv 2)))), ?_⟩
    refine ⟨_, rfl, o, _, rfl, .inl (SqL.of ho), fun D nD => ?_⟩
    have s0 := same_new (o := .lst (os.map natV)) nD
    have rD : r ≠ D := ne_of_none hr' nD
    have lR : (rs.map V.str).length = rs.length := List.length_map ..
    refine ⟨_, rfl, r, _, rfl, .inl (SqL.of (s0 _ _ hr')), rs.length, by rw [lR], by omega, by omega, for_range (n := rs.length) (fun f σ H' => ∃ y3 y4, σ = [some (.ref o), some (.ref r), some (.ref D), y3, y4] ∧ Same H H' ∧ H' D = some (.lst ((hoUp rs f os).map natV))) ⟨_, _, rfl, s0, upd_same⟩ ?_ ?_⟩
    · rintro f' σ H1 hf ⟨y3, y4, rfl, s1, hD⟩
      have hr1 := s1 _ _ hr'
      have el : (hoUp rs f' os).length = os.length := hoUp_len rs os f'
      refine ⟨_, rfl, _, _, rfl, rfl, _, rfl, r, _, rfl, .inl (SqL.of hr1), _, _, rfl, ⟨by omega, by omega, by rw [lR]; omega, by rw [lR]; omega⟩, ?_⟩
      have en : ((((rs.map V.str).length : Nat) : Int) - (0 + (f' : Int) + 1)).toNat = rs.length - (f' + 1) := by
        rw [lR]
        omega
      rw [en]
      refine for_range (lo := 0 + (f' : Int) + 1) (n := rs.length - (f' + 1)) (fun j σ H' => ∃ y4, σ = [some (.ref o), some (.ref r), some (.ref D), some (.int (0 + (f' : Int))), y4] ∧ Same H H' ∧ H' D = some (.lst ((hoIn rs f' j (hoUp rs f' os)).map natV))) ⟨_, rfl, s1, hD⟩ ?_ ?_
      · rintro j σ H2 hj ⟨y4, rfl, s2, hD2⟩
        have hr2 := s2 _ _ hr'
        have ol : (hoIn rs f' j (hoUp rs f' os)).length = os.length := by rw [hoIn_len, el]
        have e1 : rs[f']? = some rs[f'] := List.getElem?_eq_getElem hf
        have e2 : rs[f' + 1 + j]? = some (rs[f' + 1 + j]'(by omega)) := List.getElem?_eq_getElem (by omega)
        have i2 : 0 + (f' : Int) + 1 + (j : Int) = ((f' + 1 + j : Nat) : Int) := by omega
        have i1 : 0 + (f' : Int) = ((f' : Nat) : Int) := by omega
        have nx : hoIn rs f' (j + 1) (hoUp rs f' os) = if rs[f']? = rs[f' + 1 + j]? then swN (hoIn rs f' j (hoUp rs f' os)) f' (f' + 1 + j) else hoIn rs f' j (hoUp rs f' os) := rfl
        generalize hoIn rs f' j (hoUp rs f' os) = o' at hD2 ol nx
        refine ⟨_, rfl, _, rfl, r, _, _, _, rfl, rfl, SqL.of hr2, at_str e1 i1, _, rfl, _, rfl, r, _, _, _, rfl, rfl, SqL.of hr2, at_str e2 i2, rfl, _, rfl, ite2 (fun e => ?_) (fun e => ?_)⟩
        · have e' : rs[f'] = rs[f' + 1 + j]'(by omega) := V.str.inj (of_decide_eq_true e)
          rw [if_pos (by rw [e1, e2, e'])] at nx
          refine ⟨_, rfl, _, rfl, D, _, _, _, rfl, rfl, SqL.of hD2, by rw [i2]; exact atI_nat (nat_at (by omega)), _, rfl, _, rfl, D, _, _, _, rfl, rfl, SqL.of hD2, by rw [i1]; exact atI_nat (nat_at (by omega)), by show 2 ≤ sizeLine; decide, fun tq ntq => ?_⟩
          have nDt : D ≠ tq := ne_of_none hD2 ntq
          have hD3 : (upd H2 tq (.tup [natV (o'.getD (f' + 1 + j) 0), natV (o'.getD f' 0)])) D = some (.lst (o'.map natV)) := by
            rw [upd_ne nDt]
            exact hD2
          refine ⟨tq, _, rfl, SqT.of upd_same, rfl, _, _, rfl, _, rfl, _, rfl, D, _, _, f', rfl, rfl, hD3, by rw [i1]; exact ixN_nat (by rw [List.length_map]; omega), _, _, rfl, _, rfl, _, rfl, D, _, _, f' + 1 + j, rfl, rfl, upd_same, by rw [i2]; exact ixN_nat (by rw [List.length_set, List.length_map]; omega), rfl, ?_⟩
          refine ⟨_, rfl, same_put (same_put (s2.trans (same_new ntq)) nD) nD, ?_⟩
          rw [upd_same, nx, set_nat, set_nat]
          rfl
        · have e' : ¬ rs[f'] = rs[f' + 1 + j]'(by omega) := fun z => e (decide_eq_true (by rw [z]))
          rw [if_neg (by rw [e1, e2]; exact fun z => e' (Option.some.inj z))] at nx
          refine ⟨_, rfl, s2, ?_⟩
          rw [nx]
          exact hD2
      · rintro σ H2 ⟨y4, rfl, s2, hD2⟩
        exact ⟨_, _, rfl, s2, hD2⟩
    · rintro σ H1 ⟨y3, y4, rfl, s1, hD⟩
      exact ⟨_, rfl, k H1 D s1 nD hD⟩
theorem scRel : FnScope ["order", "posts", "post", "bearing", "waiting"] ["order", "posts", "post"] (defScope sRelieved) := ⟨rfl, rfl, rfl, by decide +kernel, rfl, by decide +kernel, by decide +kernel⟩
theorem ok_relieved {f : Addr} {fd : FuncData} (F : Fun K "relieved" "relieved" sRelieved f fd)  : FnOk P w K mg base CX0 1 f fd ["order", "posts", "post"] spRelieved := by
  refine F.ok scRel (fun vs H Q E h => ?_) (fun cdv A outer s H vs Q E hr h => ?_)
  · obtain ⟨o, os, n, p, rfl, _⟩ := h
    rfl
  · obtain ⟨o, os, n, p, rfl, ho, hn, hp, l6, k⟩ := h
    refine ⟨_, pss_cons (ps_set (i := 3) scRel.nd rfl (Or.inl rfl) (pe_slice sl_list (pv 0) po_none (po_some (pv 1))))
      (pss_cons (ps_set (i := 4) scRel.nd rfl (Or.inl rfl) (pe_slice sl_list (pv 0) (po_some (pv 1)) po_none))
      (pss_cons (ps_asg (pe_ix ix_list (pv 4) pe_int (fun _ _ => rfl)) (pg_sub (pv 3) (pv 2) set_list))
      (pss_one (ps_ret (pe_op op_cat (pe_op op_cat (pv 3) (pe_slice sl_list (pv 4) (po_some pe_int) po_none)) (pe_lst (pa_cons (pe_ix ix_list (pv 0) (pv 2) (fun _ _ => rfl)) pa_nil))))))), ?_⟩
    have lM : (os.map natV).length = os.length := List.length_map ..
    refine ⟨_, rfl, _, rfl, _, rfl, o, _, rfl, SqL.of ho, fun B nB => ?_⟩
    rw [cut_to (by rw [lM]; omega)]
    have s1 := same_new (o := .lst ((os.map natV).take n)) nB
    have hB : (upd H B (.lst ((os.map natV).take n))) B = some (.lst ((os.map natV).take n)) := upd_same
    generalize upd H B (.lst ((os.map natV).take n)) = H1 at s1 hB
    refine ⟨_, rfl, _, rfl, _, rfl, o, _, rfl, SqL.of (s1 _ _ ho), fun Wt nW => ?_⟩
    rw [cut_of (by rw [lM]; omega)]
    have s2 := same_new (o := .lst ((os.map natV).drop n)) nW
    have hW : (upd H1 Wt (.lst ((os.map natV).drop n))) Wt = some (.lst ((os.map natV).drop n)) := upd_same
    have nBW : B ≠ Wt := ne_of_none hB nW
    generalize upd H1 Wt (.lst ((os.map natV).drop n)) = H2 at s2 hW
    have s02 := s1.trans s2
    have eW : (os.map natV).drop n = natV (os.getD n 0) :: (os.drop (n + 1)).map natV := by
      rw [← List.map_drop, List.drop_eq_getElem_cons hn, List.map_cons]
      congr 2
      rw [List.getD_eq_getElem?_getD, List.getElem?_eq_getElem hn]
      rfl
    rw [eW] at hW
    have hB2 := s2 _ _ hB
    rw [← List.map_take] at hB2
    refine ⟨_, rfl, Wt, _, 0, _, rfl, rfl, SqL.of hW, atI_nat (j := 0) rfl, _, rfl, _, rfl, B, _, _, p, rfl, rfl, hB2, ixN_nat (by rw [List.length_map, List.length_take]; omega), ?_⟩
    rw [set_nat]
    have s3 := same_put (o := .lst (((os.take n).set p (os.getD n 0)).map natV)) s02 nB
    have hB3 : (upd H2 B (.lst (((os.take n).set p (os.getD n 0)).map natV))) B = some (.lst (((os.take n).set p (os.getD n 0)).map natV)) := upd_same
    have hW3 : (upd H2 B (.lst (((os.take n).set p (os.getD n 0)).map natV))) Wt = some (.lst (natV (os.getD n 0) :: (os.drop (n + 1)).map natV)) := by
      rw [upd_ne nBW.symm]
      exact hW
    generalize upd H2 B (.lst (((os.take n).set p (os.getD n 0)).map natV)) = H3 at s3 hB3 hW3
    refine ⟨_, rfl, _, rfl, _, rfl, Wt, _, rfl, SqL.of hW3, fun c nc => ?_⟩
    rw [cut_tail]
    have s4 := same_new (o := .lst ((os.drop (n + 1)).map natV)) nc
    refine ⟨B, c, _, _, rfl, rfl, s4 _ _ hB3, upd_same, Nat.le_of_lt (small1000 (by rw [List.length_map, List.length_map, List.length_set, List.length_take, List.length_drop]; omega)), fun g ng => ?_⟩
    have s5 := s4.trans (same_new (o := .lst (((os.take n).set p (os.getD n 0)).map natV ++ (os.drop (n + 1)).map natV)) ng)
    have hg : (upd (upd H3 c (.lst ((os.drop (n + 1)).map natV))) g (.lst (((os.take n).set p (os.getD n 0)).map natV ++ (os.drop (n + 1)).map natV))) g = some (.lst (((os.take n).set p (os.getD n 0)).map natV ++ (os.drop (n + 1)).map natV)) := upd_same
    generalize upd (upd H3 c (.lst ((os.drop (n + 1)).map natV))) g (.lst (((os.take n).set p (os.getD n 0)).map natV ++ (os.drop (n + 1)).map natV)) = H5 at s5 hg
    have s05 := s3.trans s5
    refine ⟨_, rfl, _, rfl, o, _, _, _, rfl, rfl, SqL.of (s05 _ _ ho), atI_nat (nat_at (by omega)), by show 1 ≤ sizeLine; decide, fun c2 nc2 => ?_⟩
    have s6 := same_new (o := .lst [natV (os.getD p 0)]) nc2
    refine ⟨g, c2, _, _, rfl, rfl, s6 _ _ hg, upd_same, Nat.le_of_lt (small1000 (by rw [List.length_append, List.length_map, List.length_map, List.length_set, List.length_take, List.length_drop]; show _ + 1 ≤ 1000; omega)), fun z nz => ?_⟩
    refine k _ z ((s05.trans s6).trans (same_new nz)) ((s05.trans s6).free nz) ?_
    rw [upd_same]
    unfold relN
    rw [List.map_append, List.map_append]
    rfl
theorem scCO : FnScope ["order", "beat", "tracks", "meet", "relief", "changed"] ["order", "beat", "tracks", "meet", "relief"] (defScope sChanged) := ⟨rfl, rfl, rfl, by decide +kernel, rfl, by decide +kernel, by decide +kernel⟩
theorem ok_changed {f fHo fRa fHr fRe : Addr} {fd dHo dRa dHr dRe : FuncData} (F : Fun K "changed_order" "changed_order" sChanged f fd) (FHo : Fun K "handed_over" "handed_over" sHanded fHo dHo) (bHo : Binds K dHo ["order", "rooms"] []) (gHo : mg "handed_over" = some (.ref fHo)) (GHo : FnOk P w K mg base CX0 1 fHo dHo ["order", "rooms"] spHanded) (FRa : Fun K "rooms_at" "rooms_at" sRoomsAt fRa dRa) (bRa : Binds K dRa ["tracks", "beat"] []) (gRa : mg "rooms_at" = some (.ref fRa)) (GRa : FnOk P w K mg base CX0 2 fRa dRa ["tracks", "beat"] spRoomsAt) (FHr : Fun K "has_relief" "has_relief" sHasRelief fHr dHr) (bHr : Binds K dHr ["tracks", "many", "relief"] []) (gHr : mg "has_relief" = some (.ref fHr)) (GHr : FnOk P w K mg base CX0 1 fHr dHr ["tracks", "many", "relief"] spHasRelief) (FRe : Fun K "relieved" "relieved" sRelieved fRe dRe) (bRe : Binds K dRe ["order", "posts", "post"] []) (gRe : mg "relieved" = some (.ref fRe)) (GRe : FnOk P w K mg base CX0 1 fRe dRe ["order", "posts", "post"] spRelieved) (m_len : mg "len" = none) : FnOk P w K mg base CX0 3 f fd ["order", "beat", "tracks", "meet", "relief"] spChanged := by
  refine F.ok scCO (fun vs H Q E h => ?_) (fun cdv A outer s H vs Q E hr h => ?_)
  · obtain ⟨o, p, os, b, xs, tr, mt, rl, rfl, _⟩ := h
    rfl
  · obtain ⟨o, p, os, b, xs, tr, mt, rl, rfl, ho, hp, hT, hk, okr, l1, l6, l4, hb, k⟩ := h
    refine ⟨_, pss_cons (ps_set (i := 5) scCO.nd rfl (Or.inl rfl) (pv 0))
      (pss_cons (ps_mid (ps_if (pt_val (pv 3)) (pss_one (ps_set (i := 5) scCO.nd rfl (Or.inl rfl) (pe_call GHo (hr.mono (by decide)) (by rfl) gHo FHo.kp bHo .nil pass0 (pa_cons (pv 5) (pa_cons (pe_call GRa hr (by rfl) gRa FRa.kp bRa .nil pass0 (pa_cons (pv 2) (pa_cons (pv 1) pa_nil))) pa_nil))))) pss_nil))
      (pss_cons (ps_if (PW.pt (pw_and (pt_val (pe_call GHr (hr.mono (by decide)) (by rfl) gHr FHr.kp bHr .nil pass0 (pa_cons (pv 2) (pa_cons (pe_callB call_len_seq (by rfl) m_len PySem.boot_len (pa_cons (pv 0) pa_nil)) (pa_cons (pv 4) pa_nil))))) (pw_and1 (pt_cmpR op_eq (pe_op op_mod (pv 1) (pv 4)) pe_int (nomark _))))) (pss_one (ps_set (i := 5) scCO.nd rfl (Or.inl rfl) (pe_call GRe (hr.mono (by decide)) (by rfl) gRe FRe.kp bRe .nil pass0 (pa_cons (pv 5) (pa_cons (pe_callB call_len_seq (by rfl) m_len PySem.boot_len (pa_cons (pv 2) pa_nil)) (pa_cons (pe_op op_mod (pe_op op_fdiv (pv 1) (pv 4)) (pe_callB call_len_seq (by rfl) m_len PySem.boot_len (pa_cons (pv 2) pa_nil))) pa_nil)))))) pss_nil)
      (pss_one (ps_ret (pv 5))))), ?_⟩
    have lM : (os.map natV).length = os.length := List.length_map ..
    have xl := hT.1
    refine ⟨_, rfl, fun σ H1 => ∃ q, σ = [some (.ref o), some (.int (b : Nat)), some (.ref p), some (.bl mt), some (.int (rl : Nat)), some (.ref q)] ∧ Same H H1 ∧ H1 q = some (.lst ((if mt = true then hoN (stnd tr (b : Nat)) os else os).map natV)), ?_, ?_⟩
    · refine ⟨_, rfl, mt, rfl, ?_⟩
      cases mt with
      | true =>
        refine iteT ⟨_, rfl, _, rfl, _, rfl, p, xs, tr, (b : Nat), rfl, hp, hT, hk, fun H1 rp s1 nrp hrp => ?_⟩
        refine ⟨o, rp, os, _, rfl, s1 _ _ ho, hrp, by rw [stnd_len]; exact l1, l6, stnd_ok hk okr _, fun H2 q s2 nq hq => ?_⟩
        exact ⟨q, rfl, s1.trans s2, hq⟩
      | false => exact iteF ⟨o, rfl, fun _ _ z => z, ho⟩
    · rintro σ H1 ⟨q, rfl, s1, hq⟩
      have oL := ho1_len tr mt b os
      have ec : chgN tr mt rl b os = if hasR tr.length os.length rl ∧ b % rl = 0 then relN tr.length (b / rl % tr.length) (if mt = true then hoN (stnd tr (b : Nat)) os else os) else (if mt = true then hoN (stnd tr (b : Nat)) os else os) := rfl
      generalize (if mt = true then hoN (stnd tr (b : Nat)) os else os) = o1 at hq oL ec
      have hp1 := s1 _ _ hp
      refine ⟨_, rfl, _, rfl, o, _, rfl, .inl (SqL.of (s1 _ _ ho)), _, rfl, p, xs, _, rl, rfl, hp1, _, rfl, ?_⟩
      rw [lM, xl]
      by_cases hh : hasR tr.length os.length rl
      · rw [decide_eq_true hh]
        have r0 := hh.1
        have t0 := hh.2.1
        have t1 := hh.2.2
        refine iteT ⟨_, rfl, _, rfl, _, _, rfl, rfl, by omega, rfl, _, rfl, ?_⟩
        by_cases hm : b % rl = 0
        · have e1 : V.int (((b : Nat) : Int) % ((rl : Nat) : Int)) = V.int 0 := by
            rw [← Int.natCast_emod, hm]
            rfl
          rw [decide_eq_true e1]
          have e2 : (((b : Nat) : Int) / ((rl : Nat) : Int)) % ((xs.length : Nat) : Int) = ((b / rl % tr.length : Nat) : Int) := by
            rw [xl, Int.natCast_emod, Int.natCast_ediv]
          have hlt : b / rl % tr.length < tr.length := Nat.mod_lt _ t0
          refine iteT ⟨_, rfl, _, rfl, p, _, rfl, .inl (SqL.of hp1), _, rfl, _, rfl, _, _, rfl, rfl, ⟨by omega, by omega⟩, _, rfl, p, _, rfl, .inl (SqL.of hp1), _, _, rfl, rfl, by omega, q, o1, tr.length, b / rl % tr.length, by show [V.ref q, V.int ((xs.length : Nat) : Int), V.int ((((b : Nat) : Int) / ((rl : Nat) : Int)) % ((xs.length : Nat) : Int))] = _; rw [e2, xl], hq, by omega, hlt, by omega, fun H2 z s2 nz hz => ?_⟩
          refine ⟨_, rfl, k H2 z (s1.trans s2) ?_⟩
          rw [ec, if_pos ⟨hh, hm⟩]
          exact hz
        · have e1 : ¬ V.int (((b : Nat) : Int) % ((rl : Nat) : Int)) = V.int 0 := fun z => by
            have z2 := V.int.inj z
            rw [← Int.natCast_emod] at z2
            omega
          rw [decide_eq_false e1]
          refine iteF ⟨_, rfl, k H1 q s1 ?_⟩
          rw [ec, if_neg (fun z => hm z.2)]
          exact hq
      · rw [decide_eq_false hh]
        refine iteF ⟨_, rfl, k H1 q s1 ?_⟩
        rw [ec, if_neg (fun z => hh z.1)]
        exact hq
theorem scOO : FnScope ["tracks", "many", "meet", "relief", "first", "span", "orders", "beat", "order"] ["tracks", "many", "meet", "relief"] (defScope sOrders) := ⟨rfl, rfl, rfl, by decide +kernel, rfl, by decide +kernel, by decide +kernel⟩
theorem ok_orders {f fSp fCh : Addr} {fd dSp dCh : FuncData} (F : Fun K "orders_of" "orders_of" sOrders f fd) (FSp : Fun K "span_of" "span_of" sSpanOf fSp dSp) (bSp : Binds K dSp ["tracks", "many", "relief"] []) (gSp : mg "span_of" = some (.ref fSp)) (GSp : FnOk P w K mg base CX0 3 fSp dSp ["tracks", "many", "relief"] spSpanOf) (FCh : Fun K "changed_order" "changed_order" sChanged fCh dCh) (bCh : Binds K dCh ["order", "beat", "tracks", "meet", "relief"] []) (gCh : mg "changed_order" = some (.ref fCh)) (GCh : FnOk P w K mg base CX0 3 fCh dCh ["order", "beat", "tracks", "meet", "relief"] spChanged) (m_list : mg "list" = none) (m_range : mg "range" = none) : FnOk P w K mg base CX0 4 f fd ["tracks", "many", "meet", "relief"] spOrders := by
  refine F.ok scOO (fun vs H Q E h => ?_) (fun cdv A outer s H vs Q E hr h => ?_)
  · obtain ⟨p, xs, tr, many, mt, rl, rfl, _⟩ := h
    rfl
  · obtain ⟨p, xs, tr, many, mt, rl, rfl, hp, hT, hk, okr, l1, l6, l4, k⟩ := h
    have hu64 : (A.deeper (PyProof.Rows.envOfC "orders_of" (defScope sOrders) s.heap.objs.size f cdv)).units + 64 < cLine := by
      have := hr.un
      omega
    refine ⟨_, pss_cons (ps_set (i := 4) scOO.nd rfl (Or.inl rfl) (pe_listRg rfl (by rfl) m_list (prg_1 (by rfl) m_range (pv 1))))
      (pss_cons (ps_set (i := 5) scOO.nd rfl (Or.inl rfl) (pe_call GSp hr (by rfl) gSp FSp.kp bSp .nil pass0 (pa_cons (pv 0) (pa_cons (pv 1) (pa_cons (pv 3) pa_nil)))))
      (pss_cons (ps_set (i := 6) scOO.nd rfl (Or.inl rfl) (pe_lst (pa_cons (pv 4) pa_nil)))
      (pss_cons (ps_set (i := 7) scOO.nd rfl (Or.inl rfl) pe_int)
      (pss_cons (ps_set (i := 8) scOO.nd rfl (Or.inl rfl) (pe_call GCh hr (by rfl) gCh FCh.kp bCh .nil pass0 (pa_cons (pv 4) (pa_cons (pv 7) (pa_cons (pv 0) (pa_cons (pv 2) (pa_cons (pv 3) pa_nil)))))))
      (pss_cons (ps_while PassesOwn.never (pt_mid (PW.pt (pw_or (pt_cmpR op_ne (pe_op op_mod (pv 7) (pv 5)) pe_int (nomark _)) (pw_or1 (pt_cmpR (op_neD hu64) (pv 8) (pv 4) (nomark _))))))
      (pss_cons (ps_expr (pe_bm PySem.F.plainAttrs_list PySem.F.slot_list_append PySem.F.type_list_append mt_append (pv 6) (pa_cons (pv 8) pa_nil)))
      (pss_cons (ps_aug (i := 7) scOO.nd rfl (Or.inl rfl) pe_int ip_add)
      (pss_one (ps_set (i := 8) scOO.nd rfl (Or.inl rfl) (pe_call GCh hr (by rfl) gCh FCh.kp bCh .nil pass0 (pa_cons (pv 8) (pa_cons (pv 7) (pa_cons (pv 0) (pa_cons (pv 2) (pa_cons (pv 3) pa_nil)))))))))))
      (pss_one (ps_ret (pv 6)))))))), ?_⟩
    refine ⟨_, rfl, _, rfl, RgOk.of_le (by omega) (by omega) (by omega) (by omega), fun F0 nF => ?_⟩
    rw [rg_nat]
    have s1 := same_new (o := .lst ((List.range many).map natV)) nF
    have hF : (upd H F0 (.lst ((List.range many).map natV))) F0 = some (.lst ((List.range many).map natV)) := upd_same
    generalize upd H F0 (.lst ((List.range many).map natV)) = H1 at s1 hF
    refine ⟨_, rfl, _, rfl, _, rfl, p, xs, tr, many, rl, rfl, s1 _ _ hp, hT.same s1, hk, l4, fun H2 s2 => ?_⟩
    have s12 := s1.trans s2
    refine ⟨_, rfl, by show 1 ≤ sizeLine; decide, fun O nO => ?_⟩
    have s3 := same_new (o := .lst [V.ref F0]) nO
    have hO : (upd H2 O (.lst [V.ref F0])) O = some (.lst [V.ref F0]) := upd_same
    generalize upd H2 O (.lst [V.ref F0]) = H3 at s3 hO
    have s13 := s12.trans s3
    have nO0 : H O = none := s12.free nO
    have hF3 := (s2.trans s3) _ _ hF
    have lr : (List.range many).length = many := List.length_range
    have g0 := span_pos (many := many) (rl := rl) hk
    have g1 := span_le (many := many) (rl := rl) hk l4
    obtain ⟨T, T0, T1, T2, T3⟩ := come_back (mt := mt) (rl := rl) l1 l6 g0
    have Tb : T < 2 ^ 24 := by
      have : spanN tr many rl * 46656 ≤ 240 * 46656 := Nat.mul_le_mul_right _ g1
      omega
    refine ⟨_, rfl, _, rfl, _, rfl, _, rfl, _, rfl, F0, p, List.range many, 1, xs, tr, mt, rl, rfl, hF3, s13 _ _ hp, hT.same s13, hk, okr, by rw [lr]; exact l1, by rw [lr]; exact l6, l4, by decide, fun H4 q s4 hq => ?_⟩
    have s14 := s13.trans s4
    refine while_by (fun σ H' => ∃ (b : Nat) (q : Addr) (os : List V), σ = [some (.ref p), some (.int (many : Nat)), some (.bl mt), some (.int (rl : Nat)), some (.ref F0), some (.int (spanN tr many rl : Nat)), some (.ref O), some (.int (b : Nat)), some (.ref q)] ∧ Same H H' ∧ H' F0 = some (.lst ((List.range many).map natV)) ∧ 1 ≤ b ∧ b ≤ T ∧ (∀ c, 0 < c → c < b → ¬ (c % spanN tr many rl = 0 ∧ ordN tr many mt rl c = List.range many)) ∧ H' O = some (.lst (V.ref F0 :: os)) ∧ OrL H' (V.ref F0 :: os) ((List.range b).map (ordN tr many mt rl)) ∧ H' q = some (.lst ((ordN tr many mt rl b).map natV)))
      (fun σ _ => match σ with | [_, _, _, _, _, _, _, some (.int b), _] => T - b.toNat | _ => 0) ⟨1, q, [], rfl, s14, s4 _ _ hF3, Nat.le_refl _, T0, (fun c h1 h2 => by omega), s4 _ _ hO, AL.snoc (xs := []) (ps := []) AL.nil ⟨F0, rfl, s4 _ _ hF3⟩, hq⟩ ?_ ?_
    · rintro σ H5 ⟨b, q5, os, rfl, s5, hF5, b1, bT, nb, hO5, hL5, hq5⟩
      have osl : os.length + 1 = b := by
        have := hL5.1
        rw [List.length_map, List.length_range] at this
        exact this
      refine ⟨fun c H6 => H6 = H5 ∧ c = !decide (b % spanN tr many rl = 0 ∧ ordN tr many mt rl b = List.range many), ?_, ?_⟩
      · refine ⟨_, rfl, _, rfl, _, _, rfl, rfl, by omega, rfl, _, rfl, ?_⟩
        by_cases c1 : b % spanN tr many rl = 0
        · have e1 : V.int (((b : Nat) : Int) % ((spanN tr many rl : Nat) : Int)) = V.int 0 := by
            rw [← Int.natCast_emod, c1]
            rfl
          rw [decide_eq_true e1]
          refine iteF ⟨_, rfl, _, rfl, _, _, .lst (SqL.of hq5) (dp_nats _), .lst (SqL.of hF5) (dp_nats _), shaped_nats _, shaped_nats _, _, rfl, rfl, ?_⟩
          rw [eqv_lnats]
          by_cases c2 : ordN tr many mt rl b = List.range many
          · rw [decide_eq_true c2, decide_eq_true (And.intro c1 c2)]
          · rw [decide_eq_false c2, decide_eq_false (fun z => c2 z.2)]
        · have e1 : ¬ V.int (((b : Nat) : Int) % ((spanN tr many rl : Nat) : Int)) = V.int 0 := fun z => by
            have z2 := V.int.inj z
            rw [← Int.natCast_emod] at z2
            omega
          rw [decide_eq_false e1]
          refine iteT ⟨rfl, ?_⟩
          rw [decide_eq_false (fun z => c1 z.1)]
          rfl
      · rintro c H6 ⟨rfl, rfl⟩
        by_cases hc : b % spanN tr many rl = 0 ∧ ordN tr many mt rl b = List.range many
        · rw [decide_eq_true hc]
          refine iteF ⟨_, rfl, ?_⟩
          exact k H6 O (V.ref F0 :: os) b s5 nO0 ⟨b1, by omega, hc.1, hc.2, nb⟩ hO5 hL5
        · rw [decide_eq_false hc]
          have bT2 : b < T := by
            rcases Nat.lt_or_eq_of_le bT with z | z
            · exact z
            · exact absurd ⟨by rw [z]; exact T2, by rw [z]; exact T3⟩ hc
          refine iteT ⟨_, rfl, .inl ⟨rfl, _, SqL.of hO5⟩, _, rfl, O, _, _, rfl, rfl, hO5, Nat.lt_of_lt_of_le (show (V.ref F0 :: os).length < 2 ^ 24 by rw [List.length_cons]; omega) (by decide), ?_⟩
          have s6 := same_put (o := .lst ((V.ref F0 :: os) ++ [V.ref q5])) s5 nO0
          have hL6 := OrL.put (u := .lst ((V.ref F0 :: os) ++ [V.ref q5])) hL5 hO5
          have nq : q5 ≠ O := ref_nat hO5 hq5
          have hq6 : (upd H6 O (.lst ((V.ref F0 :: os) ++ [V.ref q5]))) q5 = some (.lst ((ordN tr many mt rl b).map natV)) := by
            rw [upd_ne nq]
            exact hq5
          have hF6 : (upd H6 O (.lst ((V.ref F0 :: os) ++ [V.ref q5]))) F0 = some (.lst ((List.range many).map natV)) := by
            rw [upd_ne (ref_nat hO5 hF5)]
            exact hF5
          have hO6 : (upd H6 O (.lst ((V.ref F0 :: os) ++ [V.ref q5]))) O = some (.lst (V.ref F0 :: (os ++ [V.ref q5]))) := upd_same
          have hL7 := hL6.snoc ⟨q5, rfl, hq6⟩
          generalize upd H6 O (.lst ((V.ref F0 :: os) ++ [V.ref q5])) = H7 at s6 hL7 hq6 hF6 hO6
          refine ⟨_, rfl, _, _, rfl, rfl, ?_⟩
          have olen := (ordN_ok (mt := mt) (rl := rl) l1 b).1
          refine ⟨_, rfl, _, rfl, _, rfl, _, rfl, _, rfl, q5, p, ordN tr many mt rl b, b + 1, xs, tr, mt, rl, rfl, hq6, s6 _ _ hp, hT.same s6, hk, okr, by rw [olen]; exact l1, by rw [olen]; exact l6, l4, by omega, fun H8 q8 s8 hq8 => ?_⟩
          refine ⟨⟨b + 1, q8, os ++ [V.ref q5], rfl, s6.trans s8, s8 _ _ hF6, by omega, by omega, ?_, s8 _ _ hO6, ?_, hq8⟩, ?_⟩
          · intro c c0 c1
            rcases Nat.lt_or_eq_of_le (Nat.le_of_lt_succ c1) with z | z
            · exact nb c c0 z
            · rw [z]
              exact hc
          · rw [List.range_succ, List.map_append]
            exact OrL.same hL7 s8
          · show T - (((b + 1 : Nat) : Int)).toNat < T - (((b : Nat) : Int)).toNat
            omega
    · intro σ H' Q1 Q2 hh hq
      obtain ⟨M, q1, q2⟩ := hq
      exact ⟨M, q1, fun b H1 m => hh _ _ (q2 b H1 m)⟩
end
end Dk
namespace Dk
open PySem L2
section
variable {P : Program} {w : World} {K : PySem.W.Frag} {mg : Str → Option Value} {base : Heap}
theorem scRooms : FnScope ["self"] ["self"] (defScope sRooms) := ⟨rfl, rfl, rfl, by decide +kernel, rfl, by decide +kernel, by decide +kernel⟩
theorem ok_rooms {f C : Addr} {fd : FuncData} (F : Fun K "rooms" "House.rooms" sRooms f fd) (T : HTxt K C) (ml : mg "list" = none) : FnOk P w K mg base CX0 1 f fd ["self"] (spRooms C) := by
  refine F.ok scRooms (fun vs H Q E h => ?_) (fun cdv A outer s H vs Q E hr h => ?_)
  · obtain ⟨h, zs, bh, vw, rfl, _⟩ := h
    rfl
  · obtain ⟨h, zs, bh, vw, rfl, ⟨⟨dx, n, b, v, h1, h2, _⟩, _⟩, k⟩ := h
    refine ⟨_, pss_one (ps_ret (pe_callTy call_list_of (by rfl) ml (by decide +kernel) (pa_cons (pe_fld (pv 0) rfl) pa_nil))), ?_⟩
    refine ⟨_, rfl, h, C, dx, _, _, rfl, h1, T.cl, T.nN, hf_n _ _ _, n, _, rfl, .inl (SqL.of h2), fun p np => ?_⟩
    exact k _ p (same_new np) np upd_same
theorem scLen : FnScope ["self"] ["self"] (defScope sLen) := ⟨rfl, rfl, rfl, by decide +kernel, rfl, by decide +kernel, by decide +kernel⟩
theorem ok_len {f C : Addr} {fd : FuncData} (F : Fun K "__len__" "House.__len__" sLen f fd) (T : HTxt K C) (ml : mg "len" = none) : FnOk P w K mg base CX0 1 f fd ["self"] (spLen C) := by
  refine F.ok scLen (fun vs H Q E h => ?_) (fun cdv A outer s H vs Q E hr h => ?_)
  · obtain ⟨h, zs, bh, vw, rfl, _⟩ := h
    rfl
  · obtain ⟨h, zs, bh, vw, rfl, ⟨⟨dx, n, b, v, h1, h2, _⟩, _⟩, k⟩ := h
    refine ⟨_, pss_one (ps_ret (pe_callB call_len_seq (by rfl) ml PySem.boot_len (pa_cons (pe_fld (pv 0) rfl) pa_nil))), ?_⟩
    refine ⟨_, rfl, h, C, dx, _, _, rfl, h1, T.cl, T.nN, hf_n _ _ _, n, _, rfl, .inl (SqL.of h2), ?_⟩
    rw [List.length_map]
    exact k
theorem scLit : FnScope ["house", "rooms", "reaches", "lights", "room", "reach", "other"] ["house", "rooms", "reaches"] (defScope sLitRooms) := ⟨rfl, rfl, rfl, by decide +kernel, rfl, by decide +kernel, by decide +kernel⟩
theorem ip_ext1 {X : Cx} : PIp X .Add rExt2 := fun pn s st H x y v u Q J rx ry h => iop_ext pn s st H x y v u Q J rx ry h
theorem ok_lit {f C fSe fRo : Addr} {fd dSe dRo : FuncData} (F : Fun K "lit_rooms" "lit_rooms" sLitRooms f fd) (T : HTxt K C) (mSe : Meth K C "sees" fSe) (bSe : Binds K dSe ["self", "room"] []) (GSe : FnOk P w K mg base CX0 3 fSe dSe ["self", "room"] (spSees C)) (mRo : Meth K C "rooms" fRo) (bRo : Binds K dRo ["self"] []) (GRo : FnOk P w K mg base CX0 1 fRo dRo ["self"] (spRooms C)) (m_list : mg "list" = none) (m_zip : mg "zip" = none) : FnOk P w K mg base CX0 4 f fd ["house", "rooms", "reaches"] (spLit C) := by
  refine F.ok scLit (fun vs H Q E h => ?_) (fun cdv A outer s H vs Q E hr h => ?_)
  · obtain ⟨h, r, q, zs, bh, vw, rs, ks, rfl, _⟩ := h
    rfl
  · obtain ⟨h, r, q, zs, bh, vw, rs, ks, rfl, hH, hr', hq, lk, l5, rz, k⟩ := h
    refine ⟨_, pss_cons (ps_set (i := 3) scLit.nd rfl (Or.inr rfl) (pe_callTy call_list_of (by rfl) m_list (by decide +kernel) (pa_cons (pv 1) pa_nil)))
      (pss_cons (ps_for PassesOwn.never rfl (RZ.pi_zipA (by rfl) m_zip (pa_cons (pv 1) (pa_cons (pv 2) pa_nil))) (pg_tup rfl (pgs_cons (pg_name (i := 4) scLit.nd rfl (Or.inl rfl)) (pgs_cons (pg_name (i := 5) scLit.nd rfl (Or.inl rfl)) pgs_nil)))
      (pss_one (ps_if (pt_cmpR op_eq (pv 5) pe_int (nomark _)) (pss_one (ps_aug (i := 3) scLit.nd rfl (Or.inr rfl) (pe_meth (pv 0) T.cl mSe GSe hr bSe .nil pass0 (pa_cons (pv 4) pa_nil)) ip_ext1)) pss_nil)))
      (pss_one (ps_ret (pe_lc (own := [("other", 6)]) (g := gName 6) (tt := tTest (tOp (rIn K false) (tVar 6) (tVar 3))) rfl scLit.nd (pi_list (pe_meth0 (pv 0) T.cl mRo GRo (hr.mono (by decide)) bRo .nil pass0)) (blkOk_by (N := ["house", "rooms", "reaches", "lights", "room", "reach", "other"]) (sc := defScope sLitRooms) (by decide +kernel)) (fun _ _ _ _ _ => (pg_name (i := 6) scLit.nd rfl (Or.inl rfl))) (fun _ _ _ _ _ => pts_one (pt_cmpR op_in_seq (pv 6) (pv 3) (by rfl))) (fun _ _ _ _ _ => (pv 6)))))), ?_⟩
    obtain ⟨⟨dx, n, bx, v, h1, h2, h3, h4, hN, hl⟩, hb, hv, hin⟩ := id hH
    have lR : (rs.map V.str).length = rs.length := List.length_map ..
    refine ⟨_, rfl, r, _, rfl, .inl (SqL.of hr'), fun D nD => ?_⟩
    have s0 := same_new (o := .lst (rs.map V.str)) nD
    have rD : r ≠ D := ne_of_none hr' nD
    have qD : q ≠ D := ne_of_none hq nD
    refine ⟨_, rfl, _, rfl, r, q, _, _, rfl, .inl ⟨SqL.of (s0 _ _ hr'), SqL.of (s0 _ _ hq), for_it (walk_zip (n := rs.length) (xs := rs.map V.str) (ys := ks.map natV) (by rw [lR, List.length_map, ← lk, Nat.min_self])) (fun j σ H' => ∃ y4 y5, σ = [some (.ref h), some (.ref r), some (.ref q), some (.ref D), y4, y5, none] ∧ Same H H' ∧ H' D = some (.lst ((rs ++ ligs vw ((rs.zip ks).take j)).map V.str))) ⟨_, _, rfl, s0, by rw [upd_same, List.take_zero]; show _ = some (HO.lst ((rs ++ []).map V.str)); rw [List.append_nil]⟩ (fun i σ H' _ z => by obtain ⟨_, _, _, z, _⟩ := z; exact ⟨SqL.of (z _ _ hr'), SqL.of (z _ _ hq)⟩) ?_ ?_⟩⟩
    · rintro i x σ H1 H2 hi ⟨y4, y5, rfl, s1, hD⟩ ⟨tq, x1, y1, rfl, ntq, rfl, e1, e2⟩
      obtain ⟨a, ea, rfl⟩ := str_at e1
      obtain ⟨m, em, rfl⟩ := nat_of_at e2
      have ez := zip_at ea em
      have s2 := same_new (o := .tup [.str a, natV m]) ntq
      have s12 := s1.trans s2
      have hD2 := s2 _ _ hD
      have et := take_snoc' ez
      have el := ligs_app vw ((rs.zip ks).take i) [(a, m)]
      have e1' : ligs vw [(a, m)] = if m = 1 then vw a else [] := by
        show (if m = 1 then vw a else []) ++ [] = _
        rw [List.append_nil]
      rw [e1'] at el
      have ll : (rs ++ ligs vw ((rs.zip ks).take i)).length ≤ 100 := by
        rw [List.length_append]
        have := ligs_len hv ((rs.zip ks).take i)
        have : ((rs.zip ks).take i).length * zs.length ≤ 5 * 8 := Nat.mul_le_mul (by rw [List.length_take, List.length_zip]; omega) hl
        omega
      refine ⟨tq, _, rfl, SqT.of upd_same, rfl, _, _, rfl, _, _, rfl, rfl, ?_⟩
      refine ⟨_, rfl, rfl, _, rfl, ite2 (fun e => ?_) (fun e => ?_)⟩
      · have m1 : m = 1 := by
          have := V.int.inj (of_decide_eq_true e)
          omega
        have hH2 := hH.same s12
        obtain ⟨⟨dx', n', bx', v', h1', _⟩, _⟩ := id hH2
        refine ⟨_, rfl, _, rfl, h, dx', _, rfl, h1', hf_no _ _ _ (by decide +kernel) (by decide +kernel) (by decide +kernel), _, rfl, h, zs, bh, vw, a, rfl, hH2, rz a (List.mem_of_getElem? ea), fun H3 p s3 np hp => ?_⟩
        have hD3 := s3 _ _ hD2
        refine ⟨D, p, _, _, rfl, rfl, hD3, hp, Nat.le_of_lt (small1000 (by rw [List.length_map, List.length_map]; have := hv a; omega)), ?_⟩
        refine ⟨_, _, rfl, same_put (s12.trans s3) nD, ?_⟩
        rw [upd_same, et, el, if_pos m1, ← List.append_assoc, List.map_append (l₂ := vw a)]
      · have m1 : ¬ m = 1 := fun z => e (decide_eq_true (by rw [z]; rfl))
        refine ⟨_, _, rfl, s12, ?_⟩
        rw [hD2, et, el, if_neg m1, List.append_nil]
    · rintro σ H1 ⟨y4, y5, rfl, s1, hD⟩
      have tz : (rs.zip ks).take rs.length = rs.zip ks := List.take_of_length_le (by rw [List.length_zip]; omega)
      rw [tz] at hD
      have hH1 := hH.same s1
      obtain ⟨⟨dx', n', bx', v', h1', _⟩, _⟩ := id hH1
      refine ⟨_, rfl, h, dx', _, rfl, h1', hf_no _ _ _ (by decide +kernel) (by decide +kernel) (by decide +kernel), h, zs, bh, vw, rfl, hH1, fun H2 p s2 np hp => ?_⟩
      have hD2 := s2 _ _ hD
      refine ⟨p, rfl, ⟨_, SqL.of hp⟩, fun B nB => ?_⟩
      refine it_any (walk_list (K := K) (a := p) (xs := zs.map V.str)) (fun j H' => Same H2 H' ∧ H' B = some (.lst ((litN (zs.take j) vw rs ks).map V.str))) ⟨same_new nB, upd_same⟩ (fun j H' _ z => SqL.of (z.1 _ _ hp)) ?_ ?_
      · rintro j x H3 H4 hj ⟨s3, hB⟩ ⟨rfl, hx⟩
        obtain ⟨a, ea, rfl⟩ := str_at hx
        have ef : litN (zs.take (j + 1)) vw rs ks = litN (zs.take j) vw rs ks ++ (if decide (a ∈ rs ++ ligs vw (rs.zip ks)) = true then [a] else []) := filter_take ea
        refine ⟨rfl, _, rfl, _, rfl, D, _, rfl, .inl (SqL.of (s3 _ _ hD2)), rfl, flat_all _, _, rfl, ?_⟩
        show if (inV (.str a) ((rs ++ ligs vw (rs.zip ks)).map V.str)) = true then _ else _
        rw [in_strs]
        refine ite2 (fun e => ?_) (fun e => ?_)
        · refine ⟨_, rfl, _, hB, small1000 (by rw [List.length_map]; have := List.length_filter_le (fun r => decide (r ∈ rs ++ ligs vw (rs.zip ks))) (zs.take j); rw [List.length_take] at this; show (List.filter _ _).length ≤ 1000; omega), same_put s3 nB, ?_⟩
          rw [upd_same, ef, if_pos e, List.map_append]
          rfl
        · refine ⟨s3, ?_⟩
          rw [hB, ef, if_neg e, List.append_nil]
      · rintro H3 ⟨s3, hB⟩
        rw [List.length_map, List.take_length] at hB
        exact k H3 B ((s1.trans s2).trans s3) ((s1.trans s2).free nB) hB
theorem scMv : FnScope ["before", "now", "a", "b"] ["before", "now"] (defScope sMoves) := ⟨rfl, rfl, rfl, by decide +kernel, rfl, by decide +kernel, by decide +kernel⟩
theorem ok_moves {f : Addr} {fd : FuncData} (F : Fun K "moves_of" "moves_of" sMoves f fd) (m_zip : mg "zip" = none) : FnOk P w K mg base CX0 1 f fd ["before", "now"] spMoves := by
  refine F.ok scMv (fun vs H Q E h => ?_) (fun cdv A outer s H vs Q E hr h => ?_)
  · obtain ⟨b, n, bs, ns, rfl, _⟩ := h
    rfl
  · obtain ⟨b, n, bs, ns, rfl, hb, hn, lk, l5, k⟩ := h
    refine ⟨_, pss_one (ps_ret (pe_lc (own := [("a", 2), ("b", 3)]) (g := gTup K 2 (gCons (gName 2) (gCons (gName 3) gNil)))  rfl scMv.nd (RZ.pi_zipA (by rfl) m_zip (pa_cons (pv 0) (pa_cons (pv 1) pa_nil))) (blkOk_by (N := ["before", "now", "a", "b"]) (sc := defScope sMoves) (by decide +kernel)) (fun _ _ _ _ _ => (pg_tup rfl (pgs_cons (pg_name (i := 2) scMv.nd rfl (Or.inl rfl)) (pgs_cons (pg_name (i := 3) scMv.nd rfl (Or.inl rfl)) pgs_nil)))) (fun _ _ _ _ _ => pts_one (pt_cmpR op_ne (pv 2) (pv 3) (nomark _))) (fun _ _ _ _ _ => (pe_tup (pa_cons (pv 2) (pa_cons (pv 3) pa_nil)))))), ?_⟩
    have lR : (bs.map V.str).length = bs.length := List.length_map ..
    refine ⟨_, rfl, _, rfl, b, n, _, _, rfl, .inl ⟨SqL.of hb, SqL.of hn, fun D nD => ?_⟩⟩
    refine it_any (walk_zip (n := bs.length) (xs := bs.map V.str) (ys := ns.map V.str) (by rw [lR, List.length_map, ← lk, Nat.min_self])) (fun j H' => Same H H' ∧ ∃ ys, H' D = some (.lst ys) ∧ PL H' ys (((bs.zip ns).take j).filter fun p => decide (p.1 ≠ p.2))) ⟨same_new nD, [], upd_same, PL.nil⟩ (fun j H' _ z => ⟨SqL.of (z.1 _ _ hb), SqL.of (z.1 _ _ hn)⟩) ?_ ?_
    · rintro j x H1 H2 hj ⟨s1, ys, hD, hP⟩ ⟨tq, x1, y1, rfl, ntq, rfl, e1, e2⟩
      obtain ⟨a, ea, rfl⟩ := str_at e1
      obtain ⟨c, ec, rfl⟩ := str_at e2
      have ez := zip_at ea ec
      have s2 := same_new (o := .tup [.str a, .str c]) ntq
      have hD2 := s2 _ _ hD
      have nDt : D ≠ tq := ne_of_none hD ntq
      have ef : ((bs.zip ns).take (j + 1)).filter (fun p => decide (p.1 ≠ p.2)) = ((bs.zip ns).take j).filter (fun p => decide (p.1 ≠ p.2)) ++ (if a ≠ c then [(a, c)] else []) := by
        rw [take_snoc' ez, List.filter_append]
        congr 1
        show List.filter _ [(a, c)] = _
        by_cases z : a = c <;> simp [z]
      have yl : ys.length ≤ 100 := by
        rw [hP.1]
        have := List.length_filter_le (fun p : SS => decide (p.1 ≠ p.2)) ((bs.zip ns).take j)
        rw [List.length_take, List.length_zip] at this
        omega
      refine ⟨tq, _, rfl, SqT.of upd_same, rfl, _, _, rfl, _, _, rfl, rfl, rfl, ?_⟩
      refine ⟨_, rfl, _, rfl, rfl, _, rfl, ?_⟩
      by_cases z : a = c
      · rw [decide_eq_true (show V.str a = V.str c by rw [z])]
        refine ⟨s1.trans s2, ys, hD2, ?_⟩
        rw [ef, if_neg (fun y => y z), List.append_nil]
        exact hP.same s2
      · rw [decide_eq_false (show ¬ V.str a = V.str c from fun y => z (V.str.inj y))]
        refine ⟨_, rfl, _, rfl, by show 2 ≤ sizeLine; decide, fun t nt => ?_⟩
        have s3 := same_new (o := .tup [.str a, .str c]) nt
        have hD3 := s3 _ _ hD2
        have nDt' : D ≠ t := ne_of_none hD2 nt
        have kt := ((KeepT.of s2).trans (KeepT.of s3)).trans (KeepT.lst (o := .lst (ys ++ [.ref t])) hD3)
        refine ⟨_, hD3, small1000 (by omega), same_put ((s1.trans s2).trans s3) nD, ys ++ [.ref t], upd_same, ?_⟩
        rw [ef, if_pos z]
        exact (hP.keep kt).snoc ⟨t, rfl, by rw [upd_ne nDt'.symm, upd_same]⟩
    · rintro H1 ⟨s1, ys, hD, hP⟩
      rw [List.take_of_length_le (by rw [List.length_zip]; omega)] at hP
      exact k H1 D ys s1 nD hD hP
theorem scHands : FnScope ["house", "rooms", "a", "b"] ["house"] (defScope sHands) := ⟨rfl, rfl, rfl, by decide +kernel, rfl, by decide +kernel, by decide +kernel⟩
theorem ok_hands {f C fRo fAH : Addr} {fd dRo dAH : FuncData} (F : Fun K "rooms_at_hand" "rooms_at_hand" sHands f fd) (T : HTxt K C) (mRo : Meth K C "rooms" fRo) (bRo : Binds K dRo ["self"] []) (GRo : FnOk P w K mg base CX0 1 fRo dRo ["self"] (spRooms C)) (mAH : Meth K C "at_hand" fAH) (bAH : Binds K dAH ["self", "a", "b"] []) (GAH : FnOk P w K mg base CX0 5 fAH dAH ["self", "a", "b"] (spAtHand C)) : FnOk P w K mg base CX0 6 f fd ["house"] (spHands C) := by
  refine F.ok scHands (fun vs H Q E h => ?_) (fun cdv A outer s H vs Q E hr h => ?_)
  · obtain ⟨h, zs, bh, vw, rfl, _⟩ := h
    rfl
  · obtain ⟨h, zs, bh, vw, rfl, hH, k⟩ := h
    refine ⟨_, pss_cons (ps_set (i := 1) scHands.nd rfl (Or.inr rfl) (pe_meth0 (pv 0) T.cl mRo GRo (hr.mono (by decide)) bRo .nil pass0))
      (pss_one (ps_ret (pe_dc (own := [("a", 2)]) (g := gName 2) (tt := tYes) (tv := tLc (iList K (tVar 1)) (gName 3) (tTest (tMeth C "at_hand" (spAtHand C) [] E0 (tVar 0) (tCons (tVar 2) (tCons (tVar 3) tNil)))) (tVar 3) [3]) rfl scHands.nd (pi_list (pv 1)) (blkOk_by (N := ["house", "rooms", "a", "b"]) (sc := defScope sHands) (by decide +kernel)) (fun _ _ _ _ _ => (pg_name (i := 2) scHands.nd rfl (Or.inr rfl))) (fun _ _ _ _ _ => pts_nil) (fun _ _ _ _ _ => (pv 2)) (fun _ _ _ _ _ => (pe_lc (own := [("b", 3)]) (g := gName 3)  rfl scHands.nd (pi_list (pv 1)) (blkOk_by (N := ["house", "rooms", "a", "b"]) (sc := { kind := .function, names := [(".0", .local), ("a", .cell), ("house", .cell), ("rooms", .cell)], isGenerator := false, isCoroutine := false }) (by decide +kernel)) (fun _ _ _ _ _ => (pg_name (i := 3) scHands.nd rfl (Or.inl rfl))) (fun _ _ _ _ _ => pts_one (pt_val (pe_meth (pv 0) T.cl mAH GAH hr bAH .nil pass0 (pa_cons (pv 2) (pa_cons (pv 3) pa_nil))))) (fun _ _ _ _ _ => (pv 3))))))), ?_⟩
    obtain ⟨⟨dx, nn, bx, v, h1, h2, h3, h4, hN, hl⟩, hb, hv, hin⟩ := id hH
    refine ⟨_, rfl, h, dx, _, rfl, h1, hf_no _ _ _ (by decide +kernel) (by decide +kernel) (by decide +kernel), h, zs, bh, vw, rfl, hH, fun H1 n s0 n0 hn => ?_⟩
    have hH1 := hH.same s0
    refine ⟨_, rfl, n, rfl, ⟨_, SqL.of hn⟩, fun D nD => ?_⟩
    refine dc_list (K := K) (a := n) (xs := zs.map V.str) (fun i H' => Same H1 H' ∧ ∃ as : List Addr, as.length = i ∧ H' D = some (.dK (kvs (zs.take i) as)) ∧ ∀ (j : Nat) (z : Str) (q : Addr), (zs.take i)[j]? = some z → as[j]? = some q → H' q = some (.lst ((handN zs bh z).map V.str)))
      ⟨same_new nD, [], rfl, upd_same, fun j z q e _ => by simp at e⟩ (fun i H' _ h => SqL.of (h.1 _ _ hn)) ?_ ?_
    · rintro i x H' hx ⟨s1, as, el, hD, has⟩
      obtain ⟨z, ez, rfl⟩ := str_at hx
      have hi : i < zs.length := (List.getElem?_eq_some_iff.mp ez).1
      have hn1 := s1 _ _ hn
      refine ⟨rfl, ?_⟩
      refine ⟨_, rfl, _, rfl, n, rfl, ⟨_, SqL.of hn1⟩, fun B nB => ?_⟩
      have nBD : D ≠ B := ne_of_none hD nB
      refine lc_list (K := K) (a := n) (xs := zs.map V.str) (fun m H2 => Same H' H2 ∧ H2 B = some (.lst ((handN (zs.take m) bh z).map V.str))) ⟨same_new nB, upd_same⟩ (fun m H2 _ h => SqL.of (h.1 _ _ hn1)) ?_ ?_
      · rintro m y H2 hy ⟨s2, hB⟩
        obtain ⟨b, eb, rfl⟩ := str_at hy
        have hH2 := hH1.same (s1.trans s2)
        obtain ⟨⟨dx', n', bx', v', h1', _⟩, _⟩ := id hH2
        have ef : handN (zs.take (m + 1)) bh z = handN (zs.take m) bh z ++ (if (decide (b ∈ bh z) || decide (z = b)) = true then [b] else []) := filter_take eb
        refine ⟨rfl, _, rfl, h, dx', _, rfl, h1', hf_no _ _ _ (by decide +kernel) (by decide +kernel) (by decide +kernel), _, rfl, _, rfl, h, zs, bh, vw, z, b, rfl, hH2, List.mem_of_getElem? ez, List.mem_of_getElem? eb, _, rfl, ?_⟩
        refine ite2 (fun e => ?_) (fun e => ?_)
        · refine ⟨_, rfl, _, hB, small1000 (by rw [List.length_map]; have := List.length_filter_le (fun b => decide (b ∈ bh z) || decide (z = b)) (zs.take m); rw [List.length_take] at this; show (List.filter _ _).length ≤ 1000; omega), same_put s2 nB, ?_⟩
          rw [upd_same, ef, if_pos e, List.map_append]
          rfl
        · refine ⟨s2, ?_⟩
          rw [hB, ef, if_neg e, List.append_nil]
      · rintro H2 ⟨s2, hB⟩
        rw [List.length_map, List.take_length] at hB
        have hD2 := s2 _ _ hD
        have eT := take_snoc ez
        have hnz : valV (kvs (zs.take i) as) (Sum.inr z : Key) = none := kvs_none (nodup_at hN.1 ez)
        have hel : as.length = (zs.take i).length := by
          rw [el, List.length_take]
          omega
        refine ⟨_, (Sum.inr z : Key), rfl, hD2, ?_, same_put (s1.trans s2) nD, as ++ [B], ?_, ?_, ?_⟩
        · rw [kvs_len _ _ hel, List.length_take]
          exact small1000 (by omega)
        · rw [List.length_append, el]
          rfl
        · rw [upd_same, putK_new _ hnz, eT, kvs_snoc hel]
        · intro j y q h1 h2
          have nq : ∀ {q : Addr} {xs : List V}, H2 q = some (.lst xs) → q ≠ D := fun {q xs} hq e => by
            rw [e, hD2] at hq
            cases hq
          rw [eT] at h1
          by_cases hj : j < (zs.take i).length
          · rw [List.getElem?_append_left hj] at h1
            rw [List.getElem?_append_left (by omega)] at h2
            have h3 := s2 _ _ (has j y q h1 h2)
            rw [upd_ne (nq h3)]
            exact h3
          · rw [List.getElem?_append_right (by omega)] at h1 h2
            have ej : j - (zs.take i).length = 0 := by
              have := (List.getElem?_eq_some_iff.mp h1).1
              simp at this
              omega
            rw [ej] at h1
            rw [hel, ej] at h2
            rw [← Option.some.inj h1, ← Option.some.inj h2, upd_ne (nq hB)]
            exact hB
    · rintro H' ⟨s1, as, el, hD, has⟩
      rw [List.length_map, List.take_length] at hD has
      rw [List.length_map] at el
      exact k H' D (s0.trans s1) (s0.free nD) ⟨as, el, hD, has⟩
theorem scND : FnScope ["rooms", "delay"] ["rooms", "delay"] (defScope sNeedDelay) := ⟨rfl, rfl, rfl, by decide +kernel, rfl, by decide +kernel, by decide +kernel⟩
theorem ok_needdelay {f : Addr} {fd : FuncData} (F : Fun K "need_delay" "need_delay" sNeedDelay f fd) (m_len : mg "len" = none) : FnOk P w K mg base CX0 1 f fd ["rooms", "delay"] spNeedDelay := by
  refine F.ok scND (fun vs H Q E h => ?_) (fun cdv A outer s H vs Q E hr h => ?_)
  · obtain ⟨t, rs, dl, rfl, _⟩ := h
    rfl
  · obtain ⟨t, rs, dl, rfl, ht, hd, k⟩ := h
    refine ⟨_, pss_one (ps_if (pt_not (pt_chain op_le op_lt pe_int (pv 1) (pe_callB call_len_seq (by rfl) m_len PySem.boot_len (pa_cons (pv 0) pa_nil)))) (pss_one (ps_never)) pss_nil), ?_⟩
    refine ⟨_, rfl, _, _, rfl, rfl, _, rfl, ?_⟩
    rw [decide_eq_true (show (0 : Int) ≤ ((dl : Nat) : Int) by omega)]
    refine iteT ⟨_, rfl, t, _, rfl, .inr (SqT.of ht), _, _, rfl, rfl, _, rfl, ?_⟩
    rw [decide_eq_true (show ((dl : Nat) : Int) < (((rs.map V.str).length : Nat) : Int) by rw [List.length_map]; omega)]
    exact iteF k
theorem scNRe : FnScope ["reach"] ["reach"] (defScope sNeedReach) := ⟨rfl, rfl, rfl, by decide +kernel, rfl, by decide +kernel, by decide +kernel⟩
theorem ok_needreach {f : Addr} {fd : FuncData} (F : Fun K "need_reach" "need_reach" sNeedReach f fd)  : FnOk P w K mg base CX0 1 f fd ["reach"] spNeedReach := by
  refine F.ok scNRe (fun vs H Q E h => ?_) (fun cdv A outer s H vs Q E hr h => ?_)
  · obtain ⟨r, rfl, _⟩ := h
    rfl
  · obtain ⟨r, rfl, h1, k⟩ := h
    refine ⟨_, pss_one (ps_if (pt_cmpR op_notIn_seq (pv 0) (pe_tup (pa_cons pe_int (pa_cons pe_int pa_nil))) (by rfl)) (pss_one (ps_never)) pss_nil), ?_⟩
    refine ⟨_, rfl, by show 2 ≤ sizeLine; decide, fun t nt => ?_⟩
    refine ⟨t, _, rfl, .inr (SqT.of upd_same), rfl, rfl, _, rfl, ?_⟩
    have e : inV (.int ((r : Nat) : Int)) [V.int 0, V.int 1] = true := by
      have : r = 0 ∨ r = 1 := by omega
      rcases this with rfl | rfl <;> rfl
    show if (!inV (.int ((r : Nat) : Int)) [V.int 0, V.int 1]) = true then _ else _
    rw [e]
    exact iteF (k _ (same_new nt))
theorem scNRl : FnScope ["relief"] ["relief"] (defScope sNeedRelief) := ⟨rfl, rfl, rfl, by decide +kernel, rfl, by decide +kernel, by decide +kernel⟩
theorem ok_needrelief {f : Addr} {fd : FuncData} (F : Fun K "need_relief" "need_relief" sNeedRelief f fd) {t1 t2 : Tok} (c1 : mg "NEVER" = some (.int 0 t1)) (c2 : mg "MOST_RELIEF" = some (.int 4 t2)) : FnOk P w K mg base CX0 1 f fd ["relief"] spNeedRelief := by
  refine F.ok scNRl (fun vs H Q E h => ?_) (fun cdv A outer s H vs Q E hr h => ?_)
  · obtain ⟨r, rfl, _⟩ := h
    rfl
  · obtain ⟨r, rfl, h1, k⟩ := h
    refine ⟨_, pss_one (ps_if (pt_not (pt_chain op_le op_le (pe_glob (v := .int 0) (by rfl) c1 ⟨_, rfl⟩) (pv 0) (pe_glob (v := .int 4) (by rfl) c2 ⟨_, rfl⟩))) (pss_one (ps_never)) pss_nil), ?_⟩
    refine ⟨_, rfl, _, _, rfl, rfl, _, rfl, ?_⟩
    rw [decide_eq_true (show (0 : Int) ≤ ((r : Nat) : Int) by omega)]
    refine iteT ⟨_, _, rfl, rfl, _, rfl, ?_⟩
    rw [decide_eq_true (show ((r : Nat) : Int) ≤ 4 by omega)]
    exact iteF k
theorem scNC : FnScope ["posts", "watchers"] ["posts", "watchers"] (defScope sNeedCounts) := ⟨rfl, rfl, rfl, by decide +kernel, rfl, by decide +kernel, by decide +kernel⟩
theorem ok_needcounts {f : Addr} {fd : FuncData} (F : Fun K "need_counts" "need_counts" sNeedCounts f fd) {t1 t2 : Tok} (c1 : mg "MOST_POSTS" = some (.int 5 t1)) (c2 : mg "MOST_WATCHERS" = some (.int 6 t2)) (m_len : mg "len" = none) : FnOk P w K mg base CX0 1 f fd ["posts", "watchers"] spNeedCounts := by
  refine F.ok scNC (fun vs H Q E h => ?_) (fun cdv A outer s H vs Q E hr h => ?_)
  · obtain ⟨p, q, xs, ys, rfl, _⟩ := h
    rfl
  · obtain ⟨p, q, xs, ys, rfl, hp, hq, l1, l2, k⟩ := h
    refine ⟨_, pss_one (ps_if (PW.pt (pw_or (pt_cmpR op_gt (pe_callB call_len_seq (by rfl) m_len PySem.boot_len (pa_cons (pv 0) pa_nil)) (pe_glob (v := .int 5) (by rfl) c1 ⟨_, rfl⟩) (nomark _)) (pw_or1 (pt_cmpR op_gt (pe_callB call_len_seq (by rfl) m_len PySem.boot_len (pa_cons (pv 1) pa_nil)) (pe_glob (v := .int 6) (by rfl) c2 ⟨_, rfl⟩) (nomark _))))) (pss_one (ps_never)) pss_nil), ?_⟩
    refine ⟨_, rfl, p, _, rfl, .inl (SqL.of hp), _, _, rfl, rfl, _, rfl, ?_⟩
    rw [decide_eq_false (show ¬ (5 : Int) < ((xs.length : Nat) : Int) by omega)]
    refine iteF ⟨_, rfl, q, _, rfl, .inl (SqL.of hq), _, _, rfl, rfl, _, rfl, ?_⟩
    rw [decide_eq_false (show ¬ (6 : Int) < ((ys.length : Nat) : Int) by omega)]
    exact iteF k
theorem scNO : FnScope ["rows", "row"] ["rows"] (defScope sNamesOf) := ⟨rfl, rfl, rfl, by decide +kernel, rfl, by decide +kernel, by decide +kernel⟩
theorem ok_namesof {f : Addr} {fd : FuncData} (F : Fun K "names_of" "names_of" sNamesOf f fd)  : FnOk P w K mg base CX0 1 f fd ["rows"] spNamesOf := by
  refine F.ok scNO (fun vs H Q E h => ?_) (fun cdv A outer s H vs Q E hr h => ?_)
  · obtain ⟨p, xs, zs, rfl, _⟩ := h
    rfl
  · obtain ⟨p, xs, zs, rfl, hp, hA, hl, k⟩ := h
    refine ⟨_, pss_one (ps_ret (pe_lc (own := [("row", 1)]) (g := gName 1) (tt := tYes) (te := tOp (rIxT K) (tVar 1) (tC (.int 0))) rfl scNO.nd (pi_list (pv 0)) (blkOk_by (N := ["rows", "row"]) (sc := defScope sNamesOf) (by decide +kernel)) (fun _ _ _ _ _ => (pg_name (i := 1) scNO.nd rfl (Or.inl rfl))) (fun _ _ _ _ _ => pts_nil) (fun _ _ _ _ _ => (pe_ix ix_tup (pv 1) pe_int (fun _ _ => rfl))))), ?_⟩
    refine ⟨_, rfl, p, rfl, ⟨_, SqL.of hp⟩, fun D nD => ?_⟩
    refine it_any (walk_list (K := K) (a := p) (xs := xs)) (fun j H' => Same H H' ∧ H' D = some (.lst ((zs.take j).map V.str))) ⟨same_new nD, upd_same⟩ (fun j H' _ z => SqL.of (z.1 _ _ hp)) ?_ ?_
    · rintro j x H1 H2 hj ⟨s1, hD⟩ ⟨rfl, hx⟩
      obtain ⟨z, ez, q, ys, rfl, hq⟩ := (AL.mono hA fun _ _ => NmA.keep (KeepT.of s1)).at hx
      refine ⟨rfl, _, rfl, q, _, 0, _, rfl, rfl, SqT.of hq, atI_nat (j := 0) rfl, ?_⟩
      refine ⟨_, hD, small1000 (by rw [List.length_map, List.length_take]; have := hA.1; omega), same_put s1 nD, ?_⟩
      rw [upd_same, take_snoc' ez, List.map_append]
      rfl
    · rintro H1 ⟨s1, hD⟩
      rw [hA.1, List.take_length] at hD
      exact k H1 D s1 nD hD
end
end Dk
namespace Dk
open PySem L2
section
variable {P : Program} {w : World} {K : PySem.W.Frag} {mg : Str → Option Value} {base : Heap}
theorem scNP : FnScope ["house", "posts", "copied", "name", "rooms", "delay"] ["house", "posts"] (defScope sNewPosts) := ⟨rfl, rfl, rfl, by decide +kernel, rfl, by decide +kernel, by decide +kernel⟩
theorem ok_newposts {f C fNn fNo fNr fNd : Addr} {fd dNn dNo dNr dNd : FuncData} (F : Fun K "new_posts" "new_posts" sNewPosts f fd) (FNn : Fun K "need_new_name" "need_new_name" sNewName fNn dNn) (bNn : Binds K dNn ["name", "others"] []) (gNn : mg "need_new_name" = some (.ref fNn)) (GNn : FnOk P w K mg base CX0 2 fNn dNn ["name", "others"] spNewName) (FNo : Fun K "names_of" "names_of" sNamesOf fNo dNo) (bNo : Binds K dNo ["rows"] []) (gNo : mg "names_of" = some (.ref fNo)) (GNo : FnOk P w K mg base CX0 1 fNo dNo ["rows"] spNamesOf) (FNr : Fun K "need_round" "need_round" sNeedRound fNr dNr) (bNr : Binds K dNr ["house", "rooms"] []) (gNr : mg "need_round" = some (.ref fNr)) (GNr : FnOk P w K mg base CX0 6 fNr dNr ["house", "rooms"] (spNeedRound C)) (FNd : Fun K "need_delay" "need_delay" sNeedDelay fNd dNd) (bNd : Binds K dNd ["rooms", "delay"] []) (gNd : mg "need_delay" = some (.ref fNd)) (GNd : FnOk P w K mg base CX0 1 fNd dNd ["rooms", "delay"] spNeedDelay) (m_tuple : mg "tuple" = none) : FnOk P w K mg base CX0 7 f fd ["house", "posts"] (spNewPosts C) := by
  refine F.ok scNP (fun vs H Q E h => ?_) (fun cdv A outer s H vs Q E hr h => ?_)
  · obtain ⟨h, p, zs, bh, vw, xs, ps, rfl, _⟩ := h
    rfl
  · obtain ⟨h, p, zs, bh, vw, xs, ps, rfl, hH, hp, hP, ok, k⟩ := h
    refine ⟨_, pss_cons (ps_set (i := 2) scNP.nd rfl (Or.inl rfl) (pe_lst pa_nil))
      (pss_cons (ps_for PassesOwn.never rfl (pi_list (pv 1)) (pg_tup rfl (pgs_cons (pg_name (i := 3) scNP.nd rfl (Or.inl rfl)) (pgs_cons (pg_name (i := 4) scNP.nd rfl (Or.inl rfl)) (pgs_cons (pg_name (i := 5) scNP.nd rfl (Or.inl rfl)) pgs_nil))))
      (pss_cons (ps_expr (pe_call GNn (hr.mono (by decide)) (by rfl) gNn FNn.kp bNn .nil pass0 (pa_cons (pv 3) (pa_cons (pe_call GNo (hr.mono (by decide)) (by rfl) gNo FNo.kp bNo .nil pass0 (pa_cons (pv 2) pa_nil)) pa_nil))))
      (pss_cons (ps_expr (pe_call GNr hr (by rfl) gNr FNr.kp bNr .nil pass0 (pa_cons (pv 0) (pa_cons (pv 4) pa_nil))))
      (pss_cons (ps_expr (pe_call GNd (hr.mono (by decide)) (by rfl) gNd FNd.kp bNd .nil pass0 (pa_cons (pv 4) (pa_cons (pv 5) pa_nil))))
      (pss_one (ps_expr (pe_bm PySem.F.plainAttrs_list PySem.F.slot_list_append PySem.F.type_list_append mt_append (pv 2) (pa_cons (pe_tup (pa_cons (pv 3) (pa_cons (pe_callTy call_tuple_of (by rfl) m_tuple (by decide +kernel) (pa_cons (pv 4) pa_nil)) (pa_cons (pv 5) pa_nil)))) pa_nil))))))))
      (pss_one (ps_ret (pv 2)))), ?_⟩
    have l5 := ok.five
    refine ⟨Nat.zero_le _, fun D nD => ?_⟩
    refine ⟨_, rfl, p, rfl, ⟨_, SqL.of (same_new nD _ _ hp)⟩, for_list (K := K) (a := p) (xs := xs) (fun j σ H' => ∃ y3 y4 y5, σ = [some (.ref h), some (.ref p), some (.ref D), y3, y4, y5] ∧ Same H H' ∧ ∃ ys, H' D = some (.lst ys) ∧ PsL H' ys (ps.take j)) ⟨_, _, _, rfl, same_new nD, [], upd_same, AL.nil⟩ (fun j σ H' _ z => by obtain ⟨_, _, _, _, z, _⟩ := z; exact SqL.of (z _ _ hp)) ?_ ?_⟩
    · rintro j x σ H1 hx ⟨y3, y4, y5, rfl, s1, ys, hD, hY⟩
      obtain ⟨⟨z, rs, dl⟩, ez, q, t, rfl, hq, ht⟩ := (PsL.same hP s1).at hx
      have pm := List.mem_of_getElem? ez
      have hj : j < ps.length := (List.getElem?_eq_some_iff.mp ez).1
      have en : (ps.map (·.1))[j]? = some z := by rw [List.getElem?_map, ez]; rfl
      obtain ⟨n1, n2⟩ := nodup_take ok.names en
      have yl : ys.length = j := by
        rw [hY.1, List.length_take]
        omega
      refine ⟨q, _, rfl, SqT.of hq, rfl, _, _, rfl, _, _, rfl, _, _, rfl, rfl, ?_⟩
      refine ⟨_, rfl, _, rfl, D, ys, _, rfl, hD, PsL.names hY, by omega, fun H2 nq s2 nnq hn => ?_⟩
      refine ⟨z, nq, _, rfl, n1, hn, by rw [List.map_take]; exact n2, fun H3 s3 => ?_⟩
      have s13 := s2.trans s3
      have s03 := s1.trans s13
      refine ⟨_, rfl, _, rfl, h, t, zs, bh, vw, rs, rfl, hH.same s03, s13 _ _ ht, ok.rnd _ pm, fun H4 s4 => ?_⟩
      have s14 := s13.trans s4
      have ht4 := s14 _ _ ht
      refine ⟨_, rfl, _, rfl, t, rs, dl, rfl, ht4, ok.dly _ pm, ?_⟩
      have hD4 := s14 _ _ hD
      refine ⟨_, rfl, .inl ⟨rfl, _, SqL.of hD4⟩, _, rfl, _, rfl, t, _, rfl, .inr ⟨SqT.of ht4, _, rfl, by show 3 ≤ sizeLine; decide, fun T nT => ?_⟩⟩
      have s5 := same_new (o := .tup [.str z, .ref t, .int ((dl : Nat) : Int)]) nT
      have hD5 := s5 _ _ hD4
      have nDT : D ≠ T := ne_of_none hD4 nT
      refine ⟨D, _, _, rfl, rfl, hD5, small1000 (by omega), ?_⟩
      have kt := (KeepT.of (s14.trans s5)).trans (KeepT.lst (o := .lst (ys ++ [.ref T])) hD5)
      refine ⟨_, _, _, rfl, same_put ((s1.trans s14).trans s5) nD, ys ++ [.ref T], upd_same, ?_⟩
      rw [take_snoc' ez]
      exact (PsL.keep hY kt).snoc ⟨T, t, rfl, by rw [upd_ne nDT.symm, upd_same], kt _ _ ht⟩
    · rintro σ H1 ⟨y3, y4, y5, rfl, s1, ys, hD, hY⟩
      rw [hP.1, List.take_length] at hY
      exact ⟨_, rfl, k H1 D ys s1 nD hD hY⟩
theorem scNW : FnScope ["watchers", "copied", "name", "reach"] ["watchers"] (defScope sNewWatchers) := ⟨rfl, rfl, rfl, by decide +kernel, rfl, by decide +kernel, by decide +kernel⟩
theorem ok_newwts {f fNn fNo fNr : Addr} {fd dNn dNo dNr : FuncData} (F : Fun K "new_watchers" "new_watchers" sNewWatchers f fd) (FNn : Fun K "need_new_name" "need_new_name" sNewName fNn dNn) (bNn : Binds K dNn ["name", "others"] []) (gNn : mg "need_new_name" = some (.ref fNn)) (GNn : FnOk P w K mg base CX0 2 fNn dNn ["name", "others"] spNewName) (FNo : Fun K "names_of" "names_of" sNamesOf fNo dNo) (bNo : Binds K dNo ["rows"] []) (gNo : mg "names_of" = some (.ref fNo)) (GNo : FnOk P w K mg base CX0 1 fNo dNo ["rows"] spNamesOf) (FNr : Fun K "need_reach" "need_reach" sNeedReach fNr dNr) (bNr : Binds K dNr ["reach"] []) (gNr : mg "need_reach" = some (.ref fNr)) (GNr : FnOk P w K mg base CX0 1 fNr dNr ["reach"] spNeedReach) : FnOk P w K mg base CX0 3 f fd ["watchers"] spNewWts := by
  refine F.ok scNW (fun vs H Q E h => ?_) (fun cdv A outer s H vs Q E hr h => ?_)
  · obtain ⟨p, xs, ws, rfl, _⟩ := h
    rfl
  · obtain ⟨p, xs, ws, rfl, hp, hP, ok, k⟩ := h
    refine ⟨_, pss_cons (ps_set (i := 1) scNW.nd rfl (Or.inl rfl) (pe_lst pa_nil))
      (pss_cons (ps_for PassesOwn.never rfl (pi_list (pv 0)) (pg_tup rfl (pgs_cons (pg_name (i := 2) scNW.nd rfl (Or.inl rfl)) (pgs_cons (pg_name (i := 3) scNW.nd rfl (Or.inl rfl)) pgs_nil)))
      (pss_cons (ps_expr (pe_call GNn hr (by rfl) gNn FNn.kp bNn .nil pass0 (pa_cons (pv 2) (pa_cons (pe_call GNo (hr.mono (by decide)) (by rfl) gNo FNo.kp bNo .nil pass0 (pa_cons (pv 1) pa_nil)) pa_nil))))
      (pss_cons (ps_expr (pe_call GNr (hr.mono (by decide)) (by rfl) gNr FNr.kp bNr .nil pass0 (pa_cons (pv 3) pa_nil)))
      (pss_one (ps_expr (pe_bm PySem.F.plainAttrs_list PySem.F.slot_list_append PySem.F.type_list_append mt_append (pv 1) (pa_cons (pe_tup (pa_cons (pv 2) (pa_cons (pv 3) pa_nil))) pa_nil)))))))
      (pss_one (ps_ret (pv 1)))), ?_⟩
    have l6 := ok.six
    refine ⟨Nat.zero_le _, fun D nD => ?_⟩
    refine ⟨_, rfl, p, rfl, ⟨_, SqL.of (same_new nD _ _ hp)⟩, for_list (K := K) (a := p) (xs := xs) (fun j σ H' => ∃ y3 y4, σ = [some (.ref p), some (.ref D), y3, y4] ∧ Same H H' ∧ ∃ ys, H' D = some (.lst ys) ∧ WtL H' ys (ws.take j)) ⟨_, _, rfl, same_new nD, [], upd_same, AL.nil⟩ (fun j σ H' _ z => by obtain ⟨_, _, _, z, _⟩ := z; exact SqL.of (z _ _ hp)) ?_ ?_⟩
    · rintro j x σ H1 hx ⟨y3, y4, rfl, s1, ys, hD, hY⟩
      obtain ⟨⟨z, r⟩, ez, q, rfl, hq⟩ := (WtL.same hP s1).at hx
      have pm := List.mem_of_getElem? ez
      have hj : j < ws.length := (List.getElem?_eq_some_iff.mp ez).1
      have en : (ws.map (·.1))[j]? = some z := by rw [List.getElem?_map, ez]; rfl
      obtain ⟨n1, n2⟩ := nodup_take ok.names en
      have yl : ys.length = j := by
        rw [hY.1, List.length_take]
        omega
      refine ⟨q, _, rfl, SqT.of hq, rfl, _, _, rfl, _, _, rfl, rfl, ?_⟩
      refine ⟨_, rfl, _, rfl, D, ys, _, rfl, hD, WtL.names hY, by omega, fun H2 nq s2 nnq hn => ?_⟩
      refine ⟨z, nq, _, rfl, n1, hn, by rw [List.map_take]; exact n2, fun H3 s3 => ?_⟩
      have s13 := s2.trans s3
      refine ⟨_, rfl, r, rfl, ok.rch _ pm, fun H4 s4 => ?_⟩
      have s14 := s13.trans s4
      have hD4 := s14 _ _ hD
      refine ⟨_, rfl, .inl ⟨rfl, _, SqL.of hD4⟩, _, rfl, _, rfl, by show 2 ≤ sizeLine; decide, fun T nT => ?_⟩
      have s5 := same_new (o := .tup [.str z, .int ((r : Nat) : Int)]) nT
      have hD5 := s5 _ _ hD4
      have nDT : D ≠ T := ne_of_none hD4 nT
      refine ⟨D, _, _, rfl, rfl, hD5, small1000 (by omega), ?_⟩
      have kt := (KeepT.of (s14.trans s5)).trans (KeepT.lst (o := .lst (ys ++ [.ref T])) hD5)
      refine ⟨_, _, rfl, same_put ((s1.trans s14).trans s5) nD, ys ++ [.ref T], upd_same, ?_⟩
      rw [take_snoc' ez]
      exact (WtL.keep hY kt).snoc ⟨T, rfl, by rw [upd_ne nDT.symm, upd_same]⟩
    · rintro σ H1 ⟨y3, y4, rfl, s1, ys, hD, hY⟩
      rw [hP.1, List.take_length] at hY
      exact ⟨_, rfl, k H1 D ys s1 nD hD hY⟩
theorem scRI : FnScope ["self", "order", "number"] ["self", "order"] (defScope sc_reaches_in) := ⟨rfl, rfl, rfl, by decide +kernel, rfl, by decide +kernel, by decide +kernel⟩
theorem ok_reaches {f CS : Addr} {fd : FuncData} (F : Fun K "reaches_in" "Scene.reaches_in" sc_reaches_in f fd) (cl : Cls K CS) (n1 : NoAttr K CS "post_rows") (n2 : NoAttr K CS "watcher_rows") (m_len : mg "len" = none) : FnOk P w K mg base CX0 1 f fd ["self", "order"] (spReaches CS) := by
  refine F.ok scRI (fun vs H Q E h => ?_) (fun cdv A outer s H vs Q E hr h => ?_)
  · obtain ⟨sc, o, p, w', dx, fs, xs, ys, ws, os, rfl, _⟩ := h
    rfl
  · obtain ⟨sc, o, p, w', dx, fs, xs, ys, ws, os, rfl, hs, f1, f2, hp, hw, hW, ho, l1, l6, lt, k⟩ := h
    refine ⟨_, pss_one (ps_ret (pe_lc (own := [("number", 2)]) (g := gName 2) (tt := tYes) (te := tOp (rIxT K) (tOp (rIxL K) (tFld K (tVar 0) "watcher_rows") (tVar 2)) (tC (.int 1))) rfl scRI.nd (pi_list (pe_slice sl_list (pv 1) po_none (po_some (pe_callB call_len_seq (by rfl) m_len PySem.boot_len (pa_cons (pe_fld (pv 0) rfl) pa_nil))))) (blkOk_by (N := ["self", "order", "number"]) (sc := defScope sc_reaches_in) (by decide +kernel)) (fun _ _ _ _ _ => (pg_name (i := 2) scRI.nd rfl (Or.inl rfl))) (fun _ _ _ _ _ => pts_nil) (fun _ _ _ _ _ => (pe_ix ix_tup (pe_ix ix_list (pe_fld (pv 0) rfl) (pv 2) (fun _ _ => rfl)) pe_int (fun _ _ => rfl))))), ?_⟩
    refine ⟨_, rfl, _, rfl, sc, CS, dx, fs, _, rfl, hs, cl, n1, f1, p, _, rfl, .inl (SqL.of hp), _, rfl, o, _, rfl, SqL.of ho, fun c nc => ?_⟩
    rw [cut_to (by rw [List.length_map]; exact l1), ← List.map_take]
    have s0 := same_new (o := .lst ((os.take xs.length).map natV)) nc
    have hc : (upd H c (.lst ((os.take xs.length).map natV))) c = some (.lst ((os.take xs.length).map natV)) := upd_same
    generalize upd H c (.lst ((os.take xs.length).map natV)) = H1 at s0 hc
    have tl : (os.take xs.length).length ≤ 6 := by
      rw [List.length_take]
      omega
    have tm : ∀ k ∈ os.take xs.length, k < ws.length := fun k hk => lt k (List.mem_of_mem_take hk)
    generalize os.take xs.length = ot at hc tl tm k
    refine ⟨c, rfl, ⟨_, SqL.of hc⟩, fun D nD => ?_⟩
    refine it_any (walk_list (K := K) (a := c) (xs := ot.map natV)) (fun j H' => Same H1 H' ∧ H' D = some (.lst ((reachN ws (ot.take j)).map natV))) ⟨same_new nD, upd_same⟩ (fun j H' _ z => SqL.of (z.1 _ _ hc)) ?_ ?_
    · rintro j x H2 H3 hj ⟨s1, hD⟩ ⟨rfl, hx⟩
      obtain ⟨m, em, rfl⟩ := nat_of_at hx
      have ml := tm m (List.mem_of_getElem? em)
      have e1 : ws[m]? = some (ws.getD m (Str.empty, 0)) := by
        rw [List.getD_eq_getElem?_getD, List.getElem?_eq_getElem ml]
        rfl
      obtain ⟨xv, ex, q, rfl, hq⟩ := (WtL.same hW (s0.trans s1)).of e1
      refine ⟨rfl, _, rfl, sc, CS, dx, fs, _, rfl, (s0.trans s1) _ _ hs, cl, n2, f2, _, rfl, w', _, _, _, rfl, rfl, SqL.of ((s0.trans s1) _ _ hw), atI_nat ex, q, _, 1, _, rfl, rfl, SqT.of hq, atI_nat (j := 1) rfl, ?_⟩
      refine ⟨_, hD, small1000 (by rw [List.length_map]; unfold reachN; rw [List.length_map, List.length_take]; omega), same_put s1 nD, ?_⟩
      rw [upd_same, take_snoc' em]
      unfold reachN
      rw [List.map_append, List.map_append]
      rfl
    · rintro H2 ⟨s1, hD⟩
      rw [List.length_map, List.take_length] at hD
      exact k H2 D (s0.trans s1) (s0.free nD) hD
theorem scDoors : FnScope ["self", "at", "a", "b"] ["self"] (defScope sDoors) := ⟨rfl, rfl, rfl, by decide +kernel, rfl, by decide +kernel, by decide +kernel⟩
theorem ok_doors {f C : Addr} {fd : FuncData} (F : Fun K "doors" "House.doors" sDoors f fd) (T : HTxt K C) (me : mg "enumerate" = none) : FnOk P w K mg base CX0 1 f fd ["self"] (spDoors C) := by
  refine F.ok scDoors (fun vs H Q E h => ?_) (fun cdv A outer s H vs Q E hr h => ?_)
  · obtain ⟨h, zs, bh, vw, rfl, _⟩ := h
    rfl
  · obtain ⟨h, zs, bh, vw, rfl, ⟨⟨dx, n, b, v, h1, h2, h3, h4, hN, hl⟩, hb, hv, hin⟩, k⟩ := h
    refine ⟨_, pss_one (ps_ret (pe_lc2 (own := [("at", 1), ("a", 2), ("b", 3)]) (vs1 := [3]) (g := gTup K 2 (gCons (gName 1) (gCons (gName 2) gNil))) (tt := tYes) (g1 := gName 3) (wi1 := iList K (tSl (rSlL K) (tFld K (tVar 0) "names") (tPart (tOp (rI0 fun i j => .int (i + j)) (tVar 1) (tC (.int 1)))) tNoPart)) (tt1 := tTest (tOp (rIn K false) (tVar 3) (tDGet (tFld K (tVar 0) "behind") (tVar 2)))) rfl scDoors.nd (pi_enum (by rfl) me (pa_cons (pe_fld (pv 0) rfl) pa_nil)) (blkOk_by (N := ["self", "at", "a", "b"]) (sc := defScope sDoors) (by decide +kernel)) (by decide) (fun _ _ _ _ _ => (pg_tup rfl (pgs_cons (pg_name (i := 1) scDoors.nd rfl (Or.inl rfl)) (pgs_cons (pg_name (i := 2) scDoors.nd rfl (Or.inl rfl)) pgs_nil)))) (fun _ _ _ _ _ => pts_nil) (fun _ _ _ _ _ => (pi_list (pe_slice sl_list (pe_fld (pv 0) rfl) (po_some (pe_op op_add (pv 1) pe_int)) po_none))) (fun _ _ _ _ _ => (pg_name (i := 3) scDoors.nd rfl (Or.inl rfl))) (fun _ _ _ _ _ => pts_one (pt_cmpR op_in_seq (pv 3) (pe_dget (hu_of hr) (pe_fld (pv 0) rfl) (pv 2) (fun _ _ => rfl)) (by rfl))) (fun _ _ _ _ _ => (pe_tup (pa_cons (pv 2) (pa_cons (pv 3) pa_nil)))))), ?_⟩
    refine ⟨_, rfl, h, C, dx, _, _, rfl, h1, T.cl, T.nN, hf_n _ _ _, n, _, rfl, SqL.of h2, fun D nD => ?_⟩
    refine it_any (walk_enum (K := K) (a := n) (xs := zs.map V.str)) (fun i H' => Same H H' ∧ ∃ ys, H' D = some (.lst ys) ∧ PL H' ys (dUp zs bh i)) ⟨same_new nD, [], upd_same, PL.nil⟩ (fun i H' _ h => SqL.of (h.1 _ _ h2)) ?_ ?_
    · rintro i x H1 H2 hi ⟨s1, ys, hD, hP⟩ ⟨tq, x1, y1, rfl, ntq, rfl, e1, e2⟩
      have e1' : x1 = .int (i : Nat) := (Option.some.inj e1).symm
      subst e1'
      obtain ⟨a, ea, rfl⟩ := str_at e2
      have hi8 : i < zs.length := (List.getElem?_eq_some_iff.mp ea).1
      have s12 := same_new (o := .tup [.int (i : Nat), .str a]) ntq
      have s2 := s1.trans s12
      refine ⟨tq, _, rfl, SqT.of upd_same, rfl, _, _, rfl, _, _, rfl, rfl, rfl, ?_⟩
      obtain ⟨p, hp0, hg⟩ := h3.get hN.1 (List.mem_of_getElem? ea)
      have npD : p ≠ D := ne_of_none hp0 nD
      refine ⟨_, rfl, h, C, dx, _, _, rfl, s2 _ _ h1, T.cl, T.nN, hf_n _ _ _, _, rfl, _, _, rfl, rfl, _, rfl, n, _, rfl, SqL.of (s2 _ _ h2), fun c nc => ?_⟩
      have ncD : c ≠ D := fun e => by
        rw [e, s12 _ _ hD] at nc
        cases nc
      have s3 := s2.trans (same_new (o := .lst (cutV (zs.map V.str) (some ((i : Int) + 1)) none)) nc)
      have ecut : cutV (zs.map V.str) (some ((i : Int) + 1)) none = (zs.drop (i + 1)).map V.str := cut_from (i + 1)
      refine ⟨c, rfl, ⟨_, SqL.of upd_same⟩, ?_⟩
      have hc0 : (upd (upd H1 tq (.tup [.int (i : Nat), .str a])) c (.lst (cutV (zs.map V.str) (some ((i : Int) + 1)) none))) c = some (.lst ((zs.drop (i + 1)).map V.str)) := by rw [upd_same, ecut]
      refine it_any (walk_list (K := K) (a := c) (xs := (zs.drop (i + 1)).map V.str)) (fun j H' => Same H H' ∧ H' c = some (.lst ((zs.drop (i + 1)).map V.str)) ∧ ∃ ys, H' D = some (.lst ys) ∧ PL H' ys (dUp zs bh i ++ (((zs.drop (i + 1)).take j).filter fun b => decide (b ∈ bh a)).map fun b => (a, b)))
        ⟨s3, hc0, ys, same_new nc _ _ (s12 _ _ hD), by rw [List.take_zero, List.filter_nil, List.map_nil, List.append_nil]; exact hP.same (s12.trans (same_new nc))⟩ (fun j H' _ h => SqL.of h.2.1) ?_ ?_
      · rintro j x H3 H4 hj ⟨s3, hc3, ys3, hD3, hP3⟩ ⟨rfl, hx⟩
        obtain ⟨c2, ec, rfl⟩ := str_at hx
        refine ⟨rfl, ?_⟩
        refine ⟨_, rfl, _, rfl, h, C, dx, _, _, rfl, s3 _ _ h1, T.cl, T.nB, hf_b _ _ _, _, rfl, b, _, rfl, hg _ s3, p, _, rfl, .inl (SqL.of (s3 _ _ hp0)), rfl, flat_all _, _, rfl, ?_⟩
        show if inV (.str c2) ((bh a).map V.str) = true then _ else _
        rw [in_strs]
        have yl : ys3.length ≤ 500 := by
          rw [hP3.1, List.length_append, List.length_map]
          have h5 := List.length_filter_le (fun b => decide (b ∈ bh a)) ((zs.drop (i + 1)).take j)
          rw [List.length_take, List.length_drop] at h5
          have := dUp_len zs bh i
          have : i * zs.length ≤ 8 * 8 := Nat.mul_le_mul (by omega) hl
          omega
        refine ite2 (fun e => ?_) (fun e => ?_)
        · refine ⟨_, rfl, _, rfl, by show 2 ≤ sizeLine; decide, fun t nt => ?_⟩
          have s4 := same_new (o := .tup [.str a, .str c2]) nt
          have nDt : D ≠ t := ne_of_none hD3 nt
          refine ⟨_, s4 _ _ hD3, small1000 (by omega), same_put (s3.trans s4) nD, ?_, ys3 ++ [.ref t], upd_same, ?_⟩
          · rw [upd_ne ncD]
            exact s4 _ _ hc3
          · have kt : KeepT H4 (upd (upd H4 t (.tup [.str a, .str c2])) D (.lst (ys3 ++ [.ref t]))) := (KeepT.of s4).trans (KeepT.lst (s4 _ _ hD3))
            rw [filter_take ec, if_pos e, List.map_append, ← List.append_assoc]
            exact (hP3.keep kt).snoc ⟨t, rfl, by rw [upd_ne nDt.symm, upd_same]⟩
        · refine ⟨s3, hc3, ys3, hD3, ?_⟩
          rw [filter_take ec, if_neg e, List.append_nil]
          exact hP3
      · rintro H3 ⟨s3, hc3, ys3, hD3, hP3⟩
        rw [List.length_map, List.take_length] at hP3
        refine ⟨s3, ys3, hD3, ?_⟩
        rw [dUp_succ, dAt_some ea]
        exact hP3
    · rintro H1 ⟨s1, ys, hD, hP⟩
      rw [List.length_map] at hP
      exact k H1 D ys s1 nD hD hP
theorem scSights : FnScope ["self", "a", "b"] ["self"] (defScope sSights) := ⟨rfl, rfl, rfl, by decide +kernel, rfl, by decide +kernel, by decide +kernel⟩
theorem ok_sights {f C : Addr} {fd : FuncData} (F : Fun K "sights" "House.sights" sSights f fd) (T : HTxt K C) : FnOk P w K mg base CX0 1 f fd ["self"] (spSights C) := by
  refine F.ok scSights (fun vs H Q E h => ?_) (fun cdv A outer s H vs Q E hr h => ?_)
  · obtain ⟨h, zs, bh, vw, rfl, _⟩ := h
    rfl
  · obtain ⟨h, zs, bh, vw, rfl, ⟨⟨dx, n, b, v, h1, h2, h3, h4, hN, hl⟩, hb, hv, hin⟩, k⟩ := h
    refine ⟨_, pss_one (ps_ret (pe_lc2 (own := [("a", 1), ("b", 2)]) (vs1 := [2]) (g := gName 1) (tt := tYes) (g1 := gName 2) (wi1 := iList K (tDGet (tFld K (tVar 0) "views") (tVar 1))) (tt1 := tYes) rfl scSights.nd (pi_list (pe_fld (pv 0) rfl)) (blkOk_by (N := ["self", "a", "b"]) (sc := defScope sSights) (by decide +kernel)) (by decide) (fun _ _ _ _ _ => (pg_name (i := 1) scSights.nd rfl (Or.inl rfl))) (fun _ _ _ _ _ => pts_nil) (fun _ _ _ _ _ => (pi_list (pe_dget (hu_of hr) (pe_fld (pv 0) rfl) (pv 1) (fun _ _ => rfl)))) (fun _ _ _ _ _ => (pg_name (i := 2) scSights.nd rfl (Or.inl rfl))) (fun _ _ _ _ _ => pts_nil) (fun _ _ _ _ _ => (pe_tup (pa_cons (pv 1) (pa_cons (pv 2) pa_nil)))))), ?_⟩
    refine ⟨_, rfl, h, C, dx, _, _, rfl, h1, T.cl, T.nN, hf_n _ _ _, n, rfl, ⟨_, SqL.of h2⟩, fun D nD => ?_⟩
    refine it_any (walk_list (K := K) (a := n) (xs := zs.map V.str)) (fun i H' => Same H H' ∧ ∃ ys, H' D = some (.lst ys) ∧ PL H' ys (sUp zs vw i)) ⟨same_new nD, [], upd_same, PL.nil⟩ (fun i H' _ h => SqL.of (h.1 _ _ h2)) ?_ ?_
    · rintro i x H1 H2 hi ⟨s1, ys, hD, hP⟩ ⟨rfl, hx⟩
      obtain ⟨a, ea, rfl⟩ := str_at hx
      have hi8 : i < zs.length := (List.getElem?_eq_some_iff.mp ea).1
      refine ⟨rfl, ?_⟩
      obtain ⟨p, hp0, hg⟩ := h4.get hN.1 (List.mem_of_getElem? ea)
      have npD : p ≠ D := ne_of_none hp0 nD
      have hp := s1 _ _ hp0
      refine ⟨_, rfl, h, C, dx, _, _, rfl, s1 _ _ h1, T.cl, T.nV, hf_v _ _ _, _, rfl, v, _, rfl, hg _ s1, p, rfl, ⟨_, SqL.of hp⟩, ?_⟩
      refine it_any (walk_list (K := K) (a := p) (xs := (vw a).map V.str)) (fun j H' => Same H H' ∧ H' p = some (.lst ((vw a).map V.str)) ∧ ∃ ys, H' D = some (.lst ys) ∧ PL H' ys (sUp zs vw i ++ ((vw a).take j).map fun b => (a, b))) ⟨s1, hp, ys, hD, by rw [List.take_zero, List.map_nil, List.append_nil]; exact hP⟩ (fun j H' _ h => SqL.of h.2.1) ?_ ?_
      · rintro j x H3 H4 hj ⟨s3, hp3, ys3, hD3, hP3⟩ ⟨rfl, hx⟩
        obtain ⟨c, ec, rfl⟩ := str_at hx
        refine ⟨rfl, ?_⟩
        refine ⟨_, rfl, _, rfl, by show 2 ≤ sizeLine; decide, fun t nt => ?_⟩
        have s4 := same_new (o := .tup [.str a, .str c]) nt
        have nDt : D ≠ t := ne_of_none hD3 nt
        have yl : ys3.length ≤ 500 := by
          rw [hP3.1, List.length_append, List.length_map, List.length_take]
          have := sUp_len hv i
          have := hv a
          have : i * zs.length ≤ 8 * 8 := Nat.mul_le_mul (by omega) hl
          omega
        refine ⟨_, s4 _ _ hD3, small1000 (by omega), same_put (s3.trans s4) nD, ?_, ys3 ++ [.ref t], upd_same, ?_⟩
        · rw [upd_ne npD]
          exact s4 _ _ hp3
        · have kt : KeepT H4 (upd (upd H4 t (.tup [.str a, .str c])) D (.lst (ys3 ++ [.ref t]))) := (KeepT.of s4).trans (KeepT.lst (s4 _ _ hD3))
          rw [take_snoc ec, List.map_append, ← List.append_assoc]
          exact (hP3.keep kt).snoc ⟨t, rfl, by rw [upd_ne nDt.symm, upd_same]⟩
      · rintro H3 ⟨s3, hp3, ys3, hD3, hP3⟩
        rw [List.length_map, List.take_length] at hP3
        refine ⟨s3, ys3, hD3, ?_⟩
        rw [sUp_succ, sAt_some ea]
        exact hP3
    · rintro H1 ⟨s1, ys, hD, hP⟩
      rw [List.length_map] at hP
      exact k H1 D ys s1 nD hD hP
theorem scSI : FnScope ["self", "house", "posts", "watchers", "meet", "relief", "tracks", "stands", "name", "rooms", "delay", "rest", "order"] ["self", "house", "posts", "watchers", "meet", "relief"] (defScope sc_init) := ⟨rfl, rfl, rfl, by decide +kernel, rfl, by decide +kernel, by decide +kernel⟩
abbrev FunSI (K : PySem.W.Frag) (dvs : List V) (f : Addr) (fd : FuncData) : Prop := FunD K "__init__" "Scene.__init__" (defArgs sc_init) (defBody sc_init) (defScope sc_init) dvs [("meet", .bl false), ("relief", .int 0)] f fd
theorem AL.mono2 {α : Type} {R S : Hp → V → α → Prop} {H H' : Hp} {xs : List V} {ps : List α} (h : AL R H xs ps) (m : ∀ x, x ∈ xs → ∀ p, R H x p → S H' x p) : AL S H' xs ps := ⟨h.1, fun i x p a b => m x (List.mem_of_getElem? a) p (h.2 i x p a b)⟩
theorem ok_scinit {f C CS fI fNc fNp fNw fNl fSp fOr fRa fRh fLi fMo fRo fDo fSi fRe : Addr} {fd dI dNc dNp dNw dNl dSp dOr dRa dRh dLi dMo dRo dDo dSi dRe : FuncData}   {dvs : List V} (F : FunSI K dvs f fd) (T : HTxt K C) (cl : Cls K CS) (n_home : NoAttr K CS "home") (n_post_rows : NoAttr K CS "post_rows") (n_watcher_rows : NoAttr K CS "watcher_rows") (n_has_meet : NoAttr K CS "has_meet") (n_relief_beats : NoAttr K CS "relief_beats") (n_span_beats : NoAttr K CS "span_beats") (n_orders : NoAttr K CS "orders") (n_hands : NoAttr K CS "hands") (n_lights : NoAttr K CS "lights") (n_moves : NoAttr K CS "moves") (mk : Mk K C fI) (GI : FnOk P w K mg base CX0 6 fI dI ["self", "rooms", "doors", "sights"] (spInit K C)) (gC : mg "House" = some (.ref C)) (bI : Binds K dI ["self", "rooms", "doors", "sights"] []) (FNc : Fun K "need_counts" "need_counts" sNeedCounts fNc dNc) (bNc : Binds K dNc ["posts", "watchers"] []) (gNc : mg "need_counts" = some (.ref fNc)) (GNc : FnOk P w K mg base CX0 1 fNc dNc ["posts", "watchers"] spNeedCounts) (FNp : Fun K "new_posts" "new_posts" sNewPosts fNp dNp) (bNp : Binds K dNp ["house", "posts"] []) (gNp : mg "new_posts" = some (.ref fNp)) (GNp : FnOk P w K mg base CX0 7 fNp dNp ["house", "posts"] (spNewPosts C)) (FNw : Fun K "new_watchers" "new_watchers" sNewWatchers fNw dNw) (bNw : Binds K dNw ["watchers"] []) (gNw : mg "new_watchers" = some (.ref fNw)) (GNw : FnOk P w K mg base CX0 3 fNw dNw ["watchers"] spNewWts) (FNl : Fun K "need_relief" "need_relief" sNeedRelief fNl dNl) (bNl : Binds K dNl ["relief"] []) (gNl : mg "need_relief" = some (.ref fNl)) (GNl : FnOk P w K mg base CX0 1 fNl dNl ["relief"] spNeedRelief) (FSp : Fun K "span_of" "span_of" sSpanOf fSp dSp) (bSp : Binds K dSp ["tracks", "many", "relief"] []) (gSp : mg "span_of" = some (.ref fSp)) (GSp : FnOk P w K mg base CX0 3 fSp dSp ["tracks", "many", "relief"] spSpanOf) (FOr : Fun K "orders_of" "orders_of" sOrders fOr dOr) (bOr : Binds K dOr ["tracks", "many", "meet", "relief"] []) (gOr : mg "orders_of" = some (.ref fOr)) (GOr : FnOk P w K mg base CX0 4 fOr dOr ["tracks", "many", "meet", "relief"] spOrders) (FRa : Fun K "rooms_at" "rooms_at" sRoomsAt fRa dRa) (bRa : Binds K dRa ["tracks", "beat"] []) (gRa : mg "rooms_at" = some (.ref fRa)) (GRa : FnOk P w K mg base CX0 2 fRa dRa ["tracks", "beat"] spRoomsAt) (FRh : Fun K "rooms_at_hand" "rooms_at_hand" sHands fRh dRh) (bRh : Binds K dRh ["house"] []) (gRh : mg "rooms_at_hand" = some (.ref fRh)) (GRh : FnOk P w K mg base CX0 6 fRh dRh ["house"] (spHands C)) (FLi : Fun K "lit_rooms" "lit_rooms" sLitRooms fLi dLi) (bLi : Binds K dLi ["house", "rooms", "reaches"] []) (gLi : mg "lit_rooms" = some (.ref fLi)) (GLi : FnOk P w K mg base CX0 4 fLi dLi ["house", "rooms", "reaches"] (spLit C)) (FMo : Fun K "moves_of" "moves_of" sMoves fMo dMo) (bMo : Binds K dMo ["before", "now"] []) (gMo : mg "moves_of" = some (.ref fMo)) (GMo : FnOk P w K mg base CX0 1 fMo dMo ["before", "now"] spMoves) (mRo : Meth K C "rooms" fRo) (bRo : Binds K dRo ["self"] []) (GRo : FnOk P w K mg base CX0 1 fRo dRo ["self"] (spRooms C)) (mDo : Meth K C "doors" fDo) (bDo : Binds K dDo ["self"] []) (GDo : FnOk P w K mg base CX0 1 fDo dDo ["self"] (spDoors C)) (mSi : Meth K C "sights" fSi) (bSi : Binds K dSi ["self"] []) (GSi : FnOk P w K mg base CX0 1 fSi dSi ["self"] (spSights C)) (mRe : Meth K CS "reaches_in" fRe) (bRe : Binds K dRe ["self", "order"] []) (GRe : FnOk P w K mg base CX0 1 fRe dRe ["self", "order"] (spReaches CS)) (m_len : mg "len" = none) (m_range : mg "range" = none) (m_zip : mg "zip" = none) (m_enumerate : mg "enumerate" = none) : FnOk P w K mg base CX0 8 f fd ["self", "house", "posts", "watchers", "meet", "relief"] (spScInit C CS) := by
  refine F.ok scSI (fun vs H Q E h => ?_) (fun cdv A outer s H vs Q E hr h => ?_)
  · obtain ⟨H0, sc, dx, h, p, w', zs, ds, ss, xs, ys, ps, ws, mt, rl, rfl, _⟩ := h
    rfl
  · obtain ⟨H0, sc, dx, h, p, w', zs, ds, ss, xs, ys, ps, ws, mt, rl, rfl, s0, x0, hx, hh, hp, hP, hw, hW, ok, k⟩ := h
    refine ⟨_, pss_cons (ps_expr (pe_call GNc (hr.mono (by decide)) (by rfl) gNc FNc.kp bNc .nil pass0 (pa_cons (pv 2) (pa_cons (pv 3) pa_nil))))
      (pss_cons (ps_fld (pv 0) (pe_make mk GI (hr.mono (by decide)) (by rfl) gC bI .nil pass0 (pa_cons (pe_meth0 (pv 1) T.cl mRo GRo (hr.mono (by decide)) bRo .nil pass0) (pa_cons (pe_meth0 (pv 1) T.cl mDo GDo (hr.mono (by decide)) bDo .nil pass0) (pa_cons (pe_meth0 (pv 1) T.cl mSi GSi (hr.mono (by decide)) bSi .nil pass0) pa_nil)))) rfl)
      (pss_cons (ps_fld (pv 0) (pe_call GNp hr (by rfl) gNp FNp.kp bNp .nil pass0 (pa_cons (pe_fld (pv 0) rfl) (pa_cons (pv 2) pa_nil))) rfl)
      (pss_cons (ps_fld (pv 0) (pe_call GNw (hr.mono (by decide)) (by rfl) gNw FNw.kp bNw .nil pass0 (pa_cons (pv 3) pa_nil)) rfl)
      (pss_cons (ps_expr (pe_call GNl (hr.mono (by decide)) (by rfl) gNl FNl.kp bNl .nil pass0 (pa_cons (pv 5) pa_nil)))
      (pss_cons (ps_if (pt_cmpR op_lt (pe_callB call_len_seq (by rfl) m_len PySem.boot_len (pa_cons (pv 3) pa_nil)) (pe_callB call_len_seq (by rfl) m_len PySem.boot_len (pa_cons (pv 2) pa_nil)) (nomark _)) (pss_one (ps_never)) pss_nil)
      (pss_cons (ps_fld (pv 0) (pv 4) rfl)
      (pss_cons (ps_fld (pv 0) (pv 5) rfl)
      (pss_cons (ps_set (i := 6) scSI.nd rfl (Or.inr rfl) (pe_lc (own := [("name", 8), ("rooms", 9), ("delay", 10)]) (g := gTup K 3 (gCons (gName 8) (gCons (gName 9) (gCons (gName 10) gNil)))) (tt := tYes)  rfl scSI.nd (pi_list (pe_fld (pv 0) rfl)) (blkOk_by (N := ["self", "house", "posts", "watchers", "meet", "relief", "tracks", "stands", "name", "rooms", "delay", "rest", "order"]) (sc := defScope sc_init) (by decide +kernel)) (fun _ _ _ _ _ => (pg_tup rfl (pgs_cons (pg_name (i := 8) scSI.nd rfl (Or.inl rfl)) (pgs_cons (pg_name (i := 9) scSI.nd rfl (Or.inl rfl)) (pgs_cons (pg_name (i := 10) scSI.nd rfl (Or.inl rfl)) pgs_nil))))) (fun _ _ _ _ _ => pts_nil) (fun _ _ _ _ _ => (pe_tup (pa_cons (pv 9) (pa_cons (pv 10) pa_nil))))))
      (pss_cons (ps_fld (pv 0) (pe_call GSp (hr.mono (by decide)) (by rfl) gSp FSp.kp bSp .nil pass0 (pa_cons (pv 6) (pa_cons (pe_callB call_len_seq (by rfl) m_len PySem.boot_len (pa_cons (pv 3) pa_nil)) (pa_cons (pv 5) pa_nil)))) rfl)
      (pss_cons (ps_fld (pv 0) (pe_call GOr (hr.mono (by decide)) (by rfl) gOr FOr.kp bOr .nil pass0 (pa_cons (pv 6) (pa_cons (pe_callB call_len_seq (by rfl) m_len PySem.boot_len (pa_cons (pv 3) pa_nil)) (pa_cons (pv 4) (pa_cons (pv 5) pa_nil))))) rfl)
      (pss_cons (ps_set (i := 7) scSI.nd rfl (Or.inr rfl) (pe_lc (own := [("rest", 11)]) (g := gName 11) (tt := tYes)  rfl scSI.nd (pi_range1 (by rfl) m_range (pa_cons (pe_callB call_len_seq (by rfl) m_len PySem.boot_len (pa_cons (pe_fld (pv 0) rfl) pa_nil)) pa_nil)) (blkOk_by (N := ["self", "house", "posts", "watchers", "meet", "relief", "tracks", "stands", "name", "rooms", "delay", "rest", "order"]) (sc := defScope sc_init) (by decide +kernel)) (fun _ _ _ _ _ => (pg_name (i := 11) scSI.nd rfl (Or.inl rfl))) (fun _ _ _ _ _ => pts_nil) (fun _ _ _ _ _ => (pe_call GRa (hr.mono (by decide)) (by rfl) gRa FRa.kp bRa .nil pass0 (pa_cons (pv 6) (pa_cons (pv 11) pa_nil))))))
      (pss_cons (ps_fld (pv 0) (pe_call GRh (hr.mono (by decide)) (by rfl) gRh FRh.kp bRh .nil pass0 (pa_cons (pe_fld (pv 0) rfl) pa_nil)) rfl)
      (pss_cons (ps_fld (pv 0) (pe_lc (own := [("rooms", 9), ("order", 12)]) (g := gTup K 2 (gCons (gName 9) (gCons (gName 12) gNil))) (tt := tYes) (te := tCall (spLit C) [] E0 (tCons (tFld K (tVar 0) "home") (tCons (tVar 9) (tCons (tMeth CS "reaches_in" (spReaches CS) [] E0 (tVar 0) (tCons (tVar 12) tNil)) tNil)))) rfl scSI.nd (RZ.pi_zipA (by rfl) m_zip (pa_cons (pv 7) (pa_cons (pe_fld (pv 0) rfl) pa_nil))) (blkOk_by (N := ["self", "house", "posts", "watchers", "meet", "relief", "tracks", "stands", "name", "rooms", "delay", "rest", "order"]) (sc := defScope sc_init) (by decide +kernel)) (fun _ _ _ _ _ => (pg_tup rfl (pgs_cons (pg_name (i := 9) scSI.nd rfl (Or.inl rfl)) (pgs_cons (pg_name (i := 12) scSI.nd rfl (Or.inl rfl)) pgs_nil)))) (fun _ _ _ _ _ => pts_nil) (fun _ _ _ _ _ => (pe_call GLi (hr.mono (by decide)) (by rfl) gLi FLi.kp bLi .nil pass0 (pa_cons (pe_fld (pv 0) rfl) (pa_cons (pv 9) (pa_cons (pe_meth (pv 0) cl mRe GRe (hr.mono (by decide)) bRe .nil pass0 (pa_cons (pv 12) pa_nil)) pa_nil)))))) rfl)
      (pss_one (ps_fld (pv 0) (pe_lc (own := [("rest", 11), ("rooms", 9)]) (g := gTup K 2 (gCons (gName 11) (gCons (gName 9) gNil))) (tt := tYes) (te := tCall spMoves [] E0 (tCons (tOp (rIxL K) (tVar 7) (tOp (rI0 fun i j => .int (i - j)) (tVar 11) (tC (.int 1)))) (tCons (tVar 9) tNil))) rfl scSI.nd (pi_enum (by rfl) m_enumerate (pa_cons (pv 7) pa_nil)) (blkOk_by (N := ["self", "house", "posts", "watchers", "meet", "relief", "tracks", "stands", "name", "rooms", "delay", "rest", "order"]) (sc := defScope sc_init) (by decide +kernel)) (fun _ _ _ _ _ => (pg_tup rfl (pgs_cons (pg_name (i := 11) scSI.nd rfl (Or.inl rfl)) (pgs_cons (pg_name (i := 9) scSI.nd rfl (Or.inl rfl)) pgs_nil)))) (fun _ _ _ _ _ => pts_nil) (fun _ _ _ _ _ => (pe_call GMo (hr.mono (by decide)) (by rfl) gMo FMo.kp bMo .nil pass0 (pa_cons (pe_ix ix_list (pv 7) (pe_op op_sub (pv 11) pe_int) (fun _ _ => rfl)) (pa_cons (pv 9) pa_nil))))) rfl))))))))))))))), ?_⟩
    have xl := hP.1
    have yl := hW.1
    have l5 := ok.pok.five
    have l6 := ok.wok.six
    have hTr := ok.tr
    have bare := ok.bare
    have e8 := ok.eight
    have S0 := s0
    have X0 := hx
    refine ⟨_, rfl, _, rfl, p, w', xs, ys, rfl, s0 _ _ hp, s0 _ _ hw, by omega, by omega, ?_⟩
    have hHs := Hs.of (hh.same s0)
    obtain ⟨⟨dxh, nh, bx, v, h1, _⟩, _⟩ := id hHs
    refine ⟨_, rfl, h, dxh, _, rfl, h1, hf_no _ _ _ (by decide +kernel) (by decide +kernel) (by decide +kernel), h, zs, _, _, rfl, hHs, fun H1 r1 s1 nr1 hr1 => ?_⟩
    refine ⟨_, rfl, h, dxh, _, rfl, s1 _ _ h1, hf_no _ _ _ (by decide +kernel) (by decide +kernel) (by decide +kernel), h, zs, _, _, rfl, hHs.same s1, fun H2 d1 es s2 nd1 hd1 hPd => ?_⟩
    have s12 := s1.trans s2
    refine ⟨_, rfl, h, dxh, _, rfl, s12 _ _ h1, hf_no _ _ _ (by decide +kernel) (by decide +kernel) (by decide +kernel), h, zs, _, _, rfl, hHs.same s12, fun H3 u1 us s3 nu1 hu1 hPu => ?_⟩
    have s13 := s12.trans s3
    intro x dx2 nx ndx ndxx
    have dAl : (dAll zs (lnk zs (both ds))).length ≤ 64 := Nat.le_trans (dUp_len zs _ zs.length) (Nat.mul_le_mul e8 e8)
    have sAl : (sAll zs (lnk zs ss)).length ≤ 64 := Nat.le_trans (sUp_len (fun y => lnk_len zs ss y) zs.length) (Nat.mul_le_mul e8 e8)
    refine ⟨H3, x, dx2, r1, d1, u1, zs, es, us, _, _, rfl, (same_new ndx).trans (same_new (by rw [upd_ne ndxx.symm]; exact nx)), nx, upd_same, .inl (SqL.of ((s2.trans s3) _ _ hr1)), ok.names, e8, .inl (SqL.of (s3 _ _ hd1)), hPd.same s3, by rw [hPd.1]; omega, dAll_good ok.dg, .inl (SqL.of hu1), hPu, by rw [hPu.1]; omega, sAll_good ok.sg, fun H4 s4 hH4 => ⟨rfl, ?_⟩⟩
    rw [lnk_dAll ok.dg, lnk_sAll ok.sg] at hH4
    replace hH4 := hH4.same (new_same H3 H4)
    have sA := s13.trans s4
    have nxs : x ≠ sc := fun z => by rw [z, s13 _ _ X0] at nx; cases nx
    have S1 := S0.trans sA
    have X1 := sA _ _ X0
    have k1 : KpI sc H H4 := KpI.of sA
    refine ⟨_, rfl, sc, CS, dx, _, rfl, X1, cl, n_home, by show 0 < 1000; decide, ?_⟩
    have S2 := same_put (o := (.ins CS dx [(("home" : Str), V.ref x)])) S1 x0
    have k2 := KpI.put (o := (.ins CS dx [(("home" : Str), V.ref x)])) X1
    have X2 : (upd H4 sc (.ins CS dx [(("home" : Str), V.ref x)])) sc = some (.ins CS dx [(("home" : Str), V.ref x)]) := upd_same
    replace S2 : Same H0 (upd H4 sc (.ins CS dx (putF "home" (V.ref x) []))) := S2
    replace k2 : KpI sc H4 (upd H4 sc (.ins CS dx (putF "home" (V.ref x) []))) := k2
    replace X2 : (upd H4 sc (.ins CS dx (putF "home" (V.ref x) []))) sc = some (.ins CS dx [(("home" : Str), V.ref x)]) := X2
    generalize upd H4 sc (.ins CS dx (putF "home" (V.ref x) [])) = A1 at S2 k2 X2
    have hHm := hH4.kpi nxs k2
    refine ⟨_, rfl, sc, CS, dx, _, _, rfl, X2, cl, n_home, (lk_at 0 [] rfl (by decide +kernel) rfl), _, rfl, x, p, zs, _, _, xs, ps, rfl, Hs.of hHm, S2 _ _ hp, PsL.same hP S2, ok.pok, fun H5 pr pv s5 npr hpr hPr => ?_⟩
    have S3 := S2.trans s5
    have X3 := s5 _ _ X2
    have k3 : KpI sc A1 H5 := KpI.of s5
    refine ⟨_, rfl, sc, CS, dx, _, rfl, X3, cl, n_post_rows, by show 1 < 1000; decide, ?_⟩
    rw [show putF ("post_rows" : Str) (V.ref pr) [(("home" : Str), V.ref x)] = [(("home" : Str), V.ref x), (("post_rows" : Str), V.ref pr)] from putF_new (f := ("post_rows" : Str)) (v := V.ref pr) (fs := [(("home" : Str), V.ref x)]) ["home"] rfl (by decide +kernel)]
    have S4 := same_put (o := (.ins CS dx [(("home" : Str), V.ref x), (("post_rows" : Str), V.ref pr)])) S3 x0
    have k4 := KpI.put (o := (.ins CS dx [(("home" : Str), V.ref x), (("post_rows" : Str), V.ref pr)])) X3
    have X4 : (upd H5 sc (.ins CS dx [(("home" : Str), V.ref x), (("post_rows" : Str), V.ref pr)])) sc = some (.ins CS dx [(("home" : Str), V.ref x), (("post_rows" : Str), V.ref pr)]) := upd_same
    generalize upd H5 sc (.ins CS dx [(("home" : Str), V.ref x), (("post_rows" : Str), V.ref pr)]) = A2 at S4 k4 X4
    refine ⟨_, rfl, w', ys, ws, rfl, S4 _ _ hw, WtL.same hW S4, ok.wok, fun H6 wr wv s6 nwr hwr hWr => ?_⟩
    have S5 := S4.trans s6
    have X5 := s6 _ _ X4
    have k5 : KpI sc A2 H6 := KpI.of s6
    refine ⟨_, rfl, sc, CS, dx, _, rfl, X5, cl, n_watcher_rows, by show 2 < 1000; decide, ?_⟩
    rw [show putF ("watcher_rows" : Str) (V.ref wr) [(("home" : Str), V.ref x), (("post_rows" : Str), V.ref pr)] = [(("home" : Str), V.ref x), (("post_rows" : Str), V.ref pr), (("watcher_rows" : Str), V.ref wr)] from putF_new (f := ("watcher_rows" : Str)) (v := V.ref wr) (fs := [(("home" : Str), V.ref x), (("post_rows" : Str), V.ref pr)]) ["home", "post_rows"] rfl (by decide +kernel)]
    have S6 := same_put (o := (.ins CS dx [(("home" : Str), V.ref x), (("post_rows" : Str), V.ref pr), (("watcher_rows" : Str), V.ref wr)])) S5 x0
    have k6 := KpI.put (o := (.ins CS dx [(("home" : Str), V.ref x), (("post_rows" : Str), V.ref pr), (("watcher_rows" : Str), V.ref wr)])) X5
    have X6 : (upd H6 sc (.ins CS dx [(("home" : Str), V.ref x), (("post_rows" : Str), V.ref pr), (("watcher_rows" : Str), V.ref wr)])) sc = some (.ins CS dx [(("home" : Str), V.ref x), (("post_rows" : Str), V.ref pr), (("watcher_rows" : Str), V.ref wr)]) := upd_same
    generalize upd H6 sc (.ins CS dx [(("home" : Str), V.ref x), (("post_rows" : Str), V.ref pr), (("watcher_rows" : Str), V.ref wr)]) = A3 at S6 k6 X6
    refine ⟨_, rfl, rl, rfl, ok.rl4, ?_⟩
    refine ⟨_, rfl, w', _, rfl, .inl (SqL.of (S6 _ _ hw)), _, rfl, p, _, rfl, .inl (SqL.of (S6 _ _ hp)), _, _, rfl, rfl, _, rfl, ?_⟩
    rw [decide_eq_false (show ¬ ((ys.length : Nat) : Int) < ((xs.length : Nat) : Int) by omega)]
    refine iteF ?_
    refine ⟨_, rfl, ?_⟩
    refine ⟨_, rfl, sc, CS, dx, _, rfl, X6, cl, n_has_meet, by show 3 < 1000; decide, ?_⟩
    rw [show putF ("has_meet" : Str) (V.bl mt) [(("home" : Str), V.ref x), (("post_rows" : Str), V.ref pr), (("watcher_rows" : Str), V.ref wr)] = [(("home" : Str), V.ref x), (("post_rows" : Str), V.ref pr), (("watcher_rows" : Str), V.ref wr), (("has_meet" : Str), V.bl mt)] from putF_new (f := ("has_meet" : Str)) (v := V.bl mt) (fs := [(("home" : Str), V.ref x), (("post_rows" : Str), V.ref pr), (("watcher_rows" : Str), V.ref wr)]) ["home", "post_rows", "watcher_rows"] rfl (by decide +kernel)]
    have S7 := same_put (o := (.ins CS dx [(("home" : Str), V.ref x), (("post_rows" : Str), V.ref pr), (("watcher_rows" : Str), V.ref wr), (("has_meet" : Str), V.bl mt)])) S6 x0
    have k7 := KpI.put (o := (.ins CS dx [(("home" : Str), V.ref x), (("post_rows" : Str), V.ref pr), (("watcher_rows" : Str), V.ref wr), (("has_meet" : Str), V.bl mt)])) X6
    have X7 : (upd A3 sc (.ins CS dx [(("home" : Str), V.ref x), (("post_rows" : Str), V.ref pr), (("watcher_rows" : Str), V.ref wr), (("has_meet" : Str), V.bl mt)])) sc = some (.ins CS dx [(("home" : Str), V.ref x), (("post_rows" : Str), V.ref pr), (("watcher_rows" : Str), V.ref wr), (("has_meet" : Str), V.bl mt)]) := upd_same
    generalize upd A3 sc (.ins CS dx [(("home" : Str), V.ref x), (("post_rows" : Str), V.ref pr), (("watcher_rows" : Str), V.ref wr), (("has_meet" : Str), V.bl mt)]) = A4 at S7 k7 X7
    refine ⟨_, rfl, ?_⟩
    refine ⟨_, rfl, sc, CS, dx, _, rfl, X7, cl, n_relief_beats, by show 4 < 1000; decide, ?_⟩
    rw [show putF ("relief_beats" : Str) (V.int ((rl : Nat) : Int)) [(("home" : Str), V.ref x), (("post_rows" : Str), V.ref pr), (("watcher_rows" : Str), V.ref wr), (("has_meet" : Str), V.bl mt)] = [(("home" : Str), V.ref x), (("post_rows" : Str), V.ref pr), (("watcher_rows" : Str), V.ref wr), (("has_meet" : Str), V.bl mt), (("relief_beats" : Str), V.int ((rl : Nat) : Int))] from putF_new (f := ("relief_beats" : Str)) (v := V.int ((rl : Nat) : Int)) (fs := [(("home" : Str), V.ref x), (("post_rows" : Str), V.ref pr), (("watcher_rows" : Str), V.ref wr), (("has_meet" : Str), V.bl mt)]) ["home", "post_rows", "watcher_rows", "has_meet"] rfl (by decide +kernel)]
    have S8 := same_put (o := (.ins CS dx [(("home" : Str), V.ref x), (("post_rows" : Str), V.ref pr), (("watcher_rows" : Str), V.ref wr), (("has_meet" : Str), V.bl mt), (("relief_beats" : Str), V.int ((rl : Nat) : Int))])) S7 x0
    have k8 := KpI.put (o := (.ins CS dx [(("home" : Str), V.ref x), (("post_rows" : Str), V.ref pr), (("watcher_rows" : Str), V.ref wr), (("has_meet" : Str), V.bl mt), (("relief_beats" : Str), V.int ((rl : Nat) : Int))])) X7
    have X8 : (upd A4 sc (.ins CS dx [(("home" : Str), V.ref x), (("post_rows" : Str), V.ref pr), (("watcher_rows" : Str), V.ref wr), (("has_meet" : Str), V.bl mt), (("relief_beats" : Str), V.int ((rl : Nat) : Int))])) sc = some (.ins CS dx [(("home" : Str), V.ref x), (("post_rows" : Str), V.ref pr), (("watcher_rows" : Str), V.ref wr), (("has_meet" : Str), V.bl mt), (("relief_beats" : Str), V.int ((rl : Nat) : Int))]) := upd_same
    generalize upd A4 sc (.ins CS dx [(("home" : Str), V.ref x), (("post_rows" : Str), V.ref pr), (("watcher_rows" : Str), V.ref wr), (("has_meet" : Str), V.bl mt), (("relief_beats" : Str), V.int ((rl : Nat) : Int))]) = A5 at S8 k8 X8
    have hpr5 := ((((k4.trans k5).trans k6).trans k7).trans k8).lst _ _ hpr
    have hPr5 := PsL.keep hPr ((((k4.trans k5).trans k6).trans k7).trans k8).tup
    have pvl : pv.length ≤ 5 := by rw [hPr.1]; exact l5
    refine ⟨_, rfl, sc, CS, dx, _, _, rfl, X8, cl, n_post_rows, (lk_at 1 ["home"] rfl (by decide +kernel) rfl), pr, rfl, ⟨_, SqL.of hpr5⟩, fun D nD => ?_⟩
    refine it_any (walk_list (K := K) (a := pr) (xs := pv)) (fun j H' => Same A5 H' ∧ ∃ zs', H' D = some (.lst zs') ∧ TrL H' zs' ((ps.map (·.2)).take j)) ⟨same_new nD, [], upd_same, AL.nil⟩ (fun j H' _ z => SqL.of (z.1 _ _ hpr5)) ?_ ?_
    · rintro j y G1 G2 hj ⟨g1, zs', hD, hT⟩ ⟨rfl, hy⟩
      obtain ⟨⟨z, rs, dl⟩, ez, q, t, rfl, hq, ht⟩ := (PsL.same hPr5 g1).at hy
      have et : (ps.map (·.2))[j]? = some (rs, dl) := by rw [List.getElem?_map, ez]; rfl
      have zl : zs'.length ≤ 5 := by
        rw [hT.1, List.length_take, List.length_map]
        omega
      refine ⟨q, _, rfl, SqT.of hq, rfl, _, _, rfl, _, _, rfl, _, _, rfl, rfl, rfl, ?_⟩
      refine ⟨_, rfl, _, rfl, by show 2 ≤ sizeLine; decide, fun T' nT => ?_⟩
      have g2 := same_new (o := .tup [.ref t, .int ((dl : Nat) : Int)]) nT
      have hD2 := g2 _ _ hD
      have nDT : D ≠ T' := ne_of_none hD nT
      have kt := (KeepT.of g2).trans (KeepT.lst (o := .lst (zs' ++ [.ref T'])) hD2)
      refine ⟨_, hD2, small1000 (by omega), same_put (g1.trans g2) nD, zs' ++ [.ref T'], upd_same, ?_⟩
      rw [take_snoc' et]
      exact (TrL.keep hT kt).snoc ⟨T', t, rfl, by rw [upd_ne nDT.symm, upd_same], kt _ _ ht⟩
    rintro H7 ⟨s7, tv, htr, hTv⟩
    rw [hPr.1, ← List.length_map (as := ps) (f := (·.2)), List.take_length] at hTv
    have tvl : tv.length = ps.length := by rw [hTv.1, List.length_map]
    have S9 := S8.trans s7
    have X9 := s7 _ _ X8
    have k9 : KpI sc A5 H7 := KpI.of s7
    have many : ((ys.length : Nat) : Int) = ((ws.length : Nat) : Int) := by rw [yl]
    refine ⟨_, rfl, _, rfl, w', _, rfl, .inl (SqL.of (S9 _ _ hw)), _, rfl, D, tv, ps.map (·.2), ws.length, rl, by rw [yl]; rfl, htr, hTv, hTr, ok.rl4, fun H8 s8 => ?_⟩
    have S10 := S9.trans s8
    have X10 := s8 _ _ X9
    have k10 : KpI sc H7 H8 := KpI.of s8
    refine ⟨_, rfl, sc, CS, dx, _, rfl, X10, cl, n_span_beats, by show 5 < 1000; decide, ?_⟩
    rw [show putF ("span_beats" : Str) (V.int ((spanN (ps.map (·.2)) ws.length rl : Nat) : Int)) [(("home" : Str), V.ref x), (("post_rows" : Str), V.ref pr), (("watcher_rows" : Str), V.ref wr), (("has_meet" : Str), V.bl mt), (("relief_beats" : Str), V.int ((rl : Nat) : Int))] = [(("home" : Str), V.ref x), (("post_rows" : Str), V.ref pr), (("watcher_rows" : Str), V.ref wr), (("has_meet" : Str), V.bl mt), (("relief_beats" : Str), V.int ((rl : Nat) : Int)), (("span_beats" : Str), V.int ((spanN (ps.map (·.2)) ws.length rl : Nat) : Int))] from putF_new (f := ("span_beats" : Str)) (v := V.int ((spanN (ps.map (·.2)) ws.length rl : Nat) : Int)) (fs := [(("home" : Str), V.ref x), (("post_rows" : Str), V.ref pr), (("watcher_rows" : Str), V.ref wr), (("has_meet" : Str), V.bl mt), (("relief_beats" : Str), V.int ((rl : Nat) : Int))]) ["home", "post_rows", "watcher_rows", "has_meet", "relief_beats"] rfl (by decide +kernel)]
    have S11 := same_put (o := (.ins CS dx [(("home" : Str), V.ref x), (("post_rows" : Str), V.ref pr), (("watcher_rows" : Str), V.ref wr), (("has_meet" : Str), V.bl mt), (("relief_beats" : Str), V.int ((rl : Nat) : Int)), (("span_beats" : Str), V.int ((spanN (ps.map (·.2)) ws.length rl : Nat) : Int))])) S10 x0
    have k11 := KpI.put (o := (.ins CS dx [(("home" : Str), V.ref x), (("post_rows" : Str), V.ref pr), (("watcher_rows" : Str), V.ref wr), (("has_meet" : Str), V.bl mt), (("relief_beats" : Str), V.int ((rl : Nat) : Int)), (("span_beats" : Str), V.int ((spanN (ps.map (·.2)) ws.length rl : Nat) : Int))])) X10
    have X11 : (upd H8 sc (.ins CS dx [(("home" : Str), V.ref x), (("post_rows" : Str), V.ref pr), (("watcher_rows" : Str), V.ref wr), (("has_meet" : Str), V.bl mt), (("relief_beats" : Str), V.int ((rl : Nat) : Int)), (("span_beats" : Str), V.int ((spanN (ps.map (·.2)) ws.length rl : Nat) : Int))])) sc = some (.ins CS dx [(("home" : Str), V.ref x), (("post_rows" : Str), V.ref pr), (("watcher_rows" : Str), V.ref wr), (("has_meet" : Str), V.bl mt), (("relief_beats" : Str), V.int ((rl : Nat) : Int)), (("span_beats" : Str), V.int ((spanN (ps.map (·.2)) ws.length rl : Nat) : Int))]) := upd_same
    generalize upd H8 sc (.ins CS dx [(("home" : Str), V.ref x), (("post_rows" : Str), V.ref pr), (("watcher_rows" : Str), V.ref wr), (("has_meet" : Str), V.bl mt), (("relief_beats" : Str), V.int ((rl : Nat) : Int)), (("span_beats" : Str), V.int ((spanN (ps.map (·.2)) ws.length rl : Nat) : Int))]) = A6 at S11 k11 X11
    have htr6 := (k10.trans k11).lst _ _ htr
    have hTv6 := TrL.keep hTv (k10.trans k11).tup
    refine ⟨_, rfl, _, rfl, w', _, rfl, .inl (SqL.of (S11 _ _ hw)), _, rfl, _, rfl, D, tv, ps.map (·.2), ws.length, mt, rl, by rw [yl]; rfl, htr6, hTv6, hTr, ok.trStr, by rw [List.length_map]; exact bare, l6, ok.rl4, fun H9 orr ov W s9 nor hWh hor hOr => ?_⟩
    have S12 := S11.trans s9
    have X12 := s9 _ _ X11
    have k12 : KpI sc A6 H9 := KpI.of s9
    refine ⟨_, rfl, sc, CS, dx, _, rfl, X12, cl, n_orders, by show 6 < 1000; decide, ?_⟩
    rw [show putF ("orders" : Str) (V.ref orr) [(("home" : Str), V.ref x), (("post_rows" : Str), V.ref pr), (("watcher_rows" : Str), V.ref wr), (("has_meet" : Str), V.bl mt), (("relief_beats" : Str), V.int ((rl : Nat) : Int)), (("span_beats" : Str), V.int ((spanN (ps.map (·.2)) ws.length rl : Nat) : Int))] = [(("home" : Str), V.ref x), (("post_rows" : Str), V.ref pr), (("watcher_rows" : Str), V.ref wr), (("has_meet" : Str), V.bl mt), (("relief_beats" : Str), V.int ((rl : Nat) : Int)), (("span_beats" : Str), V.int ((spanN (ps.map (·.2)) ws.length rl : Nat) : Int)), (("orders" : Str), V.ref orr)] from putF_new (f := ("orders" : Str)) (v := V.ref orr) (fs := [(("home" : Str), V.ref x), (("post_rows" : Str), V.ref pr), (("watcher_rows" : Str), V.ref wr), (("has_meet" : Str), V.bl mt), (("relief_beats" : Str), V.int ((rl : Nat) : Int)), (("span_beats" : Str), V.int ((spanN (ps.map (·.2)) ws.length rl : Nat) : Int))]) ["home", "post_rows", "watcher_rows", "has_meet", "relief_beats", "span_beats"] rfl (by decide +kernel)]
    have S13 := same_put (o := (.ins CS dx [(("home" : Str), V.ref x), (("post_rows" : Str), V.ref pr), (("watcher_rows" : Str), V.ref wr), (("has_meet" : Str), V.bl mt), (("relief_beats" : Str), V.int ((rl : Nat) : Int)), (("span_beats" : Str), V.int ((spanN (ps.map (·.2)) ws.length rl : Nat) : Int)), (("orders" : Str), V.ref orr)])) S12 x0
    have k13 := KpI.put (o := (.ins CS dx [(("home" : Str), V.ref x), (("post_rows" : Str), V.ref pr), (("watcher_rows" : Str), V.ref wr), (("has_meet" : Str), V.bl mt), (("relief_beats" : Str), V.int ((rl : Nat) : Int)), (("span_beats" : Str), V.int ((spanN (ps.map (·.2)) ws.length rl : Nat) : Int)), (("orders" : Str), V.ref orr)])) X12
    have X13 : (upd H9 sc (.ins CS dx [(("home" : Str), V.ref x), (("post_rows" : Str), V.ref pr), (("watcher_rows" : Str), V.ref wr), (("has_meet" : Str), V.bl mt), (("relief_beats" : Str), V.int ((rl : Nat) : Int)), (("span_beats" : Str), V.int ((spanN (ps.map (·.2)) ws.length rl : Nat) : Int)), (("orders" : Str), V.ref orr)])) sc = some (.ins CS dx [(("home" : Str), V.ref x), (("post_rows" : Str), V.ref pr), (("watcher_rows" : Str), V.ref wr), (("has_meet" : Str), V.bl mt), (("relief_beats" : Str), V.int ((rl : Nat) : Int)), (("span_beats" : Str), V.int ((spanN (ps.map (·.2)) ws.length rl : Nat) : Int)), (("orders" : Str), V.ref orr)]) := upd_same
    generalize upd H9 sc (.ins CS dx [(("home" : Str), V.ref x), (("post_rows" : Str), V.ref pr), (("watcher_rows" : Str), V.ref wr), (("has_meet" : Str), V.bl mt), (("relief_beats" : Str), V.int ((rl : Nat) : Int)), (("span_beats" : Str), V.int ((spanN (ps.map (·.2)) ws.length rl : Nat) : Int)), (("orders" : Str), V.ref orr)]) = A7 at S13 k13 X13
    have ovl : ov.length = W := by have := hOr.1; rw [List.length_map, List.length_range] at this; exact this
    obtain ⟨W0, W1, W2, W3, W4⟩ := id hWh
    have hor7 := k13.lst _ _ hor
    have hOr7 := OrL.kpi hOr k13
    have htr7 := (k12.trans k13).lst _ _ htr6
    have hTv7 := TrL.keep hTv6 (k12.trans k13).tup
    refine ⟨_, rfl, sc, CS, dx, _, _, rfl, X13, cl, n_orders, (lk_at 6 ["home", "post_rows", "watcher_rows", "has_meet", "relief_beats", "span_beats"] rfl (by decide +kernel) rfl), orr, _, rfl, .inl (SqL.of hor7), _, rfl, by omega, by omega, fun St nSt => ?_⟩
    rw [show ((ov.length : Nat) : Int).toNat = W by rw [ovl]; rfl]
    refine lc_range (lo := 0) (n := W) (fun j H' => Same A7 H' ∧ ∃ zs', H' St = some (.lst zs') ∧ SsL H' zs' ((List.range j).map fun r => stnd (ps.map (·.2)) (r : Nat)) ∧ ∀ v ∈ zs', ∃ q, v = V.ref q ∧ q ≠ St) ⟨same_new nSt, [], upd_same, AL.nil, (fun v hv => by cases hv)⟩ ?_ ?_
    · rintro j G1 hj ⟨g1, zs', hD, hS, hne⟩
      have zl : zs'.length = j := by
        rw [hS.1, List.length_map, List.length_range]
      refine ⟨rfl, _, rfl, _, rfl, D, tv, ps.map (·.2), 0 + (j : Int), rfl, g1 _ _ htr7, TrL.same hTv7 g1, hTr, fun G2 q g2 nq hq => ?_⟩
      have hD2 := g2 _ _ hD
      have nq2 : q ≠ St := (ne_of_none hD nq).symm
      refine ⟨_, hD2, Nat.lt_of_lt_of_le (show zs'.length < 2 ^ 24 by omega) (by decide), same_put (g1.trans g2) nSt, zs' ++ [.ref q], upd_same, ?_, ?_⟩
      · rw [List.range_succ, List.map_append]
        refine AL.snoc (AL.mono2 hS fun v hv l z => ?_) ⟨q, rfl, ?_⟩
        · obtain ⟨q', rfl, hq'⟩ := z
          obtain ⟨q'', e, n⟩ := hne _ hv
          cases e
          exact ⟨q', rfl, by rw [upd_ne n]; exact g2 _ _ hq'⟩
        · rw [upd_ne nq2, hq, Int.zero_add]
      · intro v hv
        rcases List.mem_append.mp hv with z | z
        · exact hne v z
        · rw [List.mem_singleton.mp z]
          exact ⟨q, rfl, nq2⟩
    rintro H10 ⟨s10, sv, hst, hSv, _⟩
    have svl : sv.length = W := by rw [hSv.1, List.length_map, List.length_range]
    have S14 := S13.trans s10
    have X14 := s10 _ _ X13
    have k14 : KpI sc A7 H10 := KpI.of s10
    have hHm10 := hHm.kpi nxs (((((((((((k3.trans k4).trans k5).trans k6).trans k7).trans k8).trans k9).trans k10).trans k11).trans k12).trans k13).trans k14)
    refine ⟨_, rfl, sc, CS, dx, _, _, rfl, X14, cl, n_home, (lk_at 0 [] rfl (by decide +kernel) rfl), x, zs, _, _, rfl, Hs.of hHm10, fun H11 hd s11 nhd hHd => ?_⟩
    have S15 := S14.trans s11
    have X15 := s11 _ _ X14
    have k15 : KpI sc H10 H11 := KpI.of s11
    refine ⟨_, rfl, sc, CS, dx, _, rfl, X15, cl, n_hands, by show 7 < 1000; decide, ?_⟩
    rw [show putF ("hands" : Str) (V.ref hd) [(("home" : Str), V.ref x), (("post_rows" : Str), V.ref pr), (("watcher_rows" : Str), V.ref wr), (("has_meet" : Str), V.bl mt), (("relief_beats" : Str), V.int ((rl : Nat) : Int)), (("span_beats" : Str), V.int ((spanN (ps.map (·.2)) ws.length rl : Nat) : Int)), (("orders" : Str), V.ref orr)] = [(("home" : Str), V.ref x), (("post_rows" : Str), V.ref pr), (("watcher_rows" : Str), V.ref wr), (("has_meet" : Str), V.bl mt), (("relief_beats" : Str), V.int ((rl : Nat) : Int)), (("span_beats" : Str), V.int ((spanN (ps.map (·.2)) ws.length rl : Nat) : Int)), (("orders" : Str), V.ref orr), (("hands" : Str), V.ref hd)] from putF_new (f := ("hands" : Str)) (v := V.ref hd) (fs := [(("home" : Str), V.ref x), (("post_rows" : Str), V.ref pr), (("watcher_rows" : Str), V.ref wr), (("has_meet" : Str), V.bl mt), (("relief_beats" : Str), V.int ((rl : Nat) : Int)), (("span_beats" : Str), V.int ((spanN (ps.map (·.2)) ws.length rl : Nat) : Int)), (("orders" : Str), V.ref orr)]) ["home", "post_rows", "watcher_rows", "has_meet", "relief_beats", "span_beats", "orders"] rfl (by decide +kernel)]
    have S16 := same_put (o := (.ins CS dx [(("home" : Str), V.ref x), (("post_rows" : Str), V.ref pr), (("watcher_rows" : Str), V.ref wr), (("has_meet" : Str), V.bl mt), (("relief_beats" : Str), V.int ((rl : Nat) : Int)), (("span_beats" : Str), V.int ((spanN (ps.map (·.2)) ws.length rl : Nat) : Int)), (("orders" : Str), V.ref orr), (("hands" : Str), V.ref hd)])) S15 x0
    have k16 := KpI.put (o := (.ins CS dx [(("home" : Str), V.ref x), (("post_rows" : Str), V.ref pr), (("watcher_rows" : Str), V.ref wr), (("has_meet" : Str), V.bl mt), (("relief_beats" : Str), V.int ((rl : Nat) : Int)), (("span_beats" : Str), V.int ((spanN (ps.map (·.2)) ws.length rl : Nat) : Int)), (("orders" : Str), V.ref orr), (("hands" : Str), V.ref hd)])) X15
    have X16 : (upd H11 sc (.ins CS dx [(("home" : Str), V.ref x), (("post_rows" : Str), V.ref pr), (("watcher_rows" : Str), V.ref wr), (("has_meet" : Str), V.bl mt), (("relief_beats" : Str), V.int ((rl : Nat) : Int)), (("span_beats" : Str), V.int ((spanN (ps.map (·.2)) ws.length rl : Nat) : Int)), (("orders" : Str), V.ref orr), (("hands" : Str), V.ref hd)])) sc = some (.ins CS dx [(("home" : Str), V.ref x), (("post_rows" : Str), V.ref pr), (("watcher_rows" : Str), V.ref wr), (("has_meet" : Str), V.bl mt), (("relief_beats" : Str), V.int ((rl : Nat) : Int)), (("span_beats" : Str), V.int ((spanN (ps.map (·.2)) ws.length rl : Nat) : Int)), (("orders" : Str), V.ref orr), (("hands" : Str), V.ref hd)]) := upd_same
    generalize upd H11 sc (.ins CS dx [(("home" : Str), V.ref x), (("post_rows" : Str), V.ref pr), (("watcher_rows" : Str), V.ref wr), (("has_meet" : Str), V.bl mt), (("relief_beats" : Str), V.int ((rl : Nat) : Int)), (("span_beats" : Str), V.int ((spanN (ps.map (·.2)) ws.length rl : Nat) : Int)), (("orders" : Str), V.ref orr), (("hands" : Str), V.ref hd)]) = A8 at S16 k16 X16
    have hst8 := (k15.trans k16).lst _ _ hst
    have hSv8 := SsL.kpi hSv (k15.trans k16)
    have hor8 := (((k13.trans k14).trans k15).trans k16).lst _ _ hor
    have hOr8 := OrL.kpi hOr (((k13.trans k14).trans k15).trans k16)
    have hpr8 := ((((((((((((k4.trans k5).trans k6).trans k7).trans k8).trans k9).trans k10).trans k11).trans k12).trans k13).trans k14).trans k15).trans k16).lst _ _ hpr
    have hwr8 := ((((((((((k6.trans k7).trans k8).trans k9).trans k10).trans k11).trans k12).trans k13).trans k14).trans k15).trans k16).lst _ _ hwr
    have hWr8 := WtL.keep hWr ((((((((((k6.trans k7).trans k8).trans k9).trans k10).trans k11).trans k12).trans k13).trans k14).trans k15).trans k16).tup
    have hHm8 := hHm.kpi nxs (((((((((((((k3.trans k4).trans k5).trans k6).trans k7).trans k8).trans k9).trans k10).trans k11).trans k12).trans k13).trans k14).trans k15).trans k16)
    refine ⟨_, rfl, _, rfl, sc, CS, dx, _, _, rfl, X16, cl, n_orders, (lk_at 6 ["home", "post_rows", "watcher_rows", "has_meet", "relief_beats", "span_beats"] rfl (by decide +kernel) rfl), St, orr, _, _, rfl, .inl ⟨SqL.of hst8, SqL.of hor8, fun Lg nLg => ?_⟩⟩
    refine it_any (walk_zip (n := W) (xs := sv) (ys := ov) (by rw [svl, ovl, Nat.min_self])) (fun j H' => Same A8 H' ∧ ∃ zs', H' Lg = some (.lst zs') ∧ SsL H' zs' ((List.range j).map (litAt zs (lnk zs ss) (ps.map (·.2)) ws mt rl)) ∧ ∀ v ∈ zs', ∃ q, v = V.ref q ∧ q ≠ Lg) ⟨same_new nLg, [], upd_same, AL.nil, (fun v hv => by cases hv)⟩ (fun j H' _ z => ⟨SqL.of (z.1 _ _ hst8), SqL.of (z.1 _ _ hor8)⟩) ?_ ?_
    · rintro j y G1 G2 hj ⟨g1, zs', hD, hS, hne⟩ ⟨tq, x1, y1, rfl, ntq, rfl, e1, e2⟩
      have zl : zs'.length = j := by rw [hS.1, List.length_map, List.length_range]
      obtain ⟨l1, el1, q1, rfl, hq1⟩ := (SsL.same hSv8 g1).at e1
      obtain ⟨l2, el2, q2, rfl, hq2⟩ := (OrL.same hOr8 g1).at e2
      rw [List.getElem?_map, List.getElem?_range hj] at el1 el2
      cases el1
      cases el2
      have g2 := same_new (o := .tup [V.ref q1, V.ref q2]) ntq
      have g12 := g1.trans g2
      have oo := ordN_ok (tr := ps.map (·.2)) (many := ws.length) (mt := mt) (rl := rl) (by rw [List.length_map]; exact bare) j
      refine ⟨tq, _, rfl, SqT.of upd_same, rfl, _, _, rfl, _, _, rfl, rfl, rfl, ?_⟩
      refine ⟨_, rfl, sc, CS, dx, _, _, rfl, g12 _ _ X16, cl, n_home, (lk_at 0 [] rfl (by decide +kernel) rfl), _, rfl, _, rfl, sc, dx, _, rfl, g12 _ _ X16, (lk_none ["home", "post_rows", "watcher_rows", "has_meet", "relief_beats", "span_beats", "orders", "hands"] rfl (by decide +kernel)), _, rfl, sc, q2, pr, wr, dx, _, pv, wv, ws, _, rfl, g12 _ _ X16, (lk_at 1 ["home"] rfl (by decide +kernel) rfl), (lk_at 2 ["home", "post_rows"] rfl (by decide +kernel) rfl), g12 _ _ hpr8, g12 _ _ hwr8, WtL.same hWr8 g12, g2 _ _ hq2, by rw [oo.1, hPr.1]; exact bare, by rw [oo.1]; exact l6, oo.2, fun G3 rp g3 nrp hrp => ?_⟩
      have g13 := g12.trans g3
      have trl : (ps.map (·.2)).length = pv.length := by rw [List.length_map, hPr.1]
      refine ⟨x, q1, rp, zs, _, _, _, _, rfl, Hs.of (hHm8.same g13), (g2.trans g3) _ _ hq1, hrp, by unfold reachN; rw [stnd_len, List.length_map, List.length_map, List.length_take, oo.1]; have := hPr.1; omega, by rw [stnd_len, List.length_map]; exact l5, fun r hr => ?_, fun G4 q g4 nq hq => ?_⟩
      · obtain ⟨pp, hpp, rfl⟩ := List.mem_map.mp hr
        exact ok.trIn pp hpp _ (plcS_mem (hTr.pos pp hpp) _)
      have g24 := (g2.trans g3).trans g4
      have hD2 := g24 _ _ hD
      have nq2 : q ≠ Lg := (ne_of_none ((g2.trans g3) _ _ hD) nq).symm
      refine ⟨_, hD2, Nat.lt_of_lt_of_le (show zs'.length < 2 ^ 24 by omega) (by decide), same_put (g13.trans g4) nLg, zs' ++ [.ref q], upd_same, ?_, ?_⟩
      · rw [List.range_succ, List.map_append]
        refine AL.snoc (AL.mono2 hS fun v hv l z => ?_) ⟨q, rfl, ?_⟩
        · obtain ⟨q', rfl, hq'⟩ := z
          obtain ⟨q'', e, n⟩ := hne _ hv
          cases e
          exact ⟨q', rfl, by rw [upd_ne n]; exact g24 _ _ hq'⟩
        · rw [upd_ne nq2, hq]
          unfold litAt
          rw [trl]
      · intro v hv
        rcases List.mem_append.mp hv with z | z
        · exact hne v z
        · rw [List.mem_singleton.mp z]
          exact ⟨q, rfl, nq2⟩
    rintro H12 ⟨s12', lv, hlg, hLv, _⟩
    have S17 := S16.trans s12'
    have X17 := s12' _ _ X16
    have k17 : KpI sc A8 H12 := KpI.of s12'
    refine ⟨_, rfl, sc, CS, dx, _, rfl, X17, cl, n_lights, by show 8 < 1000; decide, ?_⟩
    rw [show putF ("lights" : Str) (V.ref Lg) [(("home" : Str), V.ref x), (("post_rows" : Str), V.ref pr), (("watcher_rows" : Str), V.ref wr), (("has_meet" : Str), V.bl mt), (("relief_beats" : Str), V.int ((rl : Nat) : Int)), (("span_beats" : Str), V.int ((spanN (ps.map (·.2)) ws.length rl : Nat) : Int)), (("orders" : Str), V.ref orr), (("hands" : Str), V.ref hd)] = [(("home" : Str), V.ref x), (("post_rows" : Str), V.ref pr), (("watcher_rows" : Str), V.ref wr), (("has_meet" : Str), V.bl mt), (("relief_beats" : Str), V.int ((rl : Nat) : Int)), (("span_beats" : Str), V.int ((spanN (ps.map (·.2)) ws.length rl : Nat) : Int)), (("orders" : Str), V.ref orr), (("hands" : Str), V.ref hd), (("lights" : Str), V.ref Lg)] from putF_new (f := ("lights" : Str)) (v := V.ref Lg) (fs := [(("home" : Str), V.ref x), (("post_rows" : Str), V.ref pr), (("watcher_rows" : Str), V.ref wr), (("has_meet" : Str), V.bl mt), (("relief_beats" : Str), V.int ((rl : Nat) : Int)), (("span_beats" : Str), V.int ((spanN (ps.map (·.2)) ws.length rl : Nat) : Int)), (("orders" : Str), V.ref orr), (("hands" : Str), V.ref hd)]) ["home", "post_rows", "watcher_rows", "has_meet", "relief_beats", "span_beats", "orders", "hands"] rfl (by decide +kernel)]
    have S18 := same_put (o := (.ins CS dx [(("home" : Str), V.ref x), (("post_rows" : Str), V.ref pr), (("watcher_rows" : Str), V.ref wr), (("has_meet" : Str), V.bl mt), (("relief_beats" : Str), V.int ((rl : Nat) : Int)), (("span_beats" : Str), V.int ((spanN (ps.map (·.2)) ws.length rl : Nat) : Int)), (("orders" : Str), V.ref orr), (("hands" : Str), V.ref hd), (("lights" : Str), V.ref Lg)])) S17 x0
    have k18 := KpI.put (o := (.ins CS dx [(("home" : Str), V.ref x), (("post_rows" : Str), V.ref pr), (("watcher_rows" : Str), V.ref wr), (("has_meet" : Str), V.bl mt), (("relief_beats" : Str), V.int ((rl : Nat) : Int)), (("span_beats" : Str), V.int ((spanN (ps.map (·.2)) ws.length rl : Nat) : Int)), (("orders" : Str), V.ref orr), (("hands" : Str), V.ref hd), (("lights" : Str), V.ref Lg)])) X17
    have X18 : (upd H12 sc (.ins CS dx [(("home" : Str), V.ref x), (("post_rows" : Str), V.ref pr), (("watcher_rows" : Str), V.ref wr), (("has_meet" : Str), V.bl mt), (("relief_beats" : Str), V.int ((rl : Nat) : Int)), (("span_beats" : Str), V.int ((spanN (ps.map (·.2)) ws.length rl : Nat) : Int)), (("orders" : Str), V.ref orr), (("hands" : Str), V.ref hd), (("lights" : Str), V.ref Lg)])) sc = some (.ins CS dx [(("home" : Str), V.ref x), (("post_rows" : Str), V.ref pr), (("watcher_rows" : Str), V.ref wr), (("has_meet" : Str), V.bl mt), (("relief_beats" : Str), V.int ((rl : Nat) : Int)), (("span_beats" : Str), V.int ((spanN (ps.map (·.2)) ws.length rl : Nat) : Int)), (("orders" : Str), V.ref orr), (("hands" : Str), V.ref hd), (("lights" : Str), V.ref Lg)]) := upd_same
    generalize upd H12 sc (.ins CS dx [(("home" : Str), V.ref x), (("post_rows" : Str), V.ref pr), (("watcher_rows" : Str), V.ref wr), (("has_meet" : Str), V.bl mt), (("relief_beats" : Str), V.int ((rl : Nat) : Int)), (("span_beats" : Str), V.int ((spanN (ps.map (·.2)) ws.length rl : Nat) : Int)), (("orders" : Str), V.ref orr), (("hands" : Str), V.ref hd), (("lights" : Str), V.ref Lg)]) = A9 at S18 k18 X18
    have hst9 := (((k15.trans k16).trans k17).trans k18).lst _ _ hst
    have hSv9 := SsL.kpi hSv (((k15.trans k16).trans k17).trans k18)
    refine ⟨_, rfl, St, _, rfl, SqL.of hst9, fun Mv nMv => ?_⟩
    refine it_any (walk_enum (K := K) (a := St) (xs := sv)) (fun j H' => Same A9 H' ∧ ∃ zs', H' Mv = some (.lst zs') ∧ MvL H' zs' ((List.range j).map (movAt (ps.map (·.2)))) ∧ ∀ v ∈ zs', ∃ q, v = V.ref q ∧ q ≠ Mv) ⟨same_new nMv, [], upd_same, AL.nil, (fun v hv => by cases hv)⟩ (fun j H' _ z => SqL.of (z.1 _ _ hst9)) ?_ ?_
    · rintro j y G1 G2 hj ⟨g1, zs', hD, hS, hne⟩ ⟨tq, x1, y1, rfl, ntq, rfl, e1, e2⟩
      have e1' : x1 = .int (j : Nat) := (Option.some.inj e1).symm
      subst e1'
      rw [svl] at hj
      have zl : zs'.length = j := by rw [hS.1, List.length_map, List.length_range]
      obtain ⟨l1, el1, q1, rfl, hq1⟩ := (SsL.same hSv9 g1).at e2
      rw [List.getElem?_map, List.getElem?_range hj] at el1
      cases el1
      have g2 := same_new (o := .tup [V.int ((j : Nat) : Int), V.ref q1]) ntq
      have g12 := g1.trans g2
      -- the place ahead
      obtain ⟨i0, hi0, ei0, es0⟩ : ∃ i0, i0 < W ∧ ixN sv.length (((j : Nat) : Int) - 1) = some i0 ∧ stnd (ps.map (·.2)) ((i0 : Nat) : Int) = stnd (ps.map (·.2)) (((j : Nat) : Int) - 1) := by
        by_cases z : j = 0
        · subst z
          refine ⟨W - 1, by omega, ?_, ?_⟩
          · unfold ixN
            rw [svl, if_neg (by decide), if_pos (by omega)]
            congr 1
            omega
          · have dv : ∀ q ∈ ps.map (·.2), q.1.length ∣ W := fun q hq => Nat.dvd_trans (span_len hq) (Nat.dvd_of_mod_eq_zero W2)
            rw [← stnd_per dv (((0 : Nat) : Int) - 1)]
            congr 1
            omega
        · refine ⟨j - 1, by omega, ?_, ?_⟩
          · rw [svl, show ((j : Nat) : Int) - 1 = ((j - 1 : Nat) : Int) by omega]
            exact ixN_nat (by omega)
          · congr 1
            omega
      have ep : ((List.range W).map fun r => stnd (ps.map (·.2)) ((r : Nat) : Int))[i0]? = some (stnd (ps.map (·.2)) ((i0 : Nat) : Int)) := by
        rw [List.getElem?_map, List.getElem?_range hi0]
        rfl
      obtain ⟨xv, ex, q0, rfl, hq0⟩ := (SsL.same hSv9 g12).of ep
      rw [es0] at hq0
      refine ⟨tq, _, rfl, SqT.of upd_same, rfl, _, _, rfl, _, _, rfl, rfl, rfl, ?_⟩
      refine ⟨_, rfl, _, rfl, _, _, rfl, rfl, St, _, _, _, rfl, rfl, SqL.of (g12 _ _ hst9), by unfold atI; rw [ei0]; exact ex, _, rfl, q0, q1, _, _, rfl, hq0, g2 _ _ hq1, by rw [stnd_len, stnd_len], by rw [stnd_len, List.length_map]; exact l5, fun G4 q mv g4 nq hq hmv => ?_⟩
      have g24 := g2.trans g4
      have hD2 := g24 _ _ hD
      have nq2 : q ≠ Mv := (ne_of_none (g2 _ _ hD) nq).symm
      have kt := KeepT.lst (o := .lst (zs' ++ [.ref q])) hD2
      refine ⟨_, hD2, Nat.lt_of_lt_of_le (show zs'.length < 2 ^ 24 by omega) (by decide), same_put (g12.trans g4) nMv, zs' ++ [.ref q], upd_same, ?_, ?_⟩
      · rw [List.range_succ, List.map_append]
        refine AL.snoc (AL.mono2 hS fun v hv l z => ?_) ⟨q, mv, rfl, ?_, hmv.keep kt⟩
        · obtain ⟨q', mv', rfl, hq', hm'⟩ := z
          obtain ⟨q'', e, n⟩ := hne _ hv
          cases e
          exact ⟨q', mv', rfl, by rw [upd_ne n]; exact g24 _ _ hq', (hm'.same g24).keep kt⟩
        · rw [upd_ne nq2]
          exact hq
      · intro v hv
        rcases List.mem_append.mp hv with z | z
        · exact hne v z
        · rw [List.mem_singleton.mp z]
          exact ⟨q, rfl, nq2⟩
    rintro H13 ⟨s13', mvv, hmv, hMv, _⟩
    rw [svl] at hMv
    have S19 := S18.trans s13'
    have X19 := s13' _ _ X18
    have k19 : KpI sc A9 H13 := KpI.of s13'
    refine ⟨_, rfl, sc, CS, dx, _, rfl, X19, cl, n_moves, by show 9 < 1000; decide, ?_⟩
    rw [show putF ("moves" : Str) (V.ref Mv) [(("home" : Str), V.ref x), (("post_rows" : Str), V.ref pr), (("watcher_rows" : Str), V.ref wr), (("has_meet" : Str), V.bl mt), (("relief_beats" : Str), V.int ((rl : Nat) : Int)), (("span_beats" : Str), V.int ((spanN (ps.map (·.2)) ws.length rl : Nat) : Int)), (("orders" : Str), V.ref orr), (("hands" : Str), V.ref hd), (("lights" : Str), V.ref Lg)] = [(("home" : Str), V.ref x), (("post_rows" : Str), V.ref pr), (("watcher_rows" : Str), V.ref wr), (("has_meet" : Str), V.bl mt), (("relief_beats" : Str), V.int ((rl : Nat) : Int)), (("span_beats" : Str), V.int ((spanN (ps.map (·.2)) ws.length rl : Nat) : Int)), (("orders" : Str), V.ref orr), (("hands" : Str), V.ref hd), (("lights" : Str), V.ref Lg), (("moves" : Str), V.ref Mv)] from putF_new (f := ("moves" : Str)) (v := V.ref Mv) (fs := [(("home" : Str), V.ref x), (("post_rows" : Str), V.ref pr), (("watcher_rows" : Str), V.ref wr), (("has_meet" : Str), V.bl mt), (("relief_beats" : Str), V.int ((rl : Nat) : Int)), (("span_beats" : Str), V.int ((spanN (ps.map (·.2)) ws.length rl : Nat) : Int)), (("orders" : Str), V.ref orr), (("hands" : Str), V.ref hd), (("lights" : Str), V.ref Lg)]) ["home", "post_rows", "watcher_rows", "has_meet", "relief_beats", "span_beats", "orders", "hands", "lights"] rfl (by decide +kernel)]
    have S20 := same_put (o := (.ins CS dx [(("home" : Str), V.ref x), (("post_rows" : Str), V.ref pr), (("watcher_rows" : Str), V.ref wr), (("has_meet" : Str), V.bl mt), (("relief_beats" : Str), V.int ((rl : Nat) : Int)), (("span_beats" : Str), V.int ((spanN (ps.map (·.2)) ws.length rl : Nat) : Int)), (("orders" : Str), V.ref orr), (("hands" : Str), V.ref hd), (("lights" : Str), V.ref Lg), (("moves" : Str), V.ref Mv)])) S19 x0
    have k20 := KpI.put (o := (.ins CS dx [(("home" : Str), V.ref x), (("post_rows" : Str), V.ref pr), (("watcher_rows" : Str), V.ref wr), (("has_meet" : Str), V.bl mt), (("relief_beats" : Str), V.int ((rl : Nat) : Int)), (("span_beats" : Str), V.int ((spanN (ps.map (·.2)) ws.length rl : Nat) : Int)), (("orders" : Str), V.ref orr), (("hands" : Str), V.ref hd), (("lights" : Str), V.ref Lg), (("moves" : Str), V.ref Mv)])) X19
    have X20 : (upd H13 sc (.ins CS dx [(("home" : Str), V.ref x), (("post_rows" : Str), V.ref pr), (("watcher_rows" : Str), V.ref wr), (("has_meet" : Str), V.bl mt), (("relief_beats" : Str), V.int ((rl : Nat) : Int)), (("span_beats" : Str), V.int ((spanN (ps.map (·.2)) ws.length rl : Nat) : Int)), (("orders" : Str), V.ref orr), (("hands" : Str), V.ref hd), (("lights" : Str), V.ref Lg), (("moves" : Str), V.ref Mv)])) sc = some (.ins CS dx [(("home" : Str), V.ref x), (("post_rows" : Str), V.ref pr), (("watcher_rows" : Str), V.ref wr), (("has_meet" : Str), V.bl mt), (("relief_beats" : Str), V.int ((rl : Nat) : Int)), (("span_beats" : Str), V.int ((spanN (ps.map (·.2)) ws.length rl : Nat) : Int)), (("orders" : Str), V.ref orr), (("hands" : Str), V.ref hd), (("lights" : Str), V.ref Lg), (("moves" : Str), V.ref Mv)]) := upd_same
    generalize upd H13 sc (.ins CS dx [(("home" : Str), V.ref x), (("post_rows" : Str), V.ref pr), (("watcher_rows" : Str), V.ref wr), (("has_meet" : Str), V.bl mt), (("relief_beats" : Str), V.int ((rl : Nat) : Int)), (("span_beats" : Str), V.int ((spanN (ps.map (·.2)) ws.length rl : Nat) : Int)), (("orders" : Str), V.ref orr), (("hands" : Str), V.ref hd), (("lights" : Str), V.ref Lg), (("moves" : Str), V.ref Mv)]) = A10 at S20 k20 X20
    refine k A10 W S20 ⟨ok, dx, x, pr, wr, orr, hd, Lg, Mv, pv, wv, ov, lv, mvv, ⟨X20, hHm.kpi nxs (((((((((((((((((k3.trans k4).trans k5).trans k6).trans k7).trans k8).trans k9).trans k10).trans k11).trans k12).trans k13).trans k14).trans k15).trans k16).trans k17).trans k18).trans k19).trans k20), ((((((((((((((((k4.trans k5).trans k6).trans k7).trans k8).trans k9).trans k10).trans k11).trans k12).trans k13).trans k14).trans k15).trans k16).trans k17).trans k18).trans k19).trans k20).lst _ _ hpr, PsL.keep hPr ((((((((((((((((k4.trans k5).trans k6).trans k7).trans k8).trans k9).trans k10).trans k11).trans k12).trans k13).trans k14).trans k15).trans k16).trans k17).trans k18).trans k19).trans k20).tup, ((((((((((((((k6.trans k7).trans k8).trans k9).trans k10).trans k11).trans k12).trans k13).trans k14).trans k15).trans k16).trans k17).trans k18).trans k19).trans k20).lst _ _ hwr, WtL.keep hWr ((((((((((((((k6.trans k7).trans k8).trans k9).trans k10).trans k11).trans k12).trans k13).trans k14).trans k15).trans k16).trans k17).trans k18).trans k19).trans k20).tup, (((((((k13.trans k14).trans k15).trans k16).trans k17).trans k18).trans k19).trans k20).lst _ _ hor, OrL.kpi hOr (((((((k13.trans k14).trans k15).trans k16).trans k17).trans k18).trans k19).trans k20), hHd.kpi ((((k16.trans k17).trans k18).trans k19).trans k20), ((k18.trans k19).trans k20).lst _ _ hlg, SsL.kpi hLv ((k18.trans k19).trans k20), k20.lst _ _ hmv, MvL.kpi hMv k20, hWh⟩⟩
end
end Dk
namespace Dk
open PySem L2
section
variable {P : Program} {w : World} {K : PySem.W.Frag} {mg : Str → Option Value} {base : Heap}
theorem scLaw : FnScope ["_law_script", "_law_box_here", "_law_house_here", "_law_made_here", "_law_walk", "_law_scene", "_law_size", "_law_seen", "_law_many", "_law_turn", "_law_beat", "_law_room", "_law_now", "_law_told", "_law_every", "_law_about", "_law_k", "_law_one", "_law_there"] ["_law_script"] (defScope sLaw) := ⟨rfl, rfl, rfl, by decide +kernel, rfl, by decide +kernel, by decide +kernel⟩
theorem bind_sc4 {dvs : List V} {f : Addr} {fd : FuncData} (F : FunSI K dvs f fd) (h2 : dvs.length = 2) : ∃ ds, Vals [V.bl false, V.int 0] ds ∧ Binds K fd ["self", "house", "posts", "watchers", "meet", "relief"] ds := by
  have z := FunD.binds (ps := ["self", "house", "posts", "watchers", "meet", "relief"]) F 4 2 (by intro z; rw [z] at h2; cases h2) (by rw [h2]; rfl) (by
    intro T D doc pm an cdv ct us its ks h1 hi h3
    match us, h1, its, (hi.trans h2), ks, h3 with
    | [_, _, _, _], _, [_, _], _, [_, _], _ => exact ⟨_, rfl, _, _, _, _, _, _, rfl, rfl, _, _, _, _, _, _, rfl, rfl, rfl⟩) (by simp)
  rw [List.drop_of_length_le (by omega)] at z
  exact z
def spLaw (K : PySem.W.Frag) : Sp := fun vs H Q _ => ∃ (a : Addr) (ns : List Int), vs = [.ref a] ∧ SqL K H a (ns.map V.int) ∧ ns.length ≤ 63 ∧ ∀ H', Q (.bl true) H'
theorem ok_law {f C CS fBx fOf fDr fHs fMd fRn fFt fCb fRr fTu fLk fS fWr : Addr} {fd dBx dOf dDr dHs dMd dRn dFt dCb dRr dTu dLk dS dWr : FuncData} (F : Fun K "law" "law" sLaw f fd) (FBx : Fun K "_law_box" "_law_box" sBox fBx dBx) (bBx : Binds K dBx ["_law_script"] []) (gBx : mg "_law_box" = some (.ref fBx)) (GBx : FnOk P w K mg base CX0 1 fBx dBx ["_law_script"] (spBox K)) (FOf : Fun K "_law_of" "_law_of" sOf fOf dOf) (bOf : Binds K dOf ["_law_box_here", "_law_some"] []) (gOf : mg "_law_of" = some (.ref fOf)) (GOf : FnOk P w K mg base CX0 2 fOf dOf ["_law_box_here", "_law_some"] spOf) (FDr : Fun K "_law_draw" "_law_draw" sDraw fDr dDr) (bDr : Binds K dDr ["_law_box_here", "_law_many"] []) (gDr : mg "_law_draw" = some (.ref fDr)) (GDr : FnOk P w K mg base CX0 1 fDr dDr ["_law_box_here", "_law_many"] spDraw) (FHs : Fun K "_law_house" "_law_house" sLawHouse fHs dHs) (bHs : Binds K dHs ["_law_box_here", "_law_limit"] []) (gHs : mg "_law_house" = some (.ref fHs)) (GHs : FnOk P w K mg base CX0 4 fHs dHs ["_law_box_here", "_law_limit"] spLawHouse) (FMd : Fun K "_law_made" "_law_made" sLawMade fMd dMd) (bMd : Binds K dMd ["_law_house_here"] []) (gMd : mg "_law_made" = some (.ref fMd)) (GMd : FnOk P w K mg base CX0 8 fMd dMd ["_law_house_here"] (spMade C)) (FRn : Fun K "_law_round" "_law_round" sLawRound fRn dRn) (bRn : Binds K dRn ["_law_box_here", "_law_house_here", "_law_limit"] []) (gRn : mg "_law_round" = some (.ref fRn)) (GRn : FnOk P w K mg base CX0 3 fRn dRn ["_law_box_here", "_law_house_here", "_law_limit"] spLawRound) (FFt : Fun K "fits" "fits" sFits fFt dFt) (bFt : Binds K dFt ["house", "size", "sightings"] []) (gFt : mg "fits" = some (.ref fFt)) (GFt : FnOk P w K mg base CX0 7 fFt dFt ["house", "size", "sightings"] (spFits K C)) (FCb : Fun K "can_be" "can_be" sCanBe fCb dCb) (bCb : Binds K dCb ["house", "size", "sightings", "beat"] []) (gCb : mg "can_be" = some (.ref fCb)) (GCb : FnOk P w K mg base CX0 9 fCb dCb ["house", "size", "sightings", "beat"] (spCanBe K C)) (FRr : Fun K "read_round" "read_round" sReadRound fRr dRr) (bRr : Binds K dRr ["house", "size", "sightings"] []) (gRr : mg "read_round" = some (.ref fRr)) (GRr : FnOk P w K mg base CX0 9 fRr dRr ["house", "size", "sightings"] (spReadRound K C)) (FTu : Fun K "turned" "turned" sTurned fTu dTu) (bTu : Binds K dTu ["rooms"] []) (gTu : mg "turned" = some (.ref fTu)) (GTu : FnOk P w K mg base CX0 2 fTu dTu ["rooms"] (spTurned K)) (FLk : Fun K "_law_like" "_law_like" sLike fLk dLk) (bLk : Binds K dLk ["_law_found", "_law_due"] []) (gLk : mg "_law_like" = some (.ref fLk)) (GLk : FnOk P w K mg base CX0 4 fLk dLk ["_law_found", "_law_due"] (spLike 4)) {dvsS : List V} (FSI : FunSI K dvsS fS dS) (h2S : dvsS.length = 2) (mkS : Mk K CS fS) (GS : FnOk P w K mg base CX0 8 fS dS ["self", "house", "posts", "watchers", "meet", "relief"] (spScInit C CS)) (gS : mg "Scene" = some (.ref CS)) (cl : Cls K CS) (mWr : Meth K CS "where" fWr) (bWr : Binds K dWr ["self", "post", "beat"] []) (GWr : FnOk P w K mg base CX0 4 fWr dWr ["self", "post", "beat"] (spWhere C CS)) (m_range : mg "range" = none) (m_len : mg "len" = none) : FnOk P w K mg base CX0 10 f fd ["_law_script"] (spLaw K) := by
  refine F.ok scLaw (fun vs H Q E h => ?_) (fun cdv A outer s H vs Q E hr h => ?_)
  · obtain ⟨a, ns, rfl, _⟩ := h
    rfl
  · obtain ⟨a, ns, rfl, hS, hlen, k⟩ := h
    obtain ⟨dsS, vS4, bS4⟩ := bind_sc4 FSI h2S
    have hu64 : (A.deeper (PyProof.Rows.envOfC "law" (defScope sLaw) s.heap.objs.size f cdv)).units + 64 < cLine := by
      have := hr.un
      omega
    refine ⟨_, pss_cons (ps_set (i := 1) scLaw.nd rfl (Or.inl rfl) (pe_call GBx (hr.mono (by decide)) (by rfl) gBx FBx.kp bBx .nil pass0 (pa_cons (pv 0) pa_nil)))
      (pss_cons (ps_set (i := 2) scLaw.nd rfl (Or.inl rfl) (pe_call GHs (hr.mono (by decide)) (by rfl) gHs FHs.kp bHs .nil pass0 (pa_cons (pv 1) (pa_cons pe_int pa_nil))))
      (pss_cons (ps_par (i := 3) (j := 4) (by rfl) scLaw.nd rfl rfl (by decide) rfl rfl (pa_cons (pe_call GMd (hr.mono (by decide)) (by rfl) gMd FMd.kp bMd .nil pass0 (pa_cons (pv 2) pa_nil)) (pa_cons (pe_call GRn (hr.mono (by decide)) (by rfl) gRn FRn.kp bRn .nil pass0 (pa_cons (pv 1) (pa_cons (pv 2) (pa_cons pe_int pa_nil)))) pa_nil)) (by rfl))
      (pss_cons (ps_asg (pe_tup (pa_cons (pe_make mkS GS (hr.mono (by decide)) (by rfl) gS bS4 vS4 pass0 (pa_cons (pv 3) (pa_cons (pe_lst (pa_cons (pe_tup (pa_cons pe_str (pa_cons (pv 4) (pa_cons pe_int pa_nil)))) pa_nil)) (pa_cons (pe_lst (pa_cons (pe_tup (pa_cons pe_str (pa_cons pe_int pa_nil))) pa_nil)) pa_nil)))) (pa_cons (pe_callB call_len_seq (by rfl) m_len PySem.boot_len (pa_cons (pv 4) pa_nil)) (pa_cons (pe_lst pa_nil) pa_nil)))) (pg_tup rfl (pgs_cons (pg_name (i := 5) scLaw.nd rfl (Or.inr rfl)) (pgs_cons (pg_name (i := 6) scLaw.nd rfl (Or.inl rfl)) (pgs_cons (pg_name (i := 7) scLaw.nd rfl (Or.inl rfl)) pgs_nil)))))
      (pss_cons (ps_set (i := 8) scLaw.nd rfl (Or.inl rfl) (pe_call GFt (hr.mono (by decide)) (by rfl) gFt FFt.kp bFt .nil pass0 (pa_cons (pv 3) (pa_cons (pv 6) (pa_cons (pe_lst pa_nil) pa_nil)))))
      (pss_cons (ps_for PassesOwn.never rfl (pi_range1 (by rfl) m_range (pa_cons pe_int pa_nil)) (pg_name (i := 9) scLaw.nd rfl (Or.inl rfl))
      (pss_cons (ps_set (i := 10) scLaw.nd rfl (Or.inr rfl) (pe_op op_mul (pe_call GOf (hr.mono (by decide)) (by rfl) gOf FOf.kp bOf .nil pass0 (pa_cons (pv 1) (pa_cons (pe_lst (pa_cons (pe_un un_neg pe_int) (pa_cons pe_int pa_nil))) pa_nil))) (pe_call GDr (hr.mono (by decide)) (by rfl) gDr FDr.kp bDr .nil pass0 (pa_cons (pv 1) (pa_cons (pe_ix ix_list (pe_lst (pa_cons pe_int (pa_cons (pe_op op_pow pe_int pe_int) pa_nil))) (pe_call GDr (hr.mono (by decide)) (by rfl) gDr FDr.kp bDr .nil pass0 (pa_cons (pv 1) (pa_cons pe_int pa_nil))) (fun _ _ => rfl)) pa_nil)))))
      (pss_cons (ps_set (i := 11) scLaw.nd rfl (Or.inl rfl) (pe_call GOf (hr.mono (by decide)) (by rfl) gOf FOf.kp bOf .nil pass0 (pa_cons (pv 1) (pa_cons (pe_ix ix_tup (pv 2) pe_int (fun _ _ => rfl)) pa_nil))))
      (pss_cons (ps_expr (pe_bm PySem.F.plainAttrs_list PySem.F.slot_list_append PySem.F.type_list_append mt_append (pv 7) (pa_cons (pe_tup (pa_cons (pv 10) (pa_cons (pv 11) (pa_cons (pe_cmpR op_eq (pe_meth (pv 5) cl mWr GWr (hr.mono (by decide)) bWr .nil pass0 (pa_cons pe_str (pa_cons (pv 10) pa_nil))) (pv 11) (nomark _)) pa_nil)))) pa_nil)))
      (pss_cons (ps_set (i := 12) scLaw.nd rfl (Or.inl rfl) (pe_call GFt (hr.mono (by decide)) (by rfl) gFt FFt.kp bFt .nil pass0 (pa_cons (pv 3) (pa_cons (pv 6) (pa_cons (pv 7) pa_nil)))))
      (pss_cons (ps_if (PW.pt (pw_or (pt_not (pt_chain op_lt op_le pe_int (pv 12) (pv 8))) (pw_or1 (pt_cmpR op_notIn_seq (pe_ix ix_tup (pv 4) (pe_op op_mod (pv 10) (pv 6)) (fun _ _ => rfl)) (pe_call GCb (hr.mono (by decide)) (by rfl) gCb FCb.kp bCb .nil pass0 (pa_cons (pv 3) (pa_cons (pv 6) (pa_cons (pv 7) (pa_cons (pv 10) pa_nil))))) (by rfl))))) (pss_one (ps_ret pe_bl)) pss_nil)
      (pss_cons (ps_set (i := 8) scLaw.nd rfl (Or.inl rfl) (pv 12))
      (pss_cons (ps_set (i := 13) scLaw.nd rfl (Or.inl rfl) (pe_call GRr (hr.mono (by decide)) (by rfl) gRr FRr.kp bRr .nil pass0 (pa_cons (pv 3) (pa_cons (pv 6) (pa_cons (pv 7) pa_nil)))))
      (pss_one (ps_if (PW.pt (pw_or (pt_cmpR op_eq (pe_ix ix_tup (pv 13) pe_int (fun _ _ => rfl)) pe_str (nomark _)) (pw_or1 (PW.pt (pw_and (pt_cmpR op_eq (pe_ix ix_tup (pv 13) pe_int (fun _ _ => rfl)) pe_str (nomark _)) (pw_and1 (pt_cmpR (op_neD hu64) (pe_ix ix_tup (pv 13) pe_int (fun _ _ => rfl)) (pv 4) (nomark _)))))))) (pss_one (ps_ret pe_bl)) pss_nil))))))))))
      (pss_cons (ps_set (i := 10) scLaw.nd rfl (Or.inr rfl) (pe_call GDr (hr.mono (by decide)) (by rfl) gDr FDr.kp bDr .nil pass0 (pa_cons (pv 1) (pa_cons (pe_op op_pow pe_int pe_int) pa_nil))))
      (pss_cons (ps_setLc (i := 14) (own := [("_law_k", 16)]) (g := gName 16) (tt := tYes) (te := tTup (tCons (tOp (rI0 fun i j => .int (i + j)) (tVar 10) (tVar 16)) (tCons (tMeth CS "where" (spWhere C CS) [] E0 (tVar 5) (tCons (tC (.str "p")) (tCons (tOp (rI0 fun i j => .int (i + j)) (tVar 10) (tVar 16)) tNil))) (tCons (tC (.bl true)) tNil)))) rfl scLaw.nd rfl rfl (sw_true rfl rfl rfl (by decide +kernel)) (pi_range1 (by rfl) m_range (pa_cons (pv 6) pa_nil)) (blkOk_by (N := ["_law_script", "_law_box_here", "_law_house_here", "_law_made_here", "_law_walk", "_law_scene", "_law_size", "_law_seen", "_law_many", "_law_turn", "_law_beat", "_law_room", "_law_now", "_law_told", "_law_every", "_law_about", "_law_k", "_law_one", "_law_there"]) (sc := defScope sLaw) (by decide +kernel)) (fun _ _ _ _ _ => (pg_name (i := 16) scLaw.nd rfl (Or.inl rfl))) (fun _ _ _ _ _ => pts_nil) (fun _ _ _ _ _ => (pe_tup (pa_cons (pe_op op_add (pv 10) (pv 16)) (pa_cons (pe_meth (pv 5) cl mWr GWr (hr.mono (by decide)) bWr .nil pass0 (pa_cons pe_str (pa_cons (pe_op op_add (pv 10) (pv 16)) pa_nil))) (pa_cons pe_bl pa_nil))))))
      (pss_cons (ps_if (pt_not (pt_val (pe_call GLk (hr.mono (by decide)) (by rfl) gLk FLk.kp bLk .nil pass0 (pa_cons (pe_call GRr (hr.mono (by decide)) (by rfl) gRr FRr.kp bRr .nil pass0 (pa_cons (pv 3) (pa_cons (pv 6) (pa_cons (pe_op op_cat (pv 7) (pv 14)) pa_nil)))) (pa_cons (pe_tup (pa_cons pe_str (pa_cons (pv 4) pa_nil))) pa_nil))))) (pss_one (ps_ret pe_bl)) pss_nil)
      (pss_cons (ps_setLc (i := 15) (own := [("_law_one", 17), ("_law_room", 11), ("_law_there", 18)]) (g := gTup K 3 (gCons (gName 17) (gCons (gName 11) (gCons (gName 18) gNil)))) (tt := tYes) (te := tTup (tCons (tUn (rU fun i => .int (-i)) (tVar 17)) (tCons (tVar 11) (tCons (tVar 18) tNil)))) rfl scLaw.nd rfl rfl (sw_true rfl rfl rfl (by decide +kernel)) (pi_list (pe_op op_cat (pv 7) (pv 14))) (blkOk_by (N := ["_law_script", "_law_box_here", "_law_house_here", "_law_made_here", "_law_walk", "_law_scene", "_law_size", "_law_seen", "_law_many", "_law_turn", "_law_beat", "_law_room", "_law_now", "_law_told", "_law_every", "_law_about", "_law_k", "_law_one", "_law_there"]) (sc := defScope sLaw) (by decide +kernel)) (fun _ _ _ _ _ => (pg_tup rfl (pgs_cons (pg_name (i := 17) scLaw.nd rfl (Or.inl rfl)) (pgs_cons (pg_name (i := 11) scLaw.nd rfl (Or.inl rfl)) (pgs_cons (pg_name (i := 18) scLaw.nd rfl (Or.inl rfl)) pgs_nil))))) (fun _ _ _ _ _ => pts_nil) (fun _ _ _ _ _ => (pe_tup (pa_cons (pe_un un_neg (pv 17)) (pa_cons (pv 11) (pa_cons (pv 18) pa_nil))))))
      (pss_one (ps_ret (pe_call GLk (hr.mono (by decide)) (by rfl) gLk FLk.kp bLk .nil pass0 (pa_cons (pe_call GRr (hr.mono (by decide)) (by rfl) gRr FRr.kp bRr .nil pass0 (pa_cons (pv 3) (pa_cons (pv 6) (pa_cons (pv 15) pa_nil)))) (pa_cons (pe_tup (pa_cons pe_str (pa_cons (pe_call GTu (hr.mono (by decide)) (by rfl) gTu FTu.kp bTu .nil pass0 (pa_cons (pv 4) pa_nil)) pa_nil))) pa_nil)))))))))))))), ?_⟩
    refine ⟨_, rfl, a, ns, rfl, hS, fun G1 b l s1 nb nl hB1 => ?_⟩
    refine ⟨_, rfl, b, l, 6, rfl, hB1, by decide, by decide, fun G2 t zs ds ss v2 hB2 nt hL2 hg zl => ?_⟩
    have z8 := hg.eight
    have z1 : 1 ≤ zs.length := hg.one
    have zn := hg.names.1
    refine ⟨_, rfl, t, zs, ds, ss, rfl, hL2.of, hg.fit, fun G3 h s3 nh hHn => ?_⟩
    have hA : HouseAt C G3 h zs (lnk zs (both ds)) (lnk zs ss) := hHn.same (new_same _ _)
    have hB3 := hB2.same s3
    have hL3 := hL2.same s3
    have sy := sym_lnk zs ds
    refine ⟨_, rfl, _, rfl, b, l, t, 6, zs, ds, ss, rfl, hB3, hL3, hg, by decide, by decide, fun G4 wp rs v4 hB4 nwp hwp hR hr6 => ?_⟩
    refine ⟨_, _, rfl, ?_⟩
    have hA4 := hA.sav hB3 v4
    have hL4 := hL3.sav hB3 v4
    have w1 := hR.one
    have w6 := hR.six
    -- the scene
    refine ⟨_, rfl, _, rfl, by show 3 ≤ sizeLine; decide, fun tp ntp => ?_⟩
    have s5 := same_new (o := .tup [V.str "p", V.ref wp, V.int 0]) ntp
    have htp : (upd G4 tp (.tup [V.str "p", V.ref wp, V.int 0])) tp = some (.tup [V.str "p", V.ref wp, V.int ((0 : Nat) : Int)]) := upd_same
    generalize upd G4 tp (.tup [V.str "p", V.ref wp, V.int 0]) = G5 at s5 htp ⊢
    refine ⟨by show 1 ≤ sizeLine; decide, fun p1 np1 => ?_⟩
    have s6 := same_new (o := .lst [V.ref tp]) np1
    have hp1 : (upd G5 p1 (.lst [V.ref tp])) p1 = some (.lst [V.ref tp]) := upd_same
    generalize upd G5 p1 (.lst [V.ref tp]) = G6 at s6 hp1 ⊢
    refine ⟨by show 2 ≤ sizeLine; decide, fun tw ntw => ?_⟩
    have s7 := same_new (o := .tup [V.str "w", V.int 0]) ntw
    have htw : (upd G6 tw (.tup [V.str "w", V.int 0])) tw = some (.tup [V.str "w", V.int ((0 : Nat) : Int)]) := upd_same
    generalize upd G6 tw (.tup [V.str "w", V.int 0]) = G7 at s7 htw ⊢
    refine ⟨by show 1 ≤ sizeLine; decide, fun p2 np2 => ?_⟩
    have s8 := same_new (o := .lst [V.ref tw]) np2
    have hp2 : (upd G7 p2 (.lst [V.ref tw])) p2 = some (.lst [V.ref tw]) := upd_same
    generalize upd G7 p2 (.lst [V.ref tw]) = G8 at s8 hp2 ⊢
    intro sc dx nsc ndx ndd
    have s48 := s5.trans (s6.trans (s7.trans s8))
    have htp8 := (s6.trans (s7.trans s8)) _ _ htp
    have hwp8 := s48 _ _ hwp
    have okS : ScOk zs ds ss [("p", rs, 0)] [("w", 0)] 0 := ⟨hg.names, hg.eight, hg.dg, hg.sg, ⟨by show 1 ≤ 5; decide, ⟨by simp, fun z hz => by rw [List.mem_singleton.mp hz]; show isNm "p" = true; decide +kernel⟩, fun p hp => by rw [List.mem_singleton.mp hp]; exact hR, fun p hp => by rw [List.mem_singleton.mp hp]; show 0 < rs.length; omega⟩, ⟨by show 1 ≤ 6; decide, ⟨by simp, fun z hz => by rw [List.mem_singleton.mp hz]; show isNm "w" = true; decide +kernel⟩, fun p hp => by rw [List.mem_singleton.mp hp]; exact Nat.zero_le _⟩, by show 1 ≤ 1; decide, by decide⟩
    refine ⟨_, sc, dx, h, p1, p2, zs, ds, ss, [V.ref tp], [V.ref tw], [("p", rs, 0)], [("w", 0)], false, 0, rfl, (same_new ndx).trans (same_new (by rw [upd_ne ndd.symm]; exact nsc)), nsc, upd_same, hA4.same s48, (s7.trans s8) _ _ hp1, AL.snoc (xs := []) (ps := []) AL.nil ⟨tp, wp, rfl, htp8, hwp8⟩, hp2, AL.snoc (xs := []) (ps := []) AL.nil ⟨tw, rfl, s8 _ _ htw⟩, okS, fun G9 W s9 hSc => ⟨rfl, ?_⟩⟩
    have s49 := s48.trans s9
    have hB9 := hB4.same s49
    have hA9 := hA4.same s49
    have hL9 := hL4.same s49
    have hwp9 := s49 _ _ hwp
    refine ⟨_, rfl, wp, _, rfl, .inr (SqT.of hwp9), ?_⟩
    rw [List.length_map]
    refine ⟨by show 0 ≤ sizeLine; decide, fun sq nsq => ?_⟩
    have sqb := hB9.b1 nsq
    have sql := hB9.l1 nsq
    refine ⟨by show 3 ≤ sizeLine; decide, fun tq ntq => ?_⟩
    refine ⟨tq, _, rfl, SqT.of upd_same, rfl, _, _, rfl, _, _, rfl, _, _, rfl, rfl, ?_⟩
    have s10 := same_new (o := .lst []) nsq
    have hsq : (upd G9 sq (.lst [])) sq = some (.lst []) := upd_same
    generalize upd G9 sq (.lst []) = G10 at s10 hsq ntq ⊢
    have s11 := same_new (o := .tup [V.ref sc, V.int ((rs.length : Nat) : Int), V.ref sq]) ntq
    have hsq := s11 _ _ hsq
    generalize upd G10 tq (.tup [V.ref sc, V.int ((rs.length : Nat) : Int), V.ref sq]) = G11 at s11 hsq ⊢
    have s911 := s10.trans s11
    clear s5 s6 s7 s8 s9 s48 s49 s10 s11 htp htp8 htw hp1 hp2 hwp8 hA hA4 hL2 hL3 hL4 hB1 hB2 hB3 hB4 hwp okS ntq nsc ndx ndd np1 np2 ntp ntw nwp nh nt v2 v4 s1 s3 hHn
    -- how many fit
    refine ⟨_, rfl, _, rfl, by show 0 ≤ sizeLine; decide, fun e0 ne0 => ?_⟩
    have s12 := same_new (o := .lst []) ne0
    have he0 : (upd G11 e0 (.lst [])) e0 = some (.lst []) := upd_same
    generalize upd G11 e0 (.lst []) = G12 at s12 he0 ⊢
    have s912 := s911.trans s12
    have hsq := s12 _ _ hsq
    refine ⟨h, e0, zs, _, _, rs.length, [], [], rfl, Hs.of (hA9.same s912), zn, z8, w1, w6, .inl (SqL.of he0), AL.nil, SgOk.nil, fun G13 s13 => ?_⟩
    have s913 := s912.trans s13
    have hsq := s13 _ _ hsq
    obtain ⟨lr, ld, lz, lx, lu, n1, n2, n3, r1, r2, _⟩ := id hL9
    have spS : ∀ G, SceneAt C CS G sc zs ds ss [("p", rs, 0)] [("w", 0)] false 0 W → ∃ dx2 fs, G sc = some (.ins CS dx2 fs) ∧ (∀ {f : Str}, f ∉ (["home", "post_rows", "watcher_rows", "has_meet", "relief_beats", "span_beats", "orders", "hands", "lights", "moves"] : List Str) → fs.lookup f = none) := fun G g => by
      obtain ⟨_, dx2, h2, p2, w2, o2, hd2, lg2, mv2, xs2, ys2, os2, ls2, ms2, sa2⟩ := g
      exact ⟨dx2, _, sa2.obj, fun h => sf_no h⟩
    refine ⟨8, rfl, by decide, by decide, for_range (n := 8) (fun i σ G => ∃ y9 y10 y11 y12 y13 xs sg, σ = [some (.ref a), some (.ref b), some (.ref t), some (.ref h), some (.ref wp), some (.ref sc), some (.int ((rs.length : Nat) : Int)), some (.ref sq), some (.int (fitN zs (lnk zs (both ds)) (leftN zs rs.length sg))), y9, y10, y11, y12, y13, none, none, none, none, none] ∧ Sav b G9 G ∧ Box G b l ∧ G sq = some (.lst xs) ∧ SgL G xs sg ∧ SgOk zs sg ∧ sg.length = i ∧ ∀ s ∈ sg, agr (plcS rs s.1) s = true) ⟨_, _, _, _, _, [], [], rfl, Sav.of s913, hB9.same s913, hsq, AL.nil, SgOk.nil, rfl, fun s hs => by cases hs⟩ ?_ ?_⟩
    · rintro turn σ H3 hturn ⟨y9, y10, y11, y12, y13, xs, sg, rfl, w3, hB3, hsq3, hX3, ok3, sl3, tr3⟩
      refine ⟨_, rfl, 1, rfl, by show 2 ≤ sizeLine; decide, fun c nc => ?_⟩
      have s9 := same_new (o := .lst [V.int (-1), V.int 1]) nc
      refine ⟨b, l, .ref c, rfl, hB3.same s9, .inl ⟨c, _, rfl, hB3.b1 nc, upd_same, by show 0 < 2; decide, by show 2 ≤ 1000; decide, fun x H4 hx v4 hB4 => ?_⟩⟩
      obtain ⟨sx, rfl, hsx⟩ := sign_of hx
      refine ⟨_, rfl, _, _, rfl, rfl, ⟨by decide, by decide, by decide⟩, by show 2 ≤ sizeLine; decide, fun c2 nc2 => ?_⟩
      have s10 := same_new (o := .lst [V.int 30, V.int ((10 : Int) ^ (9 : Int).toNat)]) nc2
      have hc2 : (upd H4 c2 (.lst [V.int 30, V.int ((10 : Int) ^ (9 : Int).toNat)])) c2 = some (.lst [V.int 30, V.int 1000000000]) := by
        rw [upd_same, show (10 : Int) ^ (9 : Int).toNat = 1000000000 by decide]
      have hB4' := hB4.same s10
      have nc2b := hB4.b1 nc2
      generalize upd H4 c2 (.lst [V.int 30, V.int ((10 : Int) ^ (9 : Int).toNat)]) = H5 at s10 hc2 hB4' ⊢
      refine ⟨_, rfl, b, l, 2, rfl, hB4', by decide, by decide, fun pk H6 pk0 pk1 v6 hB6 => ?_⟩
      obtain ⟨mv, emv, hmv⟩ : ∃ mv : Int, atI [V.int 30, V.int 1000000000] pk = some (.int mv) ∧ 0 < mv ∧ mv ≤ 1000000000 := by
        obtain ⟨v, e, h⟩ := two_at (x := V.int 30) (y := V.int 1000000000) pk0 pk1
        rcases h with rfl | rfl
        · exact ⟨30, e, by decide, by decide⟩
        · exact ⟨1000000000, e, by decide, by decide⟩
      have v36 := (((Sav.of s9).trans v4).trans (Sav.of s10)).trans v6
      refine ⟨c2, _, _, _, rfl, rfl, SqL.of (v6 _ _ nc2b hc2), emv, b, l, mv, rfl, hB6, hmv.1, Nat.lt_of_le_of_lt (show mv.natAbs ≤ 1000000000 by omega) (by decide), fun rr H7 rr0 rr1 v7 hB7 => ?_⟩
      have v37 := v36.trans v7
      have hbt := beat_ok hsx rr0 (by omega)
      refine ⟨_, _, rfl, rfl, .inl ⟨by omega, by omega⟩, ?_⟩
      show gName 10 (V.int (sx * rr)) _ _ _
      generalize sx * rr = bt at hbt ⊢
      have w7 := w3.trans v37
      have hsq7 := v37 _ _ sqb hsq3
      have hX7 := SgL.keep hX3 (v37.keepT hB3)
      have r17 := w7.keepT hB9 _ _ r1
      have r27 := w7 _ _ n1 r2
      clear v36 v37
      -- the room
      refine ⟨_, rfl, _, rfl, t, _, 0, _, rfl, rfl, SqT.of r17, atI_nat (j := 0) rfl, b, l, .ref lr, rfl, hB7, .inl ⟨lr, _, rfl, n1, r27, by rw [List.length_map]; omega, by rw [List.length_map]; omega, fun x H8 hx v8 hB8 => ?_⟩⟩
      obtain ⟨rm, hrm, rfl⟩ := str_of hx
      have w8 := w7.trans v8
      have hsq8 := v8 _ _ sqb hsq7
      have hX8 := SgL.keep hX7 (v8.keepT hB7)
      have hS8 := hSc.sav hB9 w8
      obtain ⟨dx2, fs2, o2, no2⟩ := spS _ hS8
      -- it is seen
      refine ⟨_, rfl, .inl ⟨rfl, _, SqL.of hsq8⟩, _, rfl, _, rfl, _, rfl, sc, dx2, _, rfl, o2, no2 (by decide +kernel), _, rfl, sc, zs, ds, ss, [("p", rs, 0)], [("w", 0)], false, 0, W, 0, ("p", rs, 0), bt, rfl, hS8, rfl, hbt, fun H9 s9 => ?_⟩
      refine ⟨_, rfl, rfl, ?_⟩
      have eb : decide (V.str (plcS rs (bt - ((0 : Nat) : Int))) = V.str rm) = decide (plcS rs bt = rm) := by
        rw [str_dec, show bt - ((0 : Nat) : Int) = bt by omega]
      refine ⟨by show 3 ≤ sizeLine; decide, fun T nT => ?_⟩
      have s10 := same_new (o := .tup [V.int bt, V.str rm, V.bl (decide (V.str (plcS rs (bt - ((0 : Nat) : Int))) = V.str rm))]) nT
      have hT : (upd H9 T (.tup [V.int bt, V.str rm, V.bl (decide (V.str (plcS rs (bt - ((0 : Nat) : Int))) = V.str rm))])) T = some (.tup [V.int bt, V.str rm, V.bl (decide (plcS rs bt = rm))]) := by rw [upd_same, eb]
      have hsq10 := (s9.trans s10) _ _ hsq8
      have hX10 := SgL.same hX8 (s9.trans s10)
      have hB10 := hB8.same (s9.trans s10)
      have w10 := w8.trans (Sav.of (s9.trans s10))
      generalize upd H9 T (.tup [V.int bt, V.str rm, V.bl (decide (V.str (plcS rs (bt - ((0 : Nat) : Int))) = V.str rm))]) = H10 at s10 hT hsq10 hX10 hB10 w10 ⊢
      have xl3 := hX10.1
      refine ⟨sq, _, _, rfl, rfl, hsq10, small1000 (by omega), ?_⟩
      have kt := KeepT.lst (o := .lst (xs ++ [V.ref T])) hsq10
      have hX11 : SgL (upd H10 sq (.lst (xs ++ [V.ref T]))) (xs ++ [V.ref T]) (sg ++ [(bt, rm, decide (plcS rs bt = rm))]) := AL.snoc (SgL.keep hX10 kt) ⟨T, rfl, kt _ _ hT⟩
      have hsq11 : (upd H10 sq (.lst (xs ++ [V.ref T]))) sq = some (.lst (xs ++ [V.ref T])) := upd_same
      have w11 := w10.put (o := .lst (xs ++ [V.ref T])) nsq
      have hB11 := hB10.put (o := .lst (xs ++ [V.ref T])) sqb sql
      generalize upd H10 sq (.lst (xs ++ [V.ref T])) = H11 at hX11 hsq11 w11 hB11 ⊢
      generalize xs ++ [V.ref T] = xs' at hX11 hsq11 ⊢
      have ok11 := ok3.snoc (x := (bt, rm, decide (plcS rs bt = rm))) (by omega) hbt hrm
      have tr11 : ∀ s ∈ sg ++ [(bt, rm, decide (plcS rs bt = rm))], agr (plcS rs s.1) s = true := fun s hs => by
        rcases List.mem_append.mp hs with q | q
        · exact tr3 s q
        · rw [List.mem_singleton.mp q]
          exact decide_eq_true rfl
      have sub11 := left_sub (zs := zs) (n := rs.length) (sg := sg) (bt, rm, decide (plcS rs bt = rm))
      have sl11 : (sg ++ [(bt, rm, decide (plcS rs bt = rm))]).length = turn + 1 := by rw [List.length_append, sl3]; rfl
      generalize sg ++ [(bt, rm, decide (plcS rs bt = rm))] = sg' at hX11 ok11 tr11 sub11 sl11 ⊢
      clear s10 hT hsq10 hX10 hB10 w10 s9 hsq8 hX8 hS8 hB8 w8 v8 hsq7 hX7 r17 r27 w7 hX3 hsq3 ok3 tr3 xl3 o2 no2
      have Rw := rd_walk hR tr11
      have L11 := leftN_ok (zs := zs) (sg := sg') w1 w6 z8
      have ll11 := leftN_len zs rs.length sg'
      have hA11 := hA9.sav hB9 w11
      -- it fits
      refine ⟨_, rfl, _, rfl, _, rfl, h, sq, zs, _, _, rs.length, xs', sg', rfl, Hs.of hA11, zn, z8, w1, w6, .inl (SqL.of hsq11), hX11, ok11, fun H12 s12 => ?_⟩
      have f1 := Rw.fit L11
      have f2 := fit_sub (bh := lnk zs (both ds)) sub11 zs
      refine ⟨_, rfl, _, _, rfl, rfl, _, rfl, ?_⟩
      rw [decide_eq_true f1]
      refine iteT ⟨_, rfl, _, _, rfl, rfl, _, rfl, ?_⟩
      rw [decide_eq_true f2]
      refine iteF ?_
      obtain ⟨ri, er⟩ := rest_lt (show 0 < rs.length by omega) bt
      have hwp12 := s12 _ _ (w11.keepT hB9 _ _ hwp9)
      have hsq12 := s12 _ _ hsq11
      have hX12 := SgL.same hX11 s12
      refine ⟨_, rfl, _, rfl, _, rfl, _, _, rfl, rfl, by omega, wp, _, _, _, rfl, rfl, SqT.of hwp12, at_str (at0_some ri) er.symm, ?_⟩
      refine ⟨_, rfl, _, rfl, _, rfl, _, rfl, h, sq, zs, _, _, rs.length, xs', sg', bt, rfl, Hs.of (hA11.same s12), sy, z8, w1, w6, .inl (SqL.of hsq12), hX12, ok11, hbt, fun H13 q s13 nq hq => ?_⟩
      have cw := can_walk L11 sy Rw (i := rest bt rs.length) (by omega)
      refine ⟨q, _, rfl, .inl (SqL.of hq), rfl, flat_all _, _, rfl, ?_⟩
      rw [in_strs, decide_eq_true cw]
      refine iteF ?_
      refine ⟨_, rfl, ?_⟩
      have s1113 := s12.trans s13
      have hsq13 := s13 _ _ hsq12
      have hX13 := SgL.same hX12 s13
      have hwp13 := s13 _ _ hwp12
      have fin : ∀ (G : Hp) (tp : Addr), Same H13 G → (∃ y9 y10 y11 y12 y13 xs sg, ([some (.ref a), some (.ref b), some (.ref t), some (.ref h), some (.ref wp), some (.ref sc), some (.int ((rs.length : Nat) : Int)), some (.ref sq), some (.int (fitN zs (lnk zs (both ds)) (leftN zs rs.length sg'))), some (.int (0 + (turn : Int))), some (.int bt), some (.str rm), some (.int (fitN zs (lnk zs (both ds)) (leftN zs rs.length sg'))), some (.ref tp), none, none, none, none, none] : L2.St) = [some (.ref a), some (.ref b), some (.ref t), some (.ref h), some (.ref wp), some (.ref sc), some (.int ((rs.length : Nat) : Int)), some (.ref sq), some (.int (fitN zs (lnk zs (both ds)) (leftN zs rs.length sg))), y9, y10, y11, y12, y13, none, none, none, none, none] ∧ Sav b G9 G ∧ Box G b l ∧ G sq = some (.lst xs) ∧ SgL G xs sg ∧ SgOk zs sg ∧ sg.length = turn + 1 ∧ ∀ s ∈ sg, agr (plcS rs s.1) s = true) := fun G tp g =>
        ⟨_, _, _, _, _, xs', sg', rfl, w11.trans (Sav.of (s1113.trans g)), hB11.same (s1113.trans g), g _ _ hsq13, SgL.same hX13 g, ok11, sl11, tr11⟩
      -- what is read
      refine ⟨_, rfl, _, rfl, _, rfl, h, sq, zs, _, _, rs.length, xs', sg', rfl, Hs.of (hA11.same s1113), sy, z8, w1, w6, .inl (SqL.of hsq13), hX13, ok11, fun e => ?_, fun r e => ⟨fun no H14 tp rp s14 ntp htp hrp => ?_, fun i r2 hi e2 _ H14 tp rp rq s14 ntp htp hrp hrq => ?_⟩⟩
      · have := Rw.some L11 sy
        rw [e] at this
        cases this
      · obtain rfl := one_eq L11 sy Rw e (by rw [ll11]; exact no)
        refine ⟨_, rfl, tp, _, 0, _, rfl, rfl, SqT.of htp, atI_nat (j := 0) rfl, rfl, _, rfl, ?_⟩
        rw [show decide (V.str "one" = V.str "none") = false by decide +kernel]
        refine iteF ⟨_, rfl, tp, _, 0, _, rfl, rfl, SqT.of htp, atI_nat (j := 0) rfl, rfl, _, rfl, ?_⟩
        rw [show decide (V.str "one" = V.str "one") = true by decide +kernel]
        refine iteT ⟨_, rfl, tp, _, 1, _, rfl, rfl, SqT.of htp, atI_nat (j := 1) rfl, _, rfl, strsT_ne (fun z hz => nm_ok (hg.names.2 z (hR.mem z hz))) hrp (s14 _ _ hwp13) ⟨_, rfl, iteF ?_⟩⟩
        exact fin H14 tp s14
      · refine ⟨_, rfl, tp, _, 0, _, rfl, rfl, SqT.of htp, atI_nat (j := 0) rfl, rfl, _, rfl, ?_⟩
        rw [show decide (V.str "many" = V.str "none") = false by decide +kernel]
        refine iteF ⟨_, rfl, tp, _, 0, _, rfl, rfl, SqT.of htp, atI_nat (j := 0) rfl, rfl, _, rfl, ?_⟩
        rw [show decide (V.str "many" = V.str "one") = false by decide +kernel]
        refine iteF ?_
        exact fin H14 tp s14
    · rintro σ H3 ⟨y9, y10, y11, y12, y13, xs, sg, rfl, w3, hB3, hsq3, hX3, ok3, sl3, tr3⟩
      refine ⟨_, rfl, _, _, rfl, rfl, ⟨by decide, by decide, by decide⟩, b, l, (10 : Int) ^ (8 : Int).toNat, rfl, hB3, by decide, by decide, fun bt H4 b0 b1 v4 hB4 => ?_⟩
      have b1 : bt < 100000000 := by
        rw [show (10 : Int) ^ (8 : Int).toNat = 100000000 by decide] at b1
        exact b1
      have w4 := w3.trans v4
      have hsq4 := v4 _ _ sqb hsq3
      have hX4 := SgL.keep hX3 (v4.keepT hB3)
      have hS4 := hSc.sav hB9 w4
      clear v4 w3 hB3 hsq3 hX3
      have bk : ∀ j : Nat, j < rs.length → beatOk (bt + ((j : Nat) : Int)) := fun j hj => ⟨by omega, by omega⟩
      -- every beat of the round
      refine ⟨_, rfl, _, rfl, by omega, by omega, fun D nD => ?_⟩
      rw [show (((rs.length : Nat) : Int)).toNat = rs.length by omega]
      refine it_any (walk_range (lo := 0) (n := rs.length)) (fun j G => Same H4 G ∧ ∃ ys, G D = some (.lst ys) ∧ SgL G ys (evS rs bt j)) ⟨same_new nD, [], upd_same, AL.nil⟩ (fun _ _ _ _ => trivial) ?_ ?_
      · rintro j x G1 G2 hj ⟨g1, ys, hD, hY⟩ ⟨rfl, rfl⟩
        have hSg := hS4.same g1
        obtain ⟨dx2, fs2, o2, no2⟩ := spS _ hSg
        show gName 16 (V.int (0 + ((j : Nat) : Int))) _ _ _
        rw [show (0 : Int) + ((j : Nat) : Int) = ((j : Nat) : Int) by omega]
        refine ⟨rfl, _, rfl, _, rfl, _, _, rfl, rfl, _, rfl, sc, dx2, _, rfl, o2, no2 (by decide +kernel), _, rfl, _, rfl, _, _, rfl, rfl, sc, zs, ds, ss, [("p", rs, 0)], [("w", 0)], false, 0, W, 0, ("p", rs, 0), bt + ((j : Nat) : Int), rfl, hSg, rfl, bk j hj, fun G3 g3 => ?_⟩
        refine ⟨by show 3 ≤ sizeLine; decide, fun T nT => ?_⟩
        have s10 := same_new (o := .tup [V.int (bt + ((j : Nat) : Int)), V.str (plcS rs (bt + ((j : Nat) : Int) - ((0 : Nat) : Int))), V.bl true]) nT
        have hT : (upd G3 T (.tup [V.int (bt + ((j : Nat) : Int)), V.str (plcS rs (bt + ((j : Nat) : Int) - ((0 : Nat) : Int))), V.bl true])) T = some (.tup [V.int (bt + ((j : Nat) : Int)), V.str (plcS rs (bt + ((j : Nat) : Int))), V.bl true]) := by
          rw [upd_same, show bt + ((j : Nat) : Int) - ((0 : Nat) : Int) = bt + ((j : Nat) : Int) by omega]
        generalize upd G3 T (.tup [V.int (bt + ((j : Nat) : Int)), V.str (plcS rs (bt + ((j : Nat) : Int) - ((0 : Nat) : Int))), V.bl true]) = G4 at s10 hT ⊢
        have g24 := g3.trans s10
        have hD4 := g24 _ _ hD
        have yl : ys.length ≤ 6 := by rw [hY.1, evS_len]; omega
        have kt := KeepT.lst (o := .lst (ys ++ [V.ref T])) hD4
        refine ⟨_, hD4, small1000 (by omega), same_put (g1.trans g24) nD, ys ++ [V.ref T], upd_same, ?_⟩
        rw [evS_succ]
        exact AL.snoc (SgL.keep (SgL.same hY g24) kt) ⟨T, rfl, kt _ _ hT⟩
      rintro H5 ⟨s5, ys, hD, hY⟩
      have hsq5 := s5 _ _ hsq4
      have hX5 := SgL.same hX4 s5
      have w5 := w4.trans (Sav.of s5)
      have el := evS_len rs bt rs.length
      have okE : SgOk zs (sg ++ evS rs bt rs.length) := ⟨fun s hs => (List.mem_append.mp hs).elim (ok3.bt s) fun q => by
          obtain ⟨j, hj, rfl⟩ := List.mem_map.mp q
          exact bk j (List.mem_range.mp hj), fun s hs => (List.mem_append.mp hs).elim (ok3.rm s) fun q => by
          obtain ⟨j, hj, rfl⟩ := List.mem_map.mp q
          exact hR.mem _ (plcS_mem w1 _), by rw [List.length_append]; omega⟩
      have trE : ∀ s ∈ sg ++ evS rs bt rs.length, agr (plcS rs s.1) s = true := fun s hs => (List.mem_append.mp hs).elim (tr3 s) (evS_true rs bt rs.length s)
      have xl5 := hX5.1
      have yl5 := hY.1
      have RE := rd_walk hR trE
      have LE := leftN_ok (zs := zs) (sg := sg ++ evS rs bt rs.length) w1 w6 z8
      have llE := leftN_len zs rs.length (sg ++ evS rs bt rs.length)
      obtain ⟨pe1, pe2⟩ := pin_eq LE sy RE (pin_left hR (pins_ev hR bt))
      rw [llE] at pe2
      have hwp5 := w5.keepT hB9 _ _ hwp9
      have hA5 := hA9.sav hB9 w5
      -- what is read of all
      refine ⟨_, rfl, _, rfl, _, rfl, _, rfl, sq, D, _, _, rfl, rfl, hsq5, hD, Nat.le_of_lt (small1000 (by omega)), fun ap nap => ?_⟩
      have s6 := same_new (o := .lst (xs ++ ys)) nap
      have hap : (upd H5 ap (.lst (xs ++ ys))) ap = some (.lst (xs ++ ys)) := upd_same
      generalize upd H5 ap (.lst (xs ++ ys)) = H6 at s6 hap ⊢
      have hXE : SgL H6 (xs ++ ys) (sg ++ evS rs bt rs.length) := AL.app (SgL.same hX5 s6) (SgL.same hY s6)
      refine ⟨h, ap, zs, _, _, rs.length, xs ++ ys, sg ++ evS rs bt rs.length, rfl, Hs.of (hA5.same s6), sy, z8, w1, w6, .inl (SqL.of hap), hXE, okE, fun e => ?_, fun r e => ⟨fun no H7 tp rp s7 ntp htp hrp => ?_, fun i r2 hi e2 _ H7 tp rp rq s7 ntp htp hrp hrq => ?_⟩⟩
      · rw [pe1] at e
        cases e
      · obtain rfl : rs = r := Option.some.inj (pe1.symm.trans e)
        refine ⟨_, rfl, by show 2 ≤ sizeLine; decide, fun tl ntl => ?_⟩
        have s8 := same_new (o := .tup [V.str "one", V.ref wp]) ntl
        have htl : (upd H7 tl (.tup [V.str "one", V.ref wp])) tl = some (.tup [V.str "one", V.ref wp]) := upd_same
        generalize upd H7 tl (.tup [V.str "one", V.ref wp]) = H8 at s8 htl ⊢
        have s58 := s6.trans (s7.trans s8)
        refine ⟨_, _, rfl, Lk.one (s8 _ _ htp) htl (s8 _ _ hrp) (s58 _ _ hwp5) (by omega), fun H9 s9 => ⟨true, rfl, iteF ?_⟩⟩
        have s59 := s58.trans s9
        have hsq9 := s59 _ _ hsq5
        have hD9 := s59 _ _ hD
        -- turned about
        refine ⟨_, rfl, _, rfl, sq, D, _, _, rfl, rfl, hsq9, hD9, Nat.le_of_lt (small1000 (by omega)), fun bp nbp => ?_⟩
        have s10 := same_new (o := .lst (xs ++ ys)) nbp
        have hbp : (upd H9 bp (.lst (xs ++ ys))) bp = some (.lst (xs ++ ys)) := upd_same
        generalize upd H9 bp (.lst (xs ++ ys)) = H10 at s10 hbp ⊢
        have hX10 : SgL H10 (xs ++ ys) (sg ++ evS rs bt rs.length) := AL.app (SgL.same hX5 (s59.trans s10)) (SgL.same hY (s59.trans s10))
        have al : (sg ++ evS rs bt rs.length).length ≤ 20 := by rw [List.length_append]; omega
        refine ⟨bp, rfl, ⟨_, SqL.of hbp⟩, fun E nE => ?_⟩
        refine it_any (walk_list (K := K) (a := bp) (xs := xs ++ ys)) (fun j G => Same H10 G ∧ ∃ us, G E = some (.lst us) ∧ SgL G us (negS ((sg ++ evS rs bt rs.length).take j))) ⟨same_new nE, [], upd_same, AL.nil⟩ (fun j G _ z => SqL.of (z.1 _ _ hbp)) ?_ ?_
        · rintro j x G1 G2 hj ⟨g1, us, hE, hU⟩ ⟨rfl, hx⟩
          obtain ⟨⟨c, rm, th⟩, es, q, rfl, hq⟩ := (SgL.same hX10 g1).at hx
          refine ⟨q, _, rfl, SqT.of hq, rfl, _, _, rfl, _, _, rfl, _, _, rfl, rfl, rfl, ?_⟩
          refine ⟨_, rfl, _, rfl, _, rfl, _, rfl, by show 3 ≤ sizeLine; decide, fun T nT => ?_⟩
          have s11 := same_new (o := .tup [V.int (-c), V.str rm, V.bl th]) nT
          have hT : (upd G2 T (.tup [V.int (-c), V.str rm, V.bl th])) T = some (.tup [V.int (-c), V.str rm, V.bl th]) := upd_same
          generalize upd G2 T (.tup [V.int (-c), V.str rm, V.bl th]) = G3 at s11 hT ⊢
          have hE3 := s11 _ _ hE
          have kt := KeepT.lst (o := .lst (us ++ [V.ref T])) hE3
          have ul : us.length ≤ 20 := by
            rw [hU.1]
            unfold negS
            rw [List.length_map, List.length_take]
            omega
          refine ⟨_, hE3, small1000 (by omega), same_put (g1.trans s11) nE, us ++ [V.ref T], upd_same, ?_⟩
          rw [take_snoc' es]
          unfold negS
          rw [List.map_append]
          exact AL.snoc (SgL.keep (SgL.same hU s11) kt) ⟨T, rfl, kt _ _ hT⟩
        rintro H11 ⟨s11, us, hE, hU⟩
        rw [show (xs ++ ys).length = (sg ++ evS rs bt rs.length).length from hX10.1, List.take_length] at hU
        have s511 := s59.trans (s10.trans s11)
        have hwp11 := s511 _ _ hwp5
        have tl := trnS_len rs
        have RT := rnd_trn hR
        have trT := neg_true w1 trE
        have RN := rd_walk RT trT
        have pT := pin_left RT (pins_neg (sg := sg) hR bt)
        rw [tl] at RN pT
        have LT := leftN_ok (zs := zs) (sg := negS (sg ++ evS rs bt rs.length)) w1 w6 z8
        have llT := leftN_len zs rs.length (negS (sg ++ evS rs bt rs.length))
        obtain ⟨pt1, pt2⟩ := pin_eq LT sy RN pT
        rw [llT] at pt2
        have okT : SgOk zs (negS (sg ++ evS rs bt rs.length)) := ⟨fun s hs => by
            obtain ⟨q, hq, rfl⟩ := List.mem_map.mp hs
            obtain ⟨b1, b2⟩ := okE.bt q hq
            exact ⟨by show _ ≤ -q.1; omega, by show -q.1 ≤ _; omega⟩, fun s hs => by
            obtain ⟨q, hq, rfl⟩ := List.mem_map.mp hs
            exact okE.rm q hq, by
            unfold negS
            rw [List.length_map]
            omega⟩
        refine ⟨_, rfl, _, rfl, _, rfl, h, E, zs, _, _, rs.length, us, _, rfl, Hs.of (hA5.same s511), sy, z8, w1, w6, .inl (SqL.of hE), hU, okT, fun e => ?_, fun r e => ⟨fun no H12 tp rp s12 ntp htp hrp => ?_, fun i r2 hi e2 _ H12 tp rp rq s12 ntp htp hrp hrq => ?_⟩⟩
        · rw [pt1] at e
          cases e
        · obtain rfl : trnS rs = r := Option.some.inj (pt1.symm.trans e)
          refine ⟨_, rfl, wp, _, rfl, .inr (SqT.of (s12 _ _ hwp11)), by rw [List.length_map]; omega, by rw [List.length_map]; omega, fun H13 T1 s13 nT1 hT1 => ?_⟩
          rw [trn_strs w1] at hT1
          refine ⟨by show 2 ≤ sizeLine; decide, fun tl2 ntl2 => ?_⟩
          have s14 := same_new (o := .tup [V.str "one", V.ref T1]) ntl2
          exact ⟨_, _, rfl, Lk.one ((s13.trans s14) _ _ htp) upd_same ((s13.trans s14) _ _ hrp) (s14 _ _ hT1) (by omega), fun H15 _ => k H15⟩
        · obtain rfl : trnS rs = r := Option.some.inj (pt1.symm.trans e)
          rw [pt2 i hi] at e2
          cases e2
      · obtain rfl : rs = r := Option.some.inj (pe1.symm.trans e)
        rw [pe2 i hi] at e2
        cases e2
end
end Dk
namespace Dk
open PySem L2
section
variable {P : Program} {w : World} {K : PySem.W.Frag} {mg : Str → Option Value} {base : Heap}
theorem scLawNear : FnScope ["_law_house_here", "_law_room", "_law_other"] ["_law_house_here", "_law_room"] (defScope sLawNear) := ⟨rfl, rfl, rfl, by decide +kernel, rfl, by decide +kernel, by decide +kernel⟩
theorem ok_lawnear {f : Addr} {fd : FuncData} (F : Fun K "_law_near" "_law_near" sLawNear f fd) : FnOk P w K mg base CX0 1 f fd ["_law_house_here", "_law_room"] spLawNear := by
  refine F.ok scLawNear (fun vs H Q E h => ?_) (fun cdv A outer s H vs Q E hr h => ?_)
  · obtain ⟨t, zs, ds, ss, z, rfl, _⟩ := h
    rfl
  · obtain ⟨t, zs, ds, ss, z, rfl, ⟨r, d, s', xs, us, h1, h2, h3, h4, h5, h6⟩, hg, hz, k⟩ := h
    have hu65 : (A.deeper (PyProof.Rows.envOfC "_law_near" (defScope sLawNear) s.heap.objs.size f cdv)).units + 65 < cLine := by
      have := hr.un
      omega
    refine ⟨_, pss_one (ps_ret (pe_lc (own := [("_law_other", 2)]) (g := gName 2) (tt := tOr (tTest (tOp (rInD K) (tTup (tCons (tVar 1) (tCons (tVar 2) tNil))) (tOp (rIxT K) (tVar 0) (tC (.int 1))))) (tTest (tOp (rInD K) (tTup (tCons (tVar 2) (tCons (tVar 1) tNil))) (tOp (rIxT K) (tVar 0) (tC (.int 1)))))) rfl scLawNear.nd (pi_list (pe_ix ix_tup (pv 0) pe_int (fun _ _ => rfl))) (blkOk_by (N := ["_law_house_here", "_law_room", "_law_other"]) (sc := defScope sLawNear) (by decide +kernel)) (fun _ _ _ _ _ => (pg_name (i := 2) scLawNear.nd rfl (Or.inl rfl))) (fun _ _ _ _ _ => pts_one (PW.pt (pw_or (pt_cmpR (op_inD hu65) (pe_tup (pa_cons (pv 1) (pa_cons (pv 2) pa_nil))) (pe_ix ix_tup (pv 0) pe_int (fun _ _ => rfl)) (by rfl)) (pw_or1 (pt_cmpR (op_inD hu65) (pe_tup (pa_cons (pv 2) (pa_cons (pv 1) pa_nil))) (pe_ix ix_tup (pv 0) pe_int (fun _ _ => rfl)) (by rfl)))))) (fun _ _ _ _ _ => (pv 2)))), ?_⟩
    refine ⟨_, rfl, t, _, 0, _, rfl, rfl, SqT.of h1, rfl, r, rfl, ⟨_, SqL.of h2⟩, fun D nD => ?_⟩
    refine it_any (walk_list (K := K) (a := r) (xs := zs.map V.str)) (fun i H' => Same H H' ∧ H' D = some (.lst ((lnk (zs.take i) (both ds) z).map V.str))) ⟨same_new nD, upd_same⟩ (fun i H' _ h => SqL.of (h.1 _ _ h2)) ?_ ?_
    · rintro i x H1 H2 hi ⟨s1, hD⟩ ⟨rfl, hx⟩
      obtain ⟨c, ec, rfl⟩ := str_at hx
      have hi8 : i < zs.length := (List.getElem?_eq_some_iff.mp ec).1
      have okz := nm_ok (hg.names.2 _ hz)
      have okc := nm_ok (hg.names.2 _ (List.mem_of_getElem? ec))
      have okd : ∀ ab ∈ ds, okP ab := fun ab hab => pred_ok hg.names (hg.dg ab hab)
      have oks : ∀ ab ∈ ss, okP ab := fun ab hab => pred_ok hg.names (hg.sg ab hab)
      have ll := lnk_len (zs.take i) (both ds) z
      rw [List.length_take] at ll
      have e8 := hg.eight
      have hit : ∀ H3 : Hp, Same H2 H3 → (z, c) ∈ (both ds) → ∃ acc, H3 D = some (.lst acc) ∧ acc.length < sizeLine ∧ Same H (upd H3 D (.lst (acc ++ [.str c]))) ∧ (upd H3 D (.lst (acc ++ [.str c]))) D = some (.lst ((lnk (zs.take (i + 1)) (both ds) z).map V.str)) := fun H3 s3 hm => by
        refine ⟨_, s3 _ _ hD, by rw [List.length_map]; exact small1000 (by omega), same_put (s1.trans s3) nD, ?_⟩
        rw [upd_same, lnk_take ec, if_pos hm, List.map_append]
        rfl
      have miss : ∀ H3 : Hp, Same H2 H3 → ¬ (z, c) ∈ (both ds) → Same H H3 ∧ H3 D = some (.lst ((lnk (zs.take (i + 1)) (both ds) z).map V.str)) := fun H3 s3 hm => by
        refine ⟨s1.trans s3, ?_⟩
        rw [lnk_take ec, if_neg hm, List.append_nil]
        exact s3 _ _ hD
      refine ⟨rfl, ?_⟩
      refine ⟨_, rfl, _, rfl, by show 2 ≤ sizeLine; decide, fun q nq => ?_⟩
      have s2 := same_new (o := .tup [.str z, .str c]) nq
      have sH := s1.trans s2
      refine ⟨_, rfl, t, _, 1, _, rfl, rfl, SqT.of (sH _ _ h1), rfl, pd (z, c), ds.map pd, pr_dp ⟨q, rfl, upd_same⟩, .lst (SqL.of (sH _ _ h3)) (pl_dp (h4.same sH)), pd_shaped ⟨okz, okc⟩, pds_shaped okd, _, rfl, ?_⟩
      rw [any_pd]
      refine ite2 (fun e => ?_) (fun e => ?_)
      · exact ⟨_, rfl, hit _ s2 ((both_iff ds z c).mpr (.inl (of_decide_eq_true e)))⟩
      · refine ⟨_, rfl, _, rfl, by show 2 ≤ sizeLine; decide, fun q2 nq2 => ?_⟩
        have s3 := same_new (o := .tup [.str c, .str z]) nq2
        have sH3 := sH.trans s3
        refine ⟨_, rfl, t, _, 1, _, rfl, rfl, SqT.of (sH3 _ _ h1), rfl, pd (c, z), ds.map pd, pr_dp ⟨q2, rfl, upd_same⟩, .lst (SqL.of (sH3 _ _ h3)) (pl_dp (h4.same sH3)), pd_shaped ⟨okc, okz⟩, pds_shaped okd, _, rfl, ?_⟩
        rw [any_pd]
        refine ite2 (fun e2 => ?_) (fun e2 => ?_)
        · exact ⟨_, rfl, hit _ (s2.trans s3) ((both_iff ds z c).mpr (.inr (of_decide_eq_true e2)))⟩
        · refine miss _ (s2.trans s3) fun hm => ?_
          rcases (both_iff ds z c).mp hm with h | h
          · exact e (decide_eq_true h)
          · exact e2 (decide_eq_true h)
    · rintro H1 ⟨s1, hD⟩
      rw [List.length_map, List.take_length] at hD
      exact k H1 D s1 nD hD
theorem scLHd : FnScope ["_law_house_here", "_law_room", "_law_near_here", "_law_other"] ["_law_house_here", "_law_room"] (defScope sLawHand) := ⟨rfl, rfl, rfl, by decide +kernel, rfl, by decide +kernel, by decide +kernel⟩
theorem ok_lawhand {f fNe : Addr} {fd dNe : FuncData} (F : Fun K "_law_hand" "_law_hand" sLawHand f fd) (FNe : Fun K "_law_near" "_law_near" sLawNear fNe dNe) (bNe : Binds K dNe ["_law_house_here", "_law_room"] []) (gNe : mg "_law_near" = some (.ref fNe)) (GNe : FnOk P w K mg base CX0 1 fNe dNe ["_law_house_here", "_law_room"] spLawNear) : FnOk P w K mg base CX0 2 f fd ["_law_house_here", "_law_room"] spLawHand := by
  refine F.ok scLHd (fun vs H Q E h => ?_) (fun cdv A outer s H vs Q E hr h => ?_)
  · obtain ⟨t, zs, ds, ss, z, rfl, _⟩ := h
    rfl
  · obtain ⟨t, zs, ds, ss, z, rfl, hL, hg, hz, k⟩ := h
    refine ⟨_, pss_cons (ps_set (i := 2) scLHd.nd rfl (Or.inr rfl) (pe_call GNe hr (by rfl) gNe FNe.kp bNe .nil pass0 (pa_cons (pv 0) (pa_cons (pv 1) pa_nil))))
      (pss_one (ps_ret (pe_lc (own := [("_law_other", 3)]) (g := gName 3) (tt := tOr (tTest (tOp rEq (tVar 3) (tVar 1))) (tTest (tOp (rIn K false) (tVar 3) (tVar 2)))) rfl scLHd.nd (pi_list (pe_ix ix_tup (pv 0) pe_int (fun _ _ => rfl))) (blkOk_by (N := ["_law_house_here", "_law_room", "_law_near_here", "_law_other"]) (sc := defScope sLawHand) (by decide +kernel)) (fun _ _ _ _ _ => (pg_name (i := 3) scLHd.nd rfl (Or.inl rfl))) (fun _ _ _ _ _ => pts_one (PW.pt (pw_or (pt_cmpR op_eq (pv 3) (pv 1) (nomark _)) (pw_or1 (pt_cmpR op_in_seq (pv 3) (pv 2) (by rfl)))))) (fun _ _ _ _ _ => (pv 3))))), ?_⟩
    have e8 := hg.eight
    refine ⟨_, rfl, _, rfl, t, zs, ds, ss, z, rfl, hL, hg, hz, fun H1 p s1 np hp => ?_⟩
    obtain ⟨r, d, s', xs, us, h1, h2, h3, h4, h5, h6⟩ := hL.same s1
    refine ⟨_, rfl, t, _, 0, _, rfl, rfl, SqT.of h1, rfl, r, rfl, ⟨_, SqL.of h2⟩, fun D nD => ?_⟩
    refine it_any (walk_list (K := K) (a := r) (xs := zs.map V.str)) (fun j H' => Same H1 H' ∧ H' D = some (.lst ((handN (zs.take j) (lnk zs (both ds)) z).map V.str))) ⟨same_new nD, upd_same⟩ (fun j H' _ q => SqL.of (q.1 _ _ h2)) ?_ ?_
    · rintro j x H2 H3 hj ⟨s2, hD⟩ ⟨rfl, hx⟩
      obtain ⟨a, ea, rfl⟩ := str_at hx
      have ef : handN (zs.take (j + 1)) (lnk zs (both ds)) z = handN (zs.take j) (lnk zs (both ds)) z ++ (if (decide (a ∈ lnk zs (both ds) z) || decide (z = a)) = true then [a] else []) := filter_take ea
      have hit : (decide (a ∈ lnk zs (both ds) z) || decide (z = a)) = true → ∃ acc, H3 D = some (.lst acc) ∧ acc.length < sizeLine ∧ Same H1 (upd H3 D (.lst (acc ++ [.str a]))) ∧ (upd H3 D (.lst (acc ++ [.str a]))) D = some (.lst ((handN (zs.take (j + 1)) (lnk zs (both ds)) z).map V.str)) := fun e => by
        refine ⟨_, hD, small1000 (by rw [List.length_map]; have := List.length_filter_le (fun b => decide (b ∈ lnk zs (both ds) z) || decide (z = b)) (zs.take j); rw [List.length_take] at this; show (List.filter _ _).length ≤ 1000; omega), same_put s2 nD, ?_⟩
        rw [upd_same, ef, if_pos e, List.map_append]
        rfl
      refine ⟨rfl, _, rfl, _, rfl, rfl, _, rfl, ?_⟩
      by_cases e1 : a = z
      · rw [decide_eq_true (show V.str a = V.str z by rw [e1])]
        exact iteT ⟨_, rfl, hit (by rw [decide_eq_true e1.symm, Bool.or_true])⟩
      · rw [decide_eq_false (show ¬ V.str a = V.str z from fun y => e1 (V.str.inj y))]
        refine iteF ⟨_, rfl, _, rfl, p, _, rfl, .inl (SqL.of (s2 _ _ hp)), rfl, flat_all _, _, rfl, ?_⟩
        show if (inV (.str a) ((lnk zs (both ds) z).map V.str)) = true then _ else _
        rw [in_strs]
        refine ite2 (fun e => ?_) (fun e => ?_)
        · exact ⟨_, rfl, hit (by rw [e]; rfl)⟩
        · refine ⟨s2, ?_⟩
          rw [hD, ef, if_neg (by intro y; rw [Bool.or_eq_true] at y; rcases y with y | y; exact e y; exact e1 (of_decide_eq_true y).symm), List.append_nil]
    · rintro H2 ⟨s2, hD⟩
      rw [List.length_map, List.take_length] at hD
      exact k H2 D (s1.trans s2) (s1.free nD) hD
theorem scDraw : FnScope ["_law_box_here", "_law_many", "_law_cell", "_law_got"] ["_law_box_here", "_law_many"] (defScope sDraw) := ⟨rfl, rfl, rfl, by decide +kernel, rfl, by decide +kernel, by decide +kernel⟩
theorem ok_draw {f : Addr} {fd : FuncData} (F : Fun K "_law_draw" "_law_draw" sDraw f fd) (ml : mg "len" = none) (mx : mg "max" = none) : FnOk P w K mg base CX0 1 f fd ["_law_box_here", "_law_many"] spDraw := by
  refine F.ok scDraw (fun vs H Q E h => ?_) (fun cdv A outer s H vs Q E hr h => ?_)
  · obtain ⟨b, l, m, rfl, _⟩ := h
    rfl
  · obtain ⟨b, l, m, rfl, ⟨ns, i, c, s0, t, hb, hl, hi, hc, hs0, hs1⟩, hm, hm2, k⟩ := h
    refine ⟨_, pss_cons (ps_mid (ps_if (PW.pt (pw_and (pt_cmpR op_lt (pe_ix ix_list (pv 0) pe_int (fun _ _ => rfl)) pe_int (nomark _))
          (pw_and1 (pt_cmpR op_lt (pe_ix ix_list (pv 0) pe_int (fun _ _ => rfl)) (pe_callB call_len_seq (by rfl) ml PySem.boot_len (pa_cons (pe_ix ix_list (pv 0) pe_int (fun _ _ => rfl)) pa_nil)) (nomark _)))))
        (pss_cons (ps_set (i := 2) scDraw.nd rfl (Or.inl rfl) (pe_ix ix_list (pe_ix ix_list (pv 0) pe_int (fun _ _ => rfl)) (pe_ix ix_list (pv 0) pe_int (fun _ _ => rfl)) (fun _ _ => rfl)))
        (pss_cons (ps_asg (pe_op op_add (pe_ix ix_list (pv 0) pe_int (fun _ _ => rfl)) pe_int) (pg_sub (pv 0) pe_int set_list))
        (pss_cons (ps_asg (pe_callB (call_max2 rfl) (by rfl) mx (by decide +kernel) (pa_cons pe_int (pa_cons (pe_op op_sub (pv 2) (pe_op op_pow pe_int pe_int)) pa_nil))) (pg_sub (pv 0) pe_int set_list))
        (pss_one (ps_asg (pe_op op_mod (pe_op op_add (pe_op op_add (pe_op op_mul (pe_ix ix_list (pv 0) pe_int (fun _ _ => rfl)) pe_int) (pe_op op_mul (pe_op op_mod (pv 2) pe_int) pe_int)) pe_int) pe_int) (pg_sub (pv 0) pe_int set_list))))))
        pss_nil))
      (pss_cons (ps_if (pt_cmpR op_gt (pe_ix ix_list (pv 0) pe_int (fun _ _ => rfl)) pe_int (nomark _))
        (pss_cons (ps_set (i := 3) scDraw.nd rfl (Or.inl rfl) (pe_op op_mod (pe_ix ix_list (pv 0) pe_int (fun _ _ => rfl)) (pv 1)))
        (pss_cons (ps_asg (pe_op op_fdivW (pe_ix ix_list (pv 0) pe_int (fun _ _ => rfl)) (pv 1)) (pg_sub (pv 0) pe_int set_list))
        (pss_one (ps_ret (pv 3)))))
        pss_nil)
      (pss_cons (ps_asg (pe_op op_add (pe_ix ix_list (pv 0) pe_int (fun _ _ => rfl)) pe_int) (pg_sub (pv 0) pe_int set_list))
      (pss_cons (ps_asg (pe_op op_mod (pe_op op_add (pe_op op_add (pe_op op_pow (pe_ix ix_list (pv 0) pe_int (fun _ _ => rfl)) pe_int) (pe_op op_mul pe_int (pe_ix ix_list (pv 0) pe_int (fun _ _ => rfl)))) pe_int) pe_int) (pg_sub (pv 0) pe_int set_list))
      (pss_one (ps_ret (pe_op op_mod (pe_op op_fdiv (pe_ix ix_list (pv 0) pe_int (fun _ _ => rfl)) pe_int) (pv 1))))))), ?_⟩
    have nlb : l ≠ b := Box.ne hb hl
    have mk : ∀ (i c s0 t : Int), 0 ≤ i → 0 ≤ c → 0 ≤ s0 → s0 < 2147483629 → Box (upd H b (.lst (bxv l i c s0 t))) b l := fun i c s0 t h1 h2 h3 h4 =>
      ⟨ns, i, c, s0, t, upd_same, by rw [upd_ne nlb]; exact hl, h1, h2, h3, h4⟩
    refine ⟨fun σ H1 => ∃ (y : Option V) (i c s0 : Int), σ = [some (.ref b), some (.int m), y, none] ∧ H1 = upd H b (.lst (bxv l i c s0 t)) ∧ 0 ≤ i ∧ 0 ≤ c ∧ 0 ≤ s0 ∧ s0 < 2147483629, ?_, ?_⟩
    · refine ⟨_, rfl, b, _, _, _, rfl, rfl, SqL.of hb, rfl, _, _, rfl, rfl, _, rfl, ite2 (fun _ => ?_) (fun _ => ?_)⟩
      · refine ⟨_, rfl, b, _, _, _, rfl, rfl, SqL.of hb, rfl, _, rfl, b, _, _, _, rfl, rfl, SqL.of hb, rfl, l, _, rfl, .inl (SqL.of hl), _, _, rfl, rfl, _, rfl, ite2 (fun e => ?_) (fun _ => ?_)⟩
        · have e1 : i < ((ns.map V.int).length : Int) := of_decide_eq_true e
          rw [List.length_map] at e1
          have hx : atI (ns.map V.int) i = some (.int (ns.getD i.toNat 0)) := by
            have e2 : ((i.toNat : Nat) : Int) = i := Int.toNat_of_nonneg hi
            have e3 : i.toNat < ns.length := by omega
            have e4 : (ns.map V.int)[i.toNat]? = some (.int (ns.getD i.toNat 0)) := by
              rw [List.getElem?_map, List.getElem?_eq_getElem e3]
              simp [e3]
            have e5 := atI_nat e4
            rw [e2] at e5
            exact e5
          refine ⟨_, rfl, b, _, _, _, rfl, rfl, SqL.of hb, rfl, _, rfl, b, _, _, _, rfl, rfl, SqL.of hb, rfl, l, _, _, _, rfl, rfl, SqL.of hl, hx, ?_⟩
          refine ⟨_, rfl, b, _, _, _, rfl, rfl, SqL.of hb, rfl, _, _, rfl, rfl, _, rfl, b, _, _, _, rfl, rfl, hb, rfl, ?_⟩
          refine ⟨_, rfl, _, _, rfl, rfl, ⟨by decide, by decide, by decide⟩, _, _, rfl, rfl, _, _, rfl, _, rfl, b, _, _, _, rfl, rfl, upd_same, rfl, ?_⟩
          refine ⟨_, rfl, b, _, _, _, rfl, rfl, SqL.of upd_same, rfl, _, _, rfl, rfl, .inr ⟨by decide, by decide⟩, _, rfl, _, _, rfl, rfl, (by show (0 : Int) < 2147483629; decide), _, _, rfl, rfl, .inr ⟨by decide, by decide⟩, _, _, rfl, rfl, _, _, rfl, rfl, _, _, rfl, rfl, (by show (0 : Int) < 2147483629; decide), _, rfl, b, _, _, _, rfl, rfl, upd_same, rfl, ?_⟩
          refine ⟨_, _, _, _, rfl, by rw [upd_upd, upd_upd]; rfl, by omega, ?_, Int.emod_nonneg _ (by decide), Int.emod_lt_of_pos _ (by decide)⟩
          split <;> omega
        · exact ⟨none, i, c, s0, rfl, (upd_id hb).symm, hi, hc, hs0, hs1⟩
      · exact ⟨none, i, c, s0, rfl, (upd_id hb).symm, hi, hc, hs0, hs1⟩
    · rintro σ H1 ⟨y, i, c, s0, rfl, rfl, hi, hc, hs0, hs1⟩
      have hm3 : CDivW c m := wide_div hm hm2 (by decide) (by decide)
      refine ⟨_, rfl, b, _, _, _, rfl, rfl, SqL.of upd_same, rfl, _, _, rfl, rfl, _, rfl, ite2 (fun _ => ?_) (fun _ => ?_)⟩
      · refine ⟨_, rfl, b, _, _, _, rfl, rfl, SqL.of upd_same, rfl, _, rfl, _, _, rfl, rfl, hm, ?_⟩
        refine ⟨_, rfl, b, _, _, _, rfl, rfl, SqL.of upd_same, rfl, _, rfl, _, _, rfl, rfl, hm3, _, rfl, b, _, _, _, rfl, rfl, upd_same, rfl, ?_⟩
        refine ⟨_, rfl, ?_⟩
        rw [upd_upd]
        exact k _ _ (Int.emod_nonneg _ (by omega)) (Int.emod_lt_of_pos _ hm) Sav.upd (mk _ _ _ _ hi (Int.ediv_nonneg hc (by omega)) hs0 hs1)
      · refine ⟨_, rfl, b, _, _, _, rfl, rfl, SqL.of upd_same, rfl, _, _, rfl, rfl, _, rfl, b, _, _, _, rfl, rfl, upd_same, rfl, ?_⟩
        refine ⟨_, rfl, b, _, _, _, rfl, rfl, SqL.of upd_same, rfl, _, _, rfl, rfl, ⟨by decide, by decide, ?_⟩, _, rfl, b, _, _, _, rfl, rfl, SqL.of upd_same, rfl, _, _, rfl, rfl, .inl ⟨by decide, by decide⟩, _, _, rfl, rfl, _, _, rfl, rfl, _, _, rfl, rfl, (by show (0 : Int) < 2147483629; decide), _, rfl, b, _, _, _, rfl, rfl, upd_same, rfl, ?_⟩
        · omega
        · refine ⟨_, rfl, b, _, _, _, rfl, rfl, SqL.of upd_same, rfl, _, _, rfl, rfl, ⟨by decide, by decide⟩, _, rfl, _, _, rfl, rfl, hm, ?_⟩
          rw [upd_upd, upd_upd]
          exact k _ _ (Int.emod_nonneg _ (by omega)) (Int.emod_lt_of_pos _ hm) Sav.upd (mk _ _ _ _ hi hc (Int.emod_nonneg _ (by decide)) (Int.emod_lt_of_pos _ (by decide)))
theorem scBox : FnScope ["_law_script"] ["_law_script"] (defScope sBox) := ⟨rfl, rfl, rfl, by decide +kernel, rfl, by decide +kernel, by decide +kernel⟩
theorem ok_box {f : Addr} {fd : FuncData} (F : Fun K "_law_box" "_law_box" sBox f fd) (ml : mg "list" = none) : FnOk P w K mg base CX0 1 f fd ["_law_script"] (spBox K) := by
  refine F.ok scBox (fun vs H Q E h => ?_) (fun cdv A outer s H vs Q E hr h => ?_)
  · obtain ⟨a, ns, rfl, _⟩ := h
    rfl
  · obtain ⟨a, ns, rfl, hS, k⟩ := h
    refine ⟨_, pss_one (ps_ret (pe_lst (pa_cons (pe_callTy call_list_of (by rfl) ml (by decide +kernel) (pa_cons (pe_slice sl_list (pv 0) po_none (po_some pe_int)) pa_nil)) (pa_cons pe_int (pa_cons pe_int (pa_cons pe_int (pa_cons pe_int pa_nil))))))), ?_⟩
    obtain ⟨ms, em⟩ := cut_ints ns none (some 63)
    refine ⟨_, rfl, 63, rfl, a, _, rfl, hS, fun c nc => ?_⟩
    refine ⟨c, _, rfl, .inl (SqL.of upd_same), fun l nl => ?_⟩
    refine ⟨by show 5 ≤ sizeLine; decide, fun b nb => ?_⟩
    have nlb : l ≠ b := ne_of_none upd_same nb
    have s1 := same_new (o := .lst (cutV (ns.map V.int) none (some 63))) nc
    have s2 := same_new (o := .lst (cutV (ns.map V.int) none (some 63))) nl
    have s3 := same_new (o := .lst [V.ref l, .int 0, .int 0, .int 29, .int 0]) nb
    have s12 := s1.trans s2
    refine k _ b l (s12.trans s3) (s12.free nb) (s1.free nl) ⟨ms, 0, 0, 29, 0, upd_same, ?_, by decide, by decide, by decide, by decide⟩
    rw [upd_ne nlb, upd_same, em]
theorem scOf : FnScope ["_law_box_here", "_law_some"] ["_law_box_here", "_law_some"] (defScope sOf) := ⟨rfl, rfl, rfl, by decide +kernel, rfl, by decide +kernel, by decide +kernel⟩
theorem ok_of {f fD : Addr} {fd fdD : FuncData} (F : Fun K "_law_of" "_law_of" sOf f fd) (FD : Fun K "_law_draw" "_law_draw" sDraw fD fdD) (bD : Binds K fdD ["_law_box_here", "_law_many"] []) (gD : mg "_law_draw" = some (.ref fD)) (ml : mg "len" = none) (mx : mg "max" = none) :
    FnOk P w K mg base CX0 2 f fd ["_law_box_here", "_law_some"] spOf := by
  have GD : FnOk P w K mg base CX0 1 fD fdD ["_law_box_here", "_law_many"] spDraw := ok_draw FD ml mx
  refine F.ok scOf (fun vs H Q E h => ?_) (fun cdv A outer s H vs Q E hr h => ?_)
  · obtain ⟨b, l, v, rfl, _⟩ := h
    rfl
  · obtain ⟨b, l, v, rfl, hB, h⟩ := h
    refine ⟨_, pss_one (ps_ret (pe_ix ix_seq (pv 1) (pe_call GD hr (by rfl) gD FD.kp bD .nil pass0 (pa_cons (pv 0) (pa_cons (pe_callB call_len (by rfl) ml PySem.boot_len (pa_cons (pv 1) pa_nil)) pa_nil))) (fun _ _ => rfl))), ?_⟩
    rcases h with ⟨p, xs, rfl, npb, hp, h0, h1, k⟩ | ⟨z, rfl, h0, h1, k⟩
    · refine ⟨_, rfl, _, rfl, _, rfl, _, xs.length, rfl, .inl ⟨xs, SqL.of hp, rfl⟩, b, l, _, rfl, hB, by omega, small h1, fun r H' hr0 hr1 sv hB' => ?_⟩
      obtain ⟨x, hx, ha⟩ := at_some hr0 hr1
      exact .inl ⟨p, xs, r, x, rfl, rfl, SqL.of (sv _ _ npb hp), ha, k x H' hx sv hB'⟩
    · refine ⟨_, rfl, _, rfl, _, rfl, _, z.length, rfl, ⟨Nat.le_of_lt (small1000 h1), rfl⟩, b, l, _, rfl, hB, by omega, small h1, fun r H' hr0 hr1 sv hB' => ?_⟩
      have el : z.cps.toList.length = z.length := by simp [Str.length]
      obtain ⟨c, hc, ha⟩ := at_some (xs := z.cps.toList) hr0 (by rw [el]; exact hr1)
      exact .inr (.inr ⟨z, r, c, rfl, rfl, Nat.le_of_lt (small1000 h1), ha, k c H' hc sv hB'⟩)
theorem scNames : FnScope ["_law_box_here", "_law_many", "_law_letters", "_law_start", "_law_step", "_law_tail", "_law_pick", "_law_found", "_law_k", "_law_sign"] ["_law_box_here", "_law_many"] (defScope sNames) := ⟨rfl, rfl, rfl, by decide +kernel, rfl, by decide +kernel, by decide +kernel⟩
theorem ok_names {f fD fO : Addr} {fd fdD fdO : FuncData} (F : Fun K "_law_names" "_law_names" sNames f fd) (FD : Fun K "_law_draw" "_law_draw" sDraw fD fdD) (bD : Binds K fdD ["_law_box_here", "_law_many"] []) (gD : mg "_law_draw" = some (.ref fD))
    (FO : Fun K "_law_of" "_law_of" sOf fO fdO) (bO : Binds K fdO ["_law_box_here", "_law_some"] []) (gO : mg "_law_of" = some (.ref fO)) (ml : mg "len" = none) (mx : mg "max" = none) (mr : mg "range" = none) :
    FnOk P w K mg base CX0 3 f fd ["_law_box_here", "_law_many"] spNames := by
  have GD : FnOk P w K mg base CX0 1 fD fdD ["_law_box_here", "_law_many"] spDraw := ok_draw FD ml mx
  have GO : FnOk P w K mg base CX0 2 fO fdO ["_law_box_here", "_law_some"] spOf := ok_of FO FD bD gD ml mx
  refine F.ok scNames (fun vs H Q E h => ?_) (fun cdv A outer s H vs Q E hr h => ?_)
  · obtain ⟨b, l, m, rfl, _⟩ := h
    rfl
  · obtain ⟨b, l, m, rfl, hB, hm0, hm1, k⟩ := h
    have hr1 : Room 1 _ := hr.mono (by decide)
    refine ⟨_, pss_cons (ps_set (i := 2) scNames.nd rfl (Or.inl rfl) pe_str)
      (pss_cons (ps_par (i := 3) (j := 4) (by rfl) scNames.nd rfl rfl (by decide) rfl rfl
        (pa_cons (pe_call GD hr1 (by rfl) gD FD.kp bD .nil pass0 (pa_cons (pv 0) (pa_cons pe_int pa_nil)))
        (pa_cons (pe_call GO hr (by rfl) gO FO.kp bO .nil pass0 (pa_cons (pv 0) (pa_cons (pe_lst (pa_cons pe_int (pa_cons pe_int (pa_cons pe_int (pa_cons pe_int (pa_cons pe_int (pa_cons pe_int pa_nil))))))) pa_nil))) pa_nil)) (by rfl))
      (pss_cons (ps_par (i := 5) (j := 6) (by rfl) scNames.nd rfl rfl (by decide) rfl rfl
        (pa_cons (pe_call GO hr (by rfl) gO FO.kp bO .nil pass0 (pa_cons (pv 0) (pa_cons (pe_lst (pa_cons pe_str (pa_cons pe_str (pa_cons pe_str (pa_cons pe_str (pa_cons pe_str pa_nil)))))) pa_nil)))
        (pa_cons (pe_call GD hr1 (by rfl) gD FD.kp bD .nil pass0 (pa_cons (pv 0) (pa_cons pe_int pa_nil))) pa_nil)) (by rfl))
      (pss_cons (ps_set (i := 7) scNames.nd rfl (Or.inl rfl) (pe_lst pa_nil))
      (pss_cons (ps_for PassesOwn.never rfl (pi_range1 (by rfl) mr (pa_cons (pv 1) pa_nil)) (pg_name (i := 8) scNames.nd rfl (Or.inl rfl))
        (pss_cons (ps_set (i := 9) scNames.nd rfl (Or.inl rfl) (pe_ix ix_str (pv 2) (pe_op op_mod (pe_op op_add (pv 3) (pe_op op_mul (pv 4) (pv 8))) pe_int) (fun _ _ => rfl)))
        (pss_one (ps_expr (pe_bm PySem.F.plainAttrs_list PySem.F.slot_list_append PySem.F.type_list_append mt_append (pv 7)
          (pa_cons (pe_ix ix_list (pe_lst (pa_cons (pe_op op_add_str (pv 9) (pv 5)) (pa_cons (pe_op op_add_str (pv 5) (pv 9)) (pa_cons (pe_op op_add_str (pv 9) (pe_op op_mul01 (pv 5) (pe_op op_mod (pv 8) pe_int))) pa_nil)))) (pv 6) (fun _ _ => rfl)) pa_nil))))))
      (pss_one (ps_ret (pv 7))))))), ?_⟩
    refine ⟨_, rfl, b, l, 26, rfl, hB, by decide, by decide, fun a H1 ha0 ha1 v1 hB1 => ?_⟩
    refine ⟨_, rfl, by show 6 ≤ sizeLine; decide, fun q1 nq1 => ?_⟩
    refine ⟨b, l, _, rfl, hB1.new nq1, .inl ⟨q1, _, rfl, hB1.b1 nq1, upd_same, by decide, by decide, fun x H2 hx v2 hB2 => ?_⟩⟩
    have hc : ∃ c : Int, x = .int c ∧ (c = 1 ∨ c = 3 ∨ c = 5 ∨ c = 7 ∨ c = 9 ∨ c = 11) := by
      simp only [List.mem_cons, List.mem_nil_iff, or_false] at hx
      rcases hx with rfl | rfl | rfl | rfl | rfl | rfl <;> exact ⟨_, rfl, by decide⟩
    obtain ⟨c, rfl, hc⟩ := hc
    refine ⟨_, _, rfl, ?_⟩
    refine ⟨_, rfl, by show 5 ≤ sizeLine; decide, fun q2 nq2 => ?_⟩
    refine ⟨b, l, _, rfl, hB2.new nq2, .inl ⟨q2, _, rfl, hB2.b1 nq2, upd_same, by decide, by decide, fun x H3 hx v3 hB3 => ?_⟩⟩
    have ht : ∃ t : Str, x = .str t ∧ Tail t := by
      simp only [List.mem_cons, List.mem_nil_iff, or_false] at hx
      rcases hx with rfl | rfl | rfl | rfl | rfl <;> exact ⟨_, rfl, by decide +kernel, by decide +kernel, by decide +kernel, by decide +kernel, by decide +kernel, by decide +kernel⟩
    obtain ⟨t, rfl, ht⟩ := ht
    refine ⟨_, rfl, b, l, 3, rfl, hB3, by decide, by decide, fun p H4 hp0 hp1 v4 hB4 => ?_⟩
    refine ⟨_, _, rfl, ?_⟩
    refine ⟨Nat.zero_le _, fun g ng => ?_⟩
    have sv0 := v1.trans ((Sav.of (same_new nq1)).trans (v2.trans ((Sav.of (same_new nq2)).trans (v3.trans v4))))
    have ngb := hB4.b1 ng
    have ngl := hB4.l1 ng
    have ngH : H g = none := sv0.free ngb ng
    have sv := sv0.trans (Sav.of (same_new (o := .lst []) ng))
    refine ⟨_, rfl, m, rfl, by omega, by omega, for_range (n := m.toNat) (fun i σ H' => ∃ y8 y9 : Option V, σ = [some (.ref b), some (.int m), some (.str abc), some (.int a), some (.int c), some (.str t), some (.int p), some (.ref g), y8, y9] ∧ Sav b H H' ∧ Box H' b l ∧ H' g = some (.lst ((nms a c t p i).map V.str)))
      ⟨none, none, rfl, sv, hB4.new ng, upd_same⟩ ?_ ?_⟩
    · rintro i σ H1 hi ⟨y8, y9, rfl, s1, hB1, hg⟩
      have hc1 : -(2 ^ 64) < c ∧ c < 2 ^ 64 := by omega
      refine ⟨_, rfl, _, rfl, _, rfl, _, rfl, _, _, rfl, rfl, .inl hc1, _, _, rfl, rfl, _, _, rfl, rfl, (by show (0 : Int) < 26; decide), _, _, _, rfl, rfl, by decide +kernel, sgn_at a c i, ?_⟩
      have tl := tail_len (a := a) (c := c) (i := i) ht
      have hk2 : (0 + (i : Int)) % 2 = 0 ∨ (0 + (i : Int)) % 2 = 1 := by omega
      refine ⟨_, rfl, .inl ⟨rfl, _, SqL.of hg⟩, ?_⟩
      refine ⟨_, rfl, _, rfl, _, _, rfl, rfl, tl.1, _, rfl, _, rfl, _, _, rfl, rfl, tl.2, _, rfl, _, rfl, _, rfl, _, _, rfl, rfl, (by show (0 : Int) < 2; decide), _, _, rfl, rfl, hk2, _, _, rfl, rfl, ?_, ?_⟩
      · split
        · exact tl.1
        · show 1 + 0 ≤ sizeLine
          decide
      · refine ⟨by show 3 ≤ sizeLine; decide, fun q nq => ?_⟩
        have ngq : g ≠ q := ne_of_none hg nq
        refine ⟨_, rfl, q, _, p, _, rfl, rfl, SqL.of upd_same, pick3 hp0 hp1, ?_⟩
        refine ⟨g, _, _, rfl, rfl, by rw [upd_ne ngq]; exact hg, ?_, ?_⟩
        · rw [List.length_map, nms_len]
          exact small1000 (by omega)
        · refine ⟨_, _, rfl, fun x o n hx => ?_, (hB1.new nq).put ngb ngl, ?_⟩
          · have nx : x ≠ g := fun e => by
              rw [e, ngH] at hx
              cases hx
            rw [upd_ne nx]
            exact same_new nq _ _ (s1 x o n hx)
          · rw [upd_same, nms_succ, List.map_append]
            rfl
    · rintro σ H1 ⟨y8, y9, rfl, s1, hB1, hg⟩
      exact ⟨_, rfl, k H1 g _ s1 hB1 ngH hg (nms_len _ _ _ _ _) ⟨nms_nodup hc (by omega), nms_all ht _⟩ (nms_lens ht _)⟩
end
end Dk
namespace Dk
open PySem L2
section
variable {P : Program} {w : World} {K : PySem.W.Frag} {mg : Str → Option Value} {base : Heap}
theorem scLRn : FnScope ["_law_box_here", "_law_house_here", "_law_limit", "_law_size", "_law_walk", "_law_k", "_law_half"] ["_law_box_here", "_law_house_here", "_law_limit"] (defScope sLawRound) := ⟨rfl, rfl, rfl, by decide +kernel, rfl, by decide +kernel, by decide +kernel⟩
theorem ok_lawround {f fDr fOf fNe fHa : Addr} {fd dDr dOf dNe dHa : FuncData} (F : Fun K "_law_round" "_law_round" sLawRound f fd) (FDr : Fun K "_law_draw" "_law_draw" sDraw fDr dDr) (bDr : Binds K dDr ["_law_box_here", "_law_many"] []) (gDr : mg "_law_draw" = some (.ref fDr)) (GDr : FnOk P w K mg base CX0 1 fDr dDr ["_law_box_here", "_law_many"] spDraw) (FOf : Fun K "_law_of" "_law_of" sOf fOf dOf) (bOf : Binds K dOf ["_law_box_here", "_law_some"] []) (gOf : mg "_law_of" = some (.ref fOf)) (GOf : FnOk P w K mg base CX0 2 fOf dOf ["_law_box_here", "_law_some"] spOf) (FNe : Fun K "_law_near" "_law_near" sLawNear fNe dNe) (bNe : Binds K dNe ["_law_house_here", "_law_room"] []) (gNe : mg "_law_near" = some (.ref fNe)) (GNe : FnOk P w K mg base CX0 1 fNe dNe ["_law_house_here", "_law_room"] spLawNear) (FHa : Fun K "_law_hand" "_law_hand" sLawHand fHa dHa) (bHa : Binds K dHa ["_law_house_here", "_law_room"] []) (gHa : mg "_law_hand" = some (.ref fHa)) (GHa : FnOk P w K mg base CX0 2 fHa dHa ["_law_house_here", "_law_room"] spLawHand) (m_range : mg "range" = none) (m_tuple : mg "tuple" = none) : FnOk P w K mg base CX0 3 f fd ["_law_box_here", "_law_house_here", "_law_limit"] spLawRound := by
  refine F.ok scLRn (fun vs H Q E h => ?_) (fun cdv A outer s H vs Q E hr h => ?_)
  · obtain ⟨b, l, t, m, zs, ds, ss, rfl, _⟩ := h
    rfl
  · obtain ⟨b, l, t, m, zs, ds, ss, rfl, hB, hL, hg, m1, m6, k⟩ := h
    refine ⟨_, pss_cons (ps_set (i := 3) scLRn.nd rfl (Or.inl rfl) (pe_op op_add pe_int (pe_call GDr (hr.mono (by decide)) (by rfl) gDr FDr.kp bDr .nil pass0 (pa_cons (pv 0) (pa_cons (pv 2) pa_nil)))))
      (pss_cons (ps_set (i := 4) scLRn.nd rfl (Or.inl rfl) (pe_lst (pa_cons (pe_call GOf (hr.mono (by decide)) (by rfl) gOf FOf.kp bOf .nil pass0 (pa_cons (pv 0) (pa_cons (pe_ix ix_tup (pv 1) pe_int (fun _ _ => rfl)) pa_nil))) pa_nil)))
      (pss_cons (ps_for PassesOwn.never rfl (pi_range1 (by rfl) m_range (pa_cons (pe_op op_sub (pv 3) pe_int) pa_nil)) (pg_name (i := 5) scLRn.nd rfl (Or.inl rfl))
      (pss_one (ps_expr (pe_bm PySem.F.plainAttrs_list PySem.F.slot_list_append PySem.F.type_list_append mt_append (pv 4) (pa_cons (pe_call GOf (hr.mono (by decide)) (by rfl) gOf FOf.kp bOf .nil pass0 (pa_cons (pv 0) (pa_cons (pe_op op_cat (pe_lst (pa_cons (pe_ix ix_list (pv 4) (pe_un un_neg pe_int) (fun _ _ => rfl)) pa_nil)) (pe_call GNe (hr.mono (by decide)) (by rfl) gNe FNe.kp bNe .nil pass0 (pa_cons (pv 1) (pa_cons (pe_ix ix_list (pv 4) (pe_un un_neg pe_int) (fun _ _ => rfl)) pa_nil)))) pa_nil))) pa_nil)))))
      (pss_cons (ps_if (pt_cmpR op_in_seq (pe_ix ix_list (pv 4) pe_int (fun _ _ => rfl)) (pe_call GHa hr (by rfl) gHa FHa.kp bHa .nil pass0 (pa_cons (pv 1) (pa_cons (pe_ix ix_list (pv 4) (pe_un un_neg pe_int) (fun _ _ => rfl)) pa_nil))) (by rfl)) (pss_one (ps_ret (pe_callTy call_tuple_of (by rfl) m_tuple (by decide +kernel) (pa_cons (pv 4) pa_nil)))) pss_nil)
      (pss_cons (ps_set (i := 6) scLRn.nd rfl (Or.inl rfl) (pe_slice sl_list (pv 4) po_none (po_some (pe_op op_add (pe_op op_fdiv (pv 3) pe_int) pe_int))))
      (pss_one (ps_ret (pe_callTy call_tuple_of (by rfl) m_tuple (by decide +kernel) (pa_cons (pe_op op_cat (pv 6) (pe_revL (pe_slice sl_list (pv 6) (po_some pe_int) (po_some (pe_un un_neg pe_int))))) pa_nil)))))))), ?_⟩
    have e8 := hg.eight
    have z1 := hg.one
    refine ⟨_, rfl, _, rfl, b, l, m, rfl, hB, by omega, Nat.lt_of_le_of_lt (show m.natAbs ≤ 6 by omega) (by decide), fun q0 H1 a0 a1 v1 hB1 => ?_⟩
    refine ⟨_, _, rfl, rfl, ?_⟩
    have hL1 := hL.sav hB v1
    obtain ⟨r, d, s', xs, us, n1, n2, n3, h1, h2, h3, h4, h5, h6⟩ := id hL1
    refine ⟨_, rfl, _, rfl, t, _, 0, _, rfl, rfl, SqT.of h1, rfl, b, l, .ref r, rfl, hB1, .inl ⟨r, _, rfl, n1, h2, by rw [List.length_map]; omega, by rw [List.length_map]; omega, fun x H2 hx v2 hB2 => ?_⟩⟩
    obtain ⟨w0, hw0, rfl⟩ := str_of hx
    refine ⟨by show 1 ≤ sizeLine; decide, fun Wk nW => ?_⟩
    have nWb := hB2.b1 nW
    have nWl := hB2.l1 nW
    have v12 := v1.trans v2
    have nW0 : H Wk = none := v12.free nWb nW
    refine ⟨_, rfl, _, _, rfl, rfl, _, rfl, by omega, by omega, ?_⟩
    obtain ⟨n, en⟩ : ∃ n : Nat, q0 = (n : Nat) := ⟨q0.toNat, by omega⟩
    subst en
    rw [show (1 + ((n : Nat) : Int) - 1).toNat = n by omega]
    refine for_range (n := n) (fun i σ H' => ∃ y5 ws, σ = [some (.ref b), some (.ref t), some (.int m), some (.int (1 + ((n : Nat) : Int))), some (.ref Wk), y5, none] ∧ Sav b H H' ∧ Box H' b l ∧ H' Wk = some (.lst (ws.map V.str)) ∧ ws.length = i + 1 ∧ Walk1 zs (lnk zs (both ds)) ws) ⟨_, [w0], rfl, v12.put nW0, hB2.put nWb nWl, upd_same, rfl, Walk1.one hw0⟩ ?_ ?_
    · rintro i σ H3 hi ⟨y5, ws, rfl, v3, hB3, hW, wl, hw⟩
      have hL3 := hL.sav hB v3
      have el : ws[ws.length - 1]? = some (ws[ws.length - 1]'(by omega)) := List.getElem?_eq_getElem (by omega)
      generalize ws[ws.length - 1]'(by omega) = x at el
      have xm := hw.1 x (List.mem_of_getElem? el)
      have eL : (ws.map V.str)[(ws.map V.str).length - 1]? = some (.str x) := by rw [List.length_map, List.getElem?_map, el]; rfl
      refine ⟨_, rfl, .inl ⟨rfl, _, SqL.of hW⟩, _, rfl, _, rfl, 1, rfl, Wk, _, -1, _, rfl, rfl, SqL.of hW, at_last eL, by show 1 ≤ sizeLine; decide, fun c nc => ?_⟩
      have s4 := same_new (o := .lst [V.str x]) nc
      have hW4 := s4 _ _ hW
      refine ⟨_, rfl, _, rfl, 1, rfl, Wk, _, -1, _, rfl, rfl, SqL.of hW4, at_last eL, t, zs, ds, ss, x, rfl, (hL3.same s4).of, hg, xm, fun H5 p s5 np hp => ?_⟩
      have s45 := s4.trans s5
      refine ⟨c, p, _, _, rfl, rfl, s5 _ _ upd_same, hp, Nat.le_of_lt (small1000 (by rw [List.length_map]; have := lnk_len zs (both ds) x; show 1 + _ ≤ 1000; omega)), fun g ng => ?_⟩
      have s6 := s45.trans (same_new (o := .lst ([V.str x] ++ (lnk zs (both ds) x).map V.str)) ng)
      have hB6 := hB3.same s6
      have ngb := (hB3.same s45).b1 ng
      refine ⟨b, l, .ref g, rfl, hB6, .inl ⟨g, _, rfl, ngb, upd_same, by show 0 < _ + 1; omega, by rw [List.length_append, List.length_map]; have := lnk_len zs (both ds) x; show 1 + _ ≤ 1000; omega, fun y H7 hy v7 hB7 => ?_⟩⟩
      have hW7 := v7 _ _ nWb (s6 _ _ hW)
      have v37 := (v3.trans (Sav.of s6)).trans v7
      obtain ⟨y', ey, hy', ha⟩ : ∃ y', y = V.str y' ∧ y' ∈ zs ∧ adj (lnk zs (both ds)) x y' := by
        rcases List.mem_append.mp hy with q | q
        · exact ⟨x, List.mem_singleton.mp q, xm, .inr rfl⟩
        · obtain ⟨z, hz, rfl⟩ := str_of q
          exact ⟨z, rfl, (lnk_mem.mp hz).1, .inl hz⟩
      subst ey
      refine ⟨Wk, _, _, rfl, rfl, hW7, small1000 (by rw [List.length_map]; omega), ?_⟩
      refine ⟨_, ws ++ [y'], rfl, v37.put nW0, hB7.put nWb nWl, by rw [upd_same, List.map_append]; rfl, by rw [List.length_append, wl]; rfl, hw.snoc el hy' ha⟩
    · rintro σ H3 ⟨y5, ws, rfl, v3, hB3, hW, wl, hw⟩
      have hL3 := hL.sav hB v3
      have el : ws[ws.length - 1]? = some (ws[ws.length - 1]'(by omega)) := List.getElem?_eq_getElem (by omega)
      generalize ws[ws.length - 1]'(by omega) = x at el
      have e0 : ws[0]? = some (ws[0]'(by omega)) := List.getElem?_eq_getElem (by omega)
      generalize ws[0]'(by omega) = y at e0
      have xm := hw.1 x (List.mem_of_getElem? el)
      have ym := hw.1 y (List.mem_of_getElem? e0)
      have eL : (ws.map V.str)[(ws.map V.str).length - 1]? = some (.str x) := by rw [List.length_map, List.getElem?_map, el]; rfl
      refine ⟨_, rfl, Wk, _, 0, _, rfl, rfl, SqL.of hW, at_str e0 rfl, _, rfl, _, rfl, 1, rfl, Wk, _, -1, _, rfl, rfl, SqL.of hW, at_last eL, t, zs, ds, ss, x, rfl, hL3.of, hg, xm, fun H4 p s4 np hp => ?_⟩
      have hW4 := s4 _ _ hW
      have v4 := v3.trans (Sav.of s4)
      have hB4 := hB3.same s4
      refine ⟨p, _, rfl, .inl (SqL.of hp), rfl, flat_all _, _, rfl, ?_⟩
      show if (inV (.str y) ((handN zs (lnk zs (both ds)) x).map V.str)) = true then _ else _
      rw [in_strs]
      refine ite2 (fun e => ?_) (fun e => ?_)
      · have hc := (hand_iff.mp (of_decide_eq_true e)).2
        refine ⟨_, rfl, Wk, _, rfl, .inl ⟨SqL.of hW4, fun T nT => ?_⟩⟩
        have nTb := hB4.b1 nT
        refine k _ T ws (v4.trans (Sav.of (same_new nT))) (hB4.new nT) (v4.free nTb nT) upd_same (walk_rnd hw (by omega) (by omega) el e0 hc) (by omega)
      · have n1' : 1 ≤ n := by
          rcases Nat.eq_zero_or_pos n with z | z
          · exfalso
            apply e
            have e1 : ws.length - 1 = 0 := by omega
            rw [e1] at el
            have exy : x = y := Option.some.inj (el.symm.trans e0)
            exact decide_eq_true (hand_iff.mpr ⟨ym, .inr exy⟩)
          · exact z
        have eh : (1 + ((n : Nat) : Int)) / 2 + 1 = (((1 + n) / 2 + 1 : Nat) : Int) := by omega
        refine ⟨_, rfl, _, rfl, _, _, rfl, rfl, ⟨by decide, by decide⟩, _, _, rfl, rfl, _, rfl, Wk, _, rfl, SqL.of hW4, fun c nc => ?_⟩
        rw [eh, cut_to (by rw [List.length_map]; omega), ← List.map_take]
        have hl : (ws.take ((1 + n) / 2 + 1)).length = (1 + n) / 2 + 1 := by
          rw [List.length_take]
          omega
        have hwt := hw.take ((1 + n) / 2 + 1)
        generalize ws.take ((1 + n) / 2 + 1) = wt at hl hwt
        have ncb := hB4.b1 nc
        have s5 := same_new (o := .lst (wt.map V.str)) nc
        have hc5 : (upd H4 c (.lst (wt.map V.str))) c = some (.lst (wt.map V.str)) := upd_same
        have hB5 := hB4.same s5
        generalize upd H4 c (.lst (wt.map V.str)) = H5 at s5 hc5 hB5
        refine ⟨_, rfl, _, rfl, 1, rfl, 1, rfl, -1, rfl, c, _, rfl, SqL.of hc5, fun e1 ne1 => ?_⟩
        rw [cut_mid (by rw [List.length_map]; omega), List.length_map, ← List.map_drop, ← List.map_take]
        have s6 := same_new (o := .lst (((wt.drop 1).take (wt.length - 2)).map V.str)) ne1
        refine ⟨e1, _, rfl, SqL.of upd_same, fun f1 nf1 => ?_⟩
        rw [← List.map_reverse]
        have s7 := same_new (o := .lst (((wt.drop 1).take (wt.length - 2)).reverse.map V.str)) nf1
        have s57 := s6.trans s7
        refine ⟨c, f1, _, _, rfl, rfl, s57 _ _ hc5, upd_same, Nat.le_of_lt (small1000 (by rw [List.length_map, List.length_map, List.length_reverse, List.length_take, List.length_drop]; omega)), fun g ng => ?_⟩
        have s8 := same_new (o := .lst (wt.map V.str ++ ((wt.drop 1).take (wt.length - 2)).reverse.map V.str)) ng
        refine ⟨g, _, rfl, .inl ⟨SqL.of upd_same, fun T nT => ?_⟩⟩
        have s58 := s57.trans s8
        have v8 := (v4.trans (Sav.of s5)).trans (Sav.of s58)
        have hB8 := hB5.same s58
        have nTb := hB8.b1 nT
        refine k _ T (bnc wt) (v8.trans (Sav.of (same_new nT))) (hB8.new nT) (v8.free nTb nT) (by rw [upd_same]; unfold bnc; rw [List.map_append]) (bnc_rnd hwt (by omega) (by omega)) (by rw [bnc_len (by omega)]; omega)
theorem scLawHouse : FnScope ["_law_box_here", "_law_limit", "_law_rooms", "_law_thick", "_law_doors", "_law_sights", "_law_at", "_law_to", "_law_one", "_law_other"] ["_law_box_here", "_law_limit"] (defScope sLawHouse) := ⟨rfl, rfl, rfl, by decide +kernel, rfl, by decide +kernel, by decide +kernel⟩
theorem ok_lawhouse {f fN fD : Addr} {fd fdN fdD : FuncData} (F : Fun K "_law_house" "_law_house" sLawHouse f fd) (m_len : mg "len" = none) (m_range : mg "range" = none)
    (FN : Fun K "_law_names" "_law_names" sNames fN fdN) (bN : Binds K fdN ["_law_box_here", "_law_many"] []) (gN : mg "_law_names" = some (.ref fN)) (GN : FnOk P w K mg base CX0 3 fN fdN ["_law_box_here", "_law_many"] spNames)
    (FD : Fun K "_law_draw" "_law_draw" sDraw fD fdD) (bD : Binds K fdD ["_law_box_here", "_law_many"] []) (gD : mg "_law_draw" = some (.ref fD)) (GD : FnOk P w K mg base CX0 1 fD fdD ["_law_box_here", "_law_many"] spDraw) :
    FnOk P w K mg base CX0 4 f fd ["_law_box_here", "_law_limit"] spLawHouse := by
  refine F.ok scLawHouse (fun vs H Q E h => ?_) (fun cdv A outer s H vs Q E hr h => ?_)
  · obtain ⟨b, l, m, rfl, _⟩ := h
    rfl
  · obtain ⟨b, l, m, rfl, hB, hm0, hm1, k⟩ := h
    refine ⟨_, pss_cons (ps_set (i := 2) scLawHouse.nd rfl (Or.inl rfl) (pe_call GN hr (by rfl) gN FN.kp bN .nil pass0 (pa_cons (pv 0) (pa_cons (pe_op op_add pe_int (pe_call GD (hr.mono (by decide)) (by rfl) gD FD.kp bD .nil pass0 (pa_cons (pv 0) (pa_cons (pv 1) pa_nil)))) pa_nil))))
      (pss_cons (ps_par3 (i := 3) (j := 4) (l := 5) (by rfl) scLawHouse.nd rfl rfl rfl (by decide) (by decide) (by decide) rfl rfl rfl (pa_cons (pe_call GD (hr.mono (by decide)) (by rfl) gD FD.kp bD .nil pass0 (pa_cons (pv 0) (pa_cons pe_int pa_nil))) (pa_cons (pe_lst pa_nil) (pa_cons (pe_lst pa_nil) pa_nil))) (by rfl))
      (pss_cons (ps_for PassesOwn.never rfl (pi_range1 (by rfl) m_range (pa_cons (pe_callB call_len_seq (by rfl) m_len PySem.boot_len (pa_cons (pv 2) pa_nil)) pa_nil)) (pg_name (i := 6) scLawHouse.nd rfl (Or.inl rfl))
      (pss_one (ps_for PassesOwn.never rfl (pi_range2 (by rfl) m_range (pa_cons (pe_op op_add (pv 6) pe_int) (pa_cons (pe_callB call_len_seq (by rfl) m_len PySem.boot_len (pa_cons (pv 2) pa_nil)) pa_nil))) (pg_name (i := 7) scLawHouse.nd rfl (Or.inl rfl))
      (pss_one (ps_if (pt_mid (PW.pt (pw_or (PW.pt (pw_and (pt_cmpR op_eq (pv 7) (pe_op op_add (pv 6) pe_int) (nomark _)) (pw_and1 (pt_cmpR op_gt (pe_call GD (hr.mono (by decide)) (by rfl) gD FD.kp bD .nil pass0 (pa_cons (pv 0) (pa_cons pe_int pa_nil))) pe_int (nomark _))))) (pw_or1 (pt_cmpR op_lt (pe_call GD (hr.mono (by decide)) (by rfl) gD FD.kp bD .nil pass0 (pa_cons (pv 0) (pa_cons pe_int pa_nil))) (pv 3) (nomark _)))))) (pss_one (ps_expr (pe_bm PySem.F.plainAttrs_list PySem.F.slot_list_append PySem.F.type_list_append mt_append (pv 4) (pa_cons (pe_ix ix_list (pe_lst (pa_cons (pe_tup (pa_cons (pe_ix ix_list (pv 2) (pv 6) (fun _ _ => rfl)) (pa_cons (pe_ix ix_list (pv 2) (pv 7) (fun _ _ => rfl)) pa_nil))) (pa_cons (pe_tup (pa_cons (pe_ix ix_list (pv 2) (pv 7) (fun _ _ => rfl)) (pa_cons (pe_ix ix_list (pv 2) (pv 6) (fun _ _ => rfl)) pa_nil))) pa_nil))) (pe_call GD (hr.mono (by decide)) (by rfl) gD FD.kp bD .nil pass0 (pa_cons (pv 0) (pa_cons pe_int pa_nil))) (fun _ _ => rfl)) pa_nil)))) pss_nil)))))
      (pss_cons (ps_for PassesOwn.never rfl (pi_list (pv 2)) (pg_name (i := 8) scLawHouse.nd rfl (Or.inr rfl))
      (pss_one (ps_set (i := 5) scLawHouse.nd rfl (Or.inl rfl) (pe_op op_cat (pv 5) (pe_lc (own := [("_law_other", 9)]) (g := gName 9)  rfl scLawHouse.nd (pi_list (pv 2)) (blkOk_by (N := ["_law_box_here", "_law_limit", "_law_rooms", "_law_thick", "_law_doors", "_law_sights", "_law_at", "_law_to", "_law_one", "_law_other"]) (sc := defScope sLawHouse) (by decide +kernel)) (fun _ _ _ _ _ => (pg_name (i := 9) scLawHouse.nd rfl (Or.inl rfl))) (fun _ _ _ _ _ => pts_one (pt_mid (PW.pt (pw_and (pt_cmpR op_ne (pv 9) (pv 8) (nomark _)) (pw_and1 (pt_cmpR op_eq (pe_call GD (hr.mono (by decide)) (by rfl) gD FD.kp bD .nil pass0 (pa_cons (pv 0) (pa_cons pe_int pa_nil))) pe_int (nomark _))))))) (fun _ _ _ _ _ => (pe_tup (pa_cons (pv 8) (pa_cons (pv 9) pa_nil)))))))))
      (pss_one (ps_ret (pe_tup (pa_cons (pv 2) (pa_cons (pv 4) (pa_cons (pv 5) pa_nil))))))))), ?_⟩
    refine ⟨_, rfl, _, rfl, _, rfl, b, l, m, rfl, hB, by omega, ?_, fun r0 H1 h00 h01 v1 hB1 => ?_⟩
    · exact Nat.lt_of_le_of_lt (show m.natAbs ≤ 8 by omega) (by decide)
    refine ⟨_, _, rfl, rfl, b, l, _, rfl, hB1, by omega, by omega, fun H2 r zs v2 hB2 nr hr2 hzl hN hLn => ?_⟩
    have nrb : r ≠ b := hB1.b1 nr
    have hz8 : zs.length ≤ 8 := by omega
    have hz1 : 1 ≤ zs.length := by omega
    -- thick, doors, sights
    refine ⟨_, rfl, b, l, 4, rfl, hB2, by decide, by decide, fun th H3 _ _ v3 hB3 => ?_⟩
    have hr3 := v3 _ _ nrb hr2
    refine ⟨Nat.zero_le _, fun d nd => ⟨Nat.zero_le _, fun s nsd => ?_⟩⟩
    have ndb : d ≠ b := hB3.b1 nd
    have ndl : d ≠ l := hB3.l1 nd
    have nds : d ≠ s := ne_of_none upd_same nsd
    have nrd : r ≠ d := ne_of_none hr3 nd
    have sv3 := v1.trans (v2.trans v3)
    have ndH : H d = none := sv3.free ndb nd
    have hB4 := (hB3.new (o := .lst []) nd).new (o := .lst []) nsd
    have nsb : s ≠ b := (hB3.new nd).b1 nsd
    have sv4 := sv3.trans (Sav.of ((same_new (o := .lst []) nd).trans (same_new (o := .lst []) nsd)))
    have hr4 := same_new (o := .lst []) nsd _ _ (same_new (o := .lst []) nd _ _ hr3)
    refine ⟨_, _, _, rfl, ?_⟩
    have hd4 := same_new (o := .lst []) nsd _ _ (upd_same (H := H3) (a := d) (o := .lst []))
    have hs4 : (upd (upd H3 d (.lst [])) s (.lst [])) s = some (.lst []) := upd_same
    generalize upd (upd H3 d (.lst [])) s (.lst []) = H4 at hB4 sv4 hr4 hd4 hs4
    -- doors
    refine ⟨_, rfl, r, _, rfl, .inl (SqL.of hr4), _, rfl, by rw [List.length_map]; omega, by rw [List.length_map]; omega, ?_⟩
    rw [List.length_map, Int.toNat_natCast]
    refine for_range (n := zs.length) (fun i σ H' => ∃ y6 y7 y8 : Option V, σ = [some (.ref b), some (.int m), some (.ref r), some (.int th), some (.ref d), some (.ref s), y6, y7, y8, none] ∧ Sav b H H' ∧ Box H' b l ∧ H' r = some (.lst (zs.map V.str)) ∧ H' s = some (.lst []) ∧ ∃ xs ds, H' d = some (.lst xs) ∧ PL H' xs ds ∧ (∀ p ∈ ds, goodP zs p) ∧ ds.length ≤ i * 8)
      ⟨_, _, _, rfl, sv4, hB4, hr4, hs4, [], [], hd4, PL.nil, (fun p hp => by cases hp), Nat.le_refl _⟩ ?_ ?_
    · rintro i σ H5 hi ⟨y6, y7, y8, rfl, sv5, hB5, hr5, hs5, xs5, ds5, hd5, hP5, hg5, hl5⟩
      refine ⟨_, rfl, _, _, rfl, rfl, _, rfl, r, _, rfl, .inl (SqL.of hr5), _, _, rfl, ⟨by omega, by omega, by rw [List.length_map]; omega, by rw [List.length_map]; omega⟩, ?_⟩
      rw [List.length_map]
      refine for_range (lo := 0 + (i : Int) + 1) (n := (((zs.length : Nat) : Int) - (0 + (i : Int) + 1)).toNat) (fun j σ H' => ∃ y7 y8 : Option V, σ = [some (.ref b), some (.int m), some (.ref r), some (.int th), some (.ref d), some (.ref s), some (.int (0 + (i : Int))), y7, y8, none] ∧ Sav b H H' ∧ Box H' b l ∧ H' r = some (.lst (zs.map V.str)) ∧ H' s = some (.lst []) ∧ ∃ xs ds, H' d = some (.lst xs) ∧ PL H' xs ds ∧ (∀ p ∈ ds, goodP zs p) ∧ ds.length ≤ i * 8 + j)
        ⟨_, _, rfl, sv5, hB5, hr5, hs5, xs5, ds5, hd5, hP5, hg5, hl5⟩ ?_ ?_
      · rintro j σ H6 hj ⟨y7, y8, rfl, sv6, hB6, hr6, hs6, xs6, ds6, hd6, hP6, hg6, hl6⟩
        have hij : i + 1 + j < zs.length := by omega
        -- the test, whatever it comes to
        refine ⟨fun _ H' => Sav b H6 H' ∧ Box H' b l, ?_, ?_⟩
        · refine ⟨_, rfl, _, rfl, _, _, rfl, rfl, rfl, _, rfl, ite2 (fun _ => ?_) (fun _ => ?_)⟩
          · refine ⟨_, rfl, b, l, 8, rfl, hB6, by decide, by decide, fun q1 H7 _ _ v7 hB7 => ?_⟩
            refine ⟨_, _, rfl, rfl, _, rfl, ite2 (fun _ => ⟨v7, hB7⟩) (fun _ => ?_)⟩
            refine ⟨_, rfl, b, l, 6, rfl, hB7, by decide, by decide, fun q2 H8 _ _ v8 hB8 => ?_⟩
            exact ⟨_, rfl, _, _, rfl, rfl, _, rfl, v7.trans v8, hB8⟩
          · refine ⟨_, rfl, b, l, 6, rfl, hB6, by decide, by decide, fun q2 H8 _ _ v8 hB8 => ?_⟩
            exact ⟨_, rfl, _, _, rfl, rfl, _, rfl, v8, hB8⟩
        rintro bb H7 ⟨v7, hB7⟩
        have hr7 := v7 _ _ nrb hr6
        have hs7 := v7 _ _ nsb hs6
        have hd7 := v7 _ _ ndb hd6
        have hP7 := hP6.keep (v7.keepT hB6)
        have sv7 := sv6.trans v7
        cases bb with
        | false => exact ⟨_, _, rfl, sv7, hB7, hr7, hs7, xs6, ds6, hd7, hP7, hg6, by omega⟩
        | true =>
          have e1 : zs[i]? = some zs[i] := List.getElem?_eq_getElem (by omega)
          have e2 : zs[i + 1 + j]? = some zs[i + 1 + j] := List.getElem?_eq_getElem hij
          have ha := at_str e1 (k := 0 + (i : Int)) (by omega)
          have hc := at_str e2 (k := 0 + (i : Int) + 1 + (j : Int)) (by omega)
          have hne : zs[i] ≠ zs[i + 1 + j] := List.pairwise_iff_getElem.mp hN.1 i (i + 1 + j) (by omega) hij (by omega)
          refine ⟨_, rfl, .inl ⟨rfl, _, SqL.of hd7⟩, ?_⟩
          refine ⟨_, rfl, _, rfl, r, _, _, _, rfl, rfl, SqL.of hr7, ha, _, rfl, _, rfl, r, _, _, _, rfl, rfl, SqL.of hr7, hc, by show 2 ≤ sizeLine; decide, fun t1 n1 => ?_⟩
          have hr8 := same_new (o := .tup [.str zs[i], .str zs[i + 1 + j]]) n1 _ _ hr7
          refine ⟨_, rfl, _, rfl, r, _, _, _, rfl, rfl, SqL.of hr8, hc, _, rfl, _, rfl, r, _, _, _, rfl, rfl, SqL.of hr8, ha, by show 2 ≤ sizeLine; decide, fun t2 n2 => ?_⟩
          refine ⟨by show 2 ≤ sizeLine; decide, fun g ng => ?_⟩
          have s9 := (same_new (o := .tup [.str zs[i], .str zs[i + 1 + j]]) n1).trans ((same_new (o := .tup [.str zs[i + 1 + j], .str zs[i]]) n2).trans (same_new (o := .lst [V.ref t1, V.ref t2]) ng))
          have ht1 := (same_new (o := .lst [V.ref t1, V.ref t2]) ng) _ _ ((same_new (o := .tup [.str zs[i + 1 + j], .str zs[i]]) n2) _ _ (upd_same (H := H7) (a := t1) (o := .tup [.str zs[i], .str zs[i + 1 + j]])))
          have ht2 := (same_new (o := .lst [V.ref t1, V.ref t2]) ng) _ _ (upd_same (H := upd H7 t1 (.tup [.str zs[i], .str zs[i + 1 + j]])) (a := t2) (o := .tup [.str zs[i + 1 + j], .str zs[i]]))
          have hB9 := hB7.same s9
          have ngb : g ≠ b := fun z => by
            obtain ⟨ns, a1, a2, a3, a4, hb1, _⟩ := hB7
            have := ((same_new (o := .tup [.str zs[i], .str zs[i + 1 + j]]) n1).trans (same_new (o := .tup [.str zs[i + 1 + j], .str zs[i]]) n2)) _ _ hb1
            rw [z, this] at ng
            cases ng
          refine ⟨_, rfl, b, l, 2, rfl, hB9, by decide, by decide, fun q H10 hq0 hq1 v10 hB10 => ?_⟩
          obtain ⟨v, hv, hvv⟩ := two_at (x := V.ref t1) (y := V.ref t2) hq0 hq1
          have hd10 := v10 _ _ ndb (s9 _ _ hd7)
          have kt10 := v10.keepT hB9
          have ht1' := kt10 _ _ ht1
          have ht2' := kt10 _ _ ht2
          refine ⟨g, _, q, v, rfl, rfl, SqL.of (v10 _ _ ngb upd_same), hv, ?_⟩
          have hxl : xs6.length ≤ 100 := by
            rw [hP6.1]
            omega
          refine ⟨d, _, _, rfl, rfl, hd10, small1000 (by omega), ?_⟩
          have kt11 : KeepT H10 (upd H10 d (.lst (xs6 ++ [v]))) := KeepT.lst hd10
          have hP10 := (((hP7.same s9).keep kt10).keep kt11)
          have sv10 := (sv7.trans (Sav.of s9)).trans v10
          have hv2 : ∃ p : SS, goodP zs p ∧ Pr (upd H10 d (.lst (xs6 ++ [v]))) v p := by
            rcases hvv with rfl | rfl
            · exact ⟨(zs[i], zs[i + 1 + j]), ⟨List.getElem_mem _, List.getElem_mem _, hne⟩, t1, rfl, kt11 _ _ ht1'⟩
            · exact ⟨(zs[i + 1 + j], zs[i]), ⟨List.getElem_mem _, List.getElem_mem _, fun e => hne e.symm⟩, t2, rfl, kt11 _ _ ht2'⟩
          obtain ⟨p, hpg, hpv⟩ := hv2
          refine ⟨_, _, rfl, sv10.put ndH, hB10.put ndb ndl, ?_, ?_, xs6 ++ [v], ds6 ++ [p], upd_same, hP10.snoc hpv, ?_, ?_⟩
          · rw [upd_ne nrd]
            exact v10 _ _ nrb (s9 _ _ hr7)
          · rw [upd_ne nds.symm]
            exact v10 _ _ nsb (s9 _ _ hs7)
          · intro q hq
            rcases List.mem_append.mp hq with h | h
            · exact hg6 q h
            · rw [List.mem_singleton.mp h]
              exact hpg
          · rw [List.length_append]
            show ds6.length + 1 ≤ i * 8 + (j + 1)
            omega
      · rintro σ H6 ⟨y7, y8, rfl, sv6, hB6, hr6, hs6, xs6, ds6, hd6, hP6, hg6, hl6⟩
        refine ⟨_, _, _, rfl, sv6, hB6, hr6, hs6, xs6, ds6, hd6, hP6, hg6, ?_⟩
        rw [Nat.succ_mul]
        omega
    rintro σ H5 ⟨y6, y7, y8, rfl, sv5, hB5, hr5, hs5, xs5, ds5, hd5, hP5, hg5, hl5⟩
    -- sights
    refine ⟨_, rfl, r, rfl, ⟨_, SqL.of hr5⟩, for_list (K := K) (a := r) (xs := zs.map V.str) (fun i σ H' => ∃ (y6 y7 y8 : Option V) (s : Addr), σ = [some (.ref b), some (.int m), some (.ref r), some (.int th), some (.ref d), some (.ref s), y6, y7, y8, none] ∧ Sav b H5 H' ∧ Box H' b l ∧ s ≠ b ∧ ∃ us ss, H' s = some (.lst us) ∧ PL H' us ss ∧ (∀ p ∈ ss, goodP zs p) ∧ ss.length ≤ i * 8 ∧ (∀ p ∈ ss, p.1 ∈ zs.take i) ∧ ss.Nodup)
      ⟨_, _, _, s, rfl, Sav.refl _ _, hB5, nsb, [], [], hs5, PL.nil, (fun p hp => by cases hp), Nat.le_refl _, (fun p hp => by cases hp), List.nodup_nil⟩ (fun i σ H' _ h => by obtain ⟨_, _, _, _, _, v, _⟩ := h; exact SqL.of (v _ _ nrb hr5)) ?_ ?_⟩
    · rintro i x σ H6 hx ⟨y6, y7, y8, s, rfl, v6, hB6, nsb, us6, ss6, hs6, hP6, hg6, hl6, hf6, hn6⟩
      obtain ⟨a, ea, rfl⟩ := str_at hx
      have hi8 : i < zs.length := (List.getElem?_eq_some_iff.mp ea).1
      have hr6 := v6 _ _ nrb hr5
      refine ⟨_, rfl, _, rfl, r, rfl, ⟨_, SqL.of hr6⟩, fun D nD => ?_⟩
      have nDb := hB6.b1 nD
      have nDl := hB6.l1 nD
      refine it_any (walk_list (K := K) (a := r) (xs := zs.map V.str)) (fun j H' => Sav b H6 H' ∧ Box H' b l ∧ ∃ ys qs, H' D = some (.lst ys) ∧ PL H' ys qs ∧ (∀ p ∈ qs, goodP zs p) ∧ qs.length ≤ j ∧ (∀ p ∈ qs, p.1 = a ∧ p.2 ∈ zs.take j) ∧ qs.Nodup) ⟨Sav.of (same_new nD), hB6.new nD, [], [], upd_same, PL.nil, (fun p hp => by cases hp), Nat.le_refl _, (fun p hp => by cases hp), List.nodup_nil⟩ (fun j H' _ h => SqL.of (h.1 _ _ nrb hr6)) ?_ ?_
      · rintro j x H7 H8 hj ⟨v7, hB7, ys, qs, hD, hPq, hgq, hlq, hfq, hnq⟩ ⟨rfl, hx⟩
        obtain ⟨c, ec, rfl⟩ := str_at hx
        have hj8 : j < zs.length := (List.getElem?_eq_some_iff.mp ec).1
        refine ⟨rfl, ?_⟩
        refine ⟨fun bb H' => Sav b H8 H' ∧ Box H' b l ∧ (bb = true → c ≠ a), ?_, ?_⟩
        · refine ⟨_, rfl, _, rfl, rfl, _, rfl, ?_⟩
          by_cases hca : c = a
          · rw [decide_eq_true (show V.str c = V.str a by rw [hca])]
            exact ⟨Sav.refl _ _, hB7, fun h => by cases h⟩
          · rw [decide_eq_false (fun e => hca (V.str.inj e))]
            refine iteT ?_
            refine ⟨_, rfl, b, l, 5, rfl, hB7, by decide, by decide, fun q H9 _ _ v9 hB9 => ?_⟩
            exact ⟨rfl, _, rfl, v9, hB9, fun _ => hca⟩
        rintro bb H9 ⟨v9, hB9, hbb⟩
        have hD9 := v9 _ _ nDb hD
        have hP9 := hPq.keep (v9.keepT hB7)
        cases bb with
        | false => exact ⟨v7.trans v9, hB9, ys, qs, hD9, hP9, hgq, by omega, (fun p hp => ⟨(hfq p hp).1, take_more (hfq p hp).2⟩), hnq⟩
        | true =>
          have hca := hbb rfl
          refine ⟨_, rfl, _, rfl, by show 2 ≤ sizeLine; decide, fun t nt => ?_⟩
          have s10 := same_new (o := .tup [.str a, .str c]) nt
          have nDt : D ≠ t := ne_of_none hD9 nt
          have yl : ys.length ≤ 100 := by
            rw [hPq.1]
            omega
          have kt : KeepT H9 (upd (upd H9 t (.tup [.str a, .str c])) D (.lst (ys ++ [.ref t]))) := (KeepT.of s10).trans (KeepT.lst (s10 _ _ hD9))
          refine ⟨_, s10 _ _ hD9, small1000 (by omega), ((v7.trans v9).trans (Sav.of s10)).put nD, (hB9.new nt).put nDb nDl, ys ++ [.ref t], qs ++ [(a, c)], upd_same, (hP9.keep kt).snoc ⟨t, rfl, by rw [upd_ne nDt.symm, upd_same]⟩, ?_, ?_, ?_, ?_⟩
          · intro q hq
            rcases List.mem_append.mp hq with h | h
            · exact hgq q h
            · rw [List.mem_singleton.mp h]
              exact ⟨List.mem_of_getElem? ea, List.mem_of_getElem? ec, fun e => hca e.symm⟩
          · rw [List.length_append]
            show qs.length + 1 ≤ j + 1
            omega
          · intro q hq
            rcases List.mem_append.mp hq with h | h
            · exact ⟨(hfq q h).1, take_more (hfq q h).2⟩
            · rw [List.mem_singleton.mp h]
              refine ⟨rfl, ?_⟩
              rw [take_snoc ec]
              exact List.mem_append.mpr (.inr (List.mem_singleton.mpr rfl))
          · refine nodup_snoc hnq fun hm => ?_
            exact nodup_at hN.1 ec (hfq _ hm).2
      rintro H7 ⟨v7, hB7, ys, qs, hD, hPq, hgq, hlq, hfq, hnq⟩
      rw [List.length_map] at hlq
      have hs7 := v7 _ _ nsb hs6
      have hP7 := hP6.keep (v7.keepT hB6)
      have ul : us6.length ≤ 100 := by
        rw [hP6.1]
        omega
      have yl : ys.length ≤ 100 := by
        rw [hPq.1]
        omega
      refine ⟨s, D, _, _, rfl, rfl, hs7, hD, Nat.le_of_lt (small1000 (by omega)), fun g ng => ?_⟩
      have s8 := same_new (o := .lst (us6 ++ ys)) ng
      refine ⟨_, _, _, g, rfl, (v6.trans v7).trans (Sav.of s8), hB7.new ng, hB7.b1 ng, us6 ++ ys, ss6 ++ qs, upd_same, (hP7.same s8).append (hPq.same s8), ?_, ?_, ?_, ?_⟩
      · intro q hq
        rcases List.mem_append.mp hq with h | h
        · exact hg6 q h
        · exact hgq q h
      · rw [List.length_append, Nat.succ_mul]
        omega
      · intro q hq
        rcases List.mem_append.mp hq with h | h
        · exact take_more (hf6 q h)
        · rw [(hfq q h).1, take_snoc ea]
          exact List.mem_append.mpr (.inr (List.mem_singleton.mpr rfl))
      · refine List.nodup_append.mpr ⟨hn6, hnq, fun x hx y hy e => ?_⟩
        subst e
        have h1 := hf6 _ hx
        rw [(hfq _ hy).1] at h1
        exact nodup_at hN.1 ea h1
    rintro σ H6 ⟨y6, y7, y8, s, rfl, v6, hB6, nsb, us6, ss6, hs6, hP6, hg6, hl6, hf6, hn6⟩
    rw [List.length_map] at hl6
    refine ⟨_, rfl, _, rfl, _, rfl, by show 3 ≤ sizeLine; decide, fun t nt => ?_⟩
    have s7 := same_new (o := .tup [V.ref r, V.ref d, V.ref s]) nt
    have sv6 := sv5.trans v6
    have ntb := hB6.b1 nt
    refine k _ t zs ds5 ss6 (sv6.trans (Sav.of s7)) (hB6.new nt) (sv6.free ntb nt) ⟨r, d, s, xs5, us6, nrb, ndb, nsb, upd_same, s7 _ _ (v6 _ _ nrb hr5), s7 _ _ (v6 _ _ ndb hd5), (hP5.keep (v6.keepT hB5)).same s7, s7 _ _ hs6, hP6.same s7⟩ ⟨hN, hz1, hz8, hg5, hg6, ?_, ?_, hn6, hLn⟩ (by omega)
    · have : zs.length * 8 ≤ 8 * 8 := Nat.mul_le_mul_right 8 hz8
      omega
    · have : zs.length * 8 ≤ 8 * 8 := Nat.mul_le_mul_right 8 hz8
      omega
theorem scMade : FnScope ["_law_house_here"] ["_law_house_here"] (defScope sLawMade) := ⟨rfl, rfl, rfl, by decide +kernel, rfl, by decide +kernel, by decide +kernel⟩
theorem ok_made {f C fI : Addr} {fd dI : FuncData} (F : Fun K "_law_made" "_law_made" sLawMade f fd) (mk : Mk K C fI) (GI : FnOk P w K mg base CX0 6 fI dI ["self", "rooms", "doors", "sights"] (spInit K C)) (gC : mg "House" = some (.ref C)) (bI : Binds K dI ["self", "rooms", "doors", "sights"] []) (m_list : mg "list" = none) :
    FnOk P w K mg base CX0 8 f fd ["_law_house_here"] (spMade C) := by
  refine F.ok scMade (fun vs H Q E h => ?_) (fun cdv A outer s H vs Q E hr h => ?_)
  · obtain ⟨t, zs, ds, ss, rfl, _⟩ := h
    rfl
  · obtain ⟨t, zs, ds, ss, rfl, ⟨r, d, s', xs, us, h1, h2, h3, h4, h5, h6⟩, ft, k⟩ := h
    refine ⟨_, pss_one (ps_ret (pe_make mk GI hr (by rfl) gC bI .nil pass0 (pa_cons (pe_callTy call_list_of (by rfl) m_list (by decide +kernel) (pa_cons (pe_ix ix_tup (pv 0) pe_int (fun _ _ => rfl)) pa_nil)) (pa_cons (pe_callTy call_list_of (by rfl) m_list (by decide +kernel) (pa_cons (pe_ix ix_tup (pv 0) pe_int (fun _ _ => rfl)) pa_nil)) (pa_cons (pe_callTy call_list_of (by rfl) m_list (by decide +kernel) (pa_cons (pe_ix ix_tup (pv 0) pe_int (fun _ _ => rfl)) pa_nil)) pa_nil))))), ?_⟩
    refine ⟨_, rfl, t, _, 0, _, rfl, rfl, SqT.of h1, rfl, r, _, rfl, .inl (SqL.of h2), fun r1 n1 => ?_⟩
    have s1 := same_new (o := .lst (zs.map V.str)) n1
    refine ⟨_, rfl, t, _, 1, _, rfl, rfl, SqT.of (s1 _ _ h1), rfl, d, _, rfl, .inl (SqL.of (s1 _ _ h3)), fun d1 n2 => ?_⟩
    have s2 := same_new (o := .lst xs) n2
    have s02 := s1.trans s2
    refine ⟨_, rfl, t, _, 2, _, rfl, rfl, SqT.of (s02 _ _ h1), rfl, s', _, rfl, .inl (SqL.of (s02 _ _ h5)), fun u1 n3 => ?_⟩
    have s3 := same_new (o := .lst us) n3
    have s03 := s02.trans s3
    have g1 := (s2.trans s3) _ _ (upd_same (H := H) (a := r1) (o := .lst (zs.map V.str)))
    have g2 := s3 _ _ (upd_same (H := upd H r1 (.lst (zs.map V.str))) (a := d1) (o := .lst xs))
    intro x dx nx ndx ndxx
    refine ⟨_, x, dx, r1, d1, u1, zs, xs, us, ds, ss, rfl, (same_new ndx).trans (same_new (by rw [upd_ne ndxx.symm]; exact nx)), nx, upd_same, .inl (SqL.of g1), ft.names, ft.eight, .inl (SqL.of g2), h4.same s03, by rw [h4.1]; have := ft.dl; omega, ft.dg, .inl (SqL.of upd_same), h6.same s03, by rw [h6.1]; have := ft.sl; omega, ft.sg, fun H4 s4 hH => ⟨rfl, ?_⟩⟩
    exact k H4 x (s03.trans s4) (s03.free nx) (hH.same (new_up s03 (fun q o _ h2 => h2)))
theorem scLike : FnScope ["_law_found", "_law_due", "_law_one", "_law_other"] ["_law_found", "_law_due"] (defScope sLike) := ⟨rfl, rfl, rfl, by decide +kernel, rfl, by decide +kernel, by decide +kernel⟩
structure LikeT (mg : Str → Option Value) (f : Addr) : Prop where
  isi : mg "isinstance" = none
  list : mg "list" = none
  tuple : mg "tuple" = none
  len : mg "len" = none
  all : mg "all" = none
  zip : mg "zip" = none
  bool : mg "bool" = none
  int : mg "int" = none
  str : mg "str" = none
  me : mg "_law_like" = some (.ref f)
theorem ok_like {f : Addr} {fd : FuncData} (F : Fun K "_law_like" "_law_like" sLike f fd) (bF : Binds K fd ["_law_found", "_law_due"] []) (T : LikeT mg f) : ∀ n : Nat, FnOk P w K mg base CX0 n f fd ["_law_found", "_law_due"] (spLike n)
  | 0 => ⟨fun vs H Q E h => by obtain ⟨v, u, _, z, _⟩ := h; exact z.elim, fun A outer s H args us vs Q E _ _ _ _ h => by obtain ⟨v, u, _, z, _⟩ := h; exact z.elim⟩
  | n + 1 => by
    have G := ok_like F bF T n
    refine F.ok scLike (fun vs H Q E h => ?_) (fun cdv A outer s H vs Q E hr h => ?_)
    · obtain ⟨v, u, rfl, _⟩ := h
      rfl
    · obtain ⟨v, u, rfl, hL, k⟩ := h
      refine ⟨_, pss_cons (ps_if (pt_val (pe_callB call_isiT (by rfl) T.isi (by decide +kernel) (pa_cons (pv 1) (pa_cons (pe_tup (pa_cons (pe_bltn (v := .ty "list") (by rfl) T.list (by decide +kernel) rfl) (pa_cons (pe_bltn (v := .ty "tuple") (by rfl) T.tuple (by decide +kernel) rfl) pa_nil))) pa_nil))))
          (pss_cons (ps_if (PW.pt (pw_or (pt_cmpR op_ne (pe_callB call_isi (by rfl) T.isi (by decide +kernel) (pa_cons (pv 0) (pa_cons (pe_bltn (v := .ty "list") (by rfl) T.list (by decide +kernel) rfl) pa_nil))) (pe_callB call_isi (by rfl) T.isi (by decide +kernel) (pa_cons (pv 1) (pa_cons (pe_bltn (v := .ty "list") (by rfl) T.list (by decide +kernel) rfl) pa_nil))) (nomark _))
              (pw_or1 (pt_cmpR op_ne (pe_callB call_isi (by rfl) T.isi (by decide +kernel) (pa_cons (pv 0) (pa_cons (pe_bltn (v := .ty "tuple") (by rfl) T.tuple (by decide +kernel) rfl) pa_nil))) (pe_callB call_isi (by rfl) T.isi (by decide +kernel) (pa_cons (pv 1) (pa_cons (pe_bltn (v := .ty "tuple") (by rfl) T.tuple (by decide +kernel) rfl) pa_nil))) (nomark _)))))
            (pss_one (ps_ret pe_bl)) pss_nil)
          (pss_one (ps_ret (pe_and (pe_cmpR op_eq (pe_callB call_len_seq (by rfl) T.len PySem.boot_len (pa_cons (pv 0) pa_nil)) (pe_callB call_len_seq (by rfl) T.len PySem.boot_len (pa_cons (pv 1) pa_nil)) (nomark _))
            (pe_one (pe_callB (cr_all rfl) (by rfl) T.all (by decide +kernel) (pa_cons (pe_lc (own := [("_law_one", 2), ("_law_other", 3)]) (g := gTup K 2 (gCons (gName 2) (gCons (gName 3) gNil))) (tt := tYes) rfl scLike.nd (RZ.pi_zipA (by rfl) T.zip (pa_cons (pv 0) (pa_cons (pv 1) pa_nil)))
              (blkOk_by (N := ["_law_found", "_law_due", "_law_one", "_law_other"]) (sc := defScope sLike) (by decide +kernel))
              (fun _ _ _ _ _ => pg_tup rfl (pgs_cons (pg_name (i := 2) scLike.nd rfl (Or.inl rfl)) (pgs_cons (pg_name (i := 3) scLike.nd rfl (Or.inl rfl)) pgs_nil))) (fun _ _ _ _ _ => pts_nil)
              (fun _ _ _ _ _ => pe_call G hr (by rfl) T.me F.kp bF .nil pass0 (pa_cons (pv 2) (pa_cons (pv 3) pa_nil)))) pa_nil)))))))
          pss_nil)
        (pss_cons (ps_if (PW.pt (pw_or (pt_cmpR op_isN (pv 0) pe_non (nomark _)) (pw_or1 (pt_cmpR op_isN (pv 1) pe_non (nomark _)))))
          (pss_one (ps_ret (pe_and (pe_cmpR op_isN (pv 0) pe_non (nomark _)) (pe_one (pe_cmpR op_isN (pv 1) pe_non (nomark _)))))) pss_nil)
        (pss_cons (ps_if (PW.pt (pw_or (pt_cmpR op_ne (pe_callB call_isi (by rfl) T.isi (by decide +kernel) (pa_cons (pv 0) (pa_cons (pe_bltn (v := .ty "bool") (by rfl) T.bool (by decide +kernel) rfl) pa_nil))) (pe_callB call_isi (by rfl) T.isi (by decide +kernel) (pa_cons (pv 1) (pa_cons (pe_bltn (v := .ty "bool") (by rfl) T.bool (by decide +kernel) rfl) pa_nil))) (nomark _))
              (pw_or1 (pt_cmpR op_ne (pe_callB call_isi (by rfl) T.isi (by decide +kernel) (pa_cons (pv 0) (pa_cons (pe_bltn (v := .ty "int") (by rfl) T.int (by decide +kernel) rfl) pa_nil))) (pe_callB call_isi (by rfl) T.isi (by decide +kernel) (pa_cons (pv 1) (pa_cons (pe_bltn (v := .ty "int") (by rfl) T.int (by decide +kernel) rfl) pa_nil))) (nomark _)))))
          (pss_one (ps_ret pe_bl)) pss_nil)
        (pss_one (ps_ret (pe_and (pe_cmpR op_eq (pe_callB call_isi (by rfl) T.isi (by decide +kernel) (pa_cons (pv 0) (pa_cons (pe_bltn (v := .ty "str") (by rfl) T.str (by decide +kernel) rfl) pa_nil))) (pe_callB call_isi (by rfl) T.isi (by decide +kernel) (pa_cons (pv 1) (pa_cons (pe_bltn (v := .ty "str") (by rfl) T.str (by decide +kernel) rfl) pa_nil))) (nomark _))
          (pe_one (pe_cmpR op_eq (pv 0) (pv 1) (nomark _)))))))), ?_⟩
      have kit2 : ∀ (s : String) (r : Bool), kitB s "list" = some r → kitB s "tuple" = some (!r) → PySem.W.kitAny K (.type s) [.type "list", .type "tuple"] = some true := fun s r h1 h2 =>
        kitAny_cons (kit_ty h1) (fun e => kitAny_cons (kit_ty h2) (fun e2 => by rw [e] at e2; cases e2) (fun _ => rfl)) (fun _ => rfl)
      have kit0 : ∀ (s : String), kitB s "list" = some false → kitB s "tuple" = some false → PySem.W.kitAny K (.type s) [.type "list", .type "tuple"] = some false := fun s h1 h2 =>
        kitAny_cons (kit_ty h1) (fun _ => kitAny_cons (kit_ty h2) (fun _ => kitAny_nil) (fun e => by cases e)) (fun e => by cases e)
      rcases hL with ⟨rfl, fl⟩ | ⟨a, b, xs, ys, rfl, rfl, el, e1000, hab, hi⟩
      · -- plain values
        have ty : ∃ s : String, (∀ H : Hp, TyX K H v (.type s)) ∧ (s = "NoneType" ∧ v = .non ∨ v ≠ .non ∧ (s = "bool" ∨ s = "int" ∨ s = "str")) ∧ scal v v = true := by
          cases v with
          | non => exact ⟨"NoneType", fun _ => .base .non, .inl ⟨rfl, rfl⟩, rfl⟩
          | bl x => exact ⟨"bool", fun _ => .base (.bl x), .inr ⟨(fun z => nomatch z), .inl rfl⟩, rfl⟩
          | int x => exact ⟨"int", fun _ => .base (.int x), .inr ⟨(fun z => nomatch z), .inr (.inl rfl)⟩, rfl⟩
          | str x => exact ⟨"str", fun _ => .base (.str x), .inr ⟨(fun z => nomatch z), .inr (.inr rfl)⟩, rfl⟩
          | _ => cases fl
        obtain ⟨s, ts, hs, hsc⟩ := ty
        have kL : kitB s "list" = some false := by
          rcases hs with ⟨rfl, _⟩ | ⟨_, rfl | rfl | rfl⟩ <;> decide +kernel
        have kT : kitB s "tuple" = some false := by
          rcases hs with ⟨rfl, _⟩ | ⟨_, rfl | rfl | rfl⟩ <;> decide +kernel
        refine ⟨_, rfl, by show 2 ≤ sizeLine; decide, fun tp ntp => ?_⟩
        have sm := same_new (o := .tup [V.ty "list", V.ty "tuple"]) ntp
        refine ⟨v, tp, _, _, [.type "list", .type "tuple"], false, rfl, upd_same, .cons (.ty _) (.cons (.ty _) .nil), ts _, kit0 s kL kT, false, rfl, iteF ?_⟩
        refine ⟨_, rfl, rfl, _, rfl, ite2 (fun e => ?_) (fun e => ?_)⟩
        · have ev : v = .non := of_decide_eq_true e
          refine iteT ?_
          refine ⟨_, rfl, rfl, _, rfl, ?_⟩
          rw [decide_eq_true ev]
          refine iteT ⟨_, rfl, rfl, ?_⟩
          rw [decide_eq_true ev]
          exact k _ sm
        · have ev : ¬ v = .non := fun z => e (decide_eq_true z)
          have kBI : ∃ r q p, kitB s "bool" = some r ∧ kitB s "int" = some q ∧ kitB s "str" = some p := by
            rcases hs with ⟨_, z⟩ | ⟨_, rfl | rfl | rfl⟩
            · exact absurd z ev
            · exact ⟨true, true, false, by decide +kernel, by decide +kernel, by decide +kernel⟩
            · exact ⟨false, true, false, by decide +kernel, by decide +kernel, by decide +kernel⟩
            · exact ⟨false, false, true, by decide +kernel, by decide +kernel, by decide +kernel⟩
          obtain ⟨r, q, p, kb, ki, ks⟩ := kBI
          refine ⟨_, rfl, rfl, _, rfl, ite2 (fun z => absurd (of_decide_eq_true z) ev) (fun _ => ?_)⟩
          refine ⟨_, rfl, v, _, _, _, r, rfl, .ty _, ts _, kit_ty kb, _, rfl, v, _, _, _, r, rfl, .ty _, ts _, kit_ty kb, rfl, _, rfl, ?_⟩
          rw [decide_eq_true (show V.bl r = V.bl r from rfl)]
          refine iteF ?_
          refine ⟨_, rfl, v, _, _, _, q, rfl, .ty _, ts _, kit_ty ki, _, rfl, v, _, _, _, q, rfl, .ty _, ts _, kit_ty ki, rfl, _, rfl, ?_⟩
          rw [decide_eq_true (show V.bl q = V.bl q from rfl)]
          refine iteF ?_
          refine ⟨_, rfl, v, _, _, _, p, rfl, .ty _, ts _, kit_ty ks, _, rfl, v, _, _, _, p, rfl, .ty _, ts _, kit_ty ks, rfl, _, rfl, ?_⟩
          rw [decide_eq_true (show V.bl p = V.bl p from rfl)]
          refine iteT ⟨_, rfl, _, rfl, hsc, ?_⟩
          rw [decide_eq_true (show v = v from rfl)]
          exact k _ sm
      · -- a list or a tuple
        have both : ∃ (s : String) (r : Bool), (s = "list" ∧ r = true ∨ s = "tuple" ∧ r = false) ∧ (∀ H' : Hp, Same H H' → TyX K H' (.ref a) (.type s) ∧ TyX K H' (.ref b) (.type s)) ∧
            (∀ H' : Hp, Same H H' → (SqL K H' a xs ∨ SqT K H' a xs) ∧ (SqL K H' b ys ∨ SqT K H' b ys)) := by
          rcases hab with ⟨ha, hb⟩ | ⟨ha, hb⟩
          · exact ⟨"list", true, .inl ⟨rfl, rfl⟩, fun H' sm => ⟨.base (.lst (sm _ _ ha)), .base (.lst (sm _ _ hb))⟩, fun H' sm => ⟨.inl (SqL.of (sm _ _ ha)), .inl (SqL.of (sm _ _ hb))⟩⟩
          · exact ⟨"tuple", false, .inr ⟨rfl, rfl⟩, fun H' sm => ⟨.base (.tup (sm _ _ ha)), .base (.tup (sm _ _ hb))⟩, fun H' sm => ⟨.inr (SqT.of (sm _ _ ha)), .inr (SqT.of (sm _ _ hb))⟩⟩
        obtain ⟨s, r, hsr, ts, sq⟩ := both
        have kL : kitB s "list" = some r := by
          rcases hsr with ⟨rfl, rfl⟩ | ⟨rfl, rfl⟩ <;> decide +kernel
        have kT : kitB s "tuple" = some (!r) := by
          rcases hsr with ⟨rfl, rfl⟩ | ⟨rfl, rfl⟩ <;> decide +kernel
        refine ⟨_, rfl, by show 2 ≤ sizeLine; decide, fun tp ntp => ?_⟩
        have sm := same_new (o := .tup [V.ty "list", V.ty "tuple"]) ntp
        refine ⟨.ref b, tp, _, _, [.type "list", .type "tuple"], true, rfl, upd_same, .cons (.ty _) (.cons (.ty _) .nil), (ts _ sm).2, kit2 s r kL kT, true, rfl, iteT ?_⟩
        refine ⟨_, rfl, _, _, _, _, r, rfl, .ty _, (ts _ sm).1, kit_ty kL, _, rfl, _, _, _, _, r, rfl, .ty _, (ts _ sm).2, kit_ty kL, rfl, _, rfl, ?_⟩
        rw [decide_eq_true (show V.bl r = V.bl r from rfl)]
        refine iteF ?_
        refine ⟨_, rfl, _, _, _, _, (!r), rfl, .ty _, (ts _ sm).1, kit_ty kT, _, rfl, _, _, _, _, (!r), rfl, .ty _, (ts _ sm).2, kit_ty kT, rfl, _, rfl, ?_⟩
        rw [decide_eq_true (show V.bl (!r) = V.bl (!r) from rfl)]
        refine iteF ?_
        refine ⟨_, rfl, a, xs, rfl, (sq _ sm).1, _, rfl, b, ys, rfl, (sq _ sm).2, rfl, _, rfl, ?_⟩
        rw [decide_eq_true (show V.int (xs.length : Nat) = V.int (ys.length : Nat) by rw [el])]
        refine iteT ?_
        -- the comprehension
        refine ⟨_, rfl, _, rfl, a, b, xs, ys, rfl, ?_⟩
        rcases hab with ⟨ha, hb⟩ | ⟨ha, hb⟩
        · refine .inl ⟨SqL.of (sm _ _ ha), SqL.of (sm _ _ hb), fun D nD => lc_it (walk_zip (n := xs.length) (xs := xs) (ys := ys) (by rw [← el, Nat.min_self])) (fun i H' => Same (upd H tp (.tup [V.ty "list", V.ty "tuple"])) H' ∧ H' D = some (.lst ((List.replicate i true).map V.bl))) ?_ ?_ ?_ ?_⟩
          · exact ⟨same_new nD, upd_same⟩
          · exact fun i H' _ h => ⟨SqL.of (h.1 _ _ (sm _ _ ha)), SqL.of (h.1 _ _ (sm _ _ hb))⟩
          · rintro i x H1 H2 hin ⟨s1, hD⟩ ⟨tq, x1, y1, rfl, ntq, rfl, f1, f2⟩
            have s2 := same_new (o := .tup [x1, y1]) ntq
            refine ⟨tq, [x1, y1], rfl, SqT.of upd_same, rfl, x1, [y1], rfl, y1, [], rfl, rfl, rfl, ?_⟩
            refine ⟨x1, rfl, y1, rfl, x1, y1, rfl, (hi i x1 y1 f1 f2).same (sm.trans (s1.trans s2)), fun H3 s3 => ?_⟩
            have hD3 : H3 D = some (.lst ((List.replicate i true).map V.bl)) := s3 _ _ (s2 _ _ hD)
            refine ⟨_, hD3, ?_, fun q o hq => ?_, ?_⟩
            · rw [List.length_map, List.length_replicate]
              exact small1000 (by omega)
            · have nq : q ≠ D := fun z => by
                rw [z, nD] at hq
                cases hq
              rw [upd_ne nq]
              exact s3 _ _ (s2 _ _ (s1 _ _ hq))
            · rw [upd_same, List.replicate_succ', List.map_append]
              rfl
          · rintro H1 ⟨s1, hD⟩
            refine ⟨D, _, rfl, SqL.of hD, ?_⟩
            rw [all_true]
            exact k _ (sm.trans s1)
        · refine .inr ⟨SqT.of (sm _ _ ha), SqT.of (sm _ _ hb), fun D nD => lc_it (walk_zipT (n := xs.length) (xs := xs) (ys := ys) (by rw [← el, Nat.min_self])) (fun i H' => Same (upd H tp (.tup [V.ty "list", V.ty "tuple"])) H' ∧ H' D = some (.lst ((List.replicate i true).map V.bl))) ?_ ?_ ?_ ?_⟩
          · exact ⟨same_new nD, upd_same⟩
          · exact fun i H' _ h => ⟨SqT.of (h.1 _ _ (sm _ _ ha)), SqT.of (h.1 _ _ (sm _ _ hb))⟩
          · rintro i x H1 H2 hin ⟨s1, hD⟩ ⟨tq, x1, y1, rfl, ntq, rfl, f1, f2⟩
            have s2 := same_new (o := .tup [x1, y1]) ntq
            refine ⟨tq, [x1, y1], rfl, SqT.of upd_same, rfl, x1, [y1], rfl, y1, [], rfl, rfl, rfl, ?_⟩
            refine ⟨x1, rfl, y1, rfl, x1, y1, rfl, (hi i x1 y1 f1 f2).same (sm.trans (s1.trans s2)), fun H3 s3 => ?_⟩
            have hD3 : H3 D = some (.lst ((List.replicate i true).map V.bl)) := s3 _ _ (s2 _ _ hD)
            refine ⟨_, hD3, ?_, fun q o hq => ?_, ?_⟩
            · rw [List.length_map, List.length_replicate]
              exact small1000 (by omega)
            · have nq : q ≠ D := fun z => by
                rw [z, nD] at hq
                cases hq
              rw [upd_ne nq]
              exact s3 _ _ (s2 _ _ (s1 _ _ hq))
            · rw [upd_same, List.replicate_succ', List.map_append]
              rfl
          · rintro H1 ⟨s1, hD⟩
            refine ⟨D, _, rfl, SqL.of hD, ?_⟩
            rw [all_true]
            exact k _ (sm.trans s1)
end
end Dk
namespace Dk
open PySem L2
section
variable {P : Program} {w : World} {K : PySem.W.Frag} {mg : Str → Option Value} {base : Heap}
theorem scIB : FnScope ["number"] ["number"] (defScope sIsBeat) := ⟨rfl, rfl, rfl, by decide +kernel, rfl, by decide +kernel, by decide +kernel⟩
theorem ok_isbeat {f : Addr} {fd : FuncData} (F : Fun K "is_beat" "is_beat" sIsBeat f fd) {tk : Tok} (cF : mg "FARTHEST" = some (.int 1000000000 tk)) : FnOk P w K mg base CX0 1 f fd ["number"] spIsBeat := by
  refine F.ok scIB (fun vs H Q E h => ?_) (fun cdv A outer s H vs Q E hr h => ?_)
  · obtain ⟨b, rfl, _⟩ := h
    rfl
  · obtain ⟨b, rfl, hb, k⟩ := h
    refine ⟨_, pss_one (ps_ret (pe_chain op_le op_le (pe_un un_neg (pe_glob (v := .int 1000000000) (by rfl) cF ⟨_, rfl⟩)) (pv 0) (pe_glob (v := .int 1000000000) (by rfl) cF ⟨_, rfl⟩))), ?_⟩
    refine ⟨_, rfl, _, rfl, _, _, rfl, rfl, _, rfl, ?_⟩
    rw [decide_eq_true (show -(1000000000 : Int) ≤ b from hb.1)]
    refine iteT ⟨_, _, rfl, rfl, ?_⟩
    show Q (.bl (decide (b ≤ (1000000000 : Int)))) H
    rw [decide_eq_true (show b ≤ (1000000000 : Int) from hb.2)]
    exact k
theorem scNB : FnScope ["beat"] ["beat"] (defScope sNeedBeat) := ⟨rfl, rfl, rfl, by decide +kernel, rfl, by decide +kernel, by decide +kernel⟩
theorem ok_needbeat {f fIb : Addr} {fd dIb : FuncData} (F : Fun K "need_beat" "need_beat" sNeedBeat f fd) (FIb : Fun K "is_beat" "is_beat" sIsBeat fIb dIb) (bIb : Binds K dIb ["number"] []) (gIb : mg "is_beat" = some (.ref fIb)) (GIb : FnOk P w K mg base CX0 1 fIb dIb ["number"] spIsBeat) : FnOk P w K mg base CX0 2 f fd ["beat"] spNeedBeat := by
  refine F.ok scNB (fun vs H Q E h => ?_) (fun cdv A outer s H vs Q E hr h => ?_)
  · obtain ⟨b, rfl, _⟩ := h
    rfl
  · obtain ⟨b, rfl, hb, k⟩ := h
    refine ⟨_, pss_one (ps_if (pt_not (pt_val (pe_call GIb hr (by rfl) gIb FIb.kp bIb .nil pass0 (pa_cons (pv 0) pa_nil)))) (pss_one (ps_never)) pss_nil), ?_⟩
    refine ⟨_, rfl, b, rfl, hb, ?_⟩
    exact ⟨true, rfl, iteF k⟩
theorem scPN : FnScope ["self", "post", "names"] ["self", "post"] (defScope sc_post_number) := ⟨rfl, rfl, rfl, by decide +kernel, rfl, by decide +kernel, by decide +kernel⟩
theorem ok_postno {f C CS fNo : Addr} {fd dNo : FuncData} (F : Fun K "post_number" "Scene.post_number" sc_post_number f fd) (T : STxt K CS) (FNo : Fun K "names_of" "names_of" sNamesOf fNo dNo) (bNo : Binds K dNo ["rows"] []) (gNo : mg "names_of" = some (.ref fNo)) (GNo : FnOk P w K mg base CX0 1 fNo dNo ["rows"] spNamesOf) : FnOk P w K mg base CX0 2 f fd ["self", "post"] (spPostNo C CS) := by
  refine F.ok scPN (fun vs H Q E h => ?_) (fun cdv A outer s H vs Q E hr h => ?_)
  · obtain ⟨sc, zs, ds, ss, ps, ws, mt, rl, W, i, q, rfl, _⟩ := h
    rfl
  · obtain ⟨sc, zs, ds, ss, ps, ws, mt, rl, W, i, q, rfl, hS, hq, k⟩ := h
    refine ⟨_, pss_cons (ps_set (i := 2) scPN.nd rfl (Or.inl rfl) (pe_call GNo hr (by rfl) gNo FNo.kp bNo .nil pass0 (pa_cons (pe_fld (pv 0) rfl) pa_nil)))
      (pss_cons (ps_if (pt_cmpR op_notIn_seq (pv 1) (pv 2) (by rfl)) (pss_one (ps_never)) pss_nil)
      (pss_one (ps_ret (pe_bm PySem.F.plainAttrs_list PySem.F.slot_list_index PySem.F.type_list_index mt_index (pv 2) (pa_cons (pv 1) pa_nil))))), ?_⟩
    obtain ⟨ok, dx, h, p, w', o, hd, l, m, xs, ys, os, ls, ms, a⟩ := id hS
    have en : (ps.map (·.1))[i]? = some q.1 := by rw [List.getElem?_map, hq]; rfl
    have l5 := ok.pok.five
    refine ⟨_, rfl, sc, CS, dx, _, _, rfl, a.obj, T.cl, T.n_post_rows, sfl_post_rows, p, xs, _, rfl, a.fp, PsL.names a.fps, by rw [a.fps.1]; omega, fun H1 n s1 nn hn => ?_⟩
    refine ⟨_, rfl, _, rfl, n, _, rfl, .inl (SqL.of hn), rfl, flat_all _, _, rfl, ?_⟩
    show if (!inV (.str q.1) ((ps.map (·.1)).map V.str)) = true then _ else _
    rw [in_strs, decide_eq_true (List.mem_of_getElem? en)]
    refine iteF ⟨_, rfl, .inl ⟨rfl, _, SqL.of hn⟩, _, rfl, n, _, _, i, .str q.1, rfl, rfl, SqL.of hn, rfl, flat_all _, by rw [List.getElem?_map, en]; rfl, by show (q.1 == q.1) = true; simp, fun j z' hj hz => ?_, k H1 s1⟩
    obtain ⟨z, ez, rfl⟩ := str_at hz
    have := nodup_ne ok.pok.names.1 ez en (by omega)
    show (z == q.1) = false
    simpa using this
theorem scDRoomsOf : FnScope ["self", "post"] ["self", "post"] (defScope sc_rooms_of) := ⟨rfl, rfl, rfl, by decide +kernel, rfl, by decide +kernel, by decide +kernel⟩
theorem ok_roomsof {f C CS fPn : Addr} {fd dPn : FuncData} (F : Fun K "rooms_of" "Scene.rooms_of" sc_rooms_of f fd) (T : STxt K CS) (mPn : Meth K CS "post_number" fPn) (bPn : Binds K dPn ["self", "post"] []) (GPn : FnOk P w K mg base CX0 2 fPn dPn ["self", "post"] (spPostNo C CS)) : FnOk P w K mg base CX0 3 f fd ["self", "post"] (spRoomsOf C CS) := by
  refine F.ok scDRoomsOf (fun vs H Q E h => ?_) (fun cdv A outer s H vs Q E hr h => ?_)
  · obtain ⟨sc, zs, ds, ss, ps, ws, mt, rl, W, i, q, rfl, _⟩ := h
    rfl
  · obtain ⟨sc, zs, ds, ss, ps, ws, mt, rl, W, i, q, rfl, hS, hq, k⟩ := h
    refine ⟨_, pss_one (ps_ret (pe_ix ix_tup (pe_ix ix_list (pe_fld (pv 0) rfl) (pe_meth (pv 0) T.cl mPn GPn hr bPn .nil pass0 (pa_cons (pv 1) pa_nil)) (fun _ _ => rfl)) pe_int (fun _ _ => rfl))), ?_⟩
    obtain ⟨ok, dx, h, p, w', o, hd, l, m, xs, ys, os, ls, ms, a⟩ := id hS
    obtain ⟨x, ex, q1, t, rfl, hq1, ht⟩ := a.fps.of hq
    refine ⟨_, rfl, sc, CS, dx, _, _, rfl, a.obj, T.cl, T.n_post_rows, sfl_post_rows, _, rfl, sc, dx, _, rfl, a.obj, sf_no (by decide +kernel), _, rfl, sc, zs, ds, ss, ps, ws, mt, rl, W, i, q, rfl, hS, hq, fun H1 s1 => ?_⟩
    refine ⟨p, _, _, _, rfl, rfl, SqL.of (s1 _ _ a.fp), atI_nat ex, q1, _, 1, _, rfl, rfl, SqT.of (s1 _ _ hq1), atI_nat (j := 1) rfl, ?_⟩
    exact k H1 t s1 (s1 _ _ ht)
theorem scDDelayOf : FnScope ["self", "post"] ["self", "post"] (defScope sc_delay_of) := ⟨rfl, rfl, rfl, by decide +kernel, rfl, by decide +kernel, by decide +kernel⟩
theorem ok_delayof {f C CS fPn : Addr} {fd dPn : FuncData} (F : Fun K "delay_of" "Scene.delay_of" sc_delay_of f fd) (T : STxt K CS) (mPn : Meth K CS "post_number" fPn) (bPn : Binds K dPn ["self", "post"] []) (GPn : FnOk P w K mg base CX0 2 fPn dPn ["self", "post"] (spPostNo C CS)) : FnOk P w K mg base CX0 3 f fd ["self", "post"] (spDelayOf C CS) := by
  refine F.ok scDDelayOf (fun vs H Q E h => ?_) (fun cdv A outer s H vs Q E hr h => ?_)
  · obtain ⟨sc, zs, ds, ss, ps, ws, mt, rl, W, i, q, rfl, _⟩ := h
    rfl
  · obtain ⟨sc, zs, ds, ss, ps, ws, mt, rl, W, i, q, rfl, hS, hq, k⟩ := h
    refine ⟨_, pss_one (ps_ret (pe_ix ix_tup (pe_ix ix_list (pe_fld (pv 0) rfl) (pe_meth (pv 0) T.cl mPn GPn hr bPn .nil pass0 (pa_cons (pv 1) pa_nil)) (fun _ _ => rfl)) pe_int (fun _ _ => rfl))), ?_⟩
    obtain ⟨ok, dx, h, p, w', o, hd, l, m, xs, ys, os, ls, ms, a⟩ := id hS
    obtain ⟨x, ex, q1, t, rfl, hq1, ht⟩ := a.fps.of hq
    refine ⟨_, rfl, sc, CS, dx, _, _, rfl, a.obj, T.cl, T.n_post_rows, sfl_post_rows, _, rfl, sc, dx, _, rfl, a.obj, sf_no (by decide +kernel), _, rfl, sc, zs, ds, ss, ps, ws, mt, rl, W, i, q, rfl, hS, hq, fun H1 s1 => ?_⟩
    refine ⟨p, _, _, _, rfl, rfl, SqL.of (s1 _ _ a.fp), atI_nat ex, q1, _, 2, _, rfl, rfl, SqT.of (s1 _ _ hq1), atI_nat (j := 2) rfl, ?_⟩
    exact k H1 s1
theorem scWh : FnScope ["self", "post", "beat", "rooms"] ["self", "post", "beat"] (defScope sc_where) := ⟨rfl, rfl, rfl, by decide +kernel, rfl, by decide +kernel, by decide +kernel⟩
theorem ok_where {f C CS fNb fPl fRo fDe : Addr} {fd dNb dPl dRo dDe : FuncData} (F : Fun K "where" "Scene.where" sc_where f fd) (T : STxt K CS) (FNb : Fun K "need_beat" "need_beat" sNeedBeat fNb dNb) (bNb : Binds K dNb ["beat"] []) (gNb : mg "need_beat" = some (.ref fNb)) (GNb : FnOk P w K mg base CX0 2 fNb dNb ["beat"] spNeedBeat) (FPl : FunP K fPl dPl) (gPl : mg "place" = some (.ref fPl)) (GPl : FnOk P w K mg base CX0 1 fPl dPl ["rooms", "beat", "delay"] (spPlace K)) (mRo : Meth K CS "rooms_of" fRo) (bRo : Binds K dRo ["self", "post"] []) (GRo : FnOk P w K mg base CX0 3 fRo dRo ["self", "post"] (spRoomsOf C CS)) (mDe : Meth K CS "delay_of" fDe) (bDe : Binds K dDe ["self", "post"] []) (GDe : FnOk P w K mg base CX0 3 fDe dDe ["self", "post"] (spDelayOf C CS)) : FnOk P w K mg base CX0 4 f fd ["self", "post", "beat"] (spWhere C CS) := by
  refine F.ok scWh (fun vs H Q E h => ?_) (fun cdv A outer s H vs Q E hr h => ?_)
  · obtain ⟨sc, zs, ds, ss, ps, ws, mt, rl, W, i, q, b, rfl, _⟩ := h
    rfl
  · obtain ⟨sc, zs, ds, ss, ps, ws, mt, rl, W, i, q, b, rfl, hS, hq, hb, k⟩ := h
    refine ⟨_, pss_cons (ps_set (i := 3) scWh.nd rfl (Or.inl rfl) (pe_meth (pv 0) T.cl mRo GRo hr bRo .nil pass0 (pa_cons (pv 1) pa_nil)))
      (pss_cons (ps_expr (pe_call GNb (hr.mono (by decide)) (by rfl) gNb FNb.kp bNb .nil pass0 (pa_cons (pv 2) pa_nil)))
      (pss_one (ps_ret (pe_callN GPl (hr.mono (by decide)) (by rfl) gPl FPl.kp (bindk_place FPl) pass0 (pa_cons (pv 3) (pa_cons (pv 2) pa_nil)) (pk_cons (pe_meth (pv 0) T.cl mDe GDe hr bDe .nil pass0 (pa_cons (pv 1) pa_nil)) pk_nil))))), ?_⟩
    obtain ⟨ok, dx, h, p, w', o, hd, l, m, xs, ys, os, ls, ms, a⟩ := id hS
    have r0 := (ok.pok.rnd q (List.mem_of_getElem? hq)).one
    refine ⟨_, rfl, sc, dx, _, rfl, a.obj, sf_no (by decide +kernel), _, rfl, sc, zs, ds, ss, ps, ws, mt, rl, W, i, q, rfl, hS, hq, fun H1 t s1 ht => ?_⟩
    refine ⟨_, rfl, b, rfl, hb, ?_⟩
    refine ⟨_, rfl, _, rfl, _, rfl, sc, dx, _, rfl, s1 _ _ a.obj, sf_no (by decide +kernel), _, rfl, sc, zs, ds, ss, ps, ws, mt, rl, W, i, q, rfl, hS.same s1, hq, fun H2 s2 => ?_⟩
    refine ⟨rfl, rfl, t, _, _, _, rfl, .inr (SqT.of (s2 _ _ ht)), by rw [List.length_map]; exact r0, ?_⟩
    rw [plc_str r0]
    exact k H2 (s1.trans s2)
end
end Dk
namespace Dk
open PySem L2
section
variable {P : Program} {w : World} {K : PySem.W.Frag} {mg : Str → Option Value} {base : Heap}
theorem scNSe : FnScope ["house", "size", "sightings", "beat", "room", "there"] ["house", "size", "sightings"] (defScope sNeedSeen) := ⟨rfl, rfl, rfl, by decide +kernel, rfl, by decide +kernel, by decide +kernel⟩
theorem ok_needseen {f C fNb fNe : Addr} {fd dNb dNe : FuncData} (F : Fun K "need_seen" "need_seen" sNeedSeen f fd) {tk : Tok} (FNb : Fun K "need_beat" "need_beat" sNeedBeat fNb dNb) (bNb : Binds K dNb ["beat"] []) (gNb : mg "need_beat" = some (.ref fNb)) (GNb : FnOk P w K mg base CX0 2 fNb dNb ["beat"] spNeedBeat) (FNe : Fun K "need_room" "need_room" sNeed fNe dNe) (bNe : Binds K dNe ["house", "room"] []) (gNe : mg "need_room" = some (.ref fNe)) (GNe : FnOk P w K mg base CX0 2 fNe dNe ["house", "room"] (spNeed C)) (cR : mg "MOST_ROUND" = some (.int 6 tk)) : FnOk P w K mg base CX0 3 f fd ["house", "size", "sightings"] (spNeedSeen K C) := by
  refine F.ok scNSe (fun vs H Q E h => ?_) (fun cdv A outer s H vs Q E hr h => ?_)
  · obtain ⟨h, p, zs, bh, vw, n, xs, sg, rfl, _⟩ := h
    rfl
  · obtain ⟨h, p, zs, bh, vw, n, xs, sg, rfl, hH, n1, n6, hS, hP, ok, k⟩ := h
    refine ⟨_, pss_cons (ps_if (pt_not (pt_chain op_le op_le pe_int (pv 1) (pe_glob (v := .int 6) (by rfl) cR ⟨_, rfl⟩))) (pss_one (ps_never)) pss_nil)
      (pss_one (ps_for PassesOwn.never rfl (pi_any (pi_list (pv 2)) (pi_tup (pv 2))) (pg_tup rfl (pgs_cons (pg_name (i := 3) scNSe.nd rfl (Or.inl rfl)) (pgs_cons (pg_name (i := 4) scNSe.nd rfl (Or.inl rfl)) (pgs_cons (pg_name (i := 5) scNSe.nd rfl (Or.inl rfl)) pgs_nil))))
      (pss_cons (ps_expr (pe_call GNb hr (by rfl) gNb FNb.kp bNb .nil pass0 (pa_cons (pv 3) pa_nil)))
      (pss_one (ps_expr (pe_call GNe hr (by rfl) gNe FNe.kp bNe .nil pass0 (pa_cons (pv 0) (pa_cons (pv 4) pa_nil)))))))), ?_⟩
    refine ⟨_, rfl, _, _, rfl, rfl, _, rfl, ?_⟩
    rw [decide_eq_true (show (1 : Int) ≤ ((n : Nat) : Int) by omega)]
    refine iteT ⟨_, _, rfl, rfl, _, rfl, ?_⟩
    rw [decide_eq_true (show ((n : Nat) : Int) ≤ 6 by omega)]
    refine iteF ?_
    refine for_sq hS rfl (fun i σ H' => ∃ y3 y4 y5, σ = [some (.ref h), some (.int ((n : Nat) : Int)), some (.ref p), y3, y4, y5] ∧ Same H H') ⟨_, _, _, rfl, fun _ _ z => z⟩ (fun i σ H' z => by obtain ⟨_, _, _, _, z⟩ := z; exact z) ?_ ?_
    · rintro i x σ H' hx ⟨y3, y4, y5, rfl, s1⟩
      obtain ⟨⟨bt, rm, th⟩, es, q, rfl, hq⟩ := (SgL.same hP s1).at hx
      have sm := List.mem_of_getElem? es
      refine ⟨q, _, rfl, SqT.of hq, rfl, _, _, rfl, _, _, rfl, _, _, rfl, rfl, ?_⟩
      refine ⟨_, rfl, bt, rfl, ok.bt _ sm, ?_⟩
      exact ⟨_, rfl, _, rfl, h, zs, rm, rfl, (hH.same s1).nmd, ok.rm _ sm, _, _, _, rfl, s1⟩
    · rintro σ H' ⟨_, _, _, rfl, s1⟩
      exact k H' s1
theorem scIsL : FnScope ["size", "sightings", "at", "room", "beat", "seen", "there"] ["size", "sightings", "at", "room"] (defScope sIsLeft) := ⟨rfl, rfl, rfl, by decide +kernel, rfl, by decide +kernel, by decide +kernel⟩
theorem ok_isleft {f : Addr} {fd : FuncData} (F : Fun K "is_left" "is_left" sIsLeft f fd) (m_all : mg "all" = none) : FnOk P w K mg base CX0 1 f fd ["size", "sightings", "at", "room"] (spIsLeft K) := by
  refine F.ok scIsL (fun vs H Q E h => ?_) (fun cdv A outer s H vs Q E hr h => ?_)
  · obtain ⟨p, n, i, xs, sg, r, rfl, _⟩ := h
    rfl
  · obtain ⟨p, n, i, xs, sg, r, rfl, n1, hS, hP, sl, k⟩ := h
    refine ⟨_, pss_one (ps_ret (pe_callB (cr_all rfl) (by rfl) m_all (by decide +kernel) (pa_cons (pe_lc (own := [("beat", 4), ("seen", 5), ("there", 6)]) (g := gTup K 3 (gCons (gName 4) (gCons (gName 5) (gCons (gName 6) gNil)))) (tt := tTest (tOp rEq (tOp (rI (fun _ j => 0 < j) fun i j => .int (i % j)) (tVar 4) (tVar 0)) (tVar 2))) (te := tOp rEq (tOp rEq (tVar 3) (tVar 5)) (tVar 6)) rfl scIsL.nd (pi_any (pi_list (pv 1)) (pi_tup (pv 1))) (blkOk_by (N := ["size", "sightings", "at", "room", "beat", "seen", "there"]) (sc := defScope sIsLeft) (by decide +kernel)) (fun _ _ _ _ _ => (pg_tup rfl (pgs_cons (pg_name (i := 4) scIsL.nd rfl (Or.inl rfl)) (pgs_cons (pg_name (i := 5) scIsL.nd rfl (Or.inl rfl)) (pgs_cons (pg_name (i := 6) scIsL.nd rfl (Or.inl rfl)) pgs_nil))))) (fun _ _ _ _ _ => pts_one (pt_cmpR op_eq (pe_op op_mod (pv 4) (pv 0)) (pv 2) (nomark _))) (fun _ _ _ _ _ => (pe_cmpR op_eq (pe_cmpR op_eq (pv 3) (pv 5) (nomark _)) (pv 6) (nomark _)))) pa_nil))), ?_⟩
    rcases hS with hS | hS
    · refine .inl ⟨_, rfl, p, rfl, ⟨_, hS⟩, fun D nD => ?_⟩
      refine it_any (walk_list (K := K) (a := p) (xs := xs)) (fun j H' => Same H H' ∧ H' D = some (.lst ((((sg.take j).filter (atP n i)).map (agr r)).map V.bl))) ⟨same_new nD, upd_same⟩ (fun j H' _ z => Same.seq z.1 hS) ?_ ?_
      · rintro j x H1 H2 hj ⟨s1, hD⟩ ⟨rfl, hx⟩
        obtain ⟨⟨bt, rm, th⟩, es, q, rfl, hq⟩ := (SgL.same hP s1).at hx
        have ef := filter_takeG' (f := atP n i) es
        refine ⟨q, _, rfl, SqT.of hq, rfl, _, _, rfl, _, _, rfl, _, _, rfl, rfl, rfl, ?_⟩
        refine ⟨_, rfl, _, rfl, _, _, rfl, rfl, by omega, _, rfl, rfl, _, rfl, ?_⟩
        have ed : decide (V.int (bt % (n : Int)) = V.int ((i : Nat) : Int)) = atP n i (bt, rm, th) := by
          unfold atP
          rw [Bool.eq_iff_iff, decide_eq_true_eq, decide_eq_true_eq]
          exact ⟨fun z => V.int.inj z, fun z => by rw [z]⟩
        rw [ed]
        refine ite2 (fun e => ?_) (fun e => ?_)
        · refine ⟨_, rfl, _, rfl, rfl, _, rfl, rfl, _, hD, small1000 (by rw [List.length_map, List.length_map]; exact Nat.le_trans (List.length_filter_le ..) (by rw [List.length_take]; omega)), same_put s1 nD, ?_⟩
          have eb : V.bl (decide (V.bl (decide (V.str r = V.str rm)) = V.bl th)) = V.bl (agr r (bt, rm, th)) := by
            unfold agr
            have e1 : decide (V.str r = V.str rm) = decide (r = rm) := by
              rw [Bool.eq_iff_iff, decide_eq_true_eq, decide_eq_true_eq]
              exact ⟨fun z => V.str.inj z, fun z => by rw [z]⟩
            rw [e1]
            congr 1
            rw [Bool.eq_iff_iff, decide_eq_true_eq, decide_eq_true_eq]
            exact ⟨fun z => V.bl.inj z, fun z => by rw [z]⟩
          rw [upd_same, ef, if_pos e, List.map_append, List.map_append, eb]
          rfl
        · refine ⟨s1, ?_⟩
          rw [hD, ef, if_neg e, List.append_nil]
      · rintro H1 ⟨s1, hD⟩
        rw [hP.1, List.take_length] at hD
        have e : ((sg.filter (atP n i)).map (agr r)).all id = isL n sg i r := by unfold isL; rw [List.all_map]; rfl
        refine ⟨D, _, rfl, SqL.of hD, ?_⟩
        rw [e]
        exact k H1 s1
    · refine .inr ⟨_, rfl, p, rfl, ⟨_, hS⟩, fun D nD => ?_⟩
      refine it_any (walk_tup (K := K) (a := p) (xs := xs)) (fun j H' => Same H H' ∧ H' D = some (.lst ((((sg.take j).filter (atP n i)).map (agr r)).map V.bl))) ⟨same_new nD, upd_same⟩ (fun j H' _ z => Same.tup z.1 hS) ?_ ?_
      · rintro j x H1 H2 hj ⟨s1, hD⟩ ⟨rfl, hx⟩
        obtain ⟨⟨bt, rm, th⟩, es, q, rfl, hq⟩ := (SgL.same hP s1).at hx
        have ef := filter_takeG' (f := atP n i) es
        refine ⟨q, _, rfl, SqT.of hq, rfl, _, _, rfl, _, _, rfl, _, _, rfl, rfl, rfl, ?_⟩
        refine ⟨_, rfl, _, rfl, _, _, rfl, rfl, by omega, _, rfl, rfl, _, rfl, ?_⟩
        have ed : decide (V.int (bt % (n : Int)) = V.int ((i : Nat) : Int)) = atP n i (bt, rm, th) := by
          unfold atP
          rw [Bool.eq_iff_iff, decide_eq_true_eq, decide_eq_true_eq]
          exact ⟨fun z => V.int.inj z, fun z => by rw [z]⟩
        rw [ed]
        refine ite2 (fun e => ?_) (fun e => ?_)
        · refine ⟨_, rfl, _, rfl, rfl, _, rfl, rfl, _, hD, small1000 (by rw [List.length_map, List.length_map]; exact Nat.le_trans (List.length_filter_le ..) (by rw [List.length_take]; omega)), same_put s1 nD, ?_⟩
          have eb : V.bl (decide (V.bl (decide (V.str r = V.str rm)) = V.bl th)) = V.bl (agr r (bt, rm, th)) := by
            unfold agr
            have e1 : decide (V.str r = V.str rm) = decide (r = rm) := by
              rw [Bool.eq_iff_iff, decide_eq_true_eq, decide_eq_true_eq]
              exact ⟨fun z => V.str.inj z, fun z => by rw [z]⟩
            rw [e1]
            congr 1
            rw [Bool.eq_iff_iff, decide_eq_true_eq, decide_eq_true_eq]
            exact ⟨fun z => V.bl.inj z, fun z => by rw [z]⟩
          rw [upd_same, ef, if_pos e, List.map_append, List.map_append, eb]
          rfl
        · refine ⟨s1, ?_⟩
          rw [hD, ef, if_neg e, List.append_nil]
      · rintro H1 ⟨s1, hD⟩
        rw [hP.1, List.take_length] at hD
        have e : ((sg.filter (atP n i)).map (agr r)).all id = isL n sg i r := by unfold isL; rw [List.all_map]; rfl
        refine ⟨D, _, rfl, SqL.of hD, ?_⟩
        rw [e]
        exact k H1 s1
theorem scRoL : FnScope ["house", "size", "sightings", "at", "room"] ["house", "size", "sightings"] (defScope sRoomsLeft) := ⟨rfl, rfl, rfl, by decide +kernel, rfl, by decide +kernel, by decide +kernel⟩
theorem ok_roomsleft {f C fIl fRo : Addr} {fd dIl dRo : FuncData} (F : Fun K "rooms_left" "rooms_left" sRoomsLeft f fd) (T : HTxt K C) (FIl : Fun K "is_left" "is_left" sIsLeft fIl dIl) (bIl : Binds K dIl ["size", "sightings", "at", "room"] []) (gIl : mg "is_left" = some (.ref fIl)) (GIl : FnOk P w K mg base CX0 1 fIl dIl ["size", "sightings", "at", "room"] (spIsLeft K)) (mRo : Meth K C "rooms" fRo) (bRo : Binds K dRo ["self"] []) (GRo : FnOk P w K mg base CX0 1 fRo dRo ["self"] (spRooms C)) (m_range : mg "range" = none) : FnOk P w K mg base CX0 2 f fd ["house", "size", "sightings"] (spRoomsLeft K C) := by
  refine F.ok scRoL (fun vs H Q E h => ?_) (fun cdv A outer s H vs Q E hr h => ?_)
  · obtain ⟨h, p, zs, bh, vw, n, xs, sg, rfl, _⟩ := h
    rfl
  · obtain ⟨h, p, zs, bh, vw, n, xs, sg, rfl, hH, z8, n1, n6, hS, hP, ok, k⟩ := h
    refine ⟨_, pss_one (ps_ret (pe_lc (own := [("at", 3)]) (g := gName 3) (tt := tYes) (te := tLc (iList K (tMeth C "rooms" (spRooms C) [] E0 (tVar 0) tNil)) (gName 4) (tTest (tCall (spIsLeft K) [] E0 (tCons (tVar 1) (tCons (tVar 2) (tCons (tVar 3) (tCons (tVar 4) tNil)))))) (tVar 4) [4]) rfl scRoL.nd (pi_range1 (by rfl) m_range (pa_cons (pv 1) pa_nil)) (blkOk_by (N := ["house", "size", "sightings", "at", "room"]) (sc := defScope sRoomsLeft) (by decide +kernel)) (fun _ _ _ _ _ => (pg_name (i := 3) scRoL.nd rfl (Or.inr rfl))) (fun _ _ _ _ _ => pts_nil) (fun _ _ _ _ _ => (pe_lc (own := [("room", 4)]) (g := gName 4)  rfl scRoL.nd (pi_list (pe_meth0 (pv 0) T.cl mRo GRo hr bRo .nil pass0)) (blkOk_by (N := ["house", "size", "sightings", "at", "room"]) (sc := { kind := .function, names := [(".0", .local), ("at", .cell), ("house", .cell), ("sightings", .cell), ("size", .cell)], isGenerator := false, isCoroutine := false }) (by decide +kernel)) (fun _ _ _ _ _ => (pg_name (i := 4) scRoL.nd rfl (Or.inl rfl))) (fun _ _ _ _ _ => pts_one (pt_val (pe_call GIl hr (by rfl) gIl FIl.kp bIl .nil pass0 (pa_cons (pv 1) (pa_cons (pv 2) (pa_cons (pv 3) (pa_cons (pv 4) pa_nil))))))) (fun _ _ _ _ _ => (pv 4)))))), ?_⟩
    refine ⟨_, rfl, _, rfl, by omega, by omega, fun D nD => ?_⟩
    rw [show (((n : Nat) : Int)).toNat = n by omega]
    refine it_any (walk_range (lo := 0) (n := n)) (fun j H' => Same H H' ∧ ∃ ys, H' D = some (.lst ys) ∧ SxL (fun a => a ≠ D) H' ys ((List.range j).map fun i => zs.filter (isL n sg i))) ⟨same_new nD, [], upd_same, AL.nil⟩ (fun _ _ _ _ => trivial) ?_ ?_
    · rintro j x H1 H2 hj ⟨s1, ys, hD, hY⟩ ⟨rfl, rfl⟩
      have hH1 := hH.same s1
      obtain ⟨⟨dx, nn, bx, v, h1, _⟩, _⟩ := id hH1
      refine ⟨rfl, ?_⟩
      refine ⟨_, rfl, h, dx, _, rfl, h1, hf_no _ _ _ (by decide +kernel) (by decide +kernel) (by decide +kernel), h, zs, bh, vw, rfl, hH1, fun H3 q s3 nq hq => ?_⟩
      refine ⟨q, rfl, ⟨_, SqL.of hq⟩, fun B nB => ?_⟩
      have hD3 := s3 _ _ hD
      have nBD : B ≠ D := (ne_of_none hD3 nB).symm
      refine it_any (walk_list (K := K) (a := q) (xs := zs.map V.str)) (fun m H' => Same H3 H' ∧ H' B = some (.lst (((zs.take m).filter (isL n sg j)).map V.str))) ⟨same_new nB, upd_same⟩ (fun m H' _ z => SqL.of (z.1 _ _ hq)) ?_ ?_
      · rintro m y H4 H5 hm ⟨s4, hB⟩ ⟨rfl, hy⟩
        obtain ⟨b, eb, rfl⟩ := str_at hy
        have ef := filter_takeG' (f := isL n sg j) (show zs[m]? = some b from eb)
        have s04 := (s1.trans s3).trans s4
        refine ⟨rfl, _, rfl, _, rfl, _, rfl, _, rfl, p, n, j, xs, sg, b, by show [V.int ((n : Nat) : Int), V.ref p, V.int (0 + (j : Int)), V.str b] = _; rw [Int.zero_add], n1, hS.same s04, SgL.same hP s04, ok.ln, fun H6 s6 => ⟨_, rfl, ?_⟩⟩
        refine ite2 (fun e => ?_) (fun e => ?_)
        · refine ⟨_, rfl, _, s6 _ _ hB, small1000 (by rw [List.length_map]; exact Nat.le_trans (List.length_filter_le ..) (by rw [List.length_take]; omega)), same_put (s4.trans s6) nB, ?_⟩
          rw [upd_same, ef, if_pos e, List.map_append]
          rfl
        · refine ⟨s4.trans s6, ?_⟩
          rw [s6 _ _ hB, ef, if_neg e, List.append_nil]
      · rintro H4 ⟨s4, hB⟩
        rw [List.length_map, List.take_length] at hB
        have hD4 := s4 _ _ hD3
        have yl : ys.length = j := by rw [hY.1, List.length_map, List.length_range]
        refine ⟨_, hD4, small1000 (by omega), same_put ((s1.trans s3).trans s4) nD, ys ++ [.ref B], upd_same, ?_⟩
        rw [map_range_snoc]
        exact AL.snoc (SxL.put (SxL.same hY (s3.trans s4)) (fun z => z rfl)) ⟨B, nBD, rfl, by rw [upd_ne nBD]; exact hB⟩
    · rintro H1 ⟨s1, ys, hD, hY⟩
      exact k H1 D ys s1 nD hD (SxL.of hY)
theorem scNxt : FnScope ["house", "ahead", "rooms", "room", "other"] ["house", "ahead", "rooms"] (defScope sNextTo) := ⟨rfl, rfl, rfl, by decide +kernel, rfl, by decide +kernel, by decide +kernel⟩
theorem ok_nextto {f C fAH : Addr} {fd dAH : FuncData} (F : Fun K "next_to" "next_to" sNextTo f fd) (T : HTxt K C) (mAH : Meth K C "at_hand" fAH) (bAH : Binds K dAH ["self", "a", "b"] []) (GAH : FnOk P w K mg base CX0 5 fAH dAH ["self", "a", "b"] (spAtHand C)) (m_any : mg "any" = none) : FnOk P w K mg base CX0 6 f fd ["house", "ahead", "rooms"] (spNextTo C) := by
  refine F.ok scNxt (fun vs H Q E h => ?_) (fun cdv A outer s H vs Q E hr h => ?_)
  · obtain ⟨h, a, r, zs, bh, vw, ah, rs, rfl, _⟩ := h
    rfl
  · obtain ⟨h, a, r, zs, bh, vw, ah, rs, rfl, hH, ha, hr', ia, ir, la, lr, k⟩ := h
    refine ⟨_, pss_one (ps_ret (pe_lc (own := [("room", 3)]) (g := gName 3) (tt := tTest (tCB (rAny K) (tCons (tLc (iList K (tVar 1)) (gName 4) tYes (tMeth C "at_hand" (spAtHand C) [] E0 (tVar 0) (tCons (tVar 4) (tCons (tVar 3) tNil))) [4]) tNil))) (te := tVar 3) rfl scNxt.nd (pi_list (pv 2)) (blkOk_by (N := ["house", "ahead", "rooms", "room", "other"]) (sc := defScope sNextTo) (by decide +kernel)) (fun _ _ _ _ _ => (pg_name (i := 3) scNxt.nd rfl (Or.inr rfl))) (fun _ _ _ _ _ => pts_one (pt_val (pe_callB (cr_any rfl) (by rfl) m_any (by decide +kernel) (pa_cons (pe_lc (own := [("other", 4)]) (g := gName 4) (tt := tYes)  rfl scNxt.nd (pi_list (pv 1)) (blkOk_by (N := ["house", "ahead", "rooms", "room", "other"]) (sc := { kind := .function, names := [(".0", .local), ("room", .cell), ("any", .globalImplicit), ("ahead", .cell), ("house", .cell)], isGenerator := false, isCoroutine := false }) (by decide +kernel)) (fun _ _ _ _ _ => (pg_name (i := 4) scNxt.nd rfl (Or.inl rfl))) (fun _ _ _ _ _ => pts_nil) (fun _ _ _ _ _ => (pe_meth (pv 0) T.cl mAH GAH hr bAH .nil pass0 (pa_cons (pv 4) (pa_cons (pv 3) pa_nil))))) pa_nil)))) (fun _ _ _ _ _ => (pv 3)))), ?_⟩
    refine ⟨_, rfl, r, rfl, ⟨_, SqL.of hr'⟩, fun D nD => ?_⟩
    refine it_any (walk_list (K := K) (a := r) (xs := rs.map V.str)) (fun j H' => Same H H' ∧ H' D = some (.lst ((nxtT bh ah (rs.take j)).map V.str))) ⟨same_new nD, upd_same⟩ (fun j H' _ z => SqL.of (z.1 _ _ hr')) ?_ ?_
    · rintro j x H1 H2 hj ⟨s1, hD⟩ ⟨rfl, hx⟩
      obtain ⟨z, ez, rfl⟩ := str_at hx
      have hz := ir z (List.mem_of_getElem? ez)
      have ha1 := s1 _ _ ha
      have ef : nxtT bh ah (rs.take (j + 1)) = nxtT bh ah (rs.take j) ++ (if (ah.any fun o => hnd bh o z) = true then [z] else []) := filter_takeG' ez
      refine ⟨rfl, _, rfl, a, rfl, ⟨_, SqL.of ha1⟩, fun B nB => ?_⟩
      refine it_any (walk_list (K := K) (a := a) (xs := ah.map V.str)) (fun m H' => Same H2 H' ∧ H' B = some (.lst (((ah.take m).map fun o => hnd bh o z).map V.bl))) ⟨same_new nB, upd_same⟩ (fun m H' _ z => SqL.of (z.1 _ _ ha1)) ?_ ?_
      · rintro m y H3 H4 hm ⟨s3, hB⟩ ⟨rfl, hy⟩
        obtain ⟨o, eo, rfl⟩ := str_at hy
        have eo' : ah[m]? = some o := eo
        have hH3 := hH.same (s1.trans s3)
        obtain ⟨⟨dx, nn, bx, v, h1, _⟩, _⟩ := id hH3
        refine ⟨rfl, _, rfl, h, dx, _, rfl, h1, hf_no _ _ _ (by decide +kernel) (by decide +kernel) (by decide +kernel), _, rfl, _, rfl, h, zs, bh, vw, o, z, rfl, hH3, ia o (List.mem_of_getElem? eo'), hz, ?_⟩
        refine ⟨_, hB, small1000 (by rw [List.length_map, List.length_map, List.length_take]; omega), same_put s3 nB, ?_⟩
        rw [upd_same, take_snoc' eo', List.map_append, List.map_append]
        rfl
      · rintro H3 ⟨s3, hB⟩
        rw [List.length_map, List.take_length] at hB
        have ea : (ah.map fun o => hnd bh o z).any id = ah.any fun o => hnd bh o z := by rw [List.any_map]; rfl
        refine ⟨B, _, rfl, SqL.of hB, _, rfl, ?_⟩
        rw [ea]
        have hD3 := s3 _ _ hD
        refine ite2 (fun e => ?_) (fun e => ?_)
        · refine ⟨_, rfl, _, hD3, small1000 (by rw [List.length_map]; exact Nat.le_trans (List.length_filter_le ..) (by rw [List.length_take]; omega)), same_put (s1.trans s3) nD, ?_⟩
          rw [upd_same, ef, if_pos e, List.map_append]
          rfl
        · refine ⟨s1.trans s3, ?_⟩
          rw [hD3, ef, if_neg e, List.append_nil]
    · rintro H1 ⟨s1, hD⟩
      rw [List.length_map, List.take_length] at hD
      exact k H1 D s1 nD hD
end
end Dk
namespace Dk
open PySem L2
section
variable {P : Program} {w : World} {K : PySem.W.Frag} {mg : Str → Option Value} {base : Heap}
theorem scTrO : FnScope ["house", "left", "first", "trail", "rooms", "room"] ["house", "left", "first"] (defScope sTrailOf) := ⟨rfl, rfl, rfl, by decide +kernel, rfl, by decide +kernel, by decide +kernel⟩
theorem ok_trailof {f C fNx : Addr} {fd dNx : FuncData} (F : Fun K "trail_of" "trail_of" sTrailOf f fd) (FNx : Fun K "next_to" "next_to" sNextTo fNx dNx) (bNx : Binds K dNx ["house", "ahead", "rooms"] []) (gNx : mg "next_to" = some (.ref fNx)) (GNx : FnOk P w K mg base CX0 6 fNx dNx ["house", "ahead", "rooms"] (spNextTo C)) : FnOk P w K mg base CX0 7 f fd ["house", "left", "first"] (spTrailOf C) := by
  refine F.ok scTrO (fun vs H Q E h => ?_) (fun cdv A outer s H vs Q E hr h => ?_)
  · obtain ⟨h, l, zs, bh, vw, xs, lf, f, rfl, _⟩ := h
    rfl
  · obtain ⟨h, l, zs, bh, vw, xs, lf, f, rfl, hH, hl, hX, L, k⟩ := h
    refine ⟨_, pss_cons (ps_set (i := 3) scTrO.nd rfl (Or.inl rfl) (pe_lst (pa_cons (pe_lc (own := [("room", 5)]) (g := gName 5)  rfl scTrO.nd (pi_list (pe_ix ix_list (pv 1) pe_int (fun _ _ => rfl))) (blkOk_by (N := ["house", "left", "first", "trail", "rooms", "room"]) (sc := defScope sTrailOf) (by decide +kernel)) (fun _ _ _ _ _ => (pg_name (i := 5) scTrO.nd rfl (Or.inl rfl))) (fun _ _ _ _ _ => pts_one (pt_cmpR op_eq (pv 5) (pv 2) (nomark _))) (fun _ _ _ _ _ => (pv 5))) pa_nil)))
      (pss_cons (ps_for PassesOwn.never rfl (pi_list (pe_slice sl_list (pv 1) (po_some pe_int) po_none)) (pg_name (i := 4) scTrO.nd rfl (Or.inl rfl))
      (pss_one (ps_expr (pe_bm PySem.F.plainAttrs_list PySem.F.slot_list_append PySem.F.type_list_append mt_append (pv 3) (pa_cons (pe_call GNx hr (by rfl) gNx FNx.kp bNx .nil pass0 (pa_cons (pv 0) (pa_cons (pe_ix ix_list (pv 3) (pe_un un_neg pe_int) (fun _ _ => rfl)) (pa_cons (pv 4) pa_nil)))) pa_nil)))))
      (pss_one (ps_ret (pv 3)))), ?_⟩
    have l1 := L.one
    have l6 := L.six
    have xl := hX.1
    obtain ⟨q0, e0, hq0⟩ := SsL.get hX (i := 0) (by omega)
    have l8 := L.eightD 0
    refine ⟨_, rfl, l, _, 0, _, rfl, rfl, SqL.of hl, atI_nat (j := 0) e0, q0, rfl, ⟨_, SqL.of hq0⟩, fun B nB => ?_⟩
    refine it_any (walk_list (K := K) (a := q0) (xs := (lf.getD 0 []).map V.str)) (fun m H' => Same H H' ∧ H' B = some (.lst ((((lf.getD 0 []).take m).filter fun r => decide (r = f)).map V.str))) ⟨same_new nB, upd_same⟩ (fun m H' _ z => SqL.of (z.1 _ _ hq0)) ?_ ?_
    · rintro m y H1 H2 hm ⟨s1, hB⟩ ⟨rfl, hy⟩
      obtain ⟨r, er, rfl⟩ := str_at hy
      have ef := filter_takeG' (f := fun r => decide (r = f)) (show (lf.getD 0 [])[m]? = some r from er)
      refine ⟨rfl, _, rfl, _, rfl, rfl, _, rfl, ?_⟩
      rw [str_dec]
      refine ite2 (fun e => ?_) (fun e => ?_)
      · refine ⟨_, rfl, _, hB, small1000 (by rw [List.length_map]; exact Nat.le_trans (List.length_filter_le ..) (by rw [List.length_take]; omega)), same_put s1 nB, ?_⟩
        rw [upd_same, ef, if_pos e, List.map_append]
        rfl
      · refine ⟨s1, ?_⟩
        rw [hB, ef, if_neg e, List.append_nil]
    rintro H1 ⟨s1, hB⟩
    rw [List.length_map, List.take_length] at hB
    refine ⟨by show 1 ≤ sizeLine; decide, fun D nD => ?_⟩
    have nBD : B ≠ D := ne_of_none hB nD
    have nD0 : H D = none := s1.free nD
    have s2 := same_new (o := .lst [V.ref B]) nD
    have hD2 : (upd H1 D (.lst [V.ref B])) D = some (.lst [V.ref B]) := upd_same
    have hT2 : SxL (fun a => H a = none ∧ a ≠ D) (upd H1 D (.lst [V.ref B])) [V.ref B] ((List.range 1).map (trlAt bh lf f)) := AL.snoc (xs := []) (ps := []) AL.nil ⟨B, ⟨nB, nBD⟩, rfl, s2 _ _ hB⟩
    generalize upd H1 D (.lst [V.ref B]) = H2 at s2 hD2 hT2 ⊢
    have s12 := s1.trans s2
    refine ⟨_, rfl, 1, rfl, l, _, rfl, SqL.of (s12 _ _ hl), fun sl nsl => ?_⟩
    rw [show (1 : Int) = ((1 : Nat) : Int) from rfl, cut_dropV]
    have s3 := same_new (o := .lst (xs.drop 1)) nsl
    have hsl : (upd H2 sl (.lst (xs.drop 1))) sl = some (.lst (xs.drop 1)) := upd_same
    have nslD : sl ≠ D := (ne_of_none hD2 nsl).symm
    have hD3 := s3 _ _ hD2
    have hT3 := SxL.same hT2 s3
    generalize upd H2 sl (.lst (xs.drop 1)) = H3 at s3 hsl hD3 hT3 ⊢
    refine ⟨sl, rfl, ⟨_, SqL.of hsl⟩, for_list (K := K) (a := sl) (xs := xs.drop 1) (fun j σ H' => ∃ y4 ys, σ = [some (.ref h), some (.ref l), some (.str f), some (.ref D), y4, none] ∧ Same H H' ∧ H' sl = some (.lst (xs.drop 1)) ∧ H' D = some (.lst ys) ∧ SxL (fun a => H a = none ∧ a ≠ D) H' ys ((List.range (j + 1)).map (trlAt bh lf f))) ⟨_, _, rfl, s12.trans s3, hsl, hD3, hT3⟩ (fun j σ H' _ z => by obtain ⟨_, _, _, _, z, _⟩ := z; exact SqL.of z) ?_ ?_⟩
    · rintro j x σ H4 hx ⟨y4, ys, rfl, s4, hsl4, hD4, hT4⟩
      obtain ⟨rs, ers, r, rfl, hr4⟩ := AL.at (SsL.drop (SsL.same hX s4) 1) hx
      have ers' : lf[j + 1]? = some rs := by
        rw [List.getElem?_drop] at ers
        rw [Nat.add_comm]
        exact ers
      have yl : ys.length = j + 1 := by rw [hT4.1, List.length_map, List.length_range]
      obtain ⟨v, ev, t, ⟨nt0, ntD⟩, rfl, ht⟩ := AL.of hT4 (i := j) (p := trlAt bh lf f j) (by rw [List.getElem?_map, List.getElem?_range (by omega)]; rfl)
      have eL : ys[ys.length - 1]? = some (V.ref t) := by rw [yl]; exact ev
      have hj : j + 1 < lf.length := (List.getElem?_eq_some_iff.mp ers').1
      have rm := List.mem_of_getElem? ers'
      refine ⟨_, rfl, .inl ⟨rfl, _, SqL.of hD4⟩, _, rfl, _, rfl, 1, rfl, D, _, -1, _, rfl, rfl, SqL.of hD4, at_last eL, _, rfl, h, t, r, zs, bh, vw, trlAt bh lf f j, rs, rfl, hH.same s4, ht, hr4, fun x hx => L.memD j x (trlAt_sub j x hx), fun x hx => L.mem rs rm x hx, by have := trlAt_len (bh := bh) (lf := lf) (f := f) j; have := L.eightD j; omega, by have := L.eight rs rm; omega, fun H5 q s5 nq hq => ?_⟩
      have hD5 := s5 _ _ hD4
      have nqD : q ≠ D := (ne_of_none hD4 nq).symm
      refine ⟨D, _, _, rfl, rfl, hD5, small1000 (by omega), ?_⟩
      refine ⟨_, ys ++ [.ref q], rfl, same_put (s4.trans s5) nD0, by rw [upd_ne nslD]; exact s5 _ _ hsl4, upd_same, ?_⟩
      rw [map_range_snoc]
      refine AL.snoc (SxL.put (SxL.same hT4 s5) (fun z => z.2 rfl)) ⟨q, ⟨s4.free nq, nqD⟩, rfl, ?_⟩
      rw [upd_ne nqD, hq]
      show _ = some (HO.lst ((nxtT bh (trlAt bh lf f j) (lf.getD (j + 1) [])).map V.str))
      rw [getD_some ers']
    · rintro σ H4 ⟨y4, ys, rfl, s4, hsl4, hD4, hT4⟩
      refine ⟨_, rfl, k H4 D ys s4 nD0 hD4 ?_⟩
      rw [List.length_drop, xl, show lf.length - 1 + 1 = lf.length by omega] at hT4
      exact hT4
theorem scAlo : FnScope ["house", "trail", "ends", "row", "rooms"] ["house", "trail"] (defScope sAlong) := ⟨rfl, rfl, rfl, by decide +kernel, rfl, by decide +kernel, by decide +kernel⟩
theorem ok_along {f C fNx : Addr} {fd dNx : FuncData} (F : Fun K "round_along" "round_along" sAlong f fd) (FNx : Fun K "next_to" "next_to" sNextTo fNx dNx) (bNx : Binds K dNx ["house", "ahead", "rooms"] []) (gNx : mg "next_to" = some (.ref fNx)) (GNx : FnOk P w K mg base CX0 6 fNx dNx ["house", "ahead", "rooms"] (spNextTo C)) (m_len : mg "len" = none) (m_tuple : mg "tuple" = none) : FnOk P w K mg base CX0 7 f fd ["house", "trail"] (spAlong C) := by
  refine F.ok scAlo (fun vs H Q E h => ?_) (fun cdv A outer s H vs Q E hr h => ?_)
  · obtain ⟨h, l, zs, bh, vw, xs, ts, rfl, _⟩ := h
    rfl
  · obtain ⟨h, l, zs, bh, vw, xs, ts, rfl, hH, sy, hl, hX, TO, k1, k2⟩ := h
    refine ⟨_, pss_cons (ps_set (i := 2) scAlo.nd rfl (Or.inl rfl) (pe_call GNx hr (by rfl) gNx FNx.kp bNx .nil pass0 (pa_cons (pv 0) (pa_cons (pe_ix ix_list (pv 1) pe_int (fun _ _ => rfl)) (pa_cons (pe_ix ix_list (pv 1) (pe_un un_neg pe_int) (fun _ _ => rfl)) pa_nil)))))
      (pss_cons (ps_if (pt_cmpR op_eq (pe_callB call_len_seq (by rfl) m_len PySem.boot_len (pa_cons (pv 2) pa_nil)) pe_int (nomark _)) (pss_one (ps_ret pe_non)) pss_nil)
      (pss_cons (ps_set (i := 3) scAlo.nd rfl (Or.inl rfl) (pe_lst (pa_cons (pe_ix ix_list (pv 2) pe_int (fun _ _ => rfl)) pa_nil)))
      (pss_cons (ps_for PassesOwn.never rfl (pi_list (pe_bk2 (pv 1) (pe_un un_neg pe_int) (pe_un un_neg pe_int))) (pg_name (i := 4) scAlo.nd rfl (Or.inl rfl))
      (pss_one (ps_expr (pe_bm PySem.F.plainAttrs_list PySem.F.slot_list_append PySem.F.type_list_append mt_append (pv 3) (pa_cons (pe_ix ix_list (pe_call GNx hr (by rfl) gNx FNx.kp bNx .nil pass0 (pa_cons (pv 0) (pa_cons (pe_lst (pa_cons (pe_ix ix_list (pv 3) (pe_un un_neg pe_int) (fun _ _ => rfl)) pa_nil)) (pa_cons (pv 4) pa_nil)))) pe_int (fun _ _ => rfl)) pa_nil)))))
      (pss_one (ps_ret (pe_callTy call_tuple_of (by rfl) m_tuple (by decide +kernel) (pa_cons (pe_revL (pv 3)) pa_nil))))))), ?_⟩
    have l1 := TO.one
    have l6 := TO.six
    have xl := hX.1
    obtain ⟨q0, e0, hq0⟩ := SsL.get hX (i := 0) (by omega)
    obtain ⟨qn, en, hqn⟩ := SsL.get hX (i := ts.length - 1) (by omega)
    have eL : xs[xs.length - 1]? = some (V.ref qn) := by rw [xl]; exact en
    refine ⟨_, rfl, _, rfl, l, _, 0, _, rfl, rfl, SqL.of hl, atI_nat (j := 0) e0, _, rfl, 1, rfl, l, _, -1, _, rfl, rfl, SqL.of hl, at_last eL, h, q0, qn, zs, bh, vw, ts.getD 0 [], ts.getD (ts.length - 1) [], rfl, hH, hq0, hqn, TO.memD 0, TO.memD _, by have := TO.eightD 0; omega, by have := TO.eightD (ts.length - 1); omega, fun H1 E s1 nE hE => ?_⟩
    have em : ∀ r ∈ nxtT bh (ts.getD 0 []) (ts.getD (ts.length - 1) []), r ∈ ts.getD (ts.length - 1) [] := fun r hr => (List.mem_filter.mp hr).1
    have ea : alongN bh ts = (match nxtT bh (ts.getD 0 []) (ts.getD (ts.length - 1) []) with
      | [] => none
      | e :: _ => some ((List.range ts.length).map (rowAt bh (ts.take (ts.length - 1)).reverse e)).reverse) := rfl
    generalize nxtT bh (ts.getD 0 []) (ts.getD (ts.length - 1) []) = es at hE em ea
    refine ⟨_, rfl, E, _, rfl, .inl (SqL.of hE), rfl, _, rfl, ?_⟩
    rw [int_dec]
    cases es with
    | nil =>
      rw [decide_eq_true (show ((((([] : List Str).map V.str).length : Nat)) : Int) = 0 from rfl)]
      exact iteT (k1 ea H1 s1)
    | cons e es =>
      rw [decide_eq_false (show ¬ (((((e :: es).map V.str).length : Nat)) : Int) = 0 from fun z => by rw [List.length_map, List.length_cons] at z; omega)]
      have he := em e (List.mem_cons_self ..)
      refine iteF ⟨_, rfl, E, _, 0, _, rfl, rfl, SqL.of hE, atI_nat (j := 0) rfl, by show 1 ≤ sizeLine; decide, fun R nR => ?_⟩
      have nR0 := s1.free nR
      have s2 := same_new (o := .lst [V.str e]) nR
      have hR2 : (upd H1 R (.lst [V.str e])) R = some (.lst (((List.range 1).map (rowAt bh (ts.take (ts.length - 1)).reverse e)).map V.str)) := upd_same
      generalize upd H1 R (.lst [V.str e]) = H2 at s2 hR2 ⊢
      have s02 := s1.trans s2
      refine ⟨_, rfl, 2, rfl, -2, rfl, 1, rfl, -1, rfl, l, _, rfl, rfl, rfl, SqL.of (s02 _ _ hl), fun sl nsl => ?_⟩
      have hXr := SsL.reverse (SsL.take (SsL.same hX s02) (xs.length - 1))
      rw [xl] at hXr
      have nslR : sl ≠ R := (ne_of_none hR2 nsl).symm
      have s3 := same_new (o := .lst (xs.take (xs.length - 1)).reverse) nsl
      have hsl : (upd H2 sl (.lst (xs.take (xs.length - 1)).reverse)) sl = some (.lst (xs.take (ts.length - 1)).reverse) := by rw [upd_same, xl]
      have hR3 := s3 _ _ hR2
      have hXr3 := SsL.same hXr s3
      generalize upd H2 sl (.lst (xs.take (xs.length - 1)).reverse) = H3 at s3 hsl hR3 hXr3 ⊢
      have s03 := s02.trans s3
      have zl : (xs.take (ts.length - 1)).reverse.length = ts.length - 1 := by rw [List.length_reverse, List.length_take]; omega
      refine ⟨sl, rfl, ⟨_, SqL.of hsl⟩, for_list (K := K) (a := sl) (xs := (xs.take (ts.length - 1)).reverse) (fun j σ H' => ∃ y4, σ = [some (.ref h), some (.ref l), some (.ref E), some (.ref R), y4] ∧ Same H H' ∧ SsL H' (xs.take (ts.length - 1)).reverse (ts.take (ts.length - 1)).reverse ∧ H' sl = some (.lst (xs.take (ts.length - 1)).reverse) ∧ H' R = some (.lst (((List.range (j + 1)).map (rowAt bh (ts.take (ts.length - 1)).reverse e)).map V.str))) ⟨_, rfl, s03, hXr3, hsl, hR3⟩ (fun j σ H' _ z => by obtain ⟨_, _, _, _, z, _⟩ := z; exact SqL.of z) ?_ ?_⟩
      · rintro j x σ H4 hx ⟨y4, rfl, s4, hX4, hsl4, hR4⟩
        obtain ⟨rs, ers, r, rfl, hr4⟩ := AL.at hX4 hx
        have hj : j + 1 < ts.length := by
          have := (List.getElem?_eq_some_iff.mp hx).1
          omega
        obtain ⟨n1, n2⟩ := row_next TO sy he (j := j) hj
        have ers' := Option.some.inj (ers.symm.trans n1)
        have hin := row_in TO sy he j (by omega)
        have eR : (((List.range (j + 1)).map (rowAt bh (ts.take (ts.length - 1)).reverse e)).map V.str)[(((List.range (j + 1)).map (rowAt bh (ts.take (ts.length - 1)).reverse e)).map V.str).length - 1]? = some (V.str (rowAt bh (ts.take (ts.length - 1)).reverse e j)) := by
          rw [List.length_map, List.length_map, List.length_range, List.getElem?_map, List.getElem?_map, List.getElem?_range (by omega)]
          rfl
        have lR : (((List.range (j + 1)).map (rowAt bh (ts.take (ts.length - 1)).reverse e)).map V.str).length ≤ 1000 := by rw [List.length_map, List.length_map, List.length_range]; omega
        refine ⟨_, rfl, .inl ⟨rfl, _, SqL.of hR4⟩, _, rfl, _, rfl, 1, rfl, R, _, -1, _, rfl, rfl, SqL.of hR4, at_last eR, by show 1 ≤ sizeLine; decide, fun c nc => ?_⟩
        have s5 := same_new (o := .lst [V.str (rowAt bh (ts.take (ts.length - 1)).reverse e j)]) nc
        have hc5 : (upd H4 c (.lst [V.str (rowAt bh (ts.take (ts.length - 1)).reverse e j)])) c = some (.lst ([rowAt bh (ts.take (ts.length - 1)).reverse e j].map V.str)) := upd_same
        generalize upd H4 c (.lst [V.str (rowAt bh (ts.take (ts.length - 1)).reverse e j)]) = H5 at s5 hc5 ⊢
        refine ⟨_, rfl, h, c, r, zs, bh, vw, [rowAt bh (ts.take (ts.length - 1)).reverse e j], rs, rfl, hH.same (s4.trans s5), hc5, s5 _ _ hr4, fun x hx => ?_, fun x hx => ?_, by show 1 ≤ 100; decide, ?_, fun H6 q s6 nq hq => ?_⟩
        · rw [List.mem_singleton.mp hx]
          exact TO.memD _ _ hin
        · rw [ers'] at hx
          exact TO.memD _ _ hx
        · rw [ers']
          have := TO.eightD (ts.length - 1 - (j + 1))
          omega
        rw [ers'] at hq
        have s56 := s5.trans s6
        refine ⟨q, _, 0, _, rfl, rfl, SqL.of hq, at_str n2 rfl, R, _, _, rfl, rfl, s56 _ _ hR4, small1000 lR, ?_⟩
        refine ⟨_, rfl, same_put (s4.trans s56) nR0, ?_, by rw [upd_ne nslR]; exact s56 _ _ hsl4, ?_⟩
        · refine ⟨hX4.1, fun i x p a b => ?_⟩
          obtain ⟨q', e', hq'⟩ := hX4.2 i x p a b
          refine ⟨q', e', ?_⟩
          have nq' : q' ≠ R := by
            rintro rfl
            subst e'
            have hxi : xs[xs.length - 1 - 1 - i]? = some (V.ref q') := by
              have hi := (List.getElem?_eq_some_iff.mp a).1
              rw [zl] at hi
              rw [List.getElem?_reverse (by rw [List.length_take]; omega), List.length_take, List.getElem?_take, if_pos (by omega), show min (ts.length - 1) xs.length - 1 - i = xs.length - 1 - 1 - i by omega] at a
              exact a
            obtain ⟨p', _, q2, e2, h2⟩ := AL.at hX hxi
            cases e2
            rw [nR0] at h2
            cases h2
          rw [upd_ne nq']
          exact s56 _ _ hq'
        · rw [upd_same, map_range_snoc _ (j + 1), List.map_append]
          rfl
      · rintro σ H4 ⟨y4, rfl, s4, hX4, hsl4, hR4⟩
        rw [zl, show ts.length - 1 + 1 = ts.length by omega] at hR4
        refine ⟨_, rfl, R, _, rfl, SqL.of hR4, fun f1 nf1 => ?_⟩
        rw [← List.map_reverse]
        have s5 := same_new (o := .lst ((((List.range ts.length).map (rowAt bh (ts.take (ts.length - 1)).reverse e)).reverse).map V.str)) nf1
        refine ⟨f1, _, rfl, .inl ⟨SqL.of upd_same, fun T nT => ?_⟩⟩
        exact k2 _ ea _ T ((s4.trans s5).trans (same_new nT)) ((s4.trans s5).free nT) upd_same
theorem scSom : FnScope ["house", "left", "first", "found"] ["house", "left"] (defScope sSome) := ⟨rfl, rfl, rfl, by decide +kernel, rfl, by decide +kernel, by decide +kernel⟩
theorem ok_some {f C fTr fAl fRo : Addr} {fd dTr dAl dRo : FuncData} (F : Fun K "some_round" "some_round" sSome f fd) (T : HTxt K C) (FTr : Fun K "trail_of" "trail_of" sTrailOf fTr dTr) (bTr : Binds K dTr ["house", "left", "first"] []) (gTr : mg "trail_of" = some (.ref fTr)) (GTr : FnOk P w K mg base CX0 7 fTr dTr ["house", "left", "first"] (spTrailOf C)) (FAl : Fun K "round_along" "round_along" sAlong fAl dAl) (bAl : Binds K dAl ["house", "trail"] []) (gAl : mg "round_along" = some (.ref fAl)) (GAl : FnOk P w K mg base CX0 7 fAl dAl ["house", "trail"] (spAlong C)) (mRo : Meth K C "rooms" fRo) (bRo : Binds K dRo ["self"] []) (GRo : FnOk P w K mg base CX0 1 fRo dRo ["self"] (spRooms C))  : FnOk P w K mg base CX0 8 f fd ["house", "left"] (spSome C) := by
  refine F.ok scSom (fun vs H Q E h => ?_) (fun cdv A outer s H vs Q E hr h => ?_)
  · obtain ⟨h, l, zs, bh, vw, xs, lf, rfl, _⟩ := h
    rfl
  · obtain ⟨h, l, zs, bh, vw, xs, lf, rfl, hH, sy, z8, hl, hX, L, k1, k2⟩ := h
    refine ⟨_, pss_cons (ps_for PassesOwn.never rfl (pi_list (pe_meth0 (pv 0) T.cl mRo GRo (hr.mono (by decide)) bRo .nil pass0)) (pg_name (i := 2) scSom.nd rfl (Or.inl rfl))
      (pss_cons (ps_set (i := 3) scSom.nd rfl (Or.inl rfl) (pe_call GAl hr (by rfl) gAl FAl.kp bAl .nil pass0 (pa_cons (pv 0) (pa_cons (pe_call GTr hr (by rfl) gTr FTr.kp bTr .nil pass0 (pa_cons (pv 0) (pa_cons (pv 1) (pa_cons (pv 2) pa_nil)))) pa_nil))))
      (pss_one (ps_if (pt_cmpR op_notN (pv 3) pe_non (nomark _)) (pss_one (ps_ret (pv 3))) pss_nil))))
      (pss_one (ps_ret pe_non)), ?_⟩
    obtain ⟨⟨dx, nn, bx, v, h1, _⟩, _⟩ := id hH
    refine ⟨_, rfl, h, dx, _, rfl, h1, hf_no _ _ _ (by decide +kernel) (by decide +kernel) (by decide +kernel), h, zs, bh, vw, rfl, hH, fun H1 p s1 np hp => ?_⟩
    refine ⟨p, rfl, ⟨_, SqL.of hp⟩, for_list (K := K) (a := p) (xs := zs.map V.str) (fun j σ H' => ∃ y2 y3, σ = [some (.ref h), some (.ref l), y2, y3] ∧ Same H1 H' ∧ ∀ y ∈ zs.take j, alongN bh (trlN bh lf y) = none) ⟨_, _, rfl, fun _ _ z => z, fun y hy => by simp at hy⟩ (fun j σ H' _ z => by obtain ⟨_, _, _, z, _⟩ := z; exact SqL.of (z _ _ hp)) ?_ ?_⟩
    · rintro j x σ H2 hx ⟨y2, y3, rfl, s2, hn⟩
      obtain ⟨f, ef, rfl⟩ := str_at hx
      have ef' : zs[j]? = some f := ef
      have s02 := s1.trans s2
      refine ⟨_, rfl, _, rfl, _, rfl, _, rfl, h, l, zs, bh, vw, xs, lf, f, rfl, hH.same s02, s02 _ _ hl, SsL.same hX s02, L, fun H3 q ys s3 nq hq hT => ?_⟩
      have s03 := s02.trans s3
      refine ⟨h, q, zs, bh, vw, ys, trlN bh lf f, rfl, hH.same s03, sy, hq, SxL.of hT, trlN_trail L, fun e H4 s4 => ?_, fun r e H4 t s4 nt ht => ?_⟩
      · refine ⟨_, rfl, rfl, _, rfl, ?_⟩
        refine iteF ⟨_, _, rfl, (s2.trans s3).trans s4, fun y hy => ?_⟩
        rw [take_snoc' ef'] at hy
        rcases List.mem_append.mp hy with z | z
        · exact hn y z
        · rw [List.mem_singleton.mp z]
          exact e
      · refine ⟨_, rfl, rfl, _, rfl, ?_⟩
        exact iteT ⟨_, rfl, k2 r (find_at ef' hn e) H4 t (s03.trans s4) (s03.free nt) ht⟩
    · rintro σ H2 ⟨y2, y3, rfl, s2, hn⟩
      rw [List.length_map, List.take_length] at hn
      exact k1 (find_no hn) H2 (s1.trans s2)
theorem scNar : FnScope ["left", "at", "rooms"] ["left", "at", "rooms"] (defScope sNarrowed) := ⟨rfl, rfl, rfl, by decide +kernel, rfl, by decide +kernel, by decide +kernel⟩
theorem ok_narrowed {f : Addr} {fd : FuncData} (F : Fun K "narrowed" "narrowed" sNarrowed f fd)  : FnOk P w K mg base CX0 1 f fd ["left", "at", "rooms"] spNarrowed := by
  refine F.ok scNar (fun vs H Q E h => ?_) (fun cdv A outer s H vs Q E hr h => ?_)
  · obtain ⟨l, r, xs, lf, rs, i, rfl, _⟩ := h
    rfl
  · obtain ⟨l, r, xs, lf, rs, i, rfl, hl, hX, hr', hi, l6, k⟩ := h
    refine ⟨_, pss_one (ps_ret (pe_op op_cat (pe_op op_cat (pe_slice sl_list (pv 0) po_none (po_some (pv 1))) (pe_lst (pa_cons (pv 2) pa_nil))) (pe_slice sl_list (pv 0) (po_some (pe_op op_add (pv 1) pe_int)) po_none))), ?_⟩
    have xl := hX.1
    refine ⟨_, rfl, _, rfl, _, rfl, l, _, rfl, SqL.of hl, fun c1 n1 => ?_⟩
    rw [cut_upto xs (j := i) (by omega)]
    have s1 := same_new (o := .lst (xs.take i)) n1
    have h1 : (upd H c1 (.lst (xs.take i))) c1 = some (.lst (xs.take i)) := upd_same
    generalize upd H c1 (.lst (xs.take i)) = H1 at s1 h1 ⊢
    refine ⟨_, rfl, by show 1 ≤ sizeLine; decide, fun c2 n2 => ?_⟩
    have s2 := same_new (o := .lst [V.ref r]) n2
    have h2 : (upd H1 c2 (.lst [V.ref r])) c2 = some (.lst [V.ref r]) := upd_same
    generalize upd H1 c2 (.lst [V.ref r]) = H2 at s2 h2 ⊢
    refine ⟨c1, c2, _, _, rfl, rfl, s2 _ _ h1, h2, Nat.le_of_lt (small1000 (by rw [List.length_take]; show _ + 1 ≤ 1000; omega)), fun c3 n3 => ?_⟩
    have s3 := same_new (o := .lst (xs.take i ++ [V.ref r])) n3
    have h3 : (upd H2 c3 (.lst (xs.take i ++ [V.ref r]))) c3 = some (.lst (xs.take i ++ [V.ref r])) := upd_same
    generalize upd H2 c3 (.lst (xs.take i ++ [V.ref r])) = H3 at s3 h3 ⊢
    have s03 := s1.trans (s2.trans s3)
    refine ⟨_, rfl, _, rfl, _, _, rfl, rfl, _, rfl, l, _, rfl, SqL.of (s03 _ _ hl), fun c4 n4 => ?_⟩
    rw [show (((i : Nat) : Int) + 1) = ((i + 1 : Nat) : Int) by omega, cut_dropV]
    have s4 := same_new (o := .lst (xs.drop (i + 1))) n4
    have h4 : (upd H3 c4 (.lst (xs.drop (i + 1)))) c4 = some (.lst (xs.drop (i + 1))) := upd_same
    generalize upd H3 c4 (.lst (xs.drop (i + 1))) = H4 at s4 h4 ⊢
    have s04 := s03.trans s4
    refine ⟨c3, c4, _, _, rfl, rfl, s4 _ _ h3, h4, Nat.le_of_lt (small1000 (by rw [List.length_append, List.length_take, List.length_drop]; show _ + 1 + _ ≤ 1000; omega)), fun c5 n5 => ?_⟩
    have s5 := same_new (o := .lst (xs.take i ++ [V.ref r] ++ xs.drop (i + 1))) n5
    have s05 := s04.trans s5
    have hX5 := SsL.same hX s05
    refine k _ c5 _ s05 (s04.free n5) upd_same ?_
    exact SsL.append (AL.snoc (SsL.take hX5 i) ⟨r, rfl, s05 _ _ hr'⟩) (SsL.drop hX5 (i + 1))
theorem scCan : FnScope ["house", "size", "sightings", "beat", "left", "at", "room"] ["house", "size", "sightings", "beat"] (defScope sCanBe) := ⟨rfl, rfl, rfl, by decide +kernel, rfl, by decide +kernel, by decide +kernel⟩
theorem ok_canbe {f C fNs fNb fRl fSo fNa : Addr} {fd dNs dNb dRl dSo dNa : FuncData} (F : Fun K "can_be" "can_be" sCanBe f fd) (FNs : Fun K "need_seen" "need_seen" sNeedSeen fNs dNs) (bNs : Binds K dNs ["house", "size", "sightings"] []) (gNs : mg "need_seen" = some (.ref fNs)) (GNs : FnOk P w K mg base CX0 3 fNs dNs ["house", "size", "sightings"] (spNeedSeen K C)) (FNb : Fun K "need_beat" "need_beat" sNeedBeat fNb dNb) (bNb : Binds K dNb ["beat"] []) (gNb : mg "need_beat" = some (.ref fNb)) (GNb : FnOk P w K mg base CX0 2 fNb dNb ["beat"] spNeedBeat) (FRl : Fun K "rooms_left" "rooms_left" sRoomsLeft fRl dRl) (bRl : Binds K dRl ["house", "size", "sightings"] []) (gRl : mg "rooms_left" = some (.ref fRl)) (GRl : FnOk P w K mg base CX0 2 fRl dRl ["house", "size", "sightings"] (spRoomsLeft K C)) (FSo : Fun K "some_round" "some_round" sSome fSo dSo) (bSo : Binds K dSo ["house", "left"] []) (gSo : mg "some_round" = some (.ref fSo)) (GSo : FnOk P w K mg base CX0 8 fSo dSo ["house", "left"] (spSome C)) (FNa : Fun K "narrowed" "narrowed" sNarrowed fNa dNa) (bNa : Binds K dNa ["left", "at", "rooms"] []) (gNa : mg "narrowed" = some (.ref fNa)) (GNa : FnOk P w K mg base CX0 1 fNa dNa ["left", "at", "rooms"] spNarrowed) : FnOk P w K mg base CX0 9 f fd ["house", "size", "sightings", "beat"] (spCanBe K C) := by
  refine F.ok scCan (fun vs H Q E h => ?_) (fun cdv A outer s H vs Q E hr h => ?_)
  · obtain ⟨h, p, zs, bh, vw, n, xs, sg, b, rfl, _⟩ := h
    rfl
  · obtain ⟨h, p, zs, bh, vw, n, xs, sg, b, rfl, hH, sy, z8, n1, n6, hS, hP, ok, hb, k⟩ := h
    refine ⟨_, pss_cons (ps_expr (pe_call GNs (hr.mono (by decide)) (by rfl) gNs FNs.kp bNs .nil pass0 (pa_cons (pv 0) (pa_cons (pv 1) (pa_cons (pv 2) pa_nil)))))
      (pss_cons (ps_expr (pe_call GNb (hr.mono (by decide)) (by rfl) gNb FNb.kp bNb .nil pass0 (pa_cons (pv 3) pa_nil)))
      (pss_cons (ps_set (i := 4) scCan.nd rfl (Or.inr rfl) (pe_call GRl (hr.mono (by decide)) (by rfl) gRl FRl.kp bRl .nil pass0 (pa_cons (pv 0) (pa_cons (pv 1) (pa_cons (pv 2) pa_nil)))))
      (pss_cons (ps_set (i := 5) scCan.nd rfl (Or.inr rfl) (pe_op op_mod (pv 3) (pv 1)))
      (pss_one (ps_ret (pe_lc (own := [("room", 6)]) (g := gName 6) (tt := tTest (tOp rNotN (tCall (spSome C) [] E0 (tCons (tVar 0) (tCons (tCall spNarrowed [] E0 (tCons (tVar 4) (tCons (tVar 5) (tCons (tLst (tCons (tVar 6) tNil)) tNil)))) tNil))) (tC .non))) (te := tVar 6) rfl scCan.nd (pi_list (pe_ix ix_list (pv 4) (pv 5) (fun _ _ => rfl))) (blkOk_by (N := ["house", "size", "sightings", "beat", "left", "at", "room"]) (sc := defScope sCanBe) (by decide +kernel)) (fun _ _ _ _ _ => (pg_name (i := 6) scCan.nd rfl (Or.inl rfl))) (fun _ _ _ _ _ => pts_one (pt_cmpR op_notN1 (pe_call GSo hr (by rfl) gSo FSo.kp bSo .nil pass0 (pa_cons (pv 0) (pa_cons (pe_call GNa (hr.mono (by decide)) (by rfl) gNa FNa.kp bNa .nil pass0 (pa_cons (pv 4) (pa_cons (pv 5) (pa_cons (pe_lst (pa_cons (pv 6) pa_nil)) pa_nil)))) pa_nil))) pe_non (nomark _))) (fun _ _ _ _ _ => (pv 6)))))))), ?_⟩
    refine ⟨_, rfl, _, rfl, _, rfl, h, p, zs, bh, vw, n, xs, sg, rfl, hH, n1, n6, hS, hP, ok, fun H1 s1 => ?_⟩
    refine ⟨_, rfl, b, rfl, hb, ?_⟩
    refine ⟨_, rfl, _, rfl, _, rfl, h, p, zs, bh, vw, n, xs, sg, rfl, hH.same s1, z8, n1, n6, hS.same s1, SgL.same hP s1, ok, fun H2 l ls s2 nl hl hL => ?_⟩
    have L := leftN_ok (zs := zs) (sg := sg) n1 n6 z8
    have ll := leftN_len zs n sg
    generalize leftN zs n sg = lf at hL L ll k
    have s02 := s1.trans s2
    obtain ⟨rl, er⟩ := rest_lt (show 0 < n by omega) b
    refine ⟨_, rfl, _, rfl, _, _, rfl, rfl, by omega, ?_⟩
    show gName 5 (V.int (b % ((n : Nat) : Int))) _ _ _
    rw [← er]
    generalize rest b n = i at rl er k
    obtain ⟨q, eq, hq⟩ := SsL.get hL (i := i) (by omega)
    refine ⟨_, rfl, _, rfl, l, _, _, _, rfl, rfl, SqL.of hl, atI_nat (j := i) eq, q, rfl, ⟨_, SqL.of hq⟩, fun D nD => ?_⟩
    have lt := L.eightD i
    have lm := L.memD i
    unfold canN at k
    generalize lf.getD i [] = rs at hq lt lm k
    refine it_any (walk_list (K := K) (a := q) (xs := rs.map V.str)) (fun m H' => Same H2 H' ∧ H' D = some (.lst (((rs.take m).filter fun r => (someN zs bh (nrw lf i [r])).isSome).map V.str))) ⟨same_new nD, upd_same⟩ (fun m H' _ z => SqL.of (z.1 _ _ hq)) ?_ ?_
    · rintro m y H3 H4 hm ⟨s3, hD⟩ ⟨rfl, hy⟩
      obtain ⟨r, er', rfl⟩ := str_at hy
      have er2 : rs[m]? = some r := er'
      have hrz := lm r (List.mem_of_getElem? er2)
      have ef := filter_takeG' (f := fun r => (someN zs bh (nrw lf i [r])).isSome) er2
      refine ⟨rfl, _, rfl, _, rfl, _, rfl, _, rfl, by show 1 ≤ sizeLine; decide, fun c nc => ?_⟩
      have s4 := same_new (o := .lst [V.str r]) nc
      have hc : (upd H4 c (.lst [V.str r])) c = some (.lst ([r].map V.str)) := upd_same
      generalize upd H4 c (.lst [V.str r]) = H5 at s4 hc ⊢
      have s34 := s3.trans s4
      refine ⟨l, c, ls, lf, [r], i, rfl, s34 _ _ hl, SsL.same hL s34, hc, by omega, by omega, fun H6 q6 ys s6 nq6 hq6 hY => ?_⟩
      have s36 := s34.trans s6
      have hD6 := (s4.trans s6) _ _ hD
      refine ⟨h, q6, zs, bh, vw, ys, nrw lf i [r], rfl, hH.same (s02.trans s36), sy, z8, hq6, hY, nrw_ok L (by omega) (fun x hx => by rw [List.mem_singleton.mp hx]; exact hrz) (by show 1 ≤ 8; decide), fun e H7 s7 => ?_, fun t e H7 tq s7 ntq htq => ?_⟩
      · refine ⟨rfl, _, rfl, ?_⟩
        refine iteF ⟨s36.trans s7, ?_⟩
        rw [s7 _ _ hD6, ef, if_neg (by rw [e]; decide), List.append_nil]
      · refine ⟨rfl, _, rfl, ?_⟩
        refine iteT ⟨_, rfl, _, s7 _ _ hD6, small1000 (by rw [List.length_map]; exact Nat.le_trans (List.length_filter_le ..) (by rw [List.length_take]; omega)), same_put (s36.trans s7) nD, ?_⟩
        rw [upd_same, ef, if_pos (by rw [e]; rfl), List.map_append]
        rfl
    · rintro H3 ⟨s3, hD⟩
      rw [List.length_map, List.take_length] at hD
      exact k H3 D (s02.trans s3) (s02.free nD) hD
end
end Dk
namespace Dk
open PySem L2
section
variable {P : Program} {w : World} {K : PySem.W.Frag} {mg : Str → Option Value} {base : Heap}
theorem scRFr : FnScope ["house", "left", "first", "counts", "rooms", "room", "other"] ["house", "left", "first"] (defScope sRoundsFrom) := ⟨rfl, rfl, rfl, by decide +kernel, rfl, by decide +kernel, by decide +kernel⟩
theorem ok_roundsfrom {f C fAH : Addr} {fd dAH : FuncData} (F : Fun K "rounds_from" "rounds_from" sRoundsFrom f fd) (T : HTxt K C) (mAH : Meth K C "at_hand" fAH) (bAH : Binds K dAH ["self", "a", "b"] []) (GAH : FnOk P w K mg base CX0 5 fAH dAH ["self", "a", "b"] (spAtHand C)) (m_sum : mg "sum" = none) : FnOk P w K mg base CX0 6 f fd ["house", "left", "first"] (spRoundsFrom C) := by
  refine F.ok scRFr (fun vs H Q E h => ?_) (fun cdv A outer s H vs Q E hr h => ?_)
  · obtain ⟨h, l, zs, bh, vw, xs, lf, f, rfl, _⟩ := h
    rfl
  · obtain ⟨h, l, zs, bh, vw, xs, lf, f, rfl, hH, hl, hX, L, nd, hf, k⟩ := h
    refine ⟨_, pss_cons (ps_set (i := 3) scRFr.nd rfl (Or.inr rfl) (pe_dc (own := [("room", 5)]) (g := gName 5) (tt := tTest (tOp rEq (tVar 5) (tVar 2))) (tk := tVar 5) (tv := tC (.int 1)) rfl scRFr.nd (pi_list (pe_ix ix_list (pv 1) pe_int (fun _ _ => rfl))) (blkOk_by (N := ["house", "left", "first", "counts", "rooms", "room", "other"]) (sc := defScope sRoundsFrom) (by decide +kernel)) (fun _ _ _ _ _ => (pg_name (i := 5) scRFr.nd rfl (Or.inl rfl))) (fun _ _ _ _ _ => pts_one (pt_cmpR op_eq (pv 5) (pv 2) (nomark _))) (fun _ _ _ _ _ => (pv 5)) (fun _ _ _ _ _ => pe_int)))
      (pss_cons (ps_for PassesOwn.never rfl (pi_list (pe_slice sl_list (pv 1) (po_some pe_int) po_none)) (pg_name (i := 4) scRFr.nd rfl (Or.inl rfl))
      (pss_one (ps_set (i := 3) scRFr.nd rfl (Or.inr rfl) (pe_dc (own := [("room", 5)]) (g := gName 5) (tt := tYes) (tk := tVar 5) (tv := tCB (rSum K) (tCons (tLockE (tLc (iKeys (tVar 3)) (gName 6) (tTest (tMeth C "at_hand" (spAtHand C) [] E0 (tVar 0) (tCons (tVar 6) (tCons (tVar 5) tNil)))) (tDGet (tVar 3) (tVar 6)) [6])) tNil)) rfl scRFr.nd (pi_list (pv 4)) (blkOk_by (N := ["house", "left", "first", "counts", "rooms", "room", "other"]) (sc := defScope sRoundsFrom) (by decide +kernel)) (fun _ _ _ _ _ => (pg_name (i := 5) scRFr.nd rfl (Or.inr rfl))) (fun _ _ _ _ _ => pts_nil) (fun _ _ _ _ _ => (pv 5)) (fun _ _ _ _ _ => (pe_callB (cr_sum rfl) (by rfl) m_sum (by decide +kernel) (pa_cons (pe_lock (pe_lc (own := [("other", 6)]) (g := gName 6) (tt := tTest (tMeth C "at_hand" (spAtHand C) [] E0 (tVar 0) (tCons (tVar 6) (tCons (tVar 5) tNil)))) (te := tDGet (tVar 3) (tVar 6)) rfl scRFr.nd (pi_keys (pv 3)) (blkOk_by (N := ["house", "left", "first", "counts", "rooms", "room", "other"]) (sc := { kind := .function, names := [(".0", .local), ("room", .cell), ("sum", .globalImplicit), ("counts", .cell), ("house", .cell)], isGenerator := false, isCoroutine := false }) (by decide +kernel)) (fun _ _ _ _ _ => (pg_name (i := 6) scRFr.nd rfl (Or.inl rfl))) (fun _ _ _ _ _ => pts_one (pt_val (pe_meth (pv 0) T.cl mAH GAH hr bAH .nil pass0 (pa_cons (pv 6) (pa_cons (pv 5) pa_nil))))) (fun _ _ _ _ _ => (pe_dget (hu_of hr) (pv 3) (pv 6) (fun _ _ => rfl))))) pa_nil)))))))
      (pss_one (ps_ret (pe_callB (cr_sum rfl) (by rfl) m_sum (by decide +kernel) (pa_cons (pe_lock (pe_lc (own := [("room", 5)]) (g := gName 5) (tt := tTest (tMeth C "at_hand" (spAtHand C) [] E0 (tVar 0) (tCons (tVar 5) (tCons (tVar 2) tNil)))) (te := tDGet (tVar 3) (tVar 5)) rfl scRFr.nd (pi_keys (pv 3)) (blkOk_by (N := ["house", "left", "first", "counts", "rooms", "room", "other"]) (sc := defScope sRoundsFrom) (by decide +kernel)) (fun _ _ _ _ _ => (pg_name (i := 5) scRFr.nd rfl (Or.inl rfl))) (fun _ _ _ _ _ => pts_one (pt_val (pe_meth (pv 0) T.cl mAH GAH hr bAH .nil pass0 (pa_cons (pv 5) (pa_cons (pv 2) pa_nil))))) (fun _ _ _ _ _ => (pe_dget (hu_of hr) (pv 3) (pv 5) (fun _ _ => rfl))))) pa_nil))))), ?_⟩
    have l1 := L.one
    have l6 := L.six
    have xl := hX.1
    have ndD : ∀ i, (lf.getD i []).Nodup := fun i => by
      by_cases e : i < lf.length
      · exact nd _ (getD_mem' e)
      · rw [List.getD_eq_getElem?_getD, List.getElem?_eq_none (by omega)]
        exact List.nodup_nil
    have rwN : ∀ i, (rwA lf f i).Nodup := fun i => by
      unfold rwA
      split
      · exact (ndD 0).filter _
      · exact ndD i
    have rwM : ∀ i, ∀ r ∈ rwA lf f i, r ∈ zs := fun i r hr => by
      unfold rwA at hr
      split at hr
      · exact L.memD 0 r (List.mem_filter.mp hr).1
      · exact L.memD i r hr
    have rw8 : ∀ i, (rwA lf f i).length ≤ 8 := fun i => by
      unfold rwA
      split
      · exact Nat.le_trans (List.length_filter_le ..) (L.eightD 0)
      · exact L.eightD i
    obtain ⟨q0, e0, hq0⟩ := SsL.get hX (i := 0) (by omega)
    have l8 := L.eightD 0
    refine ⟨_, rfl, l, _, 0, _, rfl, rfl, SqL.of hl, atI_nat (j := 0) e0, q0, rfl, ⟨_, SqL.of hq0⟩, fun B nB => ?_⟩
    refine it_any (walk_list (K := K) (a := q0) (xs := (lf.getD 0 []).map V.str)) (fun m H' => Same H H' ∧ H' B = some (.dK (dcK (((lf.getD 0 []).take m).filter fun r => decide (r = f)) (vAt bh lf f 0)))) ⟨same_new nB, upd_same⟩ (fun m H' _ z => SqL.of (z.1 _ _ hq0)) ?_ ?_
    · rintro m y H1 H2 hm ⟨s1, hB⟩ ⟨rfl, hy⟩
      obtain ⟨r, er, rfl⟩ := str_at hy
      have er' : (lf.getD 0 [])[m]? = some r := er
      have ef := filter_takeG' (f := fun r => decide (r = f)) er'
      refine ⟨rfl, _, rfl, _, rfl, rfl, _, rfl, ?_⟩
      rw [str_dec]
      refine ite2 (fun e => ?_) (fun e => ?_)
      · have nr : r ∉ ((lf.getD 0 []).take m).filter fun r => decide (r = f) := fun h => nodup_tk (ndD 0) er' (List.mem_filter.mp h).1
        refine ⟨_, rfl, _, (Sum.inr r : Key), rfl, hB, by rw [dcK_len]; exact small1000 (Nat.le_trans (List.length_filter_le ..) (by rw [List.length_take]; omega)), same_put s1 nB, ?_⟩
        rw [upd_same, ef, if_pos e]
        exact congrArg (fun z => some (HO.dK z)) (dcK_put (g := vAt bh lf f 0) nr)
      · refine ⟨s1, ?_⟩
        rw [hB, ef, if_neg e, List.append_nil]
    rintro H1 ⟨s1, hB⟩
    rw [List.length_map, List.take_length] at hB
    have hB : H1 B = some (.dK (dcK (rwA lf f 0) (vAt bh lf f 0))) := hB
    refine ⟨_, rfl, 1, rfl, l, _, rfl, SqL.of (s1 _ _ hl), fun sl nsl => ?_⟩
    rw [show (1 : Int) = ((1 : Nat) : Int) from rfl, cut_dropV]
    have s2 := same_new (o := .lst (xs.drop 1)) nsl
    have hsl : (upd H1 sl (.lst (xs.drop 1))) sl = some (.lst (xs.drop 1)) := upd_same
    have nBsl : B ≠ sl := ne_of_none hB nsl
    have hB := s2 _ _ hB
    generalize upd H1 sl (.lst (xs.drop 1)) = H2 at s2 hsl hB ⊢
    have s02 := s1.trans s2
    refine ⟨sl, rfl, ⟨_, SqL.of hsl⟩, for_it (walk_list (K := K) (a := sl) (xs := xs.drop 1)) (fun i σ G => ∃ (y4 : Option V) (d : Addr), σ = [some (.ref h), some (.ref l), some (.str f), some (.ref d), y4, none, none] ∧ Same H G ∧ G sl = some (.lst (xs.drop 1)) ∧ H d = none ∧ d ≠ sl ∧ G d = some (.dK (dcK (rwA lf f i) (vAt bh lf f i)))) ⟨_, B, rfl, s02, hsl, nB, nBsl, hB⟩ (fun i σ G _ z => by obtain ⟨_, _, _, _, z, _⟩ := z; exact SqL.of z) ?_ ?_⟩
    · rintro i x σ G0 G0' hi ⟨y4, d, rfl, s0, hs0, nd0, ndsl, hd0⟩ ⟨rfl, hx⟩
      have hx' : xs[1 + i]? = some x := by rw [← List.getElem?_drop]; exact hx
      have i1 : 1 + i < lf.length := by
        have := (List.getElem?_eq_some_iff.mp hx').1
        omega
      obtain ⟨q, eq, hq⟩ := SsL.get (SsL.same hX s0) (i := 1 + i) i1
      obtain rfl : V.ref q = x := Option.some.inj (eq.symm.trans hx')
      have er : lf.getD (1 + i) [] = rwA lf f (i + 1) := by
        unfold rwA
        rw [if_neg (by omega), Nat.add_comm]
      rw [er] at hq
      refine ⟨_, rfl, q, rfl, ⟨_, SqL.of hq⟩, fun D2 nD2 => ?_⟩
      have nD2H : H D2 = none := s0.free nD2
      have dD2 : d ≠ D2 := ne_of_none hd0 nD2
      have slD2 : sl ≠ D2 := ne_of_none hs0 nD2
      have qd : q ≠ d := fun e => by rw [e, hd0] at hq; cases hq
      have qD2 : q ≠ D2 := ne_of_none hq nD2
      refine it_any (walk_list (K := K) (a := q) (xs := (rwA lf f (i + 1)).map V.str)) (fun m G => Same H G ∧ G sl = some (.lst (xs.drop 1)) ∧ G q = some (.lst ((rwA lf f (i + 1)).map V.str)) ∧ G d = some (.dK (dcK (rwA lf f i) (vAt bh lf f i))) ∧ G D2 = some (.dK (dcK ((rwA lf f (i + 1)).take m) (vAt bh lf f (i + 1))))) ⟨same_put s0 nD2H, by rw [upd_ne slD2]; exact hs0, by rw [upd_ne qD2]; exact hq, by rw [upd_ne dD2]; exact hd0, upd_same⟩ (fun m G _ z => SqL.of z.2.2.1) ?_ ?_
      · rintro m y G1 G2 hm ⟨s1, hs1, hq1, hd1, hD1⟩ ⟨rfl, hy⟩
        obtain ⟨r, er1, rfl⟩ := str_at hy
        have er2 : (rwA lf f (i + 1))[m]? = some r := er1
        have hr := rwM _ r (List.mem_of_getElem? er2)
        refine ⟨rfl, _, rfl, d, _, hd1, trivial, fun od => ?_⟩
        have s2 : Same H (upd G2 d (.frz od (.dK (dcK (rwA lf f i) (vAt bh lf f i))))) := same_put s1 nd0
        have hs2 : (upd G2 d (.frz od (.dK (dcK (rwA lf f i) (vAt bh lf f i))))) sl = some (.lst (xs.drop 1)) := by rw [upd_ne (Ne.symm ndsl)]; exact hs1
        have hq2 : (upd G2 d (.frz od (.dK (dcK (rwA lf f i) (vAt bh lf f i))))) q = some (.lst ((rwA lf f (i + 1)).map V.str)) := by rw [upd_ne qd]; exact hq1
        have hD2 : (upd G2 d (.frz od (.dK (dcK (rwA lf f i) (vAt bh lf f i))))) D2 = some (.dK (dcK ((rwA lf f (i + 1)).take m) (vAt bh lf f (i + 1)))) := by rw [upd_ne dD2.symm]; exact hD1
        have hd2 : (upd G2 d (.frz od (.dK (dcK (rwA lf f i) (vAt bh lf f i))))) d = some (.frz od (.dK (dcK (rwA lf f i) (vAt bh lf f i)))) := upd_same
        generalize upd G2 d (.frz od (.dK (dcK (rwA lf f i) (vAt bh lf f i)))) = G3 at s2 hs2 hq2 hD2 hd2 ⊢
        refine ⟨_, rfl, d, od, rfl, .inl ⟨_, hd2, fun B nB => ?_⟩⟩
        have dB : d ≠ B := ne_of_none hd2 nB
        have rl := rw8 i
        refine it_any (walk_keys (d := d) (o := od) (kvs := dcK (rwA lf f i) (vAt bh lf f i))) (fun g G => Same G3 G ∧ G B = some (.lst (((((rwA lf f i).take g).filter fun o => hnd bh o r).map (vAt bh lf f i)).map V.int))) ⟨same_new nB, upd_same⟩ (fun g G _ z => z.1 _ _ hd2) ?_ ?_
        · rintro g z G4 G5 hg ⟨s4, hB4⟩ ⟨rfl, kk, vv, ek, rfl⟩
          obtain ⟨o, eo, ek2⟩ : ∃ o, (rwA lf f i)[g]? = some o ∧ ((Sum.inr o : Key), V.int (vAt bh lf f i o)) = (kk, vv) := by
            unfold dcK at ek
            rw [List.getElem?_map] at ek
            obtain ⟨o, eo, e⟩ := Option.map_eq_some_iff.mp ek
            exact ⟨o, eo, e⟩
          obtain ⟨rfl, rfl⟩ := Prod.mk.inj ek2
          have ho := rwM _ o (List.mem_of_getElem? eo)
          have ef := filter_takeG' (f := fun o => hnd bh o r) eo
          have hH5 := hH.same (s2.trans s4)
          obtain ⟨⟨dx, nn, bx, v, h1, _⟩, _⟩ := id hH5
          refine ⟨rfl, _, rfl, h, dx, _, rfl, h1, hf_no _ _ _ (by decide +kernel) (by decide +kernel) (by decide +kernel), _, rfl, _, rfl, h, zs, bh, vw, o, r, rfl, hH5, ho, hr, _, rfl, ?_⟩
          show if hnd bh o r = true then _ else _
          refine ite2 (fun e => ?_) (fun e => ?_)
          · refine ⟨_, rfl, _, rfl, d, _, rfl, (by rw [← dcK_val (g := vAt bh lf f i) (List.mem_of_getElem? eo)]; exact dget_frz (s4 _ _ hd2)), _, hB4, small1000 (by rw [List.length_map, List.length_map]; exact Nat.le_trans (List.length_filter_le ..) (by rw [List.length_take]; omega)), same_put s4 nB, ?_⟩
            rw [upd_same, ef, if_pos e, List.map_append, List.map_append]
            rfl
          · refine ⟨s4, ?_⟩
            rw [hB4, ef, if_neg e, List.append_nil]
        rintro G4 ⟨s4, hB4⟩
        rw [dcK_len, List.take_length] at hB4
        have nr := nodup_tk (rwN (i + 1)) er2
        refine ⟨s4 _ _ hd2, B, _, rfl, SqL.of (show (upd G4 d (.dK (dcK (rwA lf f i) (vAt bh lf f i)))) B = _ by rw [upd_ne dB.symm]; exact hB4), ?_⟩
        have hD4 : (upd G4 d (.dK (dcK (rwA lf f i) (vAt bh lf f i)))) D2 = some (.dK (dcK ((rwA lf f (i + 1)).take m) (vAt bh lf f (i + 1)))) := by rw [upd_ne dD2.symm]; exact s4 _ _ hD2
        refine ⟨_, (Sum.inr r : Key), rfl, hD4, by rw [dcK_len]; exact small1000 (by rw [List.length_take]; have := rw8 (i + 1); omega), same_put (same_put (s2.trans s4) nd0) nD2H, ?_, ?_, ?_, ?_⟩
        · rw [upd_ne slD2, upd_ne (Ne.symm ndsl)]
          exact s4 _ _ hs2
        · rw [upd_ne qD2, upd_ne qd]
          exact s4 _ _ hq2
        · rw [upd_ne dD2, upd_same]
        · rw [upd_same, take_snoc' er2]
          exact congrArg (fun z => some (HO.dK z)) (dcK_put (g := vAt bh lf f (i + 1)) nr)
      rintro G3 ⟨s3, hs3, hq3, hd3, hD3⟩
      rw [List.length_map, List.take_length] at hD3
      exact ⟨_, D2, rfl, s3, hs3, nD2H, slD2.symm, hD3⟩
    · rintro σ G0 ⟨y4, d, rfl, s0, hs0, nd0, ndsl, hd0⟩
      have dl : (xs.drop 1).length = lf.length - 1 := by rw [List.length_drop]; omega
      rw [dl] at hd0
      refine ⟨d, _, hd0, trivial, fun od => ?_⟩
      have s2 : Same H (upd G0 d (.frz od (.dK (dcK (rwA lf f (lf.length - 1)) (vAt bh lf f (lf.length - 1)))))) := same_put s0 nd0
      have hd2 : (upd G0 d (.frz od (.dK (dcK (rwA lf f (lf.length - 1)) (vAt bh lf f (lf.length - 1)))))) d = some (.frz od (.dK (dcK (rwA lf f (lf.length - 1)) (vAt bh lf f (lf.length - 1))))) := upd_same
      generalize upd G0 d (.frz od (.dK (dcK (rwA lf f (lf.length - 1)) (vAt bh lf f (lf.length - 1))))) = G3 at s2 hd2 ⊢
      refine ⟨_, rfl, d, od, rfl, .inl ⟨_, hd2, fun B nB => ?_⟩⟩
      have dB : d ≠ B := ne_of_none hd2 nB
      have rl := rw8 (lf.length - 1)
      refine it_any (walk_keys (d := d) (o := od) (kvs := dcK (rwA lf f (lf.length - 1)) (vAt bh lf f (lf.length - 1)))) (fun g G => Same G3 G ∧ G B = some (.lst (((((rwA lf f (lf.length - 1)).take g).filter fun o => hnd bh o f).map (vAt bh lf f (lf.length - 1))).map V.int))) ⟨same_new nB, upd_same⟩ (fun g G _ z => z.1 _ _ hd2) ?_ ?_
      · rintro g z G4 G5 hg ⟨s4, hB4⟩ ⟨rfl, kk, vv, ek, rfl⟩
        obtain ⟨o, eo, ek2⟩ : ∃ o, (rwA lf f (lf.length - 1))[g]? = some o ∧ ((Sum.inr o : Key), V.int (vAt bh lf f (lf.length - 1) o)) = (kk, vv) := by
          unfold dcK at ek
          rw [List.getElem?_map] at ek
          obtain ⟨o, eo, e⟩ := Option.map_eq_some_iff.mp ek
          exact ⟨o, eo, e⟩
        obtain ⟨rfl, rfl⟩ := Prod.mk.inj ek2
        have ho := rwM _ o (List.mem_of_getElem? eo)
        have ef := filter_takeG' (f := fun o => hnd bh o f) eo
        have hH5 := hH.same (s2.trans s4)
        obtain ⟨⟨dx, nn, bx, v, h1, _⟩, _⟩ := id hH5
        refine ⟨rfl, _, rfl, h, dx, _, rfl, h1, hf_no _ _ _ (by decide +kernel) (by decide +kernel) (by decide +kernel), _, rfl, _, rfl, h, zs, bh, vw, o, f, rfl, hH5, ho, hf, _, rfl, ?_⟩
        show if hnd bh o f = true then _ else _
        refine ite2 (fun e => ?_) (fun e => ?_)
        · refine ⟨_, rfl, _, rfl, d, _, rfl, (by rw [← dcK_val (g := vAt bh lf f (lf.length - 1)) (List.mem_of_getElem? eo)]; exact dget_frz (s4 _ _ hd2)), _, hB4, small1000 (by rw [List.length_map, List.length_map]; exact Nat.le_trans (List.length_filter_le ..) (by rw [List.length_take]; omega)), same_put s4 nB, ?_⟩
          rw [upd_same, ef, if_pos e, List.map_append, List.map_append]
          rfl
        · refine ⟨s4, ?_⟩
          rw [hB4, ef, if_neg e, List.append_nil]
      rintro G4 ⟨s4, hB4⟩
      rw [dcK_len, List.take_length] at hB4
      refine ⟨s4 _ _ hd2, B, _, rfl, SqL.of (show (upd G4 d (.dK (dcK (rwA lf f (lf.length - 1)) (vAt bh lf f (lf.length - 1))))) B = _ by rw [upd_ne dB.symm]; exact hB4), ?_⟩
      exact k _ (same_put (s2.trans s4) nd0)
end
end Dk
namespace Dk
open PySem L2
section
variable {P : Program} {w : World} {K : PySem.W.Frag} {mg : Str → Option Value} {base : Heap}
theorem scFit : FnScope ["house", "size", "sightings", "left", "first"] ["house", "size", "sightings"] (defScope sFits) := ⟨rfl, rfl, rfl, by decide +kernel, rfl, by decide +kernel, by decide +kernel⟩
theorem ok_fits {f C fNs fRl fRf fRo : Addr} {fd dNs dRl dRf dRo : FuncData} (F : Fun K "fits" "fits" sFits f fd) (T : HTxt K C) (FNs : Fun K "need_seen" "need_seen" sNeedSeen fNs dNs) (bNs : Binds K dNs ["house", "size", "sightings"] []) (gNs : mg "need_seen" = some (.ref fNs)) (GNs : FnOk P w K mg base CX0 3 fNs dNs ["house", "size", "sightings"] (spNeedSeen K C)) (FRl : Fun K "rooms_left" "rooms_left" sRoomsLeft fRl dRl) (bRl : Binds K dRl ["house", "size", "sightings"] []) (gRl : mg "rooms_left" = some (.ref fRl)) (GRl : FnOk P w K mg base CX0 2 fRl dRl ["house", "size", "sightings"] (spRoomsLeft K C)) (FRf : Fun K "rounds_from" "rounds_from" sRoundsFrom fRf dRf) (bRf : Binds K dRf ["house", "left", "first"] []) (gRf : mg "rounds_from" = some (.ref fRf)) (GRf : FnOk P w K mg base CX0 6 fRf dRf ["house", "left", "first"] (spRoundsFrom C)) (mRo : Meth K C "rooms" fRo) (bRo : Binds K dRo ["self"] []) (GRo : FnOk P w K mg base CX0 1 fRo dRo ["self"] (spRooms C)) (m_sum : mg "sum" = none) : FnOk P w K mg base CX0 7 f fd ["house", "size", "sightings"] (spFits K C) := by
  refine F.ok scFit (fun vs H Q E h => ?_) (fun cdv A outer s H vs Q E hr h => ?_)
  · obtain ⟨h, p, zs, bh, vw, n, xs, sg, rfl, _⟩ := h
    rfl
  · obtain ⟨h, p, zs, bh, vw, n, xs, sg, rfl, hH, zn, z8, n1, n6, hS, hP, ok, k⟩ := h
    refine ⟨_, pss_cons (ps_expr (pe_call GNs (hr.mono (by decide)) (by rfl) gNs FNs.kp bNs .nil pass0 (pa_cons (pv 0) (pa_cons (pv 1) (pa_cons (pv 2) pa_nil)))))
      (pss_cons (ps_set (i := 3) scFit.nd rfl (Or.inr rfl) (pe_call GRl (hr.mono (by decide)) (by rfl) gRl FRl.kp bRl .nil pass0 (pa_cons (pv 0) (pa_cons (pv 1) (pa_cons (pv 2) pa_nil)))))
      (pss_one (ps_ret (pe_callB (cr_sum rfl) (by rfl) m_sum (by decide +kernel) (pa_cons (pe_lc (own := [("first", 4)]) (g := gName 4) (tt := tYes) (te := tCall (spRoundsFrom C) [] E0 (tCons (tVar 0) (tCons (tVar 3) (tCons (tVar 4) tNil)))) rfl scFit.nd (pi_list (pe_meth0 (pv 0) T.cl mRo GRo (hr.mono (by decide)) bRo .nil pass0)) (blkOk_by (N := ["house", "size", "sightings", "left", "first"]) (sc := defScope sFits) (by decide +kernel)) (fun _ _ _ _ _ => (pg_name (i := 4) scFit.nd rfl (Or.inl rfl))) (fun _ _ _ _ _ => pts_nil) (fun _ _ _ _ _ => (pe_call GRf hr (by rfl) gRf FRf.kp bRf .nil pass0 (pa_cons (pv 0) (pa_cons (pv 3) (pa_cons (pv 4) pa_nil)))))) pa_nil))))), ?_⟩
    refine ⟨_, rfl, _, rfl, _, rfl, h, p, zs, bh, vw, n, xs, sg, rfl, hH, n1, n6, hS, hP, ok, fun H1 s1 => ?_⟩
    refine ⟨_, rfl, _, rfl, _, rfl, h, p, zs, bh, vw, n, xs, sg, rfl, hH.same s1, z8, n1, n6, hS.same s1, SgL.same hP s1, ok, fun H2 l ls s2 nl hl hL => ?_⟩
    have L := leftN_ok (zs := zs) (sg := sg) n1 n6 z8
    have nd : ∀ t ∈ leftN zs n sg, t.Nodup := fun t ht => by
      obtain ⟨i, _, rfl⟩ := List.mem_map.mp ht
      exact zn.filter _
    generalize leftN zs n sg = lf at hL L nd k
    have s02 := s1.trans s2
    have hH2 := hH.same s02
    obtain ⟨⟨dx, nn, bx, v, h1, _⟩, _⟩ := id hH2
    refine ⟨_, rfl, h, dx, _, rfl, h1, hf_no _ _ _ (by decide +kernel) (by decide +kernel) (by decide +kernel), h, zs, bh, vw, rfl, hH2, fun H3 q s3 nq hq => ?_⟩
    have s03 := s02.trans s3
    refine ⟨q, rfl, ⟨_, SqL.of hq⟩, fun D nD => ?_⟩
    refine it_any (walk_list (K := K) (a := q) (xs := zs.map V.str)) (fun j G => Same H3 G ∧ G D = some (.lst (((zs.take j).map (pFin bh lf)).map V.int))) ⟨same_new nD, upd_same⟩ (fun j G _ z => SqL.of (z.1 _ _ hq)) ?_ ?_
    · rintro j x G1 G2 hj ⟨g, hD⟩ ⟨rfl, hx⟩
      obtain ⟨z, ez, rfl⟩ := str_at hx
      have ez' : zs[j]? = some z := ez
      have s3g := s3.trans g
      refine ⟨rfl, _, rfl, _, rfl, _, rfl, h, l, zs, bh, vw, ls, lf, z, rfl, hH.same (s02.trans s3g), s3g _ _ hl, SsL.same hL s3g, L, nd, List.mem_of_getElem? ez', fun G3 g3 => ?_⟩
      refine ⟨_, g3 _ _ hD, small1000 (by rw [List.length_map, List.length_map, List.length_take]; omega), same_put (g.trans g3) nD, ?_⟩
      rw [upd_same, take_snoc' ez', List.map_append, List.map_append]
      rfl
    rintro H4 ⟨s4, hD⟩
    rw [List.length_map, List.take_length] at hD
    exact ⟨D, _, rfl, SqL.of hD, k H4 (s03.trans s4)⟩
end
end Dk
namespace Dk
open PySem L2
section
variable {P : Program} {w : World} {K : PySem.W.Frag} {mg : Str → Option Value} {base : Heap}
theorem scRRd : FnScope ["house", "size", "sightings", "left", "found", "at", "other", "room", "first"] ["house", "size", "sightings"] (defScope sReadRound) := ⟨rfl, rfl, rfl, by decide +kernel, rfl, by decide +kernel, by decide +kernel⟩
theorem ok_readround {f C fNs fRl fSo fNa fTr fRo : Addr} {fd dNs dRl dSo dNa dTr dRo : FuncData} (F : Fun K "read_round" "read_round" sReadRound f fd) (T : HTxt K C) (FNs : Fun K "need_seen" "need_seen" sNeedSeen fNs dNs) (bNs : Binds K dNs ["house", "size", "sightings"] []) (gNs : mg "need_seen" = some (.ref fNs)) (GNs : FnOk P w K mg base CX0 3 fNs dNs ["house", "size", "sightings"] (spNeedSeen K C)) (FRl : Fun K "rooms_left" "rooms_left" sRoomsLeft fRl dRl) (bRl : Binds K dRl ["house", "size", "sightings"] []) (gRl : mg "rooms_left" = some (.ref fRl)) (GRl : FnOk P w K mg base CX0 2 fRl dRl ["house", "size", "sightings"] (spRoomsLeft K C)) (FSo : Fun K "some_round" "some_round" sSome fSo dSo) (bSo : Binds K dSo ["house", "left"] []) (gSo : mg "some_round" = some (.ref fSo)) (GSo : FnOk P w K mg base CX0 8 fSo dSo ["house", "left"] (spSome C)) (FNa : Fun K "narrowed" "narrowed" sNarrowed fNa dNa) (bNa : Binds K dNa ["left", "at", "rooms"] []) (gNa : mg "narrowed" = some (.ref fNa)) (GNa : FnOk P w K mg base CX0 1 fNa dNa ["left", "at", "rooms"] spNarrowed) (FTr : Fun K "trail_of" "trail_of" sTrailOf fTr dTr) (bTr : Binds K dTr ["house", "left", "first"] []) (gTr : mg "trail_of" = some (.ref fTr)) (GTr : FnOk P w K mg base CX0 7 fTr dTr ["house", "left", "first"] (spTrailOf C)) (mRo : Meth K C "rooms" fRo) (bRo : Binds K dRo ["self"] []) (GRo : FnOk P w K mg base CX0 1 fRo dRo ["self"] (spRooms C)) (m_range : mg "range" = none) : FnOk P w K mg base CX0 9 f fd ["house", "size", "sightings"] (spReadRound K C) := by
  refine F.ok scRRd (fun vs H Q E h => ?_) (fun cdv A outer s H vs Q E hr h => ?_)
  · obtain ⟨h, p, zs, bh, vw, n, xs, sg, rfl, _⟩ := h
    rfl
  · obtain ⟨h, p, zs, bh, vw, n, xs, sg, rfl, hH, sy, z8, n1, n6, hS, hP, ok, k1, k2⟩ := h
    refine ⟨_, pss_cons (ps_expr (pe_call GNs (hr.mono (by decide)) (by rfl) gNs FNs.kp bNs .nil pass0 (pa_cons (pv 0) (pa_cons (pv 1) (pa_cons (pv 2) pa_nil)))))
      (pss_cons (ps_set (i := 3) scRRd.nd rfl (Or.inr rfl) (pe_call GRl (hr.mono (by decide)) (by rfl) gRl FRl.kp bRl .nil pass0 (pa_cons (pv 0) (pa_cons (pv 1) (pa_cons (pv 2) pa_nil)))))
      (pss_cons (ps_set (i := 4) scRRd.nd rfl (Or.inr rfl) (pe_call GSo hr (by rfl) gSo FSo.kp bSo .nil pass0 (pa_cons (pv 0) (pa_cons (pv 3) pa_nil))))
      (pss_cons (ps_if (pt_cmpR op_isN (pv 4) pe_non (nomark _)) (pss_one (ps_ret (pe_tup (pa_cons pe_str (pa_cons (pe_lc (own := [("first", 8)]) (g := gName 8) (tt := tYes) (te := tCall (spTrailOf C) [] E0 (tCons (tVar 0) (tCons (tVar 3) (tCons (tVar 8) tNil)))) rfl scRRd.nd (pi_list (pe_meth0 (pv 0) T.cl mRo GRo (hr.mono (by decide)) bRo .nil pass0)) (blkOk_by (N := ["house", "size", "sightings", "left", "found", "at", "other", "room", "first"]) (sc := defScope sReadRound) (by decide +kernel)) (fun _ _ _ _ _ => (pg_name (i := 8) scRRd.nd rfl (Or.inl rfl))) (fun _ _ _ _ _ => pts_nil) (fun _ _ _ _ _ => (pe_call GTr (hr.mono (by decide)) (by rfl) gTr FTr.kp bTr .nil pass0 (pa_cons (pv 0) (pa_cons (pv 3) (pa_cons (pv 8) pa_nil)))))) pa_nil))))) pss_nil)
      (pss_cons (ps_for PassesOwn.never rfl (pi_range1 (by rfl) m_range (pa_cons (pv 1) pa_nil)) (pg_name (i := 5) scRRd.nd rfl (Or.inr rfl))
      (pss_cons (ps_set (i := 6) scRRd.nd rfl (Or.inl rfl) (pe_call GSo hr (by rfl) gSo FSo.kp bSo .nil pass0 (pa_cons (pv 0) (pa_cons (pe_call GNa (hr.mono (by decide)) (by rfl) gNa FNa.kp bNa .nil pass0 (pa_cons (pv 3) (pa_cons (pv 5) (pa_cons (pe_lc (own := [("room", 7)]) (g := gName 7) (tt := tTest (tOp rNe (tVar 7) (tOp (rIxT K) (tVar 4) (tVar 5)))) (te := tVar 7) rfl scRRd.nd (pi_list (pe_ix ix_list (pv 3) (pv 5) (fun _ _ => rfl))) (blkOk_by (N := ["house", "size", "sightings", "left", "found", "at", "other", "room", "first"]) (sc := defScope sReadRound) (by decide +kernel)) (fun _ _ _ _ _ => (pg_name (i := 7) scRRd.nd rfl (Or.inl rfl))) (fun _ _ _ _ _ => pts_one (pt_cmpR op_ne (pv 7) (pe_ix ix_tup (pv 4) (pv 5) (fun _ _ => rfl)) (nomark _))) (fun _ _ _ _ _ => (pv 7))) pa_nil)))) pa_nil))))
      (pss_one (ps_if (pt_cmpR op_notN1 (pv 6) pe_non (nomark _)) (pss_one (ps_ret (pe_tup (pa_cons pe_str (pa_cons (pv 4) (pa_cons (pv 6) (pa_cons (pv 5) pa_nil))))))) pss_nil))))
      (pss_one (ps_ret (pe_tup (pa_cons pe_str (pa_cons (pv 4) pa_nil))))))))), ?_⟩
    refine ⟨_, rfl, _, rfl, _, rfl, h, p, zs, bh, vw, n, xs, sg, rfl, hH, n1, n6, hS, hP, ok, fun H1 s1 => ?_⟩
    refine ⟨_, rfl, _, rfl, _, rfl, h, p, zs, bh, vw, n, xs, sg, rfl, hH.same s1, z8, n1, n6, hS.same s1, SgL.same hP s1, ok, fun H2 l ls s2 nl hl hL => ?_⟩
    have L := leftN_ok (zs := zs) (sg := sg) n1 n6 z8
    have ll := leftN_len zs n sg
    generalize leftN zs n sg = lf at hL L ll k1 k2
    have s02 := s1.trans s2
    refine ⟨_, rfl, _, rfl, h, l, zs, bh, vw, ls, lf, rfl, hH.same s02, sy, z8, hl, hL, L, fun e H3 s3 => ?_, fun r e H3 fq s3 nfq hfq => ?_⟩
    · refine ⟨_, rfl, rfl, _, rfl, iteT ?_⟩
      have s03 := s02.trans s3
      have hH3 := hH.same s03
      obtain ⟨⟨dx, nn, bx, v, h1, _⟩, _⟩ := id hH3
      refine ⟨_, rfl, h, dx, _, rfl, h1, hf_no _ _ _ (by decide +kernel) (by decide +kernel) (by decide +kernel), h, zs, bh, vw, rfl, hH3, fun H4 q s4 nq hq => ?_⟩
      have s04 := s03.trans s4
      refine ⟨q, rfl, ⟨_, SqL.of hq⟩, fun D nD => ?_⟩
      refine it_any (walk_list (K := K) (a := q) (xs := zs.map V.str)) (fun j G => Same H4 G ∧ ∃ ys, G D = some (.lst ys) ∧ AL (TbA bh lf (fun a => H a = none ∧ a ≠ D)) G ys (zs.take j)) ⟨same_new nD, [], upd_same, AL.nil⟩ (fun j G _ z => SqL.of (z.1 _ _ hq)) ?_ ?_
      · rintro j x G1 G2 hj ⟨g, ys, hD, hA⟩ ⟨rfl, hx⟩
        obtain ⟨z, ez, rfl⟩ := str_at hx
        have ez' : zs[j]? = some z := ez
        have s2g := (s3.trans s4).trans g
        have s0g := s04.trans g
        refine ⟨rfl, _, rfl, _, rfl, _, rfl, h, l, zs, bh, vw, ls, lf, z, rfl, hH.same s0g, s2g _ _ hl, SsL.same hL s2g, L, fun G3 tq ts g3 ntq htq hts => ?_⟩
        have hD3 := g3 _ _ hD
        have tqD : tq ≠ D := (ne_of_none hD ntq).symm
        refine ⟨_, hD3, small1000 (by rw [hA.1, List.length_take]; omega), same_put (g.trans g3) nD, ys ++ [.ref tq], upd_same, ?_⟩
        rw [take_snoc' ez']
        refine AL.snoc (AL.mono hA fun x p t => (t.same g3).put (fun z => z.2 rfl)) ⟨tq, ts, ⟨s0g.free ntq, tqD⟩, rfl, by rw [upd_ne tqD]; exact htq, SxL.put (SxL.mono hts fun a ha => ⟨s0g.free ha.1, fun z => by rw [z, hD] at ha; cases ha.1⟩) (fun z => z.2 rfl)⟩
      rintro H5 ⟨s5, ys, hD, hA⟩
      rw [List.length_map, List.take_length] at hA
      refine ⟨by show 2 ≤ sizeLine; decide, fun tp ntp => ?_⟩
      have s05 := s04.trans s5
      have s6 := same_new (o := .tup [V.str "none", V.ref D]) ntp
      exact k1 e _ tp D ys (s05.trans s6) (s05.free ntp) (s04.free nD) upd_same (s6 _ _ hD) (AL.mono hA fun x p t => t.same s6)
    · refine ⟨_, rfl, rfl, _, rfl, iteF ?_⟩
      have s03 := s02.trans s3
      obtain ⟨ka, kb⟩ := k2 r e
      have rl := (some_mem L sy e).1
      have hl3 := s3 _ _ hl
      have hL3 := SsL.same hL s3
      refine ⟨_, rfl, ((n : Nat) : Int), rfl, by omega, by omega, ?_⟩
      rw [show (((n : Nat) : Int)).toNat = n by omega]
      refine for_range (n := n) (fun i σ G => ∃ y5 y6, σ = [some (.ref h), some (.int ((n : Nat) : Int)), some (.ref p), some (.ref l), some (.ref fq), y5, y6, none, none] ∧ Same H3 G ∧ ∀ j, j < i → someN zs bh (nrw lf j ((lf.getD j []).filter fun x => decide (x ≠ at0 r j))) = none) ⟨_, _, rfl, fun _ _ z => z, fun j hj => by omega⟩ ?_ ?_
      · rintro i σ G0 hi ⟨y5, y6, rfl, g0, nj⟩
        have il : i < lf.length := by omega
        obtain ⟨q, eq, hq⟩ := SsL.get (SsL.same hL3 g0) (i := i) il
        have hfq0 := g0 _ _ hfq
        have hl0 := g0 _ _ hl3
        have er := at0_some (w := r) (i := i) (by omega)
        rw [show (0 : Int) + ((i : Nat) : Int) = ((i : Nat) : Int) by omega]
        refine ⟨_, rfl, _, rfl, _, rfl, _, rfl, _, rfl, l, _, _, _, rfl, rfl, SqL.of hl0, atI_nat (j := i) eq, q, rfl, ⟨_, SqL.of hq⟩, fun D nD => ?_⟩
        have lt := L.eightD i
        have lm := L.memD i
        refine it_any (walk_list (K := K) (a := q) (xs := (lf.getD i []).map V.str)) (fun m G => Same G0 G ∧ G D = some (.lst ((((lf.getD i []).take m).filter fun x => decide (x ≠ at0 r i)).map V.str))) ⟨same_new nD, upd_same⟩ (fun m G _ z => SqL.of (z.1 _ _ hq)) ?_ ?_
        · rintro m y G1 G2 hm ⟨g1, hD⟩ ⟨rfl, hy⟩
          obtain ⟨z, ez, rfl⟩ := str_at hy
          have ez' : (lf.getD i [])[m]? = some z := ez
          have ef := filter_takeG' (f := fun x => decide (x ≠ at0 r i)) ez'
          refine ⟨rfl, _, rfl, _, rfl, _, rfl, fq, _, _, _, rfl, rfl, SqT.of (g1 _ _ hfq0), at_str er rfl, rfl, _, rfl, ?_⟩
          have ed : (!decide (V.str z = V.str (at0 r i))) = decide (z ≠ at0 r i) := by
            rw [str_dec]
            simp
          rw [ed]
          refine ite2 (fun e2 => ?_) (fun e2 => ?_)
          · refine ⟨_, rfl, _, hD, small1000 (by rw [List.length_map]; exact Nat.le_trans (List.length_filter_le ..) (by rw [List.length_take]; omega)), same_put g1 nD, ?_⟩
            rw [upd_same, ef, if_pos e2, List.map_append]
            rfl
          · refine ⟨g1, ?_⟩
            rw [hD, ef, if_neg e2, List.append_nil]
        rintro G1 ⟨g1, hD⟩
        rw [List.length_map, List.take_length] at hD
        have g01 := g0.trans g1
        have fm : ∀ x ∈ (lf.getD i []).filter (fun x => decide (x ≠ at0 r i)), x ∈ zs := fun x hx => lm x (List.mem_filter.mp hx).1
        have f8 : ((lf.getD i []).filter (fun x => decide (x ≠ at0 r i))).length ≤ 8 := Nat.le_trans (List.length_filter_le ..) lt
        refine ⟨l, D, ls, lf, _, i, rfl, g01 _ _ hl3, SsL.same hL3 g01, hD, il, by omega, fun G6 q6 ys g6 nq6 hq6 hY => ?_⟩
        have g06 := g01.trans g6
        refine ⟨h, q6, zs, bh, vw, ys, _, rfl, hH.same (s03.trans g06), sy, z8, hq6, hY, nrw_ok L il fm f8, fun e7 G7 g7 => ?_, fun r2 e7 G7 oq g7 noq hoq => ?_⟩
        · refine ⟨_, rfl, rfl, _, rfl, iteF ?_⟩
          refine ⟨_, _, rfl, g06.trans g7, fun j hj => ?_⟩
          by_cases ej : j = i
          · rw [ej]
            exact e7
          · exact nj j (by omega)
        · refine ⟨_, rfl, rfl, _, rfl, iteT ?_⟩
          refine ⟨_, rfl, _, rfl, _, rfl, by show 4 ≤ sizeLine; decide, fun tp ntp => ?_⟩
          have s07 := (s03.trans g06).trans g7
          have s8 := same_new (o := .tup [V.str "many", V.ref fq, V.ref oq, V.int ((i : Nat) : Int)]) ntp
          exact kb i r2 hi e7 nj _ tp fq oq (s07.trans s8) (s07.free ntp) upd_same (s8 _ _ ((g06.trans g7) _ _ hfq)) (s8 _ _ hoq)
      · rintro σ G0 ⟨y5, y6, rfl, g0, nj⟩
        refine ⟨_, rfl, by show 2 ≤ sizeLine; decide, fun tp ntp => ?_⟩
        have s04 := s03.trans g0
        have s5 := same_new (o := .tup [V.str "one", V.ref fq]) ntp
        exact ka nj _ tp fq (s04.trans s5) (s04.free ntp) upd_same (s5 _ _ (g0 _ _ hfq))
end
end Dk
namespace Dk
open PySem L2 PyProof.Rows
/-! ### the head: facts by names, and one question more -/
abbrev AlY : Type := He.AlD × Bool
def obY (n : List Addr) (fs : List He.Fa) (ds : List He.DefD) (e : PySem.W.Frag → Bool) (g : Addr → Option Obj) : AlY := (He.obsD fs ds (He.frG g n), e (He.frG g n))
def hkY (n : List Addr) (fs : List He.Fa) (ds : List He.DefD) (e : PySem.W.Frag → Bool) : PySem.W.Hook where
  α := AlY
  obs := fun z => obY n fs ds e z.heap.get?
  val := fun _ => (He.valD ds, true)
  says := fun _ hp => ∃ K : PySem.W.Frag, K.In hp ∧ (He.SaysD fs ds K ∧ e K = true)
  of := fun _ _ z => ⟨_, He.frG_in, congrArg Prod.fst z, congrArg Prod.snd z⟩
  keeps := fun _ _ _ z y => z.elim fun K x => ⟨K, PySem.W.Frag.In.keeps x.1 y, x.2⟩
theorem obY_eq {n : List Addr} {fs : List He.Fa} {ds : List He.DefD} {e : PySem.W.Frag → Bool} (z : PySem.W.SharedT) : obY n fs ds e (HandSHeadRun.getT z) = (hkY n fs ds e).obs z.abs := by
  have q : HandSHeadRun.getT z = z.abs.heap.get? := funext (HandSHeadRun.getT_eq z)
  rw [q]
  rfl
section
variable {K : PySem.W.Frag} {h : Heap} {mg : Str → Option Value} {x y q : Str} {st : Stmt} {f : Addr} {fd : FuncData}
theorem fun_ofD (F : FunD K x q (defArgs st) (defBody st) (defScope st) [] [] f fd) : Fun K x q st f fd := by
  obtain ⟨⟨oc, od, dV, kV, doc, pm, an, cdv, ct, osl, rfl, lk, hcd, hD, hK⟩, kp⟩ := F
  rcases hD with ⟨_, rfl⟩ | ⟨e, _⟩
  · exact ⟨⟨oc, od, kV, doc, pm, an, cdv, ct, osl, rfl, lk, hcd⟩, kp⟩
  · exact absurd rfl e
theorem glo_fun (X : K.In h) (G : h.Ns mainGlobals mg) (d : ∃ fd, FunD K x x (defArgs st) (defBody st) (defScope st) [] [] (He.fAd K (x, none)) fd) (c : (He.Fa.glo x).ok K = true) : ∃ f fd, Fun K x x st f fd ∧ mg x = some (.ref f) := by
  obtain ⟨fd, F⟩ := d
  exact ⟨_, fd, fun_ofD F, He.glo_ok X G c⟩
theorem met_fun {C : Addr} (e : C = He.ga K y) (d : ∃ fd, FunD K x q (defArgs st) (defBody st) (defScope st) [] [] (He.fAd K (y, some x)) fd) (c : (He.Fa.meth y x).ok K = true) : ∃ f fd, Fun K x q st f fd ∧ Meth K C x f := by
  obtain ⟨fd, F⟩ := d
  subst e
  exact ⟨_, fd, fun_ofD F, He.meth_ok c⟩
end
end Dk
namespace Dk
open PySem L2
def dsY : List He.DefD := [⟨("is_name", none), "is_name", "is_name", defArgs sIsName, defBody sIsName, defScope sIsName, [], []⟩,
  ⟨("need_new_name", none), "need_new_name", "need_new_name", defArgs sNewName, defBody sNewName, defScope sNewName, [], []⟩,
  ⟨("need_room", none), "need_room", "need_room", defArgs sNeed, defBody sNeed, defScope sNeed, [], []⟩,
  ⟨("need_rooms", none), "need_rooms", "need_rooms", defArgs sNeeds, defBody sNeeds, defScope sNeeds, [], []⟩,
  ⟨("need_unlike", none), "need_unlike", "need_unlike", defArgs sNU, defBody sNU, defScope sNU, [], []⟩,
  ⟨("new_names", none), "new_names", "new_names", defArgs sNew, defBody sNew, defScope sNew, [], []⟩,
  ⟨("unlike_pairs", none), "unlike_pairs", "unlike_pairs", defArgs sUnlike, defBody sUnlike, defScope sUnlike, [], []⟩,
  ⟨("linked", none), "linked", "linked", defArgs sLinked, defBody sLinked, defScope sLinked, [], []⟩,
  ⟨("need_round", none), "need_round", "need_round", defArgs sNeedRound, defBody sNeedRound, defScope sNeedRound, [], []⟩,
  ⟨("place", none), "place", "place", defArgs sPlace, defBody sPlace, defScope sPlace, [], [("delay", .int 0)]⟩,
  ⟨("divisor_and_share", none), "divisor_and_share", "divisor_and_share", defArgs sDas, defBody sDas, defScope sDas, [], []⟩,
  ⟨("wheel_of", none), "wheel_of", "wheel_of", defArgs sWheel, defBody sWheel, defScope sWheel, [], []⟩,
  ⟨("rooms_at", none), "rooms_at", "rooms_at", defArgs sRoomsAt, defBody sRoomsAt, defScope sRoomsAt, [], []⟩,
  ⟨("has_relief", none), "has_relief", "has_relief", defArgs sHasRelief, defBody sHasRelief, defScope sHasRelief, [], []⟩,
  ⟨("span_of", none), "span_of", "span_of", defArgs sSpanOf, defBody sSpanOf, defScope sSpanOf, [], []⟩,
  ⟨("handed_over", none), "handed_over", "handed_over", defArgs sHanded, defBody sHanded, defScope sHanded, [], []⟩,
  ⟨("relieved", none), "relieved", "relieved", defArgs sRelieved, defBody sRelieved, defScope sRelieved, [], []⟩,
  ⟨("changed_order", none), "changed_order", "changed_order", defArgs sChanged, defBody sChanged, defScope sChanged, [], []⟩,
  ⟨("orders_of", none), "orders_of", "orders_of", defArgs sOrders, defBody sOrders, defScope sOrders, [], []⟩,
  ⟨("lit_rooms", none), "lit_rooms", "lit_rooms", defArgs sLitRooms, defBody sLitRooms, defScope sLitRooms, [], []⟩,
  ⟨("moves_of", none), "moves_of", "moves_of", defArgs sMoves, defBody sMoves, defScope sMoves, [], []⟩,
  ⟨("rooms_at_hand", none), "rooms_at_hand", "rooms_at_hand", defArgs sHands, defBody sHands, defScope sHands, [], []⟩,
  ⟨("need_delay", none), "need_delay", "need_delay", defArgs sNeedDelay, defBody sNeedDelay, defScope sNeedDelay, [], []⟩,
  ⟨("need_reach", none), "need_reach", "need_reach", defArgs sNeedReach, defBody sNeedReach, defScope sNeedReach, [], []⟩,
  ⟨("need_relief", none), "need_relief", "need_relief", defArgs sNeedRelief, defBody sNeedRelief, defScope sNeedRelief, [], []⟩,
  ⟨("need_counts", none), "need_counts", "need_counts", defArgs sNeedCounts, defBody sNeedCounts, defScope sNeedCounts, [], []⟩,
  ⟨("names_of", none), "names_of", "names_of", defArgs sNamesOf, defBody sNamesOf, defScope sNamesOf, [], []⟩,
  ⟨("new_posts", none), "new_posts", "new_posts", defArgs sNewPosts, defBody sNewPosts, defScope sNewPosts, [], []⟩,
  ⟨("new_watchers", none), "new_watchers", "new_watchers", defArgs sNewWatchers, defBody sNewWatchers, defScope sNewWatchers, [], []⟩,
  ⟨("is_beat", none), "is_beat", "is_beat", defArgs sIsBeat, defBody sIsBeat, defScope sIsBeat, [], []⟩,
  ⟨("need_beat", none), "need_beat", "need_beat", defArgs sNeedBeat, defBody sNeedBeat, defScope sNeedBeat, [], []⟩,
  ⟨("_law_box", none), "_law_box", "_law_box", defArgs sBox, defBody sBox, defScope sBox, [], []⟩,
  ⟨("_law_draw", none), "_law_draw", "_law_draw", defArgs sDraw, defBody sDraw, defScope sDraw, [], []⟩,
  ⟨("_law_of", none), "_law_of", "_law_of", defArgs sOf, defBody sOf, defScope sOf, [], []⟩,
  ⟨("_law_names", none), "_law_names", "_law_names", defArgs sNames, defBody sNames, defScope sNames, [], []⟩,
  ⟨("_law_like", none), "_law_like", "_law_like", defArgs sLike, defBody sLike, defScope sLike, [], []⟩,
  ⟨("_law_house", none), "_law_house", "_law_house", defArgs sLawHouse, defBody sLawHouse, defScope sLawHouse, [], []⟩,
  ⟨("_law_near", none), "_law_near", "_law_near", defArgs sLawNear, defBody sLawNear, defScope sLawNear, [], []⟩,
  ⟨("_law_hand", none), "_law_hand", "_law_hand", defArgs sLawHand, defBody sLawHand, defScope sLawHand, [], []⟩,
  ⟨("_law_round", none), "_law_round", "_law_round", defArgs sLawRound, defBody sLawRound, defScope sLawRound, [], []⟩,
  ⟨("_law_made", none), "_law_made", "_law_made", defArgs sLawMade, defBody sLawMade, defScope sLawMade, [], []⟩,
  ⟨("need_seen", none), "need_seen", "need_seen", defArgs sNeedSeen, defBody sNeedSeen, defScope sNeedSeen, [], []⟩,
  ⟨("is_left", none), "is_left", "is_left", defArgs sIsLeft, defBody sIsLeft, defScope sIsLeft, [], []⟩,
  ⟨("rooms_left", none), "rooms_left", "rooms_left", defArgs sRoomsLeft, defBody sRoomsLeft, defScope sRoomsLeft, [], []⟩,
  ⟨("next_to", none), "next_to", "next_to", defArgs sNextTo, defBody sNextTo, defScope sNextTo, [], []⟩,
  ⟨("trail_of", none), "trail_of", "trail_of", defArgs sTrailOf, defBody sTrailOf, defScope sTrailOf, [], []⟩,
  ⟨("round_along", none), "round_along", "round_along", defArgs sAlong, defBody sAlong, defScope sAlong, [], []⟩,
  ⟨("some_round", none), "some_round", "some_round", defArgs sSome, defBody sSome, defScope sSome, [], []⟩,
  ⟨("narrowed", none), "narrowed", "narrowed", defArgs sNarrowed, defBody sNarrowed, defScope sNarrowed, [], []⟩,
  ⟨("turned", none), "turned", "turned", defArgs sTurned, defBody sTurned, defScope sTurned, [], []⟩,
  ⟨("rounds_from", none), "rounds_from", "rounds_from", defArgs sRoundsFrom, defBody sRoundsFrom, defScope sRoundsFrom, [], []⟩,
  ⟨("fits", none), "fits", "fits", defArgs sFits, defBody sFits, defScope sFits, [], []⟩,
  ⟨("can_be", none), "can_be", "can_be", defArgs sCanBe, defBody sCanBe, defScope sCanBe, [], []⟩,
  ⟨("read_round", none), "read_round", "read_round", defArgs sReadRound, defBody sReadRound, defScope sReadRound, [], []⟩,
  ⟨("law", none), "law", "law", defArgs sLaw, defBody sLaw, defScope sLaw, [], []⟩,
  ⟨("House", some "__init__"), "__init__", "House.__init__", defArgs sInit, defBody sInit, defScope sInit, [.adr (He.dflAt ("House", some "__init__") 0), .adr (He.dflAt ("House", some "__init__") 1), .adr (He.dflAt ("House", some "__init__") 2)], []⟩,
  ⟨("House", some "rooms"), "rooms", "House.rooms", defArgs sRooms, defBody sRooms, defScope sRooms, [], []⟩,
  ⟨("House", some "doors"), "doors", "House.doors", defArgs sDoors, defBody sDoors, defScope sDoors, [], []⟩,
  ⟨("House", some "sights"), "sights", "House.sights", defArgs sSights, defBody sSights, defScope sSights, [], []⟩,
  ⟨("House", some "has_room"), "has_room", "House.has_room", defArgs sHas, defBody sHas, defScope sHas, [], []⟩,
  ⟨("House", some "sees"), "sees", "House.sees", defArgs sSees, defBody sSees, defScope sSees, [], []⟩,
  ⟨("House", some "has_door"), "has_door", "House.has_door", defArgs sHasDoor, defBody sHasDoor, defScope sHasDoor, [], []⟩,
  ⟨("House", some "at_hand"), "at_hand", "House.at_hand", defArgs sAtHand, defBody sAtHand, defScope sAtHand, [], []⟩,
  ⟨("Scene", some "__init__"), "__init__", "Scene.__init__", defArgs sc_init, defBody sc_init, defScope sc_init, [.adr (He.dflAt ("Scene", some "__init__") 0), .adr (He.dflAt ("Scene", some "__init__") 1)], [("meet", .bl false), ("relief", .int 0)]⟩,
  ⟨("Scene", some "reaches_in"), "reaches_in", "Scene.reaches_in", defArgs sc_reaches_in, defBody sc_reaches_in, defScope sc_reaches_in, [], []⟩,
  ⟨("Scene", some "post_number"), "post_number", "Scene.post_number", defArgs sc_post_number, defBody sc_post_number, defScope sc_post_number, [], []⟩,
  ⟨("Scene", some "rooms_of"), "rooms_of", "Scene.rooms_of", defArgs sc_rooms_of, defBody sc_rooms_of, defScope sc_rooms_of, [], []⟩,
  ⟨("Scene", some "delay_of"), "delay_of", "Scene.delay_of", defArgs sc_delay_of, defBody sc_delay_of, defScope sc_delay_of, [], []⟩,
  ⟨("Scene", some "where"), "where", "Scene.where", defArgs sc_where, defBody sc_where, defScope sc_where, [], []⟩]
def dY (i : Nat) : He.DefD := dsY.getD i ⟨("law", none), "law", "law", defArgs sLaw, defBody sLaw, defScope sLaw, [], []⟩
def fsY : List He.Fa := [.glo "is_name", .glo "need_new_name", .glo "need_room", .glo "need_rooms", .glo "need_unlike", .glo "new_names", .glo "unlike_pairs", .glo "linked", .glo "need_round", .glo "place", .glo "divisor_and_share", .glo "wheel_of", .glo "rooms_at", .glo "has_relief", .glo "span_of", .glo "handed_over", .glo "relieved", .glo "changed_order", .glo "orders_of", .glo "lit_rooms", .glo "moves_of", .glo "rooms_at_hand", .glo "need_delay", .glo "need_reach", .glo "need_relief", .glo "need_counts", .glo "names_of", .glo "new_posts", .glo "new_watchers", .glo "is_beat", .glo "need_beat", .glo "_law_box", .glo "_law_draw", .glo "_law_of", .glo "_law_names", .glo "_law_like", .glo "_law_house", .glo "_law_near", .glo "_law_hand", .glo "_law_round", .glo "_law_made", .glo "need_seen", .glo "is_left", .glo "rooms_left", .glo "next_to", .glo "trail_of", .glo "round_along", .glo "some_round", .glo "narrowed", .glo "turned", .glo "rounds_from", .glo "fits", .glo "can_be", .glo "read_round", .glo "law", .glo "House", .cls "House", .mkr "House", .meth "House" "rooms", .meth "House" "doors", .meth "House" "sights", .meth "House" "has_room", .meth "House" "sees", .meth "House" "has_door", .meth "House" "at_hand", .noat "House" "names", .noat "House" "behind", .noat "House" "views", .glo "Scene", .cls "Scene", .mkr "Scene", .meth "Scene" "reaches_in", .meth "Scene" "post_number", .meth "Scene" "rooms_of", .meth "Scene" "delay_of", .meth "Scene" "where", .noat "Scene" "home", .noat "Scene" "post_rows", .noat "Scene" "watcher_rows", .noat "Scene" "has_meet", .noat "Scene" "relief_beats", .noat "Scene" "span_beats", .noat "Scene" "orders", .noat "Scene" "hands", .noat "Scene" "lights", .noat "Scene" "moves", .free "list", .free "len", .free "max", .free "min", .free "isinstance", .free "tuple", .free "all", .free "zip", .free "bool", .free "int", .free "str", .free "range", .free "enumerate", .free "any", .free "sum", .int "LONGEST_NAME" 8, .str "SMALL_LETTERS" abc, .int "MOST_ROOMS" 8, .int "MOST_ROUND" 6, .int "NEVER" 0, .int "MOST_RELIEF" 4, .int "MOST_POSTS" 5, .int "MOST_WATCHERS" 6, .int "FARTHEST" 1000000000]
def exC1 (x : Str) (K : PySem.W.Frag) : Bool := He.eqO (PySem.W.findIn K (.ref (He.ga K x)) "__class__") (some (some (.builtin "object.__class__"))) && (He.eqO (PySem.W.specialIn K (.builtin "object.__class__") "__get__") (some (some (.builtin "getset_descriptor.__get__"))) && (decide (PySem.W.takesIn K (.builtin "object.__class__") = some true) && (decide (PySem.W.mroIn K (He.ga K x) (.type "object") = some true) && (PySem.W.isClsIn K (He.ga K x) && decide (PySem.W.typeIn K (.ref (He.ga K x)) = some (.type "type"))))))
def exC (K : PySem.W.Frag) : Bool := exC1 "House" K
theorem exC_ok {x : Str} {K : PySem.W.Frag} (h : exC1 x K = true) : PySem.W.findIn K (.ref (He.ga K x)) "__class__" = some (some (.builtin "object.__class__")) ∧ PySem.W.specialIn K (.builtin "object.__class__") "__get__" = some (some (.builtin "getset_descriptor.__get__")) ∧ PySem.W.takesIn K (.builtin "object.__class__") = some true ∧ PySem.W.mroIn K (He.ga K x) (.type "object") = some true ∧ PySem.W.isClsIn K (He.ga K x) = true ∧ PySem.W.typeIn K (.ref (He.ga K x)) = some (.type "type") := by
  obtain ⟨h1, h⟩ := He.ba h
  obtain ⟨h2, h⟩ := He.ba h
  obtain ⟨h3, h⟩ := He.ba h
  obtain ⟨h4, h⟩ := He.ba h
  obtain ⟨h5, h6⟩ := He.ba h
  exact ⟨He.eqO_ok h1, He.eqO_ok h2, of_decide_eq_true h3, of_decide_eq_true h4, h5, of_decide_eq_true h6⟩
theorem law_binds {K : PySem.W.Frag} {f : Addr} {fd : FuncData} (F : Fun K "law" "law" sLaw f fd) : ∀ (s : Shared) (v : Value), BindsTo s fd ⟨[v], []⟩ [("_law_script", v)] := by
  obtain ⟨oc, od, kV, doc, pm, an, cdv, ct, osl, rfl, lk, hcd⟩ := F.ex
  exact fun s v => .of_eq rfl
theorem facts {P : Program} {w : World} {K : PySem.W.Frag} {h : Heap} {mg : Str → Option Value} {fa : Addr} (X : K.In h) (G : h.Ns mainGlobals mg) (hfa : mg "law" = some (.ref fa)) (c : He.SaysD fsY dsY K) (c2 : exC K = true) :
    ∃ fd : FuncData, (∀ (s : Shared) (v : Value), BindsTo s fd ⟨[v], []⟩ [("_law_script", v)]) ∧ ∀ base : Heap, K.In base → base.Ns mainGlobals mg → FnOk P w K mg base CX0 10 fa fd ["_law_script"] (spLaw K) := by
  obtain ⟨f0, d0, F0, g0⟩ := glo_fun (x := "is_name") (st := sIsName) X G (c.def_ 0 (d := dY 0) rfl) (c.fact 0 (f := .glo "is_name") rfl)
  have k0 := F0.kp
  have b0 := F0.binds (ps := ["text"]) fun _ _ _ _ _ _ us hl => match us, hl with | [_], _ => rfl
  obtain ⟨f1, d1, F1, g1⟩ := glo_fun (x := "need_new_name") (st := sNewName) X G (c.def_ 1 (d := dY 1) rfl) (c.fact 1 (f := .glo "need_new_name") rfl)
  have k1 := F1.kp
  have b1 := F1.binds (ps := ["name", "others"]) fun _ _ _ _ _ _ us hl => match us, hl with | [_, _], _ => rfl
  obtain ⟨f2, d2, F2, g2⟩ := glo_fun (x := "need_room") (st := sNeed) X G (c.def_ 2 (d := dY 2) rfl) (c.fact 2 (f := .glo "need_room") rfl)
  have k2 := F2.kp
  have b2 := F2.binds (ps := ["house", "room"]) fun _ _ _ _ _ _ us hl => match us, hl with | [_, _], _ => rfl
  obtain ⟨f3, d3, F3, g3⟩ := glo_fun (x := "need_rooms") (st := sNeeds) X G (c.def_ 3 (d := dY 3) rfl) (c.fact 3 (f := .glo "need_rooms") rfl)
  have k3 := F3.kp
  have b3 := F3.binds (ps := ["house", "a", "b"]) fun _ _ _ _ _ _ us hl => match us, hl with | [_, _, _], _ => rfl
  obtain ⟨f4, d4, F4, g4⟩ := glo_fun (x := "need_unlike") (st := sNU) X G (c.def_ 4 (d := dY 4) rfl) (c.fact 4 (f := .glo "need_unlike") rfl)
  have k4 := F4.kp
  have b4 := F4.binds (ps := ["house", "a", "b"]) fun _ _ _ _ _ _ us hl => match us, hl with | [_, _, _], _ => rfl
  obtain ⟨f5, d5, F5, g5⟩ := glo_fun (x := "new_names") (st := sNew) X G (c.def_ 5 (d := dY 5) rfl) (c.fact 5 (f := .glo "new_names") rfl)
  have k5 := F5.kp
  have b5 := F5.binds (ps := ["names"]) fun _ _ _ _ _ _ us hl => match us, hl with | [_], _ => rfl
  obtain ⟨f6, d6, F6, g6⟩ := glo_fun (x := "unlike_pairs") (st := sUnlike) X G (c.def_ 6 (d := dY 6) rfl) (c.fact 6 (f := .glo "unlike_pairs") rfl)
  have k6 := F6.kp
  have b6 := F6.binds (ps := ["house", "pairs"]) fun _ _ _ _ _ _ us hl => match us, hl with | [_, _], _ => rfl
  obtain ⟨f7, d7, F7, g7⟩ := glo_fun (x := "linked") (st := sLinked) X G (c.def_ 7 (d := dY 7) rfl) (c.fact 7 (f := .glo "linked") rfl)
  have k7 := F7.kp
  have b7 := F7.binds (ps := ["rooms", "pairs"]) fun _ _ _ _ _ _ us hl => match us, hl with | [_, _], _ => rfl
  obtain ⟨f8, d8, F8, g8⟩ := glo_fun (x := "need_round") (st := sNeedRound) X G (c.def_ 8 (d := dY 8) rfl) (c.fact 8 (f := .glo "need_round") rfl)
  have k8 := F8.kp
  have b8 := F8.binds (ps := ["house", "rooms"]) fun _ _ _ _ _ _ us hl => match us, hl with | [_, _], _ => rfl
  obtain ⟨f9, d9, F9, g9⟩ : ∃ f fd, FunD K "place" "place" (defArgs sPlace) (defBody sPlace) (defScope sPlace) [] [("delay", V.int 0)] f fd ∧ mg "place" = some (.ref f) := (c.def_ 9 (d := dY 9) rfl).elim fun fd F => ⟨_, fd, F, He.glo_ok X G (c.fact 9 (f := .glo "place") rfl)⟩
  obtain ⟨f10, d10, F10, g10⟩ := glo_fun (x := "divisor_and_share") (st := sDas) X G (c.def_ 10 (d := dY 10) rfl) (c.fact 10 (f := .glo "divisor_and_share") rfl)
  have k10 := F10.kp
  have b10 := F10.binds (ps := ["one", "other"]) fun _ _ _ _ _ _ us hl => match us, hl with | [_, _], _ => rfl
  obtain ⟨f11, d11, F11, g11⟩ := glo_fun (x := "wheel_of") (st := sWheel) X G (c.def_ 11 (d := dY 11) rfl) (c.fact 11 (f := .glo "wheel_of") rfl)
  have k11 := F11.kp
  have b11 := F11.binds (ps := ["sizes"]) fun _ _ _ _ _ _ us hl => match us, hl with | [_], _ => rfl
  obtain ⟨f12, d12, F12, g12⟩ := glo_fun (x := "rooms_at") (st := sRoomsAt) X G (c.def_ 12 (d := dY 12) rfl) (c.fact 12 (f := .glo "rooms_at") rfl)
  have k12 := F12.kp
  have b12 := F12.binds (ps := ["tracks", "beat"]) fun _ _ _ _ _ _ us hl => match us, hl with | [_, _], _ => rfl
  obtain ⟨f13, d13, F13, g13⟩ := glo_fun (x := "has_relief") (st := sHasRelief) X G (c.def_ 13 (d := dY 13) rfl) (c.fact 13 (f := .glo "has_relief") rfl)
  have k13 := F13.kp
  have b13 := F13.binds (ps := ["tracks", "many", "relief"]) fun _ _ _ _ _ _ us hl => match us, hl with | [_, _, _], _ => rfl
  obtain ⟨f14, d14, F14, g14⟩ := glo_fun (x := "span_of") (st := sSpanOf) X G (c.def_ 14 (d := dY 14) rfl) (c.fact 14 (f := .glo "span_of") rfl)
  have k14 := F14.kp
  have b14 := F14.binds (ps := ["tracks", "many", "relief"]) fun _ _ _ _ _ _ us hl => match us, hl with | [_, _, _], _ => rfl
  obtain ⟨f15, d15, F15, g15⟩ := glo_fun (x := "handed_over") (st := sHanded) X G (c.def_ 15 (d := dY 15) rfl) (c.fact 15 (f := .glo "handed_over") rfl)
  have k15 := F15.kp
  have b15 := F15.binds (ps := ["order", "rooms"]) fun _ _ _ _ _ _ us hl => match us, hl with | [_, _], _ => rfl
  obtain ⟨f16, d16, F16, g16⟩ := glo_fun (x := "relieved") (st := sRelieved) X G (c.def_ 16 (d := dY 16) rfl) (c.fact 16 (f := .glo "relieved") rfl)
  have k16 := F16.kp
  have b16 := F16.binds (ps := ["order", "posts", "post"]) fun _ _ _ _ _ _ us hl => match us, hl with | [_, _, _], _ => rfl
  obtain ⟨f17, d17, F17, g17⟩ := glo_fun (x := "changed_order") (st := sChanged) X G (c.def_ 17 (d := dY 17) rfl) (c.fact 17 (f := .glo "changed_order") rfl)
  have k17 := F17.kp
  have b17 := F17.binds (ps := ["order", "beat", "tracks", "meet", "relief"]) fun _ _ _ _ _ _ us hl => match us, hl with | [_, _, _, _, _], _ => rfl
  obtain ⟨f18, d18, F18, g18⟩ := glo_fun (x := "orders_of") (st := sOrders) X G (c.def_ 18 (d := dY 18) rfl) (c.fact 18 (f := .glo "orders_of") rfl)
  have k18 := F18.kp
  have b18 := F18.binds (ps := ["tracks", "many", "meet", "relief"]) fun _ _ _ _ _ _ us hl => match us, hl with | [_, _, _, _], _ => rfl
  obtain ⟨f19, d19, F19, g19⟩ := glo_fun (x := "lit_rooms") (st := sLitRooms) X G (c.def_ 19 (d := dY 19) rfl) (c.fact 19 (f := .glo "lit_rooms") rfl)
  have k19 := F19.kp
  have b19 := F19.binds (ps := ["house", "rooms", "reaches"]) fun _ _ _ _ _ _ us hl => match us, hl with | [_, _, _], _ => rfl
  obtain ⟨f20, d20, F20, g20⟩ := glo_fun (x := "moves_of") (st := sMoves) X G (c.def_ 20 (d := dY 20) rfl) (c.fact 20 (f := .glo "moves_of") rfl)
  have k20 := F20.kp
  have b20 := F20.binds (ps := ["before", "now"]) fun _ _ _ _ _ _ us hl => match us, hl with | [_, _], _ => rfl
  obtain ⟨f21, d21, F21, g21⟩ := glo_fun (x := "rooms_at_hand") (st := sHands) X G (c.def_ 21 (d := dY 21) rfl) (c.fact 21 (f := .glo "rooms_at_hand") rfl)
  have k21 := F21.kp
  have b21 := F21.binds (ps := ["house"]) fun _ _ _ _ _ _ us hl => match us, hl with | [_], _ => rfl
  obtain ⟨f22, d22, F22, g22⟩ := glo_fun (x := "need_delay") (st := sNeedDelay) X G (c.def_ 22 (d := dY 22) rfl) (c.fact 22 (f := .glo "need_delay") rfl)
  have k22 := F22.kp
  have b22 := F22.binds (ps := ["rooms", "delay"]) fun _ _ _ _ _ _ us hl => match us, hl with | [_, _], _ => rfl
  obtain ⟨f23, d23, F23, g23⟩ := glo_fun (x := "need_reach") (st := sNeedReach) X G (c.def_ 23 (d := dY 23) rfl) (c.fact 23 (f := .glo "need_reach") rfl)
  have k23 := F23.kp
  have b23 := F23.binds (ps := ["reach"]) fun _ _ _ _ _ _ us hl => match us, hl with | [_], _ => rfl
  obtain ⟨f24, d24, F24, g24⟩ := glo_fun (x := "need_relief") (st := sNeedRelief) X G (c.def_ 24 (d := dY 24) rfl) (c.fact 24 (f := .glo "need_relief") rfl)
  have k24 := F24.kp
  have b24 := F24.binds (ps := ["relief"]) fun _ _ _ _ _ _ us hl => match us, hl with | [_], _ => rfl
  obtain ⟨f25, d25, F25, g25⟩ := glo_fun (x := "need_counts") (st := sNeedCounts) X G (c.def_ 25 (d := dY 25) rfl) (c.fact 25 (f := .glo "need_counts") rfl)
  have k25 := F25.kp
  have b25 := F25.binds (ps := ["posts", "watchers"]) fun _ _ _ _ _ _ us hl => match us, hl with | [_, _], _ => rfl
  obtain ⟨f26, d26, F26, g26⟩ := glo_fun (x := "names_of") (st := sNamesOf) X G (c.def_ 26 (d := dY 26) rfl) (c.fact 26 (f := .glo "names_of") rfl)
  have k26 := F26.kp
  have b26 := F26.binds (ps := ["rows"]) fun _ _ _ _ _ _ us hl => match us, hl with | [_], _ => rfl
  obtain ⟨f27, d27, F27, g27⟩ := glo_fun (x := "new_posts") (st := sNewPosts) X G (c.def_ 27 (d := dY 27) rfl) (c.fact 27 (f := .glo "new_posts") rfl)
  have k27 := F27.kp
  have b27 := F27.binds (ps := ["house", "posts"]) fun _ _ _ _ _ _ us hl => match us, hl with | [_, _], _ => rfl
  obtain ⟨f28, d28, F28, g28⟩ := glo_fun (x := "new_watchers") (st := sNewWatchers) X G (c.def_ 28 (d := dY 28) rfl) (c.fact 28 (f := .glo "new_watchers") rfl)
  have k28 := F28.kp
  have b28 := F28.binds (ps := ["watchers"]) fun _ _ _ _ _ _ us hl => match us, hl with | [_], _ => rfl
  obtain ⟨f29, d29, F29, g29⟩ := glo_fun (x := "is_beat") (st := sIsBeat) X G (c.def_ 29 (d := dY 29) rfl) (c.fact 29 (f := .glo "is_beat") rfl)
  have k29 := F29.kp
  have b29 := F29.binds (ps := ["number"]) fun _ _ _ _ _ _ us hl => match us, hl with | [_], _ => rfl
  obtain ⟨f30, d30, F30, g30⟩ := glo_fun (x := "need_beat") (st := sNeedBeat) X G (c.def_ 30 (d := dY 30) rfl) (c.fact 30 (f := .glo "need_beat") rfl)
  have k30 := F30.kp
  have b30 := F30.binds (ps := ["beat"]) fun _ _ _ _ _ _ us hl => match us, hl with | [_], _ => rfl
  obtain ⟨f31, d31, F31, g31⟩ := glo_fun (x := "_law_box") (st := sBox) X G (c.def_ 31 (d := dY 31) rfl) (c.fact 31 (f := .glo "_law_box") rfl)
  have k31 := F31.kp
  have b31 := F31.binds (ps := ["_law_script"]) fun _ _ _ _ _ _ us hl => match us, hl with | [_], _ => rfl
  obtain ⟨f32, d32, F32, g32⟩ := glo_fun (x := "_law_draw") (st := sDraw) X G (c.def_ 32 (d := dY 32) rfl) (c.fact 32 (f := .glo "_law_draw") rfl)
  have k32 := F32.kp
  have b32 := F32.binds (ps := ["_law_box_here", "_law_many"]) fun _ _ _ _ _ _ us hl => match us, hl with | [_, _], _ => rfl
  obtain ⟨f33, d33, F33, g33⟩ := glo_fun (x := "_law_of") (st := sOf) X G (c.def_ 33 (d := dY 33) rfl) (c.fact 33 (f := .glo "_law_of") rfl)
  have k33 := F33.kp
  have b33 := F33.binds (ps := ["_law_box_here", "_law_some"]) fun _ _ _ _ _ _ us hl => match us, hl with | [_, _], _ => rfl
  obtain ⟨f34, d34, F34, g34⟩ := glo_fun (x := "_law_names") (st := sNames) X G (c.def_ 34 (d := dY 34) rfl) (c.fact 34 (f := .glo "_law_names") rfl)
  have k34 := F34.kp
  have b34 := F34.binds (ps := ["_law_box_here", "_law_many"]) fun _ _ _ _ _ _ us hl => match us, hl with | [_, _], _ => rfl
  obtain ⟨f35, d35, F35, g35⟩ := glo_fun (x := "_law_like") (st := sLike) X G (c.def_ 35 (d := dY 35) rfl) (c.fact 35 (f := .glo "_law_like") rfl)
  have k35 := F35.kp
  have b35 := F35.binds (ps := ["_law_found", "_law_due"]) fun _ _ _ _ _ _ us hl => match us, hl with | [_, _], _ => rfl
  obtain ⟨f36, d36, F36, g36⟩ := glo_fun (x := "_law_house") (st := sLawHouse) X G (c.def_ 36 (d := dY 36) rfl) (c.fact 36 (f := .glo "_law_house") rfl)
  have k36 := F36.kp
  have b36 := F36.binds (ps := ["_law_box_here", "_law_limit"]) fun _ _ _ _ _ _ us hl => match us, hl with | [_, _], _ => rfl
  obtain ⟨f37, d37, F37, g37⟩ := glo_fun (x := "_law_near") (st := sLawNear) X G (c.def_ 37 (d := dY 37) rfl) (c.fact 37 (f := .glo "_law_near") rfl)
  have k37 := F37.kp
  have b37 := F37.binds (ps := ["_law_house_here", "_law_room"]) fun _ _ _ _ _ _ us hl => match us, hl with | [_, _], _ => rfl
  obtain ⟨f38, d38, F38, g38⟩ := glo_fun (x := "_law_hand") (st := sLawHand) X G (c.def_ 38 (d := dY 38) rfl) (c.fact 38 (f := .glo "_law_hand") rfl)
  have k38 := F38.kp
  have b38 := F38.binds (ps := ["_law_house_here", "_law_room"]) fun _ _ _ _ _ _ us hl => match us, hl with | [_, _], _ => rfl
  obtain ⟨f39, d39, F39, g39⟩ := glo_fun (x := "_law_round") (st := sLawRound) X G (c.def_ 39 (d := dY 39) rfl) (c.fact 39 (f := .glo "_law_round") rfl)
  have k39 := F39.kp
  have b39 := F39.binds (ps := ["_law_box_here", "_law_house_here", "_law_limit"]) fun _ _ _ _ _ _ us hl => match us, hl with | [_, _, _], _ => rfl
  obtain ⟨f40, d40, F40, g40⟩ := glo_fun (x := "_law_made") (st := sLawMade) X G (c.def_ 40 (d := dY 40) rfl) (c.fact 40 (f := .glo "_law_made") rfl)
  have k40 := F40.kp
  have b40 := F40.binds (ps := ["_law_house_here"]) fun _ _ _ _ _ _ us hl => match us, hl with | [_], _ => rfl
  obtain ⟨f41, d41, F41, g41⟩ := glo_fun (x := "need_seen") (st := sNeedSeen) X G (c.def_ 41 (d := dY 41) rfl) (c.fact 41 (f := .glo "need_seen") rfl)
  have k41 := F41.kp
  have b41 := F41.binds (ps := ["house", "size", "sightings"]) fun _ _ _ _ _ _ us hl => match us, hl with | [_, _, _], _ => rfl
  obtain ⟨f42, d42, F42, g42⟩ := glo_fun (x := "is_left") (st := sIsLeft) X G (c.def_ 42 (d := dY 42) rfl) (c.fact 42 (f := .glo "is_left") rfl)
  have k42 := F42.kp
  have b42 := F42.binds (ps := ["size", "sightings", "at", "room"]) fun _ _ _ _ _ _ us hl => match us, hl with | [_, _, _, _], _ => rfl
  obtain ⟨f43, d43, F43, g43⟩ := glo_fun (x := "rooms_left") (st := sRoomsLeft) X G (c.def_ 43 (d := dY 43) rfl) (c.fact 43 (f := .glo "rooms_left") rfl)
  have k43 := F43.kp
  have b43 := F43.binds (ps := ["house", "size", "sightings"]) fun _ _ _ _ _ _ us hl => match us, hl with | [_, _, _], _ => rfl
  obtain ⟨f44, d44, F44, g44⟩ := glo_fun (x := "next_to") (st := sNextTo) X G (c.def_ 44 (d := dY 44) rfl) (c.fact 44 (f := .glo "next_to") rfl)
  have k44 := F44.kp
  have b44 := F44.binds (ps := ["house", "ahead", "rooms"]) fun _ _ _ _ _ _ us hl => match us, hl with | [_, _, _], _ => rfl
  obtain ⟨f45, d45, F45, g45⟩ := glo_fun (x := "trail_of") (st := sTrailOf) X G (c.def_ 45 (d := dY 45) rfl) (c.fact 45 (f := .glo "trail_of") rfl)
  have k45 := F45.kp
  have b45 := F45.binds (ps := ["house", "left", "first"]) fun _ _ _ _ _ _ us hl => match us, hl with | [_, _, _], _ => rfl
  obtain ⟨f46, d46, F46, g46⟩ := glo_fun (x := "round_along") (st := sAlong) X G (c.def_ 46 (d := dY 46) rfl) (c.fact 46 (f := .glo "round_along") rfl)
  have k46 := F46.kp
  have b46 := F46.binds (ps := ["house", "trail"]) fun _ _ _ _ _ _ us hl => match us, hl with | [_, _], _ => rfl
  obtain ⟨f47, d47, F47, g47⟩ := glo_fun (x := "some_round") (st := sSome) X G (c.def_ 47 (d := dY 47) rfl) (c.fact 47 (f := .glo "some_round") rfl)
  have k47 := F47.kp
  have b47 := F47.binds (ps := ["house", "left"]) fun _ _ _ _ _ _ us hl => match us, hl with | [_, _], _ => rfl
  obtain ⟨f48, d48, F48, g48⟩ := glo_fun (x := "narrowed") (st := sNarrowed) X G (c.def_ 48 (d := dY 48) rfl) (c.fact 48 (f := .glo "narrowed") rfl)
  have k48 := F48.kp
  have b48 := F48.binds (ps := ["left", "at", "rooms"]) fun _ _ _ _ _ _ us hl => match us, hl with | [_, _, _], _ => rfl
  obtain ⟨f49, d49, F49, g49⟩ := glo_fun (x := "turned") (st := sTurned) X G (c.def_ 49 (d := dY 49) rfl) (c.fact 49 (f := .glo "turned") rfl)
  have k49 := F49.kp
  have b49 := F49.binds (ps := ["rooms"]) fun _ _ _ _ _ _ us hl => match us, hl with | [_], _ => rfl
  obtain ⟨f50, d50, F50, g50⟩ := glo_fun (x := "rounds_from") (st := sRoundsFrom) X G (c.def_ 50 (d := dY 50) rfl) (c.fact 50 (f := .glo "rounds_from") rfl)
  have k50 := F50.kp
  have b50 := F50.binds (ps := ["house", "left", "first"]) fun _ _ _ _ _ _ us hl => match us, hl with | [_, _, _], _ => rfl
  obtain ⟨f51, d51, F51, g51⟩ := glo_fun (x := "fits") (st := sFits) X G (c.def_ 51 (d := dY 51) rfl) (c.fact 51 (f := .glo "fits") rfl)
  have k51 := F51.kp
  have b51 := F51.binds (ps := ["house", "size", "sightings"]) fun _ _ _ _ _ _ us hl => match us, hl with | [_, _, _], _ => rfl
  obtain ⟨f52, d52, F52, g52⟩ := glo_fun (x := "can_be") (st := sCanBe) X G (c.def_ 52 (d := dY 52) rfl) (c.fact 52 (f := .glo "can_be") rfl)
  have k52 := F52.kp
  have b52 := F52.binds (ps := ["house", "size", "sightings", "beat"]) fun _ _ _ _ _ _ us hl => match us, hl with | [_, _, _, _], _ => rfl
  obtain ⟨f53, d53, F53, g53⟩ := glo_fun (x := "read_round") (st := sReadRound) X G (c.def_ 53 (d := dY 53) rfl) (c.fact 53 (f := .glo "read_round") rfl)
  have k53 := F53.kp
  have b53 := F53.binds (ps := ["house", "size", "sightings"]) fun _ _ _ _ _ _ us hl => match us, hl with | [_, _, _], _ => rfl
  obtain ⟨f54, d54, F54, g54⟩ := glo_fun (x := "law") (st := sLaw) X G (c.def_ 54 (d := dY 54) rfl) (c.fact 54 (f := .glo "law") rfl)
  have k54 := F54.kp
  have b54 := F54.binds (ps := ["_law_script"]) fun _ _ _ _ _ _ us hl => match us, hl with | [_], _ => rfl
  obtain ⟨CH, eCH⟩ : ∃ C, C = He.ga K "House" := ⟨_, rfl⟩
  have gCH : mg "House" = some (.ref CH) := by rw [eCH]; exact He.glo_ok X G (c.fact 55 (f := .glo "House") rfl)
  have CLH : Cls K CH := by rw [eCH]; exact He.cls_ok (c.fact 56 (f := .cls "House") rfl)
  obtain ⟨tH1, tH2, tH3, fiH, diH, FiH, MKH⟩ : ∃ (t1 t2 t3 f : Addr) (fd : FuncData), FunD K "__init__" "House.__init__" (defArgs sInit) (defBody sInit) (defScope sInit) [V.ref t1, V.ref t2, V.ref t3] [] f fd ∧ Mk K CH f := (c.def_ 55 (d := dY 55) rfl).elim fun fd F => ⟨_, _, _, _, fd, F, by rw [eCH]; exact He.mkr_ok (c.fact 57 (f := .mkr "House") rfl)⟩
  obtain ⟨fmH0, dmH0, FmH0, MmH0⟩ := met_fun (x := "rooms") (y := "House") (q := "House.rooms") (st := sRooms) eCH (c.def_ 56 (d := dY 56) rfl) (c.fact 58 (f := .meth "House" "rooms") rfl)
  have bmH0 := FmH0.binds (ps := ["self"]) fun _ _ _ _ _ _ us hl => match us, hl with | [_], _ => rfl
  have amH0 := MmH0.1
  have imH0 := MmH0.2
  obtain ⟨fmH1, dmH1, FmH1, MmH1⟩ := met_fun (x := "doors") (y := "House") (q := "House.doors") (st := sDoors) eCH (c.def_ 57 (d := dY 57) rfl) (c.fact 59 (f := .meth "House" "doors") rfl)
  have bmH1 := FmH1.binds (ps := ["self"]) fun _ _ _ _ _ _ us hl => match us, hl with | [_], _ => rfl
  have amH1 := MmH1.1
  have imH1 := MmH1.2
  obtain ⟨fmH2, dmH2, FmH2, MmH2⟩ := met_fun (x := "sights") (y := "House") (q := "House.sights") (st := sSights) eCH (c.def_ 58 (d := dY 58) rfl) (c.fact 60 (f := .meth "House" "sights") rfl)
  have bmH2 := FmH2.binds (ps := ["self"]) fun _ _ _ _ _ _ us hl => match us, hl with | [_], _ => rfl
  have amH2 := MmH2.1
  have imH2 := MmH2.2
  obtain ⟨fmH3, dmH3, FmH3, MmH3⟩ := met_fun (x := "has_room") (y := "House") (q := "House.has_room") (st := sHas) eCH (c.def_ 59 (d := dY 59) rfl) (c.fact 61 (f := .meth "House" "has_room") rfl)
  have bmH3 := FmH3.binds (ps := ["self", "name"]) fun _ _ _ _ _ _ us hl => match us, hl with | [_, _], _ => rfl
  have amH3 := MmH3.1
  have imH3 := MmH3.2
  obtain ⟨fmH4, dmH4, FmH4, MmH4⟩ := met_fun (x := "sees") (y := "House") (q := "House.sees") (st := sSees) eCH (c.def_ 60 (d := dY 60) rfl) (c.fact 62 (f := .meth "House" "sees") rfl)
  have bmH4 := FmH4.binds (ps := ["self", "room"]) fun _ _ _ _ _ _ us hl => match us, hl with | [_, _], _ => rfl
  have amH4 := MmH4.1
  have imH4 := MmH4.2
  obtain ⟨fmH5, dmH5, FmH5, MmH5⟩ := met_fun (x := "has_door") (y := "House") (q := "House.has_door") (st := sHasDoor) eCH (c.def_ 61 (d := dY 61) rfl) (c.fact 63 (f := .meth "House" "has_door") rfl)
  have bmH5 := FmH5.binds (ps := ["self", "a", "b"]) fun _ _ _ _ _ _ us hl => match us, hl with | [_, _, _], _ => rfl
  have amH5 := MmH5.1
  have imH5 := MmH5.2
  obtain ⟨fmH6, dmH6, FmH6, MmH6⟩ := met_fun (x := "at_hand") (y := "House") (q := "House.at_hand") (st := sAtHand) eCH (c.def_ 62 (d := dY 62) rfl) (c.fact 64 (f := .meth "House" "at_hand") rfl)
  have bmH6 := FmH6.binds (ps := ["self", "a", "b"]) fun _ _ _ _ _ _ us hl => match us, hl with | [_, _, _], _ => rfl
  have amH6 := MmH6.1
  have imH6 := MmH6.2
  have noH_names : NoAttr K CH "names" := by rw [eCH]; exact He.noat_ok (c.fact 65 (f := .noat "House" "names") rfl)
  have noH_behind : NoAttr K CH "behind" := by rw [eCH]; exact He.noat_ok (c.fact 66 (f := .noat "House" "behind") rfl)
  have noH_views : NoAttr K CH "views" := by rw [eCH]; exact He.noat_ok (c.fact 67 (f := .noat "House" "views") rfl)
  obtain ⟨haH, hnH, htkH, hmH, ciH, ctH⟩ := exC_ok (x := "House") c2
  rw [← eCH] at haH hmH ciH ctH
  obtain ⟨CS, eCS⟩ : ∃ C, C = He.ga K "Scene" := ⟨_, rfl⟩
  have gCS : mg "Scene" = some (.ref CS) := by rw [eCS]; exact He.glo_ok X G (c.fact 68 (f := .glo "Scene") rfl)
  have CLS : Cls K CS := by rw [eCS]; exact He.cls_ok (c.fact 69 (f := .cls "Scene") rfl)
  obtain ⟨tS1, tS2, fiS, diS, FiS, MKS⟩ : ∃ (t1 t2 f : Addr) (fd : FuncData), FunD K "__init__" "Scene.__init__" (defArgs sc_init) (defBody sc_init) (defScope sc_init) [V.ref t1, V.ref t2] [("meet", V.bl false), ("relief", V.int 0)] f fd ∧ Mk K CS f := (c.def_ 63 (d := dY 63) rfl).elim fun fd F => ⟨_, _, _, fd, F, by rw [eCS]; exact He.mkr_ok (c.fact 70 (f := .mkr "Scene") rfl)⟩
  obtain ⟨fmS0, dmS0, FmS0, MmS0⟩ := met_fun (x := "reaches_in") (y := "Scene") (q := "Scene.reaches_in") (st := sc_reaches_in) eCS (c.def_ 64 (d := dY 64) rfl) (c.fact 71 (f := .meth "Scene" "reaches_in") rfl)
  have bmS0 := FmS0.binds (ps := ["self", "order"]) fun _ _ _ _ _ _ us hl => match us, hl with | [_, _], _ => rfl
  have amS0 := MmS0.1
  have imS0 := MmS0.2
  obtain ⟨fmS1, dmS1, FmS1, MmS1⟩ := met_fun (x := "post_number") (y := "Scene") (q := "Scene.post_number") (st := sc_post_number) eCS (c.def_ 65 (d := dY 65) rfl) (c.fact 72 (f := .meth "Scene" "post_number") rfl)
  have bmS1 := FmS1.binds (ps := ["self", "post"]) fun _ _ _ _ _ _ us hl => match us, hl with | [_, _], _ => rfl
  have amS1 := MmS1.1
  have imS1 := MmS1.2
  obtain ⟨fmS2, dmS2, FmS2, MmS2⟩ := met_fun (x := "rooms_of") (y := "Scene") (q := "Scene.rooms_of") (st := sc_rooms_of) eCS (c.def_ 66 (d := dY 66) rfl) (c.fact 73 (f := .meth "Scene" "rooms_of") rfl)
  have bmS2 := FmS2.binds (ps := ["self", "post"]) fun _ _ _ _ _ _ us hl => match us, hl with | [_, _], _ => rfl
  have amS2 := MmS2.1
  have imS2 := MmS2.2
  obtain ⟨fmS3, dmS3, FmS3, MmS3⟩ := met_fun (x := "delay_of") (y := "Scene") (q := "Scene.delay_of") (st := sc_delay_of) eCS (c.def_ 67 (d := dY 67) rfl) (c.fact 74 (f := .meth "Scene" "delay_of") rfl)
  have bmS3 := FmS3.binds (ps := ["self", "post"]) fun _ _ _ _ _ _ us hl => match us, hl with | [_, _], _ => rfl
  have amS3 := MmS3.1
  have imS3 := MmS3.2
  obtain ⟨fmS4, dmS4, FmS4, MmS4⟩ := met_fun (x := "where") (y := "Scene") (q := "Scene.where") (st := sc_where) eCS (c.def_ 68 (d := dY 68) rfl) (c.fact 75 (f := .meth "Scene" "where") rfl)
  have bmS4 := FmS4.binds (ps := ["self", "post", "beat"]) fun _ _ _ _ _ _ us hl => match us, hl with | [_, _, _], _ => rfl
  have amS4 := MmS4.1
  have imS4 := MmS4.2
  have noS_home : NoAttr K CS "home" := by rw [eCS]; exact He.noat_ok (c.fact 76 (f := .noat "Scene" "home") rfl)
  have noS_post_rows : NoAttr K CS "post_rows" := by rw [eCS]; exact He.noat_ok (c.fact 77 (f := .noat "Scene" "post_rows") rfl)
  have noS_watcher_rows : NoAttr K CS "watcher_rows" := by rw [eCS]; exact He.noat_ok (c.fact 78 (f := .noat "Scene" "watcher_rows") rfl)
  have noS_has_meet : NoAttr K CS "has_meet" := by rw [eCS]; exact He.noat_ok (c.fact 79 (f := .noat "Scene" "has_meet") rfl)
  have noS_relief_beats : NoAttr K CS "relief_beats" := by rw [eCS]; exact He.noat_ok (c.fact 80 (f := .noat "Scene" "relief_beats") rfl)
  have noS_span_beats : NoAttr K CS "span_beats" := by rw [eCS]; exact He.noat_ok (c.fact 81 (f := .noat "Scene" "span_beats") rfl)
  have noS_orders : NoAttr K CS "orders" := by rw [eCS]; exact He.noat_ok (c.fact 82 (f := .noat "Scene" "orders") rfl)
  have noS_hands : NoAttr K CS "hands" := by rw [eCS]; exact He.noat_ok (c.fact 83 (f := .noat "Scene" "hands") rfl)
  have noS_lights : NoAttr K CS "lights" := by rw [eCS]; exact He.noat_ok (c.fact 84 (f := .noat "Scene" "lights") rfl)
  have noS_moves : NoAttr K CS "moves" := by rw [eCS]; exact He.noat_ok (c.fact 85 (f := .noat "Scene" "moves") rfl)
  have n_list := He.free_ok X G (c.fact 86 (f := .free "list") rfl)
  have n_len := He.free_ok X G (c.fact 87 (f := .free "len") rfl)
  have n_max := He.free_ok X G (c.fact 88 (f := .free "max") rfl)
  have n_min := He.free_ok X G (c.fact 89 (f := .free "min") rfl)
  have n_isinstance := He.free_ok X G (c.fact 90 (f := .free "isinstance") rfl)
  have n_tuple := He.free_ok X G (c.fact 91 (f := .free "tuple") rfl)
  have n_all := He.free_ok X G (c.fact 92 (f := .free "all") rfl)
  have n_zip := He.free_ok X G (c.fact 93 (f := .free "zip") rfl)
  have n_bool := He.free_ok X G (c.fact 94 (f := .free "bool") rfl)
  have n_int := He.free_ok X G (c.fact 95 (f := .free "int") rfl)
  have n_str := He.free_ok X G (c.fact 96 (f := .free "str") rfl)
  have n_range := He.free_ok X G (c.fact 97 (f := .free "range") rfl)
  have n_enumerate := He.free_ok X G (c.fact 98 (f := .free "enumerate") rfl)
  have n_any := He.free_ok X G (c.fact 99 (f := .free "any") rfl)
  have n_sum := He.free_ok X G (c.fact 100 (f := .free "sum") rfl)
  obtain ⟨tk_LONGEST_NAME, cc_LONGEST_NAME⟩ := He.int_ok X G (c.fact 101 (f := .int "LONGEST_NAME" 8) rfl)
  obtain ⟨tk_SMALL_LETTERS, cc_SMALL_LETTERS⟩ := He.str_ok X G (c.fact 102 (f := .str "SMALL_LETTERS" abc) rfl)
  obtain ⟨tk_MOST_ROOMS, cc_MOST_ROOMS⟩ := He.int_ok X G (c.fact 103 (f := .int "MOST_ROOMS" 8) rfl)
  obtain ⟨tk_MOST_ROUND, cc_MOST_ROUND⟩ := He.int_ok X G (c.fact 104 (f := .int "MOST_ROUND" 6) rfl)
  obtain ⟨tk_NEVER, cc_NEVER⟩ := He.int_ok X G (c.fact 105 (f := .int "NEVER" 0) rfl)
  obtain ⟨tk_MOST_RELIEF, cc_MOST_RELIEF⟩ := He.int_ok X G (c.fact 106 (f := .int "MOST_RELIEF" 4) rfl)
  obtain ⟨tk_MOST_POSTS, cc_MOST_POSTS⟩ := He.int_ok X G (c.fact 107 (f := .int "MOST_POSTS" 5) rfl)
  obtain ⟨tk_MOST_WATCHERS, cc_MOST_WATCHERS⟩ := He.int_ok X G (c.fact 108 (f := .int "MOST_WATCHERS" 6) rfl)
  obtain ⟨tk_FARTHEST, cc_FARTHEST⟩ := He.int_ok X G (c.fact 109 (f := .int "FARTHEST" 1000000000) rfl)
  have e := hfa.symm.trans g54
  cases e
  refine ⟨d54, law_binds F54, fun base _ _ => ?_⟩
  have HT : HTxt K CH := ⟨CLH, noH_names, noH_behind, noH_views, haH, hnH, htkH, hmH, if_pos (beq_self_eq_true _)⟩
  have ST : STxt K CS := ⟨CLS, noS_home, noS_post_rows, noS_watcher_rows, noS_has_meet, noS_relief_beats, noS_span_beats, noS_orders, noS_hands, noS_lights, noS_moves⟩
  have bI := bind_init FiH
  have GIs : FnOk P w K mg base CX0 1 f0 _ ["text"] spName := ok_is F0 n_len n_all cc_LONGEST_NAME cc_SMALL_LETTERS
  have GNN : FnOk P w K mg base CX0 2 f1 _ ["name", "others"] spNewName := ok_newname F1 F0 b0 g0 GIs
  have GHas : FnOk P w K mg base CX0 1 fmH3 _ ["self", "name"] (spHas CH) := ok_has FmH3 HT
  have GNe : FnOk P w K mg base CX0 2 f2 _ ["house", "room"] (spNeed CH) := ok_need F2 HT MmH3 bmH3 GHas
  have GNs : FnOk P w K mg base CX0 3 f3 _ ["house", "a", "b"] (spNeeds CH) := ok_needs F3 F2 b2 g2 GNe
  have GNew : FnOk P w K mg base CX0 3 f5 _ ["names"] (spNew K) := ok_new F5 F1 b1 g1 GNN
  have GNU : FnOk P w K mg base CX0 4 f4 _ ["house", "a", "b"] (spNU CH) := ok_nu F4 F3 b3 g3 GNs
  have GUn : FnOk P w K mg base CX0 5 f6 _ ["house", "pairs"] (spUnlike K CH) := ok_unlike F6 F4 b4 g4 GNU
  have GLk : FnOk P w K mg base CX0 1 f7 _ ["rooms", "pairs"] spLinked := ok_linked F7
  have GI : FnOk P w K mg base CX0 6 fiH _ ["self", "rooms", "doors", "sights"] (spInit K CH) := ok_init FiH HT n_len cc_MOST_ROOMS F5 b5 g5 GNew F6 b6 g6 GUn F7 b7 g7 GLk
  have GR : FnOk P w K mg base CX0 1 fmH0 _ ["self"] (spRooms CH) := ok_rooms FmH0 HT n_list
  have GO : FnOk P w K mg base CX0 1 fmH1 _ ["self"] (spDoors CH) := ok_doors FmH1 HT n_enumerate
  have GSi : FnOk P w K mg base CX0 1 fmH2 _ ["self"] (spSights CH) := ok_sights FmH2 HT
  have GSe : FnOk P w K mg base CX0 3 fmH4 _ ["self", "room"] (spSees CH) := ok_sees FmH4 HT F2 b2 g2 GNe n_list
  have GHD : FnOk P w K mg base CX0 4 fmH5 _ ["self", "a", "b"] (spHasDoor CH) := ok_hasdoor FmH5 HT F3 b3 g3 GNs
  have GAH : FnOk P w K mg base CX0 5 fmH6 _ ["self", "a", "b"] (spAtHand CH) := ok_athand FmH6 HT MmH5 bmH5 GHD
  have GNr : FnOk P w K mg base CX0 6 f8 _ ["house", "rooms"] (spNeedRound CH) := ok_needround F8 HT F2 b2 g2 GNe MmH6 bmH6 GAH n_len n_enumerate cc_MOST_ROUND
  have GPl : FnOk P w K mg base CX0 1 f9 _ ["rooms", "beat", "delay"] (spPlace K) := ok_place F9 n_len
  have GWh : FnOk P w K mg base CX0 2 f11 _ ["sizes"] (spWheel K) := ok_wheel F11 F10 b10 g10
  have GRa : FnOk P w K mg base CX0 2 f12 _ ["tracks", "beat"] spRoomsAt := ok_roomsat F12 F9 g9 GPl
  have GHr : FnOk P w K mg base CX0 1 f13 _ ["tracks", "many", "relief"] spHasRelief := ok_hasrelief F13 n_len
  have GSp : FnOk P w K mg base CX0 3 f14 _ ["tracks", "many", "relief"] spSpanOf := ok_spanof F14 F13 b13 g13 GHr F11 b11 g11 GWh n_len
  have GHo : FnOk P w K mg base CX0 1 f15 _ ["order", "rooms"] spHanded := ok_handed F15 n_list n_len n_range
  have GRe : FnOk P w K mg base CX0 1 f16 _ ["order", "posts", "post"] spRelieved := ok_relieved F16
  have GCh : FnOk P w K mg base CX0 3 f17 _ ["order", "beat", "tracks", "meet", "relief"] spChanged := ok_changed F17 F15 b15 g15 GHo F12 b12 g12 GRa F13 b13 g13 GHr F16 b16 g16 GRe n_len
  have GOr : FnOk P w K mg base CX0 4 f18 _ ["tracks", "many", "meet", "relief"] spOrders := ok_orders F18 F14 b14 g14 GSp F17 b17 g17 GCh n_list n_range
  have GLi : FnOk P w K mg base CX0 4 f19 _ ["house", "rooms", "reaches"] (spLit CH) := ok_lit F19 HT MmH4 bmH4 GSe MmH0 bmH0 GR n_list n_zip
  have GMo : FnOk P w K mg base CX0 1 f20 _ ["before", "now"] spMoves := ok_moves F20 n_zip
  have GRh : FnOk P w K mg base CX0 6 f21 _ ["house"] (spHands CH) := ok_hands F21 HT MmH0 bmH0 GR MmH6 bmH6 GAH
  have GNd : FnOk P w K mg base CX0 1 f22 _ ["rooms", "delay"] spNeedDelay := ok_needdelay F22 n_len
  have GNc : FnOk P w K mg base CX0 1 f25 _ ["posts", "watchers"] spNeedCounts := ok_needcounts F25 cc_MOST_POSTS cc_MOST_WATCHERS n_len
  have GNre : FnOk P w K mg base CX0 1 f23 _ ["reach"] spNeedReach := ok_needreach F23
  have GNl : FnOk P w K mg base CX0 1 f24 _ ["relief"] spNeedRelief := ok_needrelief F24 cc_NEVER cc_MOST_RELIEF
  have GNo : FnOk P w K mg base CX0 1 f26 _ ["rows"] spNamesOf := ok_namesof F26
  have GNp : FnOk P w K mg base CX0 7 f27 _ ["house", "posts"] (spNewPosts CH) := ok_newposts F27 F1 b1 g1 GNN F26 b26 g26 GNo F8 b8 g8 GNr F22 b22 g22 GNd n_tuple
  have GNw : FnOk P w K mg base CX0 3 f28 _ ["watchers"] spNewWts := ok_newwts F28 F1 b1 g1 GNN F26 b26 g26 GNo F23 b23 g23 GNre
  have GRi : FnOk P w K mg base CX0 1 fmS0 _ ["self", "order"] (spReaches CS) := ok_reaches FmS0 CLS noS_post_rows noS_watcher_rows n_len
  have GSc : FnOk P w K mg base CX0 8 fiS _ ["self", "house", "posts", "watchers", "meet", "relief"] (spScInit CH CS) := ok_scinit FiS HT CLS noS_home noS_post_rows noS_watcher_rows noS_has_meet noS_relief_beats noS_span_beats noS_orders noS_hands noS_lights noS_moves MKH GI gCH bI F25 b25 g25 GNc F27 b27 g27 GNp F28 b28 g28 GNw F24 b24 g24 GNl F14 b14 g14 GSp F18 b18 g18 GOr F12 b12 g12 GRa F21 b21 g21 GRh F19 b19 g19 GLi F20 b20 g20 GMo MmH0 bmH0 GR MmH1 bmH1 GO MmH2 bmH2 GSi MmS0 bmS0 GRi n_len n_range n_zip n_enumerate
  have GB : FnOk P w K mg base CX0 1 f31 _ ["_law_script"] (spBox K) := ok_box F31 n_list
  have GD : FnOk P w K mg base CX0 1 f32 _ ["_law_box_here", "_law_many"] spDraw := ok_draw F32 n_len n_max
  have GOf : FnOk P w K mg base CX0 2 f33 _ ["_law_box_here", "_law_some"] spOf := ok_of F33 F32 b32 g32 n_len n_max
  have GNm : FnOk P w K mg base CX0 3 f34 _ ["_law_box_here", "_law_many"] spNames := ok_names F34 F32 b32 g32 F33 b33 g33 n_len n_max n_range
  have GL : FnOk P w K mg base CX0 4 f35 _ ["_law_found", "_law_due"] (spLike 4) := ok_like F35 b35 ⟨n_isinstance, n_list, n_tuple, n_len, n_all, n_zip, n_bool, n_int, n_str, g35⟩ 4
  have GH : FnOk P w K mg base CX0 4 f36 _ ["_law_box_here", "_law_limit"] spLawHouse := ok_lawhouse F36 n_len n_range F34 b34 g34 GNm F32 b32 g32 GD
  have GLn : FnOk P w K mg base CX0 1 f37 _ ["_law_house_here", "_law_room"] spLawNear := ok_lawnear F37
  have GLh : FnOk P w K mg base CX0 2 f38 _ ["_law_house_here", "_law_room"] spLawHand := ok_lawhand F38 F37 b37 g37 GLn
  have GLr : FnOk P w K mg base CX0 3 f39 _ ["_law_box_here", "_law_house_here", "_law_limit"] spLawRound := ok_lawround F39 F32 b32 g32 GD F33 b33 g33 GOf F37 b37 g37 GLn F38 b38 g38 GLh n_range n_tuple
  have GM : FnOk P w K mg base CX0 8 f40 _ ["_law_house_here"] (spMade CH) := ok_made F40 MKH GI gCH bI n_list
  have GIb : FnOk P w K mg base CX0 1 f29 _ ["number"] spIsBeat := ok_isbeat F29 cc_FARTHEST
  have GNb : FnOk P w K mg base CX0 2 f30 _ ["beat"] spNeedBeat := ok_needbeat F30 F29 b29 g29 GIb
  have GPn : FnOk P w K mg base CX0 2 fmS1 _ ["self", "post"] (spPostNo CH CS) := ok_postno FmS1 ST F26 b26 g26 GNo
  have GRo : FnOk P w K mg base CX0 3 fmS2 _ ["self", "post"] (spRoomsOf CH CS) := ok_roomsof FmS2 ST MmS1 bmS1 GPn
  have GDe : FnOk P w K mg base CX0 3 fmS3 _ ["self", "post"] (spDelayOf CH CS) := ok_delayof FmS3 ST MmS1 bmS1 GPn
  have GWr : FnOk P w K mg base CX0 4 fmS4 _ ["self", "post", "beat"] (spWhere CH CS) := ok_where FmS4 ST F30 b30 g30 GNb F9 g9 GPl MmS2 bmS2 GRo MmS3 bmS3 GDe
  have GNS : FnOk P w K mg base CX0 3 f41 _ ["house", "size", "sightings"] (spNeedSeen K CH) := ok_needseen F41 F30 b30 g30 GNb F2 b2 g2 GNe cc_MOST_ROUND
  have GIL : FnOk P w K mg base CX0 1 f42 _ ["size", "sightings", "at", "room"] (spIsLeft K) := ok_isleft F42 n_all
  have GRL : FnOk P w K mg base CX0 2 f43 _ ["house", "size", "sightings"] (spRoomsLeft K CH) := ok_roomsleft F43 HT F42 b42 g42 GIL MmH0 bmH0 GR n_range
  have GNX : FnOk P w K mg base CX0 6 f44 _ ["house", "ahead", "rooms"] (spNextTo CH) := ok_nextto F44 HT MmH6 bmH6 GAH n_any
  have GTR : FnOk P w K mg base CX0 7 f45 _ ["house", "left", "first"] (spTrailOf CH) := ok_trailof F45 F44 b44 g44 GNX
  have GAL : FnOk P w K mg base CX0 7 f46 _ ["house", "trail"] (spAlong CH) := ok_along F46 F44 b44 g44 GNX n_len n_tuple
  have GSO : FnOk P w K mg base CX0 8 f47 _ ["house", "left"] (spSome CH) := ok_some F47 HT F45 b45 g45 GTR F46 b46 g46 GAL MmH0 bmH0 GR
  have GNA : FnOk P w K mg base CX0 1 f48 _ ["left", "at", "rooms"] spNarrowed := ok_narrowed F48
  have GCB : FnOk P w K mg base CX0 9 f52 _ ["house", "size", "sightings", "beat"] (spCanBe K CH) := ok_canbe F52 F41 b41 g41 GNS F30 b30 g30 GNb F43 b43 g43 GRL F47 b47 g47 GSO F48 b48 g48 GNA
  have GTu : FnOk P w K mg base CX0 2 f49 _ ["rooms"] (spTurned K) := ok_turned F49 F9 g9 n_len n_tuple n_range
  have GRF : FnOk P w K mg base CX0 6 f50 _ ["house", "left", "first"] (spRoundsFrom CH) := ok_roundsfrom F50 HT MmH6 bmH6 GAH n_sum
  have GFT : FnOk P w K mg base CX0 7 f51 _ ["house", "size", "sightings"] (spFits K CH) := ok_fits F51 HT F41 b41 g41 GNS F43 b43 g43 GRL F50 b50 g50 GRF MmH0 bmH0 GR n_sum
  have GRR : FnOk P w K mg base CX0 9 f53 _ ["house", "size", "sightings"] (spReadRound K CH) := ok_readround F53 HT F41 b41 g41 GNS F43 b43 g43 GRL F47 b47 g47 GSO F48 b48 g48 GNA F45 b45 g45 GTR MmH0 bmH0 GR n_range
  exact ok_law F54 F31 b31 g31 GB F33 b33 g33 GOf F32 b32 g32 GD F36 b36 g36 GH F40 b40 g40 GM F39 b39 g39 GLr F51 b51 g51 GFT F52 b52 g52 GCB F53 b53 g53 GRR F49 b49 g49 GTu F35 b35 g35 GL FiS rfl MKS GSc gCS CLS MmS4 bmS4 GWr n_range n_len
def loose0 : List PySem.Str := ["_wall", "DarkError", "BadName", "Taken", "BadNumber", "NotAWalk", "Full", "Loop", "BadRound", "Bare", "Missing", "NoRoom", "NoPost", "FARTHEST", "is_beat", "need_beat", "MOST_ROOMS", "LONGEST_NAME", "SMALL_LETTERS", "is_name", "need_new_name", "need_room", "need_rooms", "need_unlike", "new_names", "unlike_pairs", "linked", "House", "MOST_ROUND", "need_round"]
def loose1 : List PySem.Str := ["place", "turned", "divisor_and_share", "wheel_of", "need_seen", "is_left", "rooms_left", "next_to", "trail_of", "round_along", "some_round", "narrowed", "rounds_from", "fits", "can_be", "read_round", "rooms_at", "has_relief", "span_of", "handed_over", "relieved", "changed_order", "orders_of", "lit_rooms", "moves_of", "rooms_at_hand", "MOST_POSTS", "MOST_WATCHERS", "MOST_RELIEF", "NEVER"]
def loose2 : List PySem.Str := ["need_delay", "need_reach", "need_relief", "need_counts", "names_of", "new_posts", "new_watchers", "Scene", "_law_box", "_law_draw", "_law_of", "_law_names", "_law_house", "_law_made", "_law_near", "_law_hand", "_law_round", "_law_like"]
def looseY : List PySem.Str := loose0 ++ loose1 ++ loose2
abbrev RY : PySem.W.OpenRow := PySem.W.OpenLaw.row PySem.Challenge.rw_darkthread_k51_whole_what_was_seen_fits
def asY : List Addr := [3, 260, 267, 272, 279, 286, 293, 300, 307, 314, 319, 423, 434, 442, 447, 454, 461, 468, 473, 478, 483, 488, 495, 502, 509, 514, 519, 524, 529, 534, 541, 546, 553, 560, 567, 574, 579, 584, 589, 596, 603, 610, 617, 622, 629, 636, 807, 818, 825, 832, 839, 844, 851, 856, 861, 868, 873, 878, 259, 266, 271, 278, 285, 292, 299, 306, 313, 318, 422, 433, 441, 435, 446, 453, 460, 467, 472, 477, 482, 487, 494, 501, 508, 513, 518, 523, 528, 533, 540, 545, 552, 559, 566, 573, 578, 583, 588, 595, 602, 609, 616, 621, 628, 635, 806, 817, 824, 831, 838, 843, 850, 855, 860, 867, 872, 877, 335, 342, 347, 352, 359, 373, 380, 394, 652, 657, 664, 699, 706, 720, 334, 330, 341, 346, 351, 358, 372, 379, 393, 651, 646, 647, 656, 663, 698, 705, 719]
abbrev hkR : PySem.W.Hook := hkY asY fsY dsY exC
def obR (s : PySem.W.SharedT) : AlY := obY asY fsY dsY exC (HandSHeadRun.getT s)
theorem obR_eq (s : PySem.W.SharedT) : obR s = hkR.obs s.abs := obY_eq s
theorem runY (w : World) : HandSHeadRun.RunEq RY (PySem.W.view RY.prog [87]) hkR obR 9000 looseY w := by
  intro os
  kernel_rfl
end Dk
open PySem PySem.W PyProof.Rows in
set_option maxRecDepth 100000 in
set_option maxHeartbeats 0 in
theorem PySem.Challenge.cw_darkthread_k51_whole_what_was_seen_fits_holds : PySem.Challenge.rw_darkthread_k51_whole_what_was_seen_fits.Holds := by
  w_on; o_law
  refine HandSHeadRun.head_any (r := Dk.RY) (q := view Dk.RY.prog [87]) (H := Dk.hkR) (ob := Dk.obR) (M := 9000) (loose := Dk.looseY) (d := HandSHeadRun.topDef Dk.RY.prog 87) (kwd := []) Dk.obR_eq
    (by kernel_rfl) (fun s => by kernel_rfl) Dk.runY (by kernel_rfl) (by kernel_rfl) (by kernel_rfl) (by rfl) (by first | assumption | decide +kernel) (by decide +kernel) ⟨rfl, rfl, rfl, rfl, rfl, by decide +kernel⟩ ?hw ?hc
  case hw => w_witness2
  case hc =>
    refine L2.walk_ofE (l := PySem.Challenge.rw_darkthread_k51_whole_what_was_seen_fits) (n := 63) (k := 10) (x := "_law_script") (CX := L2.CX0) rfl (by decide) (by kernel_rfl) ⟨rfl, by decide, by decide⟩ ?F (fun _ _ _ _ z => z)
    intro w mg fa hp Y G g0
    obtain ⟨K, KX, c, c2⟩ := Y
    have g1 : mg ("law" : PySem.Str) = some (.ref fa) := by
      have e : (HandSHeadRun.topDef Dk.RY.prog 87).name = ("law" : PySem.Str) := by kernel_rfl
      rw [← e]
      exact g0
    obtain ⟨fd, hb, hF⟩ := Dk.facts (P := (PySem.Challenge.rw_darkthread_k51_whole_what_was_seen_fits).prog) (w := w) KX G g1 c c2
    exact ⟨K, fd, Dk.spLaw K, KX, hb, fun H a ns hl _ hS => ⟨a, ns, rfl, hS, hl, fun _ => rfl⟩, hF⟩
