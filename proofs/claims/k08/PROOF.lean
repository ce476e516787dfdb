import PyProof.Rows.All
import Wide.All
import OpenK.AllK
import Wide.FinOn
import HandS.ForMost
import HandS.Walk
import HandS.IsInst
import HandS.Zip
import HandS.Wide
import HandS.Flow
import HandS.Defaults
import HandS.Style
import PySem.Challenge.RW_darkthread_k08_wheels_and_rests
set_option Elab.async false
set_option linter.all false
set_option maxRecDepth 100000
set_option maxHeartbeats 4000000
namespace Dk
open PySem L2
/-! ### cuts: a piece is walked to a middle that the prover names -/
section
variable {X : Cx}
def tMid (t : TS) : TS := fun D s H => ∃ M : L2.St → Hp → Prop, t { D with nx := M } s H ∧ ∀ s' H', M s' H' → D.nx s' H'
theorem ps_mid {st : Stmt} {t : TS} (h : PS X st t) : PS X st (tMid t) := by
  refine ⟨fun pins s σ H D I q => ?_⟩
  obtain ⟨M, q1, q2⟩ := q
  refine thn (h.run pins s σ H { D with nx := M } I q1) fun f s1 z => ?_
  cases f with
  | next =>
    obtain ⟨σ', H', I', m⟩ := z
    exact ⟨σ', H', I', q2 _ _ m⟩
  | ret v => exact z
  | brk => exact z
  | cont => exact z
def eMid (t : TE) : TE := fun s H Q => ∃ M : VK, t s H M ∧ ∀ v H', M v H' → Q v H'
theorem pe_mid {e : Expr} {t : TE} (h : PE X e t) : PE X e (eMid t) := by
  refine ⟨fun pins s σ H Q I q => ?_⟩
  obtain ⟨M, q1, q2⟩ := q
  refine thn (h.run pins s σ H M I q1) fun u s1 z => ?_
  obtain ⟨v, H', I', r, m⟩ := z
  exact ⟨v, H', I', r, q2 _ _ m⟩
end
/-! ### heaps -/
theorem same_new {H : Hp} {p : Addr} {o : HO} (h : H p = none) : Same H (upd H p o) := fun b x e => by
  rw [upd_ne (ne_of_none e h)]
  exact e
theorem upd_id {H : Hp} {p : Addr} {o : HO} (h : H p = some o) : upd H p o = H := by
  funext q
  by_cases e : q = p
  · rw [e, upd_same, h]
  · rw [upd_ne e]
theorem upd_upd {H : Hp} {p : Addr} {o u : HO} : upd (upd H p o) p u = upd H p u := by
  funext q
  by_cases e : q = p
  · rw [e, upd_same, upd_same]
  · rw [upd_ne e, upd_ne e, upd_ne e]
/-- all but b is as it was -/
def Sav (b : Addr) (H H' : Hp) : Prop := ∀ q o, q ≠ b → H q = some o → H' q = some o
theorem Sav.refl (b : Addr) (H : Hp) : Sav b H H := fun _ _ _ h => h
theorem Sav.trans {b : Addr} {H H1 H2 : Hp} (x : Sav b H H1) (y : Sav b H1 H2) : Sav b H H2 := fun q o n h => y q o n (x q o n h)
theorem Sav.of {b : Addr} {H H1 : Hp} (x : Same H H1) : Sav b H H1 := fun q o _ h => x q o h
theorem Sav.upd {b : Addr} {H : Hp} {o : HO} : Sav b H (upd H b o) := fun q x n h => by
  rw [upd_ne n]
  exact h
/-! ### the box of draws -/
def bxv (l : Addr) (i c s t : Int) : List V := [.ref l, .int i, .int c, .int s, .int t]
def Box (H : Hp) (b l : Addr) : Prop := ∃ (ns : List Int) (i c s t : Int),
  H b = some (.lst (bxv l i c s t)) ∧ H l = some (.lst (ns.map V.int)) ∧ 0 ≤ i ∧ 0 ≤ c ∧ 0 ≤ s ∧ s < 2147483629
theorem Box.ne {H : Hp} {b l : Addr} {ns : List Int} {i c s t : Int} (h1 : H b = some (.lst (bxv l i c s t))) (h2 : H l = some (.lst (ns.map V.int))) : l ≠ b := ne_of h2 h1 (by
  intro z
  cases ns with
  | nil => cases z
  | cons x r => cases z)
theorem Box.same {H H' : Hp} {b l : Addr} (h : Box H b l) (s : Same H H') : Box H' b l := by
  obtain ⟨ns, i, c, s0, t, h1, h2, r⟩ := h
  exact ⟨ns, i, c, s0, t, s _ _ h1, s _ _ h2, r⟩
theorem Box.new {H : Hp} {b l p : Addr} {o : HO} (h : Box H b l) (n : H p = none) : Box (upd H p o) b l := h.same (same_new n)
theorem Box.b1 {H : Hp} {b l p : Addr} (h : Box H b l) (n : H p = none) : p ≠ b := by
  obtain ⟨ns, i, c, s0, t, h1, h2, r⟩ := h
  exact (ne_of_none h1 n).symm
theorem Box.l1 {H : Hp} {b l p : Addr} (h : Box H b l) (n : H p = none) : p ≠ l := by
  obtain ⟨ns, i, c, s0, t, h1, h2, r⟩ := h
  exact (ne_of_none h2 n).symm
theorem Box.put {H : Hp} {b l p : Addr} {o : HO} (h : Box H b l) (n1 : p ≠ b) (n2 : p ≠ l) : Box (upd H p o) b l := by
  obtain ⟨ns, i, c, s0, t, h1, h2, r⟩ := h
  exact ⟨ns, i, c, s0, t, by rw [upd_ne n1.symm]; exact h1, by rw [upd_ne n2.symm]; exact h2, r⟩
/-- a draw below m: some number, the box turned on -/
def spDraw : Sp := fun vs H Q _ => ∃ (b l : Addr) (m : Int), vs = [.ref b, .int m] ∧ Box H b l ∧ 0 < m ∧ m.natAbs < 2 ^ 100 ∧
  ∀ (r : Int) (H' : Hp), 0 ≤ r → r < m → Sav b H H' → Box H' b l → Q (.int r) H'
end Dk
namespace Dk
open PySem L2
/-- a new box out of the script -/
def spBox (K : PySem.W.Frag) : Sp := fun vs H Q _ => ∃ (a : Addr) (ns : List Int), vs = [.ref a] ∧ SqL K H a (ns.map V.int) ∧
  ∀ (H' : Hp) (b l : Addr), Same H H' → H b = none → H l = none → Box H' b l → Q (.ref b) H'
/-- one of some -/
def spOf : Sp := fun vs H Q _ => ∃ (b l : Addr) (v : V), vs = [.ref b, v] ∧ Box H b l ∧
  ((∃ (p : Addr) (xs : List V), v = .ref p ∧ p ≠ b ∧ H p = some (.lst xs) ∧ 0 < xs.length ∧ xs.length ≤ 1000 ∧ ∀ (x : V) (H' : Hp), x ∈ xs → Sav b H H' → Box H' b l → Q x H') ∨
   (∃ z : Str, v = .str z ∧ 0 < z.length ∧ z.length ≤ 1000 ∧ ∀ (c : Nat) (H' : Hp), c ∈ z.cps.toList → Sav b H H' → Box H' b l → Q (.str ⟨#[c]⟩) H'))
theorem cut_ints (ns : List Int) (a b : Option Int) : ∃ ms : List Int, cutV (ns.map V.int) a b = ms.map V.int := by
  refine ⟨(ns.drop (HT.sIx (ns.map V.int).length 0 a)).take (HT.sIx (ns.map V.int).length (ns.map V.int).length b - HT.sIx (ns.map V.int).length 0 a), ?_⟩
  unfold cutV
  rw [List.map_take, List.map_drop]
theorem at_some {α : Type} {xs : List α} {r : Int} (h0 : 0 ≤ r) (h1 : r < (xs.length : Int)) : ∃ x, x ∈ xs ∧ atI xs r = some x := by
  have e : ((r.toNat : Nat) : Int) = r := Int.toNat_of_nonneg h0
  have hl : r.toNat < xs.length := by omega
  refine ⟨xs[r.toNat], List.getElem_mem hl, ?_⟩
  have z := atI_nat (List.getElem?_eq_getElem hl)
  rw [e] at z
  exact z
theorem small {n : Nat} (h : n ≤ 1000) : ((n : Nat) : Int).natAbs < 2 ^ 100 := by
  have e : ((n : Nat) : Int).natAbs = n := rfl
  rw [e]
  exact Nat.lt_of_le_of_lt h (by decide)
end Dk
namespace Dk
open PySem L2
/-- two values of the same plain data, n deep at most -/
def Lk : Nat → Hp → V → V → Prop
  | 0, _, _, _ => False
  | n + 1, H, v, u => (v = u ∧ flatV v = true) ∨ ∃ (a b : Addr) (xs ys : List V), v = .ref a ∧ u = .ref b ∧ xs.length = ys.length ∧ xs.length ≤ 1000 ∧
      (H a = some (.lst xs) ∧ H b = some (.lst ys) ∨ H a = some (.tup xs) ∧ H b = some (.tup ys)) ∧ ∀ (i : Nat) (x y : V), xs[i]? = some x → ys[i]? = some y → Lk n H x y
theorem Lk.same : ∀ {n : Nat} {H H' : Hp} {v u : V}, Same H H' → Lk n H v u → Lk n H' v u
  | 0, _, _, _, _, _, h => h
  | n + 1, H, H', v, u, s, h => by
    rcases h with h | ⟨a, b, xs, ys, e1, e2, e3, e4, e5, e6⟩
    · exact .inl h
    · refine .inr ⟨a, b, xs, ys, e1, e2, e3, e4, ?_, fun i x y h1 h2 => (e6 i x y h1 h2).same s⟩
      rcases e5 with ⟨x, y⟩ | ⟨x, y⟩
      · exact .inl ⟨s _ _ x, s _ _ y⟩
      · exact .inr ⟨s _ _ x, s _ _ y⟩
def spLike (n : Nat) : Sp := fun vs H Q _ => ∃ v u : V, vs = [v, u] ∧ Lk n H v u ∧ ∀ H', Same H H' → Q (.bl true) H'
theorem walk_zipT {K : PySem.W.Frag} {a b : Addr} {xs ys : List V} {n : Nat} (hn : n = min xs.length ys.length) : Walk (RZ.ItzT K a b) n (fun H => SqT K H a xs ∧ SqT K H b ys) (YPair (fun i => xs[i]?) (fun i => ys[i]?)) := by
  subst hn
  refine ⟨fun i H hi g => ?_, fun H g => ⟨xs, ys, g.1, g.2, by omega⟩, fun i H v H' _ g y => ?_⟩
  · have h1 : i < xs.length := by omega
    have h2 : i < ys.length := by omega
    exact ⟨xs, ys, _, _, g.1, g.2, List.getElem?_eq_getElem h1, List.getElem?_eq_getElem h2⟩
  · obtain ⟨T, x, z, h1, h2, h3, h4, h5⟩ := y
    exact ⟨T, x, z, h1, h2, h3, h4 _ g.1, h5 _ g.2⟩
theorem all_true (n : Nat) : (List.replicate n true).all id = true := by
  induction n with
  | zero => rfl
  | succ n ih =>
    rw [List.replicate_succ, List.all_cons, ih]
    rfl
end Dk
namespace Dk
open PySem L2
/-! ### names -/
def abc : Str := Str.ofString "abcdefghijklmnopqrstuvwxyz"
def isNm (z : Str) : Bool := decide (1 ≤ z.length ∧ z.length ≤ 8) && z.cps.toList.all fun c => decide (c ∈ abc.cps.toList)
def spName : Sp := fun vs H Q _ => ∃ z : Str, vs = [.str z] ∧ z.length ≤ 1000 ∧ ∀ H', Same H H' → Q (.bl (isNm z)) H'
theorem len_str (z : Str) : z.cps.toList.length = z.length := by simp [Str.length]
/-- the list that the comprehension over the signs leaves -/
def inAbc (z : Str) (i : Nat) : List Bool := (z.cps.toList.take i).map fun c => decide (c ∈ abc.cps.toList)
theorem inAbc_succ {z : Str} {i c : Nat} (h : z.cps[i]? = some c) : inAbc z (i + 1) = inAbc z i ++ [decide (c ∈ abc.cps.toList)] := by
  have e : z.cps.toList[i]? = some c := by
    rw [Array.getElem?_toList]
    exact h
  unfold inAbc
  rw [List.take_add_one, e, List.map_append]
  rfl
theorem inAbc_all (z : Str) : (inAbc z z.cps.size).all id = z.cps.toList.all fun c => decide (c ∈ abc.cps.toList) := by
  unfold inAbc
  rw [List.take_of_length_le (by simp), List.all_map]
  rfl
theorem inAbc_len {z : Str} {i : Nat} (h : z.length ≤ 1000) : ((inAbc z i).map V.bl).length < sizeLine := by
  unfold inAbc
  rw [List.length_map, List.length_map, List.length_take, len_str]
  exact small1000 (by omega)
theorem nm_in {z : Str} {b : Bool} (h : decide (1 ≤ z.length ∧ z.length ≤ 8) = b) : isNm z = (b && z.cps.toList.all fun c => decide (c ∈ abc.cps.toList)) := by
  unfold isNm
  rw [h]
/-- joined texts are no longer than their parts together -/
theorem join_len (sep : Str) : ∀ ys : List Str, (Str.join sep ys).length ≤ (ys.map (·.length)).sum + ys.length * sep.length
  | [] => Nat.zero_le _
  | [x] => by
    show x.length ≤ _
    simp
  | x :: y :: r => by
    have ih := join_len sep (y :: r)
    show (x ++ sep ++ Str.join sep (y :: r)).length ≤ _
    rw [Str.length_append, Str.length_append]
    simp only [List.map_cons, List.sum_cons, List.length_cons] at ih ⊢
    rw [Nat.add_mul (r.length + 1) 1, Nat.one_mul]
    omega
end Dk
namespace Dk
open PySem L2
/-! ### a text taken none or one time -/
section
variable {X : Cx}
theorem op_mul01 : OpR X (binaryOp .Mult) (fun x y H Q => ∃ (z : Str) (k : Int), x = .str z ∧ y = .int k ∧ (k = 0 ∨ k = 1) ∧ Q (.str (if k = 1 then z else Str.empty)) H) := by
  intro pins s σ H x y v u Q I rx ry h
  obtain ⟨z, k, rfl, rfl, hk, q⟩ := h
  obtain ⟨t, rfl⟩ := rx
  obtain ⟨t', rfl⟩ := ry
  rcases hk with rfl | rfl
  · exact PySem.P.mul_str_none (by decide) (by decide) ⟨.str Str.empty, H, I.tok _, ⟨_, rfl⟩, q⟩
  · exact PySem.P.mul_str rfl (fun _ e => by cases e) (fun _ e => by cases e) ⟨.str z, H, I, ⟨_, rfl⟩, q⟩
end
/-! ### drawn names -/
def sgn (a c : Int) (k : Nat) : Str := ⟨#[97 + ((a + c * k) % 26).toNat]⟩
def nmAt (a c : Int) (t : Str) (p : Int) (k : Nat) : Str :=
  if p = 0 then sgn a c k ++ t else if p = 1 then t ++ sgn a c k else sgn a c k ++ (if ((k : Int) % 2) = 1 then t else Str.empty)
def nms (a c : Int) (t : Str) (p : Int) (n : Nat) : List Str := (List.range n).map (nmAt a c t p)
theorem nms_succ (a c : Int) (t : Str) (p : Int) (n : Nat) : nms a c t p (n + 1) = nms a c t p n ++ [nmAt a c t p n] := by
  unfold nms
  rw [List.range_succ, List.map_append]
  rfl
theorem nms_len (a c : Int) (t : Str) (p : Int) (n : Nat) : (nms a c t p n).length = n := by
  unfold nms
  rw [List.length_map, List.length_range]
theorem abc_at : ∀ i : Nat, i < 26 → abc.cps.toList[i]? = some (97 + i) := by decide +kernel
theorem abc_mem {i : Nat} (h : i < 26) : 97 + i ∈ abc.cps.toList := List.mem_of_getElem? (abc_at i h)
theorem mod26 (x : Int) : (x % 26).toNat < 26 ∧ (((x % 26).toNat : Nat) : Int) = x % 26 := by
  have h1 : 0 ≤ x % 26 := Int.emod_nonneg _ (by decide)
  have h2 : x % 26 < 26 := Int.emod_lt_of_pos _ (by decide)
  omega
theorem isNm_of {z : Str} (h1 : 1 ≤ z.length) (h2 : z.length ≤ 8) (h3 : ∀ c ∈ z.cps.toList, c ∈ abc.cps.toList) : isNm z = true := by
  unfold isNm
  rw [decide_eq_true ⟨h1, h2⟩, Bool.true_and, List.all_eq_true]
  exact fun c hc => decide_eq_true (h3 c hc)
theorem cps_app (a b : Str) : (a ++ b).cps.toList = a.cps.toList ++ b.cps.toList := by
  rw [Str.cps_append, Array.toList_append]
/-- a drawn tail: at most seven small letters -/
def Tail (t : Str) : Prop := t.length ≤ 7 ∧ ∀ c ∈ t.cps.toList, c ∈ abc.cps.toList
theorem tail_empty : Tail Str.empty := ⟨by decide, fun c hc => by cases hc⟩
theorem sgn_in (a c : Int) (k : Nat) : ∀ d ∈ (sgn a c k).cps.toList, d ∈ abc.cps.toList := by
  intro d hd
  have e : d = 97 + ((a + c * k) % 26).toNat := List.mem_singleton.mp hd
  rw [e]
  exact abc_mem (mod26 _).1
theorem nm_cat {x y : Str} (h : x.length + y.length ≤ 8) (h0 : 1 ≤ x.length + y.length) (hx : ∀ c ∈ x.cps.toList, c ∈ abc.cps.toList) (hy : ∀ c ∈ y.cps.toList, c ∈ abc.cps.toList) : isNm (x ++ y) = true := by
  refine isNm_of (by rw [Str.length_append]; exact h0) (by rw [Str.length_append]; exact h) ?_
  intro c hc
  rw [cps_app] at hc
  rcases List.mem_append.mp hc with h | h
  · exact hx c h
  · exact hy c h
theorem sgn_len (a c : Int) (k : Nat) : (sgn a c k).length = 1 := rfl
theorem nmAt_name {a c : Int} {t : Str} {p : Int} (k : Nat) (ht : Tail t) : isNm (nmAt a c t p k) = true := by
  obtain ⟨h1, h2⟩ := ht
  unfold nmAt
  split
  · exact nm_cat (by rw [sgn_len]; omega) (by rw [sgn_len]; omega) (sgn_in a c k) h2
  · split
    · exact nm_cat (by rw [sgn_len]; omega) (by rw [sgn_len]; omega) h2 (sgn_in a c k)
    · split
      · exact nm_cat (by rw [sgn_len]; omega) (by rw [sgn_len]; omega) (sgn_in a c k) h2
      · exact nm_cat (by rw [sgn_len]; show 1 + 0 ≤ 8; decide) (by rw [sgn_len]; show 1 ≤ 1 + 0; decide) (sgn_in a c k) (fun c hc => by cases hc)
theorem step_inj {a c : Int} (hc : c = 1 ∨ c = 3 ∨ c = 5 ∨ c = 7 ∨ c = 9 ∨ c = 11) {j k : Nat} (hj : j < 26) (hk : k < 26) (h : ((a + c * j) % 26).toNat = ((a + c * k) % 26).toNat) : j = k := by
  have h1 := (mod26 (a + c * j)).2
  have h2 := (mod26 (a + c * k)).2
  rcases hc with rfl | rfl | rfl | rfl | rfl | rfl <;> omega
theorem nmAt_inj {a c : Int} {t : Str} {p : Int} (hc : c = 1 ∨ c = 3 ∨ c = 5 ∨ c = 7 ∨ c = 9 ∨ c = 11) {j k : Nat} (hj : j < 26) (hk : k < 26) (h : nmAt a c t p j = nmAt a c t p k) : j = k := by
  have h' : (nmAt a c t p j).cps.toList = (nmAt a c t p k).cps.toList := by rw [h]
  unfold nmAt at h'
  refine step_inj hc hj hk (a := a) ?_
  have key : ∀ {x y : Nat} {r s : List Nat}, x :: r = y :: s → x = y := fun e => (List.cons.inj e).1
  by_cases p0 : p = 0
  · rw [if_pos p0, if_pos p0, cps_app, cps_app] at h'
    have := key h'
    omega
  · rw [if_neg p0, if_neg p0] at h'
    by_cases p1 : p = 1
    · rw [if_pos p1, if_pos p1, cps_app, cps_app] at h'
      have e := List.append_cancel_left h'
      have := key e
      omega
    · rw [if_neg p1, if_neg p1, cps_app, cps_app] at h'
      have := key h'
      omega
theorem nms_nodup {a c : Int} {t : Str} {p : Int} (hc : c = 1 ∨ c = 3 ∨ c = 5 ∨ c = 7 ∨ c = 9 ∨ c = 11) : ∀ {n : Nat}, n ≤ 26 → (nms a c t p n).Nodup
  | 0, _ => List.nodup_nil
  | n + 1, hn => by
    rw [nms_succ, List.nodup_append]
    refine ⟨nms_nodup hc (by omega), by simp, fun x hx y hy e => ?_⟩
    rw [List.mem_singleton.mp hy] at e
    unfold nms at hx
    obtain ⟨k, hk, rfl⟩ := List.mem_map.mp hx
    have h1 := List.mem_range.mp hk
    have h2 := nmAt_inj hc (by omega) (by omega) e
    omega
theorem nms_all {a c : Int} {t : Str} {p : Int} (ht : Tail t) (n : Nat) : ∀ z ∈ nms a c t p n, isNm z = true := by
  intro z hz
  unfold nms at hz
  obtain ⟨k, _, rfl⟩ := List.mem_map.mp hz
  exact nmAt_name k ht
theorem sgn_at (a c : Int) (i : Nat) : atI abc.cps.toList ((a + c * (0 + (i : Int))) % 26) = some (97 + ((a + c * i) % 26).toNat) := by
  obtain ⟨h1, h2⟩ := mod26 (a + c * i)
  have z := atI_nat (abc_at _ h1)
  rw [h2] at z
  rw [Int.zero_add]
  exact z
theorem pick3 {a c : Int} {t : Str} {p : Int} {i : Nat} (h0 : 0 ≤ p) (h1 : p < 3) : atI [V.str (sgn a c i ++ t), V.str (t ++ sgn a c i), V.str (sgn a c i ++ (if ((0 + (i : Int)) % 2) = 1 then t else Str.empty))] p = some (V.str (nmAt a c t p i)) := by
  rw [Int.zero_add]
  have e : p = 0 ∨ p = 1 ∨ p = 2 := by omega
  rcases e with rfl | rfl | rfl <;> rfl
theorem Sav.free {b : Addr} {H H' : Hp} (s : Sav b H H') {g : Addr} (n : g ≠ b) (h : H' g = none) : H g = none := by
  cases e : H g with
  | none => rfl
  | some z =>
    rw [s g z n e] at h
    cases h
theorem tail_len {t : Str} {a c : Int} {i : Nat} (h : Tail t) : (sgn a c i).length + t.length ≤ sizeLine ∧ t.length + (sgn a c i).length ≤ sizeLine := by
  have h1 := h.1
  rw [sgn_len]
  have h2 : 8 ≤ sizeLine := by decide
  omega
/-- a list of m unlike names -/
def Names (zs : List Str) : Prop := zs.Nodup ∧ ∀ z ∈ zs, isNm z = true
def spNames : Sp := fun vs H Q _ => ∃ (b l : Addr) (m : Int), vs = [.ref b, .int m] ∧ Box H b l ∧ 0 ≤ m ∧ m ≤ 26 ∧
  ∀ (H' : Hp) (p : Addr) (zs : List Str), Sav b H H' → Box H' b l → H p = none → H' p = some (.lst (zs.map V.str)) → zs.length = m.toNat → Names zs → Q (.ref p) H'
end Dk
namespace Dk
open PySem L2
theorem Same.tup {K : PySem.W.Frag} {H H' : Hp} {a : Addr} {xs : List V} (e : Same H H') (h : SqT K H a xs) : SqT K H' a xs := by
  rcases h with (h | ⟨o, h⟩) | h
  · exact .inl (.inl (e _ _ h))
  · exact .inl (.inr ⟨o, e _ _ h⟩)
  · exact .inr h
/-- a list or a tuple -/
def Sq (K : PySem.W.Frag) (H : Hp) (a : Addr) (xs : List V) : Prop := SqL K H a xs ∨ SqT K H a xs
theorem Sq.same {K : PySem.W.Frag} {H H' : Hp} {a : Addr} {xs : List V} (h : Sq K H a xs) (e : Same H H') : Sq K H' a xs := by
  rcases h with h | h
  · exact .inl (e.seq h)
  · exact .inr (Same.tup e h)
/-! ### places -/
def plc (xs : List V) (n : Int) : V := xs.getD (n % (xs.length : Int)).toNat .non
def trn (xs : List V) : List V := (List.range xs.length).map fun (i : Nat) => plc xs (-(i : Int))
theorem modlen {n : Nat} (h : 0 < n) (x : Int) : (x % (n : Int)).toNat < n ∧ (((x % (n : Int)).toNat : Nat) : Int) = x % (n : Int) := by
  have h1 : 0 ≤ x % (n : Int) := Int.emod_nonneg _ (by omega)
  have h2 : x % (n : Int) < n := Int.emod_lt_of_pos _ (by omega)
  omega
theorem plc_at {xs : List V} (h : 0 < xs.length) (n : Int) : atI xs (n % (xs.length : Int)) = some (plc xs n) := by
  obtain ⟨h1, h2⟩ := modlen h n
  have e : xs[(n % (xs.length : Int)).toNat]? = some (plc xs n) := by
    unfold plc
    rw [List.getD_eq_getElem?_getD, List.getElem?_eq_getElem h1]
    rfl
  have z := atI_nat e
  rw [h2] at z
  exact z
theorem plc_mem {xs : List V} (h : 0 < xs.length) (n : Int) : plc xs n ∈ xs := by
  obtain ⟨h1, _⟩ := modlen h n
  unfold plc
  rw [List.getD_eq_getElem?_getD, List.getElem?_eq_getElem h1]
  exact List.getElem_mem h1
theorem trn_len (xs : List V) : (trn xs).length = xs.length := by
  unfold trn
  rw [List.length_map, List.length_range]
theorem trn_get {xs : List V} {i : Nat} (h : i < xs.length) : (trn xs)[i]? = some (plc xs (-(i : Int))) := by
  unfold trn
  rw [List.getElem?_map, List.getElem?_range h]
  rfl
theorem neg_neg_mod (b n : Int) : (-((-b) % n)) % n = b % n := by
  have h := Int.emod_add_mul_ediv (-b) n
  have e : -((-b) % n) = b + n * ((-b) / n) := by omega
  rw [e, Int.add_mul_emod_self_left]
theorem plc_trn {xs : List V} (h : 0 < xs.length) (b : Int) : plc (trn xs) (-b) = plc xs b := by
  obtain ⟨h1, h2⟩ := modlen h (-b)
  have e1 : plc (trn xs) (-b) = plc xs (-(((-b) % (xs.length : Int)).toNat : Int)) := by
    show (trn xs).getD ((-b) % ((trn xs).length : Int)).toNat .non = _
    rw [trn_len, List.getD_eq_getElem?_getD, trn_get h1]
    rfl
  rw [e1, h2]
  show xs.getD ((-((-b) % (xs.length : Int))) % (xs.length : Int)).toNat .non = xs.getD (b % (xs.length : Int)).toNat .non
  rw [neg_neg_mod]
theorem trn_cons (x : V) (r : List V) : trn (x :: r) = x :: r.reverse := by
  refine List.ext_getElem? fun i => ?_
  by_cases hi : i < (x :: r).length
  · rw [trn_get hi]
    cases i with
    | zero => rfl
    | succ j =>
      have hj : j < r.length := by simpa using hi
      have e : (-(((j + 1 : Nat)) : Int)) % (((x :: r).length : Nat) : Int) = ((r.length - j : Nat) : Int) := by
        have e2 : (-(((j + 1 : Nat)) : Int)) = ((r.length - j : Nat) : Int) + (((x :: r).length : Nat) : Int) * (-1) := by
          rw [List.length_cons]
          omega
        rw [e2, Int.add_mul_emod_self_left, Int.emod_eq_of_lt (by omega) (by rw [List.length_cons]; omega)]
      show some ((x :: r).getD ((-(((j + 1 : Nat)) : Int)) % (((x :: r).length : Nat) : Int)).toNat .non) = (x :: r.reverse)[j + 1]?
      rw [e, Int.toNat_natCast, List.getElem?_cons_succ, List.getElem?_reverse hj, List.getD_eq_getElem?_getD]
      have e3 : r.length - j = (r.length - 1 - j) + 1 := by omega
      rw [e3, List.getElem?_cons_succ, List.getElem?_eq_getElem (by omega)]
      rfl
  · rw [List.getElem?_eq_none (by rw [trn_len]; omega), List.getElem?_eq_none (by simp at hi ⊢; omega)]
theorem trn_trn : ∀ {xs : List V}, 0 < xs.length → trn (trn xs) = xs
  | [], h => by cases h
  | x :: r, _ => by rw [trn_cons, trn_cons, List.reverse_reverse]
/-! ### plain lists, equal ones -/
theorem Lk.flat {n : Nat} {H : Hp} {v : V} (h : flatV v = true) : Lk (n + 1) H v v := .inl ⟨rfl, h⟩
theorem Lk.lst {n : Nat} {H : Hp} {a b : Addr} {xs : List V} (ha : H a = some (.lst xs)) (hb : H b = some (.lst xs)) (hl : xs.length ≤ 1000) (hf : ∀ x ∈ xs, flatV x = true) : Lk (n + 2) H (.ref a) (.ref b) := by
  refine .inr ⟨a, b, xs, xs, rfl, rfl, rfl, hl, .inl ⟨ha, hb⟩, fun i x y hx hy => ?_⟩
  have e : x = y := Option.some.inj (hx.symm.trans hy)
  rw [← e]
  exact Lk.flat (hf x (List.mem_of_getElem? hx))
theorem Lk.tup {n : Nat} {H : Hp} {a b : Addr} {xs : List V} (ha : H a = some (.tup xs)) (hb : H b = some (.tup xs)) (hl : xs.length ≤ 1000) (hf : ∀ x ∈ xs, flatV x = true) : Lk (n + 2) H (.ref a) (.ref b) := by
  refine .inr ⟨a, b, xs, xs, rfl, rfl, rfl, hl, .inr ⟨ha, hb⟩, fun i x y hx hy => ?_⟩
  have e : x = y := Option.some.inj (hx.symm.trans hy)
  rw [← e]
  exact Lk.flat (hf x (List.mem_of_getElem? hx))
theorem flat_strs {zs : List Str} : ∀ x ∈ zs.map V.str, flatV x = true := by
  intro x hx
  obtain ⟨z, _, rfl⟩ := List.mem_map.mp hx
  rfl
theorem str_of {zs : List Str} {x : V} (h : x ∈ zs.map V.str) : ∃ z, z ∈ zs ∧ x = V.str z := by
  obtain ⟨z, hz, rfl⟩ := List.mem_map.mp h
  exact ⟨z, hz, rfl⟩
theorem dp_strs {K : PySem.W.Frag} {H : Hp} : ∀ zs : List Str, DpAll K H (zs.map V.str) (zs.map PyData.str)
  | [] => .nil
  | z :: r => .cons (.str z) (dp_strs r)
theorem nm_ok {z : Str} (h : isNm z = true) : PyData.strOk z = true := by
  unfold isNm at h
  rw [Bool.and_eq_true] at h
  have h2 := List.all_eq_true.mp h.2
  have key : ∀ c ∈ abc.cps.toList, 97 ≤ c ∧ c < 123 := by decide +kernel
  unfold PyData.strOk
  rw [Array.all_eq_true']
  intro c hc
  have h3 := key c (of_decide_eq_true (h2 c (Array.mem_toList_iff.mpr hc)))
  exact decide_eq_true (by omega)
theorem lay_strs : ∀ {zs : List Str}, (∀ z ∈ zs, PyData.strOk z = true) → PyData.canLayAll0 (zs.map PyData.str) = true ∧ PyData.depthAll (zs.map PyData.str) = 0
  | [], _ => ⟨rfl, rfl⟩
  | z :: r, h => by
    obtain ⟨h1, h2⟩ := lay_strs (zs := r) fun y hy => h y (List.mem_cons_of_mem _ hy)
    have h0 := h z List.mem_cons_self
    constructor
    · show (PyData.strOk z && PyData.canLayAll0 (r.map PyData.str)) = true
      rw [h0, h1]
      rfl
    · show max 0 (PyData.depthAll (r.map PyData.str)) = 0
      rw [h2]
      rfl
theorem shaped_strs {zs : List Str} (h : ∀ z ∈ zs, PyData.strOk z = true) : SeqAt.shaped (.tuple (zs.map PyData.str)) = true := by
  obtain ⟨h1, h2⟩ := lay_strs h
  unfold SeqAt.shaped
  have e1 : (PyData.tuple (zs.map PyData.str)).canLay0 = true := h1
  have e2 : (PyData.tuple (zs.map PyData.str)).depth = 1 := by
    show PyData.depthAll (zs.map PyData.str) + 1 = 1
    rw [h2]
  rw [e1, e2]
  rfl
end Dk
namespace Dk
open PySem L2
theorem cut_strs (zs : List Str) (a b : Option Int) : ∃ ms : List Str, cutV (zs.map V.str) a b = ms.map V.str ∧ (∀ m ∈ ms, m ∈ zs) ∧ ms.length ≤ zs.length := by
  refine ⟨(zs.drop (HT.sIx (zs.map V.str).length 0 a)).take (HT.sIx (zs.map V.str).length (zs.map V.str).length b - HT.sIx (zs.map V.str).length 0 a), ?_, ?_, ?_⟩
  · unfold cutV
    rw [List.map_take, List.map_drop]
  · intro m hm
    exact List.mem_of_mem_drop (List.mem_of_mem_take hm)
  · rw [List.length_take, List.length_drop]
    omega
theorem cut_tail (x : V) (r : List V) : cutV (x :: r) (some 1) none = r := by
  unfold cutV
  have h1 : HT.sIx (x :: r).length 0 (some 1) = 1 := by
    rw [show HT.sIx (x :: r).length 0 (some 1) = min 1 (x :: r).length from HT.sIx_nat (x :: r).length 0 1, List.length_cons]
    omega
  rw [h1, HT.sIx_none, List.length_cons]
  show r.take (r.length + 1 - 1) = r
  rw [Nat.add_sub_cancel, List.take_length]
theorem same2 {H : Hp} {p q : Addr} {o u : HO} (n1 : H p = none) (n2 : upd H p o q = none) : Same H (upd (upd H p o) q u) := (same_new n1).trans (same_new n2)
end Dk
namespace Dk
open PySem L2
theorem sign_of {x : V} (h : x ∈ [V.int (-1), V.int 1]) : ∃ i : Int, x = .int i ∧ (i = -1 ∨ i = 1) := by
  rcases List.mem_cons.mp h with rfl | h
  · exact ⟨_, rfl, .inl rfl⟩
  · rw [List.mem_singleton.mp h]
    exact ⟨_, rfl, .inr rfl⟩
theorem int_of {x : V} {m n : Int} (h : x ∈ [V.int m, V.int n]) : ∃ i : Int, x = .int i := by
  rcases List.mem_cons.mp h with rfl | h
  · exact ⟨_, rfl⟩
  · rw [List.mem_singleton.mp h]
    exact ⟨_, rfl⟩
end Dk
namespace Dk
open PySem L2
theorem not_t : ∀ {b : Bool}, (!b) = true → b = false
  | false, _ => rfl
  | true, h => by cases h
/-! ### Euclid in turns -/
def estep (p : Nat × Nat) : Nat × Nat := if 0 < p.2 then (p.2, p.1 % p.2) else p
def eit : Nat → Nat × Nat → Nat × Nat
  | 0, p => p
  | n + 1, p => estep (eit n p)
theorem eit_in : ∀ (n : Nat) (p : Nat × Nat), eit (n + 1) p = eit n (estep p)
  | 0, _ => rfl
  | n + 1, p => by
    show estep (eit (n + 1) p) = estep (eit n (estep p))
    rw [eit_in n p]
theorem half_rest {b m : Nat} (h0 : 0 < m) (h1 : m ≤ b) : 2 * (b % m) < b := by
  have h2 := Nat.mod_lt b h0
  have h3 := Nat.div_add_mod b m
  have h4 : 1 ≤ b / m := Nat.div_pos h1 h0
  have h5 : m * 1 ≤ m * (b / m) := Nat.mul_le_mul_left m h4
  omega
theorem eit_gcd : ∀ (k a b : Nat), b < 2 ^ k → eit (2 * k) (a, b) = (Nat.gcd a b, 0)
  | 0, a, b, h => by
    have e : b = 0 := by simpa using h
    subst e
    rw [Nat.gcd_zero_right]
    rfl
  | k + 1, a, b, h => by
    rw [show 2 * (k + 1) = 2 * k + 1 + 1 from by omega, eit_in, eit_in]
    by_cases hb : 0 < b
    · have e1 : estep (a, b) = (b, a % b) := if_pos hb
      rw [e1]
      by_cases hm : 0 < a % b
      · have e2 : estep (b, a % b) = (a % b, b % (a % b)) := if_pos hm
        have hl := Nat.mod_lt a hb
        have hh := half_rest hm (Nat.le_of_lt hl)
        rw [e2, eit_gcd k _ _ (by rw [Nat.pow_succ] at h; omega)]
        rw [Nat.gcd_comm a b, Nat.gcd_rec b a, Nat.gcd_rec (a % b) b, Nat.gcd_comm]
      · have e0 : a % b = 0 := by omega
        have e2 : estep (b, a % b) = (b, 0) := by
          rw [e0]
          rfl
        rw [e2, eit_gcd k b 0 (Nat.pow_pos (by decide)), Nat.gcd_zero_right, Nat.gcd_eq_right (Nat.dvd_of_mod_eq_zero e0)]
    · have e : b = 0 := by omega
      subst e
      have e1 : estep (a, 0) = (a, 0) := rfl
      rw [e1, e1, eit_gcd k a 0 (Nat.pow_pos (by decide))]
/-! ### least common multiples -/
/-- a test's reading passes on -/
theorem mono_test {r : R2} {ta tb : TE} (ha : ∀ σ H Q Q', (∀ v H1, Q v H1 → Q' v H1) → ta σ H Q → ta σ H Q') (hb : ∀ σ H Q Q', (∀ v H1, Q v H1 → Q' v H1) → tb σ H Q → tb σ H Q') (hr : ∀ x y H Q Q', (∀ v H1, Q v H1 → Q' v H1) → r x y H Q → r x y H Q') :
    ∀ σ H Q Q', (∀ b H1, Q b H1 → Q' b H1) → tTest (tOp r ta tb) σ H Q → tTest (tOp r ta tb) σ H Q' := by
  intro σ H Q Q' h q
  refine ha σ H _ _ (fun x H1 q1 => hb σ H1 _ _ (fun y H2 q2 => hr x y H2 _ _ (fun v H3 q3 => ?_) q2) q1) q
  obtain ⟨k, e, q4⟩ := q3
  exact ⟨k, e, h _ _ q4⟩
theorem mono_var (i : Nat) : ∀ (σ : L2.St) (H : Hp) (Q Q' : VK), (∀ v H1, Q v H1 → Q' v H1) → tVar i σ H Q → tVar i σ H Q' := by
  rintro σ H Q Q' h ⟨v, e, q⟩
  exact ⟨v, e, h _ _ q⟩
theorem mono_const (c : V) : ∀ (σ : L2.St) (H : Hp) (Q Q' : VK), (∀ v H1, Q v H1 → Q' v H1) → tC c σ H Q → tC c σ H Q' := fun σ H Q Q' h q => h _ _ q
def lcmL (ns : List Nat) : Nat := ns.foldl Nat.lcm 1
theorem lcm_le_mul (a b : Nat) : Nat.lcm a b ≤ a * b := by
  unfold Nat.lcm
  exact Nat.div_le_self _ _
theorem lcm_eq (a b : Nat) : a / Nat.gcd a b * b = Nat.lcm a b := by
  unfold Nat.lcm
  rw [Nat.div_mul_right_comm (Nat.gcd_dvd_left a b)]
theorem foldl_le : ∀ (ns : List Nat) (w : Nat), ns.foldl Nat.lcm w ≤ ns.foldl (· * ·) w
  | [], _ => Nat.le_refl _
  | n :: r, w => by
    have h1 := foldl_le r (Nat.lcm w n)
    have h2 : r.foldl (· * ·) (Nat.lcm w n) ≤ r.foldl (· * ·) (w * n) := foldl_mono r (lcm_le_mul w n)
    exact Nat.le_trans h1 h2
where
  foldl_mono : ∀ (r : List Nat) {x y : Nat}, x ≤ y → r.foldl (· * ·) x ≤ r.foldl (· * ·) y
    | [], _, _, h => h
    | m :: r, _, _, h => foldl_mono r (Nat.mul_le_mul_right m h)
theorem foldl_pos : ∀ (ns : List Nat) {w : Nat}, 0 < w → (∀ n ∈ ns, 0 < n) → 0 < ns.foldl Nat.lcm w
  | [], _, h, _ => h
  | n :: r, _, h, hn => foldl_pos r (Nat.lcm_pos h (hn n List.mem_cons_self)) fun m hm => hn m (List.mem_cons_of_mem _ hm)
theorem lcmL_take {ns : List Nat} {i n : Nat} (h : ns[i]? = some n) : lcmL (ns.take (i + 1)) = Nat.lcm (lcmL (ns.take i)) n := by
  unfold lcmL
  rw [List.take_add_one, h, List.foldl_append]
  rfl
/-! ### numbers with two rests -/
theorem two_rests {a b : Nat} {x y : Int} (ha : (x - y) % (a : Int) = 0) (hb : (x - y) % (b : Int) = 0) (h1 : x - y < (Nat.lcm a b : Nat)) (h2 : y - x < (Nat.lcm a b : Nat)) : x = y := by
  have d1 : (a : Int) ∣ x - y := Int.dvd_of_emod_eq_zero ha
  have d2 : (b : Int) ∣ x - y := Int.dvd_of_emod_eq_zero hb
  have d3 : Nat.lcm a b ∣ (x - y).natAbs := Nat.lcm_dvd (Int.natAbs_dvd_natAbs.mpr d1 |> fun z => by simpa using z) (Int.natAbs_dvd_natAbs.mpr d2 |> fun z => by simpa using z)
  have h3 : (x - y).natAbs < Nat.lcm a b := by omega
  have h4 := Nat.eq_zero_of_dvd_of_lt d3 h3
  omega
theorem rest_sub {x y : Int} {a : Nat} {r : Int} (hx : x % (a : Int) = r) (hy : y % (a : Int) = r) : (x - y) % (a : Int) = 0 := by
  exact Int.emod_eq_emod_iff_emod_sub_eq_zero.mp (hx.trans hy.symm)
theorem lcm_eq2 (a b : Nat) : a * (b / Nat.gcd a b) = Nat.lcm a b := by
  unfold Nat.lcm
  rw [Nat.mul_div_assoc a (Nat.gcd_dvd_right a b)]
/-- the common number, by the share c -/
def meetN (a b : Nat) (r s c : Int) : Int := r + ((s - r) / (Nat.gcd a b : Nat) * c) % ((b / Nat.gcd a b : Nat) : Int) * a
theorem meet_ok {a b : Nat} {r s c q : Int} (ha : 0 < a) (hb : 0 < b) (hr0 : 0 ≤ r) (hr : r < a) (hs0 : 0 ≤ s) (hs : s < b) (hc : c * a = (Nat.gcd a b : Nat) + q * b) (hd : (s - r) % (Nat.gcd a b : Nat) = 0) :
    meetN a b r s c % a = r ∧ meetN a b r s c % b = s ∧ 0 ≤ meetN a b r s c ∧ meetN a b r s c < (Nat.lcm a b : Nat) := by
  have hg : 0 < Nat.gcd a b := Nat.gcd_pos_of_pos_left b ha
  have ht : 0 < b / Nat.gcd a b := Nat.div_pos (Nat.le_of_dvd hb (Nat.gcd_dvd_right a b)) hg
  have eg : (s - r) = (Nat.gcd a b : Nat) * ((s - r) / (Nat.gcd a b : Nat)) := by
    have := Int.emod_add_mul_ediv (s - r) (Nat.gcd a b : Nat)
    omega
  have eb : (b : Int) = (Nat.gcd a b : Nat) * ((b / Nat.gcd a b : Nat) : Int) := by
    have := Nat.mul_div_cancel' (Nat.gcd_dvd_right a b)
    exact_mod_cast this.symm
  have ea : (a : Int) = (Nat.gcd a b : Nat) * ((a / Nat.gcd a b : Nat) : Int) := by
    have := Nat.mul_div_cancel' (Nat.gcd_dvd_left a b)
    exact_mod_cast this.symm
  unfold meetN
  generalize hA : (s - r) / (Nat.gcd a b : Nat) = A at *
  have em := Int.emod_add_mul_ediv (A * c) ((b / Nat.gcd a b : Nat) : Int)
  have e0 : 0 ≤ (A * c) % ((b / Nat.gcd a b : Nat) : Int) := Int.emod_nonneg _ (by omega)
  have e1 : (A * c) % ((b / Nat.gcd a b : Nat) : Int) < ((b / Nat.gcd a b : Nat) : Int) := Int.emod_lt_of_pos _ (by omega)
  generalize hB : (A * c) / ((b / Nat.gcd a b : Nat) : Int) = B at *
  generalize hT : (A * c) % ((b / Nat.gcd a b : Nat) : Int) = t at *
  refine ⟨?_, ?_, ?_, ?_⟩
  · rw [Int.add_mul_emod_self_right, Int.emod_eq_of_lt hr0 hr]
  · have key : r + t * a = s + (A * q - B * ((a / Nat.gcd a b : Nat) : Int)) * b := by
      have h1 : t * a = A * (c * a) - B * (((b / Nat.gcd a b : Nat) : Int) * a) := by
        have : t = A * c - ((b / Nat.gcd a b : Nat) : Int) * B := by omega
        rw [this, Int.sub_mul, Int.mul_assoc, Int.mul_comm _ B, Int.mul_assoc]
      have h2 : ((b / Nat.gcd a b : Nat) : Int) * a = ((a / Nat.gcd a b : Nat) : Int) * b := by
        calc ((b / Nat.gcd a b : Nat) : Int) * a = ((b / Nat.gcd a b : Nat) : Int) * ((Nat.gcd a b : Nat) * ((a / Nat.gcd a b : Nat) : Int)) := by rw [← ea]
          _ = ((a / Nat.gcd a b : Nat) : Int) * ((Nat.gcd a b : Nat) * ((b / Nat.gcd a b : Nat) : Int)) := by
            rw [← Int.mul_assoc, Int.mul_comm _ ((Nat.gcd a b : Nat) : Int), Int.mul_comm]
          _ = _ := by rw [← eb]
      rw [h1, hc, h2, Int.mul_add, Int.sub_mul, Int.mul_assoc A q, Int.mul_assoc B, Int.mul_comm A ((Nat.gcd a b : Nat) : Int), ← eg]
      omega
    rw [key, Int.add_mul_emod_self_right, Int.emod_eq_of_lt hs0 hs]
  · have : 0 ≤ t * a := Int.mul_nonneg e0 (by omega)
    omega
  · have h3 : t * a ≤ (((b / Nat.gcd a b : Nat) : Int) - 1) * a := Int.mul_le_mul_of_nonneg_right (by omega) (by omega)
    have h4 : ((Nat.lcm a b : Nat) : Int) = ((b / Nat.gcd a b : Nat) : Int) * a := by
      rw [← lcm_eq2, Int.natCast_mul, Int.mul_comm]
    rw [Int.sub_mul] at h3
    omega
theorem meet_none {a b : Nat} {r s : Int} (hd : ¬ (s - r) % (Nat.gcd a b : Nat) = 0) (k : Int) (h1 : k % a = r) (h2 : k % b = s) : False := by
  apply hd
  have d1 : ((Nat.gcd a b : Nat) : Int) ∣ k - r := by
    have : (a : Int) ∣ k - r := ⟨k / a, by have := Int.emod_add_mul_ediv k a; omega⟩
    exact Int.dvd_trans (Int.natCast_dvd_natCast.mpr (Nat.gcd_dvd_left a b)) this
  have d2 : ((Nat.gcd a b : Nat) : Int) ∣ k - s := by
    have : (b : Int) ∣ k - s := ⟨k / b, by have := Int.emod_add_mul_ediv k b; omega⟩
    exact Int.dvd_trans (Int.natCast_dvd_natCast.mpr (Nat.gcd_dvd_right a b)) this
  have d3 := Int.dvd_sub d1 d2
  rw [show k - r - (k - s) = s - r by omega] at d3
  exact Int.emod_eq_zero_of_dvd d3
/-! ### promises -/
def two : Nat := 2 ^ 64
def spDas : Sp := fun vs H Q _ => ∃ x y : Nat, vs = [.int (x : Int), .int (y : Int)] ∧ 0 < x ∧ x < 2 ^ 64 ∧ y < 2 ^ 64 ∧
  ∀ (H' : Hp) (t : Addr) (c q : Int), Same H H' → H t = none → H' t = some (.tup [.int (Nat.gcd x y : Nat), .int c]) → c * x = (Nat.gcd x y : Nat) + q * y → Q (.ref t) H'
def natV (n : Nat) : V := .int (n : Int)
def spWheel (K : PySem.W.Frag) : Sp := fun vs H Q _ => ∃ (p : Addr) (ns : List Nat), vs = [.ref p] ∧ Sq K H p (ns.map natV) ∧ (∀ n ∈ ns, 0 < n ∧ n < 2 ^ 64) ∧ (∀ i, lcmL (ns.take i) < 2 ^ 64) ∧ ∀ H', Same H H' → Q (.int (lcmL ns : Nat)) H'
/-- what met tells -/
def Met (H : Hp) (a b : Nat) (r s : Int) (v : V) : Prop :=
  (v = .non ∧ ∀ k : Int, k % a = r → k % b = s → False) ∨
  ∃ (t : Addr) (m : Int), v = .ref t ∧ H t = some (.tup [.int m, .int (Nat.lcm a b : Nat)]) ∧ m % a = r ∧ m % b = s ∧ 0 ≤ m ∧ m < (Nat.lcm a b : Nat)
def spMet (K : PySem.W.Frag) : Sp := fun vs H Q _ => ∃ (p q : Addr) (a b : Nat) (r s : Int), vs = [.ref p, .ref q] ∧ SqT K H p [.int r, .int (a : Int)] ∧ SqT K H q [.int s, .int (b : Int)] ∧ 0 < a ∧ a < 2 ^ 64 ∧ 0 < b ∧ b < 2 ^ 64 ∧ 0 ≤ r ∧ r < a ∧ 0 ≤ s ∧ s < b ∧
  ∀ (H' : Hp) (v : V), Same H H' → Met H' a b r s v → Q v H'
end Dk
namespace Dk
open PySem L2
/-! ### the first multiple -/
def fls (w n i : Nat) : List Nat := ((List.range i).map fun j => w + j * w).filter fun k => k % n == 0
theorem fls_succ (w n i : Nat) : fls w n (i + 1) = fls w n i ++ (if (w + i * w) % n = 0 then [w + i * w] else []) := by
  unfold fls
  rw [List.range_succ, List.map_append, List.filter_append]
  congr 1
  by_cases h : (w + i * w) % n = 0
  · rw [if_pos h]
    show List.filter _ [w + i * w] = _
    simp [h]
  · rw [if_neg h]
    show List.filter _ [w + i * w] = _
    simp [h]
theorem fls_len (w n i : Nat) : (fls w n i).length ≤ i := by
  unfold fls
  refine Nat.le_trans (List.length_filter_le _ _) ?_
  rw [List.length_map, List.length_range]
  exact Nat.le_refl _
theorem fls_head {w n : Nat} (hw : 0 < w) (hn : 0 < n) : ∀ i : Nat, (i < n / Nat.gcd w n → fls w n i = []) ∧ (n / Nat.gcd w n ≤ i → (fls w n i)[0]? = some (Nat.lcm w n))
  | 0 => by
    have hg : 0 < n / Nat.gcd w n := Nat.div_pos (Nat.le_of_dvd hn (Nat.gcd_dvd_right w n)) (Nat.gcd_pos_of_pos_left n hw)
    exact ⟨fun _ => rfl, fun h => by omega⟩
  | i + 1 => by
    obtain ⟨h1, h2⟩ := fls_head hw hn i
    have el : Nat.lcm w n = w * (n / Nat.gcd w n) := (lcm_eq2 w n).symm
    have em : w + i * w = w * (i + 1) := by
      rw [Nat.mul_comm i w, Nat.mul_succ]
      omega
    have key : (w + i * w) % n = 0 → n / Nat.gcd w n ≤ i + 1 := by
      intro e
      have d1 : Nat.lcm w n ∣ w * (i + 1) := Nat.lcm_dvd ⟨i + 1, rfl⟩ (Nat.dvd_of_mod_eq_zero (by rw [← em]; exact e))
      have d2 := Nat.le_of_dvd (Nat.mul_pos hw (by omega)) d1
      rw [el] at d2
      exact Nat.le_of_mul_le_mul_left d2 hw
    rw [fls_succ]
    constructor
    · intro h
      rw [h1 (by omega), if_neg (fun e => by have := key e; omega)]
      rfl
    · intro h
      by_cases hi : n / Nat.gcd w n ≤ i
      · have h3 := h2 hi
        rw [List.getElem?_append_left (by
          cases e : fls w n i with
          | nil =>
            rw [e] at h3
            cases h3
          | cons x r => simp)]
        exact h3
      · have e2 : n / Nat.gcd w n = i + 1 := by omega
        have e3 : w + i * w = Nat.lcm w n := by rw [em, el, e2]
        have e4 : (w + i * w) % n = 0 := by
          rw [e3]
          exact Nat.mod_eq_zero_of_dvd (Nat.dvd_lcm_right w n)
        rw [h1 (by omega), if_pos e4, e3]
        rfl
theorem rgc_mul {w n : Nat} (hw : 0 < w) (hn : 0 < n) (h1 : w < 2 ^ 28) (h2 : n < 2 ^ 28) : RgC (w : Int) ((w : Int) * (n : Int) + 1) (w : Int) n := by
  have hm : (w : Int) * (n : Int) < 2 ^ 56 := by
    have : w * n < 2 ^ 28 * 2 ^ 28 := Nat.mul_lt_mul'' h1 h2
    exact_mod_cast this
  have hm1 : (w : Int) ≤ (w : Int) * (n : Int) := by
    have : w * 1 ≤ w * n := Nat.mul_le_mul_left w hn
    rw [Nat.mul_one] at this
    exact_mod_cast this
  have hs : Builtin.Range.rangeSize (w : Int) ((w : Int) * (n : Int) + 1) (w : Int) = (n : Int) := by
    unfold Builtin.Range.rangeSize
    rw [if_pos (show (w : Int) > 0 by omega), if_pos (by omega)]
    have e : (w : Int) * (n : Int) + 1 - (w : Int) - 1 = (w : Int) * ((n : Int) - 1) := by
      rw [Int.mul_sub, Int.mul_one]
      omega
    rw [e, Int.mul_ediv_cancel_left _ (by omega)]
    omega
  refine ⟨by omega, by omega, ?_, hs⟩
  unfold Builtin.Range.small
  rw [hs]
  simp only [Builtin.Range.rangeFitsLong, Bool.and_eq_true, Bool.or_eq_true, decide_eq_true_eq, beq_iff_eq]
  rw [if_pos (show (w : Int) > 0 by omega)]
  generalize (w : Int) * (n : Int) = m at *
  refine ⟨⟨⟨⟨⟨by omega, by omega⟩, by omega, by omega⟩, by omega, by omega⟩, by omega, by omega⟩, .inr ?_⟩
  rw [decide_eq_true (show -2 ^ 63 ≤ m + 1 + ((w : Int) - 1) by omega), decide_eq_true (show m + 1 + ((w : Int) - 1) < 2 ^ 63 by omega)]
  rfl
end Dk
namespace Dk
open PySem L2
theorem foldl_dvd : ∀ (ns : List Nat) (w m : Nat), ns.foldl Nat.lcm w ∣ m ↔ w ∣ m ∧ ∀ n ∈ ns, n ∣ m
  | [], w, m => ⟨fun h => ⟨h, fun n hn => by cases hn⟩, fun h => h.1⟩
  | n :: r, w, m => by
    show r.foldl Nat.lcm (Nat.lcm w n) ∣ m ↔ _
    rw [foldl_dvd r]
    constructor
    · rintro ⟨h1, h2⟩
      refine ⟨Nat.dvd_trans (Nat.dvd_lcm_left w n) h1, fun x hx => ?_⟩
      rcases List.mem_cons.mp hx with rfl | hx
      · exact Nat.dvd_trans (Nat.dvd_lcm_right w x) h1
      · exact h2 x hx
    · rintro ⟨h1, h2⟩
      exact ⟨Nat.lcm_dvd h1 (h2 n List.mem_cons_self), fun x hx => h2 x (List.mem_cons_of_mem _ hx)⟩
theorem lcmL_rev (ns : List Nat) : lcmL ns.reverse = lcmL ns := by
  refine Nat.dvd_antisymm ?_ ?_
  · exact (foldl_dvd _ 1 _).mpr ⟨Nat.one_dvd _, fun n hn => ((foldl_dvd ns 1 _).mp (Nat.dvd_refl _)).2 n (List.mem_reverse.mp hn)⟩
  · exact (foldl_dvd _ 1 _).mpr ⟨Nat.one_dvd _, fun n hn => ((foldl_dvd ns.reverse 1 _).mp (Nat.dvd_refl _)).2 n (List.mem_reverse.mpr hn)⟩
theorem foldl_pow {c : Nat} : ∀ (ns : List Nat) (w : Nat), (∀ n ∈ ns, n ≤ c) → ns.foldl (· * ·) w ≤ w * c ^ ns.length
  | [], w, _ => by simp
  | n :: r, w, h => by
    have h1 := foldl_pow r (w * n) fun x hx => h x (List.mem_cons_of_mem _ hx)
    have h2 : w * n * c ^ r.length ≤ w * c * c ^ r.length := Nat.mul_le_mul_right _ (Nat.mul_le_mul_left w (h n List.mem_cons_self))
    show r.foldl (· * ·) (w * n) ≤ w * c ^ (r.length + 1)
    rw [Nat.pow_succ, Nat.mul_comm (c ^ r.length) c, ← Nat.mul_assoc]
    exact Nat.le_trans h1 h2
theorem lcmL_small {ns : List Nat} {c k : Nat} (h : ∀ n ∈ ns, n ≤ c) (hc : 0 < c) (hl : ns.length ≤ k) (i : Nat) : lcmL (ns.take i) ≤ c ^ k := by
  have h1 := foldl_le (ns.take i) 1
  have h2 := foldl_pow (c := c) (ns.take i) 1 fun n hn => h n (List.mem_of_mem_take hn)
  have h3 : c ^ (ns.take i).length ≤ c ^ k := Nat.pow_le_pow_right hc (by rw [List.length_take]; omega)
  unfold lcmL
  omega
theorem lcmL_two (a b : Nat) : lcmL [a, b] = Nat.lcm a b := by
  show Nat.lcm (Nat.lcm 1 a) b = Nat.lcm a b
  rw [Nat.lcm_one_left]
theorem lcmL_take2 (a b i : Nat) (ha : 0 < a) (hb : 0 < b) : lcmL ([a, b].take i) ≤ a * b := by
  match i with
  | 0 => exact Nat.mul_pos ha hb
  | 1 =>
    show Nat.lcm 1 a ≤ a * b
    rw [Nat.lcm_one_left]
    exact Nat.le_mul_of_pos_right a hb
  | i + 2 =>
    rw [List.take_of_length_le (by simp), lcmL_two]
    exact lcm_le_mul a b
/-- what the law finds by going through all -/
def Found (H : Hp) (a b : Nat) (r s : Int) (d : V) : Prop :=
  (d = .non ∧ ∀ k : Int, 0 ≤ k → k < (Nat.lcm a b : Nat) → k % a = r → k % b = s → False) ∨
  ∃ (t : Addr) (k : Int), d = .ref t ∧ H t = some (.tup [.int k, .int (Nat.lcm a b : Nat)]) ∧ 0 ≤ k ∧ k < (Nat.lcm a b : Nat) ∧ k % a = r ∧ k % b = s
theorem Found.same {H H' : Hp} {a b : Nat} {r s : Int} {d : V} (h : Found H a b r s d) (e : Same H H') : Found H' a b r s d := by
  rcases h with h | ⟨t, k, h1, h2, h3⟩
  · exact .inl h
  · exact .inr ⟨t, k, h1, e _ _ h2, h3⟩
theorem Met.same {H H' : Hp} {a b : Nat} {r s : Int} {d : V} (h : Met H a b r s d) (e : Same H H') : Met H' a b r s d := by
  rcases h with h | ⟨t, k, h1, h2, h3⟩
  · exact .inl h
  · exact .inr ⟨t, k, h1, e _ _ h2, h3⟩
theorem Met.swap {H : Hp} {a b : Nat} {r s : Int} {d : V} (h : Met H b a s r d) : Met H a b r s d := by
  rcases h with ⟨h1, h2⟩ | ⟨t, k, h1, h2, h3, h4, h5⟩
  · exact .inl ⟨h1, fun k x y => h2 k y x⟩
  · rw [Nat.lcm_comm b a] at h2 h5
    exact .inr ⟨t, k, h1, h2, h4, h3, h5⟩
theorem flat_ints {m n : Int} : ∀ x ∈ [V.int m, V.int n], flatV x = true := by
  intro x hx
  rcases List.mem_cons.mp hx with rfl | hx
  · rfl
  · rw [List.mem_singleton.mp hx]
    rfl
theorem met_like {H : Hp} {a b : Nat} {r s : Int} {v d : V} {n : Nat} (h : Met H a b r s v) (f : Found H a b r s d) : Lk (n + 2) H v d := by
  rcases h with ⟨rfl, h⟩ | ⟨t, m, rfl, h1, h2, h3, h4, h5⟩
  · rcases f with ⟨rfl, _⟩ | ⟨t, k, rfl, _, _, _, g1, g2⟩
    · exact .inl ⟨rfl, rfl⟩
    · exact (h k g1 g2).elim
  · rcases f with ⟨rfl, g⟩ | ⟨u, k, rfl, g1, g2, g3, g4, g5⟩
    · exact (g m h4 h5 h2 h3).elim
    · have e : m = k := two_rests (rest_sub h2 g4) (rest_sub h3 g5) (by omega) (by omega)
      subst e
      exact Lk.tup (n := n) h1 g1 (by show 2 ≤ 1000; decide) flat_ints
/-- the list of hits behind j numbers: its first one -/
def Hits (H : Hp) (a b : Nat) (r s : Int) (j : Nat) (ps : List V) : Prop :=
  ps.length ≤ j ∧ ((ps = [] ∧ ∀ k : Int, 0 ≤ k → k < j → k % a = r → k % b = s → False) ∨
  ∃ (t : Addr) (k : Int) (rs : List V), ps = .ref t :: rs ∧ H t = some (.tup [.int k, .int (Nat.lcm a b : Nat)]) ∧ 0 ≤ k ∧ k < j ∧ k % a = r ∧ k % b = s)
theorem Hits.keep {H H' : Hp} {a b : Nat} {r s : Int} {j : Nat} {ps : List V} (h : Hits H a b r s j ps) (e : ∀ t xs, H t = some (.tup xs) → H' t = some (.tup xs)) : Hits H' a b r s j ps := by
  obtain ⟨hl, h⟩ := h
  rcases h with h | ⟨t, k, rs, h1, h2, h3⟩
  · exact ⟨hl, .inl h⟩
  · exact ⟨hl, .inr ⟨t, k, rs, h1, e _ _ h2, h3⟩⟩
theorem Hits.due {H : Hp} {a b : Nat} {r s : Int} {ps : List V} (h : Hits H a b r s (Nat.lcm a b) ps) : ∃ d, atI (ps ++ [.non]) 0 = some d ∧ Found H a b r s d := by
  obtain ⟨hl, h⟩ := h
  rcases h with ⟨rfl, h⟩ | ⟨t, k, rs, rfl, h2, h3, h4, h5⟩
  · exact ⟨.non, atI_nat (j := 0) rfl, .inl ⟨rfl, h⟩⟩
  · exact ⟨.ref t, atI_nat (j := 0) rfl, .inr ⟨t, k, rfl, h2, h3, h4, h5⟩⟩
theorem nat_of {x : Int} (h : 0 ≤ x) : V.int x = natV x.toNat := by
  unfold natV
  rw [Int.toNat_of_nonneg h]
theorem lcm_int (p q : Nat) : ((p : Int) * (q : Int)) / ((Nat.gcd p q : Nat) : Int) = ((Nat.lcm p q : Nat) : Int) := by
  unfold Nat.lcm
  rw [Int.natCast_ediv, Int.natCast_mul]
theorem rest_rest (x : Int) (a b : Nat) : (x % ((Nat.lcm a b : Nat) : Int)) % (a : Int) = x % (a : Int) ∧ (x % ((Nat.lcm a b : Nat) : Int)) % (b : Int) = x % (b : Int) :=
  ⟨Int.emod_emod_of_dvd x (Int.natCast_dvd_natCast.mpr (Nat.dvd_lcm_left a b)), Int.emod_emod_of_dvd x (Int.natCast_dvd_natCast.mpr (Nat.dvd_lcm_right a b))⟩
theorem step_of {x : V} {r : Int} {p : Nat} (h : x ∈ [V.int (1 + r), natV p, V.int (2 * (p : Int)), V.int 1]) (h0 : 0 ≤ r) (h1 : r < 10 ^ 9) (p0 : 0 < p) (p1 : p ≤ 10 ^ 9) : ∃ q : Nat, x = natV q ∧ 0 < q ∧ q ≤ 2 * 10 ^ 9 := by
  simp only [List.mem_cons, List.mem_nil_iff, or_false] at h
  rcases h with rfl | rfl | rfl | rfl
  · exact ⟨(1 + r).toNat, nat_of (by omega), by omega, by omega⟩
  · exact ⟨p, rfl, p0, by omega⟩
  · exact ⟨2 * p, by unfold natV; rw [Int.natCast_mul]; rfl, by omega, by omega⟩
  · exact ⟨1, rfl, by decide, by decide⟩
theorem Hits.miss {H : Hp} {a b : Nat} {r s : Int} {j : Nat} {ps : List V} (h : Hits H a b r s j ps) (n : ¬ (((j : Int) % a = r) ∧ ((j : Int) % b = s))) : Hits H a b r s (j + 1) ps := by
  obtain ⟨hl, h⟩ := h
  refine ⟨by omega, ?_⟩
  rcases h with ⟨h1, h2⟩ | ⟨t, k, rs, h1, h2, h3, h4, h5⟩
  · refine .inl ⟨h1, fun k k0 k1 k2 k3 => ?_⟩
    by_cases e : k = j
    · subst e
      exact n ⟨k2, k3⟩
    · exact h2 k k0 (by omega) k2 k3
  · exact .inr ⟨t, k, rs, h1, h2, h3, by omega, h5⟩
theorem Hits.hit {H : Hp} {a b : Nat} {r s : Int} {j : Nat} {ps : List V} {t : Addr} (h : Hits H a b r s j ps) (n1 : (j : Int) % a = r) (n2 : (j : Int) % b = s) (ht : H t = some (.tup [.int (j : Int), .int (Nat.lcm a b : Nat)])) : Hits H a b r s (j + 1) (ps ++ [.ref t]) := by
  obtain ⟨hl, h⟩ := h
  refine ⟨by rw [List.length_append]; show ps.length + 1 ≤ j + 1; omega, ?_⟩
  rcases h with ⟨h1, h2⟩ | ⟨u, k, rs, h1, h2, h3, h4, h5⟩
  · subst h1
    exact .inr ⟨t, j, [], rfl, ht, by omega, by omega, n1, n2⟩
  · subst h1
    exact .inr ⟨u, k, rs ++ [.ref t], rfl, h2, h3, by omega, h5⟩
end Dk
namespace Dk
open PySem L2
def top (i : Nat) : Stmt := PySem.Challenge.pw_darkthread_k08_wheels_and_rests.main.body.getD i (.Pass ⟨0, 0, 0, 0⟩)
abbrev sDas : Stmt := top 1
abbrev sWheel : Stmt := top 2
abbrev sMet : Stmt := top 3
abbrev sBox : Stmt := top 5
abbrev sDraw : Stmt := top 6
abbrev sLike : Stmt := top 7
abbrev sLcm : Stmt := top 8
abbrev sOf : Stmt := top 9
abbrev sShared : Stmt := top 10
abbrev sLaw : Stmt := top 11
section
variable {X : Cx}
theorem pi_any {tg iter : Expr} {w1 w2 : TI} (h1 : PI X tg iter w1) (h2 : PI X tg iter w2) : PI X tg iter (fun σ H R => w1 σ H R ∨ w2 σ H R) := ⟨fun pins s σ H R I h => h.elim (h1.run pins s σ H R I) (h2.run pins s σ H R I)⟩
end
end Dk
namespace Dk
open PySem L2
section
variable {P : Program} {w : World} {K : PySem.W.Frag} {mg : Str → Option Value} {base : Heap}
theorem scDraw : FnScope ["_law_box_here", "_law_many", "_law_cell", "_law_got"] ["_law_box_here", "_law_many"] (defScope sDraw) := ⟨rfl, rfl, rfl, by decide +kernel, rfl, by decide +kernel, by decide +kernel⟩
theorem ok_draw {f : Addr} {fd : FuncData} (F : Fun K "_law_draw" "_law_draw" sDraw f fd) (ml : mg "len" = none) (mx : mg "max" = none) : FnOk P w K mg base CX0 1 f fd ["_law_box_here", "_law_many"] spDraw := by
  refine F.ok scDraw (fun vs H Q E h => ?_) (fun cdv A outer s H vs Q E hr h => ?_)
  · obtain ⟨b, l, m, rfl, _⟩ := h
    rfl
  · obtain ⟨b, l, m, rfl, ⟨ns, i, c, s0, t, hb, hl, hi, hc, hs0, hs1⟩, hm, hm2, k⟩ := h
    refine ⟨_, pss_cons (ps_mid (ps_if (PW.pt (pw_and (pt_cmpR op_lt (pe_ix ix_list (pv 0) pe_int (fun _ _ => rfl)) pe_int (nomark _))
          (pw_and1 (pt_cmpR op_lt (pe_ix ix_list (pv 0) pe_int (fun _ _ => rfl)) (pe_callB call_len_seq (by rfl) ml PySem.boot_len (pa_cons (pe_ix ix_list (pv 0) pe_int (fun _ _ => rfl)) pa_nil)) (nomark _)))))
        (pss_cons (ps_set (i := 2) scDraw.nd rfl (Or.inl rfl) (pe_ix ix_list (pe_ix ix_list (pv 0) pe_int (fun _ _ => rfl)) (pe_ix ix_list (pv 0) pe_int (fun _ _ => rfl)) (fun _ _ => rfl)))
        (pss_cons (ps_asg (pe_op op_add (pe_ix ix_list (pv 0) pe_int (fun _ _ => rfl)) pe_int) (pg_sub (pv 0) pe_int set_list))
        (pss_cons (ps_asg (pe_callB (call_max2 rfl) (by rfl) mx (by decide +kernel) (pa_cons pe_int (pa_cons (pe_op op_sub (pv 2) (pe_op op_pow pe_int pe_int)) pa_nil))) (pg_sub (pv 0) pe_int set_list))
        (pss_one (ps_asg (pe_op op_mod (pe_op op_add (pe_op op_add (pe_op op_mul (pe_ix ix_list (pv 0) pe_int (fun _ _ => rfl)) pe_int) (pe_op op_mul (pe_op op_mod (pv 2) pe_int) pe_int)) pe_int) pe_int) (pg_sub (pv 0) pe_int set_list))))))
        pss_nil))
      (pss_cons (ps_if (pt_cmpR op_gt (pe_ix ix_list (pv 0) pe_int (fun _ _ => rfl)) pe_int (nomark _))
        (pss_cons (ps_set (i := 3) scDraw.nd rfl (Or.inl rfl) (pe_op op_mod (pe_ix ix_list (pv 0) pe_int (fun _ _ => rfl)) (pv 1)))
        (pss_cons (ps_asg (pe_op op_fdivW (pe_ix ix_list (pv 0) pe_int (fun _ _ => rfl)) (pv 1)) (pg_sub (pv 0) pe_int set_list))
        (pss_one (ps_ret (pv 3)))))
        pss_nil)
      (pss_cons (ps_asg (pe_op op_add (pe_ix ix_list (pv 0) pe_int (fun _ _ => rfl)) pe_int) (pg_sub (pv 0) pe_int set_list))
      (pss_cons (ps_asg (pe_op op_mod (pe_op op_add (pe_op op_add (pe_op op_pow (pe_ix ix_list (pv 0) pe_int (fun _ _ => rfl)) pe_int) (pe_op op_mul pe_int (pe_ix ix_list (pv 0) pe_int (fun _ _ => rfl)))) pe_int) pe_int) (pg_sub (pv 0) pe_int set_list))
      (pss_one (ps_ret (pe_op op_mod (pe_op op_fdiv (pe_ix ix_list (pv 0) pe_int (fun _ _ => rfl)) pe_int) (pv 1))))))), ?_⟩
    have nlb : l ≠ b := Box.ne hb hl
    have mk : ∀ (i c s0 t : Int), 0 ≤ i → 0 ≤ c → 0 ≤ s0 → s0 < 2147483629 → Box (upd H b (.lst (bxv l i c s0 t))) b l := fun i c s0 t h1 h2 h3 h4 =>
      ⟨ns, i, c, s0, t, upd_same, by rw [upd_ne nlb]; exact hl, h1, h2, h3, h4⟩
    refine ⟨fun σ H1 => ∃ (y : Option V) (i c s0 : Int), σ = [some (.ref b), some (.int m), y, none] ∧ H1 = upd H b (.lst (bxv l i c s0 t)) ∧ 0 ≤ i ∧ 0 ≤ c ∧ 0 ≤ s0 ∧ s0 < 2147483629, ?_, ?_⟩
    · refine ⟨_, rfl, b, _, _, _, rfl, rfl, SqL.of hb, rfl, _, _, rfl, rfl, _, rfl, ite2 (fun _ => ?_) (fun _ => ?_)⟩
      · refine ⟨_, rfl, b, _, _, _, rfl, rfl, SqL.of hb, rfl, _, rfl, b, _, _, _, rfl, rfl, SqL.of hb, rfl, l, _, rfl, .inl (SqL.of hl), _, _, rfl, rfl, _, rfl, ite2 (fun e => ?_) (fun _ => ?_)⟩
        · have e1 : i < ((ns.map V.int).length : Int) := of_decide_eq_true e
          rw [List.length_map] at e1
          have hx : atI (ns.map V.int) i = some (.int (ns.getD i.toNat 0)) := by
            have e2 : ((i.toNat : Nat) : Int) = i := Int.toNat_of_nonneg hi
            have e3 : i.toNat < ns.length := by omega
            have e4 : (ns.map V.int)[i.toNat]? = some (.int (ns.getD i.toNat 0)) := by
              rw [List.getElem?_map, List.getElem?_eq_getElem e3]
              simp [e3]
            have e5 := atI_nat e4
            rw [e2] at e5
            exact e5
          refine ⟨_, rfl, b, _, _, _, rfl, rfl, SqL.of hb, rfl, _, rfl, b, _, _, _, rfl, rfl, SqL.of hb, rfl, l, _, _, _, rfl, rfl, SqL.of hl, hx, ?_⟩
          refine ⟨_, rfl, b, _, _, _, rfl, rfl, SqL.of hb, rfl, _, _, rfl, rfl, _, rfl, b, _, _, _, rfl, rfl, hb, rfl, ?_⟩
          refine ⟨_, rfl, _, _, rfl, rfl, ⟨by decide, by decide, by decide⟩, _, _, rfl, rfl, _, _, rfl, _, rfl, b, _, _, _, rfl, rfl, upd_same, rfl, ?_⟩
          refine ⟨_, rfl, b, _, _, _, rfl, rfl, SqL.of upd_same, rfl, _, _, rfl, rfl, .inr ⟨by decide, by decide⟩, _, rfl, _, _, rfl, rfl, (by show (0 : Int) < 2147483629; decide), _, _, rfl, rfl, .inr ⟨by decide, by decide⟩, _, _, rfl, rfl, _, _, rfl, rfl, _, _, rfl, rfl, (by show (0 : Int) < 2147483629; decide), _, rfl, b, _, _, _, rfl, rfl, upd_same, rfl, ?_⟩
          refine ⟨_, _, _, _, rfl, by rw [upd_upd, upd_upd]; rfl, by omega, ?_, Int.emod_nonneg _ (by decide), Int.emod_lt_of_pos _ (by decide)⟩
          split <;> omega
        · exact ⟨none, i, c, s0, rfl, (upd_id hb).symm, hi, hc, hs0, hs1⟩
      · exact ⟨none, i, c, s0, rfl, (upd_id hb).symm, hi, hc, hs0, hs1⟩
    · rintro σ H1 ⟨y, i, c, s0, rfl, rfl, hi, hc, hs0, hs1⟩
      have hm3 : CDivW c m := wide_div hm hm2 (by decide) (by decide)
      refine ⟨_, rfl, b, _, _, _, rfl, rfl, SqL.of upd_same, rfl, _, _, rfl, rfl, _, rfl, ite2 (fun _ => ?_) (fun _ => ?_)⟩
      · refine ⟨_, rfl, b, _, _, _, rfl, rfl, SqL.of upd_same, rfl, _, rfl, _, _, rfl, rfl, hm, ?_⟩
        refine ⟨_, rfl, b, _, _, _, rfl, rfl, SqL.of upd_same, rfl, _, rfl, _, _, rfl, rfl, hm3, _, rfl, b, _, _, _, rfl, rfl, upd_same, rfl, ?_⟩
        refine ⟨_, rfl, ?_⟩
        rw [upd_upd]
        exact k _ _ (Int.emod_nonneg _ (by omega)) (Int.emod_lt_of_pos _ hm) Sav.upd (mk _ _ _ _ hi (Int.ediv_nonneg hc (by omega)) hs0 hs1)
      · refine ⟨_, rfl, b, _, _, _, rfl, rfl, SqL.of upd_same, rfl, _, _, rfl, rfl, _, rfl, b, _, _, _, rfl, rfl, upd_same, rfl, ?_⟩
        refine ⟨_, rfl, b, _, _, _, rfl, rfl, SqL.of upd_same, rfl, _, _, rfl, rfl, ⟨by decide, by decide, ?_⟩, _, rfl, b, _, _, _, rfl, rfl, SqL.of upd_same, rfl, _, _, rfl, rfl, .inl ⟨by decide, by decide⟩, _, _, rfl, rfl, _, _, rfl, rfl, _, _, rfl, rfl, (by show (0 : Int) < 2147483629; decide), _, rfl, b, _, _, _, rfl, rfl, upd_same, rfl, ?_⟩
        · omega
        · refine ⟨_, rfl, b, _, _, _, rfl, rfl, SqL.of upd_same, rfl, _, _, rfl, rfl, ⟨by decide, by decide⟩, _, rfl, _, _, rfl, rfl, hm, ?_⟩
          rw [upd_upd, upd_upd]
          exact k _ _ (Int.emod_nonneg _ (by omega)) (Int.emod_lt_of_pos _ hm) Sav.upd (mk _ _ _ _ hi hc (Int.emod_nonneg _ (by decide)) (Int.emod_lt_of_pos _ (by decide)))
theorem scBox : FnScope ["_law_script"] ["_law_script"] (defScope sBox) := ⟨rfl, rfl, rfl, by decide +kernel, rfl, by decide +kernel, by decide +kernel⟩
theorem ok_box {f : Addr} {fd : FuncData} (F : Fun K "_law_box" "_law_box" sBox f fd) (ml : mg "list" = none) : FnOk P w K mg base CX0 1 f fd ["_law_script"] (spBox K) := by
  refine F.ok scBox (fun vs H Q E h => ?_) (fun cdv A outer s H vs Q E hr h => ?_)
  · obtain ⟨a, ns, rfl, _⟩ := h
    rfl
  · obtain ⟨a, ns, rfl, hS, k⟩ := h
    refine ⟨_, pss_one (ps_ret (pe_lst (pa_cons (pe_callTy call_list_of (by rfl) ml (by decide +kernel) (pa_cons (pe_slice sl_list (pv 0) po_none (po_some pe_int)) pa_nil)) (pa_cons pe_int (pa_cons pe_int (pa_cons pe_int (pa_cons pe_int pa_nil))))))), ?_⟩
    obtain ⟨ms, em⟩ := cut_ints ns none (some 63)
    refine ⟨_, rfl, 63, rfl, a, _, rfl, hS, fun c nc => ?_⟩
    refine ⟨c, _, rfl, .inl (SqL.of upd_same), fun l nl => ?_⟩
    refine ⟨by show 5 ≤ sizeLine; decide, fun b nb => ?_⟩
    have nlb : l ≠ b := ne_of_none upd_same nb
    have s1 := same_new (o := .lst (cutV (ns.map V.int) none (some 63))) nc
    have s2 := same_new (o := .lst (cutV (ns.map V.int) none (some 63))) nl
    have s3 := same_new (o := .lst [V.ref l, .int 0, .int 0, .int 29, .int 0]) nb
    have s12 := s1.trans s2
    refine k _ b l (s12.trans s3) (s12.free nb) (s1.free nl) ⟨ms, 0, 0, 29, 0, upd_same, ?_, by decide, by decide, by decide, by decide⟩
    rw [upd_ne nlb, upd_same, em]
theorem scOf : FnScope ["_law_box_here", "_law_some"] ["_law_box_here", "_law_some"] (defScope sOf) := ⟨rfl, rfl, rfl, by decide +kernel, rfl, by decide +kernel, by decide +kernel⟩
theorem ok_of {f fD : Addr} {fd fdD : FuncData} (F : Fun K "_law_of" "_law_of" sOf f fd) (FD : Fun K "_law_draw" "_law_draw" sDraw fD fdD) (bD : Binds K fdD ["_law_box_here", "_law_many"] []) (gD : mg "_law_draw" = some (.ref fD)) (ml : mg "len" = none) (mx : mg "max" = none) :
    FnOk P w K mg base CX0 2 f fd ["_law_box_here", "_law_some"] spOf := by
  have GD : FnOk P w K mg base CX0 1 fD fdD ["_law_box_here", "_law_many"] spDraw := ok_draw FD ml mx
  refine F.ok scOf (fun vs H Q E h => ?_) (fun cdv A outer s H vs Q E hr h => ?_)
  · obtain ⟨b, l, v, rfl, _⟩ := h
    rfl
  · obtain ⟨b, l, v, rfl, hB, h⟩ := h
    refine ⟨_, pss_one (ps_ret (pe_ix ix_seq (pv 1) (pe_call GD hr (by rfl) gD FD.kp bD .nil pass0 (pa_cons (pv 0) (pa_cons (pe_callB call_len (by rfl) ml PySem.boot_len (pa_cons (pv 1) pa_nil)) pa_nil))) (fun _ _ => rfl))), ?_⟩
    rcases h with ⟨p, xs, rfl, npb, hp, h0, h1, k⟩ | ⟨z, rfl, h0, h1, k⟩
    · refine ⟨_, rfl, _, rfl, _, rfl, _, xs.length, rfl, .inl ⟨xs, SqL.of hp, rfl⟩, b, l, _, rfl, hB, by omega, small h1, fun r H' hr0 hr1 sv hB' => ?_⟩
      obtain ⟨x, hx, ha⟩ := at_some hr0 hr1
      exact .inl ⟨p, xs, r, x, rfl, rfl, SqL.of (sv _ _ npb hp), ha, k x H' hx sv hB'⟩
    · refine ⟨_, rfl, _, rfl, _, rfl, _, z.length, rfl, ⟨Nat.le_of_lt (small1000 h1), rfl⟩, b, l, _, rfl, hB, by omega, small h1, fun r H' hr0 hr1 sv hB' => ?_⟩
      have el : z.cps.toList.length = z.length := by simp [Str.length]
      obtain ⟨c, hc, ha⟩ := at_some (xs := z.cps.toList) hr0 (by rw [el]; exact hr1)
      exact .inr (.inr ⟨z, r, c, rfl, rfl, Nat.le_of_lt (small1000 h1), ha, k c H' hc sv hB'⟩)
end
end Dk
namespace Dk
open PySem L2
section
variable {P : Program} {w : World} {K : PySem.W.Frag} {mg : Str → Option Value} {base : Heap}
theorem scLike : FnScope ["_law_found", "_law_due", "_law_one", "_law_other"] ["_law_found", "_law_due"] (defScope sLike) := ⟨rfl, rfl, rfl, by decide +kernel, rfl, by decide +kernel, by decide +kernel⟩
structure LikeT (mg : Str → Option Value) (f : Addr) : Prop where
  isi : mg "isinstance" = none
  list : mg "list" = none
  tuple : mg "tuple" = none
  len : mg "len" = none
  all : mg "all" = none
  zip : mg "zip" = none
  bool : mg "bool" = none
  int : mg "int" = none
  str : mg "str" = none
  me : mg "_law_like" = some (.ref f)
theorem ok_like {f : Addr} {fd : FuncData} (F : Fun K "_law_like" "_law_like" sLike f fd) (bF : Binds K fd ["_law_found", "_law_due"] []) (T : LikeT mg f) : ∀ n : Nat, FnOk P w K mg base CX0 n f fd ["_law_found", "_law_due"] (spLike n)
  | 0 => ⟨fun vs H Q E h => by obtain ⟨v, u, _, z, _⟩ := h; exact z.elim, fun A outer s H args us vs Q E _ _ _ _ h => by obtain ⟨v, u, _, z, _⟩ := h; exact z.elim⟩
  | n + 1 => by
    have G := ok_like F bF T n
    refine F.ok scLike (fun vs H Q E h => ?_) (fun cdv A outer s H vs Q E hr h => ?_)
    · obtain ⟨v, u, rfl, _⟩ := h
      rfl
    · obtain ⟨v, u, rfl, hL, k⟩ := h
      refine ⟨_, pss_cons (ps_if (pt_val (pe_callB call_isiT (by rfl) T.isi (by decide +kernel) (pa_cons (pv 1) (pa_cons (pe_tup (pa_cons (pe_bltn (v := .ty "list") (by rfl) T.list (by decide +kernel) rfl) (pa_cons (pe_bltn (v := .ty "tuple") (by rfl) T.tuple (by decide +kernel) rfl) pa_nil))) pa_nil))))
          (pss_cons (ps_if (PW.pt (pw_or (pt_cmpR op_ne (pe_callB call_isi (by rfl) T.isi (by decide +kernel) (pa_cons (pv 0) (pa_cons (pe_bltn (v := .ty "list") (by rfl) T.list (by decide +kernel) rfl) pa_nil))) (pe_callB call_isi (by rfl) T.isi (by decide +kernel) (pa_cons (pv 1) (pa_cons (pe_bltn (v := .ty "list") (by rfl) T.list (by decide +kernel) rfl) pa_nil))) (nomark _))
              (pw_or1 (pt_cmpR op_ne (pe_callB call_isi (by rfl) T.isi (by decide +kernel) (pa_cons (pv 0) (pa_cons (pe_bltn (v := .ty "tuple") (by rfl) T.tuple (by decide +kernel) rfl) pa_nil))) (pe_callB call_isi (by rfl) T.isi (by decide +kernel) (pa_cons (pv 1) (pa_cons (pe_bltn (v := .ty "tuple") (by rfl) T.tuple (by decide +kernel) rfl) pa_nil))) (nomark _)))))
            (pss_one (ps_ret pe_bl)) pss_nil)
          (pss_one (ps_ret (pe_and (pe_cmpR op_eq (pe_callB call_len_seq (by rfl) T.len PySem.boot_len (pa_cons (pv 0) pa_nil)) (pe_callB call_len_seq (by rfl) T.len PySem.boot_len (pa_cons (pv 1) pa_nil)) (nomark _))
            (pe_one (pe_callB (cr_all rfl) (by rfl) T.all (by decide +kernel) (pa_cons (pe_lc (own := [("_law_one", 2), ("_law_other", 3)]) (g := gTup K 2 (gCons (gName 2) (gCons (gName 3) gNil))) (tt := tYes) rfl scLike.nd (RZ.pi_zipA (by rfl) T.zip (pa_cons (pv 0) (pa_cons (pv 1) pa_nil)))
              (blkOk_by (N := ["_law_found", "_law_due", "_law_one", "_law_other"]) (sc := defScope sLike) (by decide +kernel))
              (fun _ _ _ _ _ => pg_tup rfl (pgs_cons (pg_name (i := 2) scLike.nd rfl (Or.inl rfl)) (pgs_cons (pg_name (i := 3) scLike.nd rfl (Or.inl rfl)) pgs_nil))) (fun _ _ _ _ _ => pts_nil)
              (fun _ _ _ _ _ => pe_call G hr (by rfl) T.me F.kp bF .nil pass0 (pa_cons (pv 2) (pa_cons (pv 3) pa_nil)))) pa_nil)))))))
          pss_nil)
        (pss_cons (ps_if (PW.pt (pw_or (pt_cmpR op_isN (pv 0) pe_non (nomark _)) (pw_or1 (pt_cmpR op_isN (pv 1) pe_non (nomark _)))))
          (pss_one (ps_ret (pe_and (pe_cmpR op_isN (pv 0) pe_non (nomark _)) (pe_one (pe_cmpR op_isN (pv 1) pe_non (nomark _)))))) pss_nil)
        (pss_cons (ps_if (PW.pt (pw_or (pt_cmpR op_ne (pe_callB call_isi (by rfl) T.isi (by decide +kernel) (pa_cons (pv 0) (pa_cons (pe_bltn (v := .ty "bool") (by rfl) T.bool (by decide +kernel) rfl) pa_nil))) (pe_callB call_isi (by rfl) T.isi (by decide +kernel) (pa_cons (pv 1) (pa_cons (pe_bltn (v := .ty "bool") (by rfl) T.bool (by decide +kernel) rfl) pa_nil))) (nomark _))
              (pw_or1 (pt_cmpR op_ne (pe_callB call_isi (by rfl) T.isi (by decide +kernel) (pa_cons (pv 0) (pa_cons (pe_bltn (v := .ty "int") (by rfl) T.int (by decide +kernel) rfl) pa_nil))) (pe_callB call_isi (by rfl) T.isi (by decide +kernel) (pa_cons (pv 1) (pa_cons (pe_bltn (v := .ty "int") (by rfl) T.int (by decide +kernel) rfl) pa_nil))) (nomark _)))))
          (pss_one (ps_ret pe_bl)) pss_nil)
        (pss_one (ps_ret (pe_and (pe_cmpR op_eq (pe_callB call_isi (by rfl) T.isi (by decide +kernel) (pa_cons (pv 0) (pa_cons (pe_bltn (v := .ty "str") (by rfl) T.str (by decide +kernel) rfl) pa_nil))) (pe_callB call_isi (by rfl) T.isi (by decide +kernel) (pa_cons (pv 1) (pa_cons (pe_bltn (v := .ty "str") (by rfl) T.str (by decide +kernel) rfl) pa_nil))) (nomark _))
          (pe_one (pe_cmpR op_eq (pv 0) (pv 1) (nomark _)))))))), ?_⟩
      have kit2 : ∀ (s : String) (r : Bool), kitB s "list" = some r → kitB s "tuple" = some (!r) → PySem.W.kitAny K (.type s) [.type "list", .type "tuple"] = some true := fun s r h1 h2 =>
        kitAny_cons (kit_ty h1) (fun e => kitAny_cons (kit_ty h2) (fun e2 => by rw [e] at e2; cases e2) (fun _ => rfl)) (fun _ => rfl)
      have kit0 : ∀ (s : String), kitB s "list" = some false → kitB s "tuple" = some false → PySem.W.kitAny K (.type s) [.type "list", .type "tuple"] = some false := fun s h1 h2 =>
        kitAny_cons (kit_ty h1) (fun _ => kitAny_cons (kit_ty h2) (fun _ => kitAny_nil) (fun e => by cases e)) (fun e => by cases e)
      rcases hL with ⟨rfl, fl⟩ | ⟨a, b, xs, ys, rfl, rfl, el, e1000, hab, hi⟩
      · -- plain values
        have ty : ∃ s : String, (∀ H : Hp, TyX K H v (.type s)) ∧ (s = "NoneType" ∧ v = .non ∨ v ≠ .non ∧ (s = "bool" ∨ s = "int" ∨ s = "str")) ∧ scal v v = true := by
          cases v with
          | non => exact ⟨"NoneType", fun _ => .base .non, .inl ⟨rfl, rfl⟩, rfl⟩
          | bl x => exact ⟨"bool", fun _ => .base (.bl x), .inr ⟨(fun z => nomatch z), .inl rfl⟩, rfl⟩
          | int x => exact ⟨"int", fun _ => .base (.int x), .inr ⟨(fun z => nomatch z), .inr (.inl rfl)⟩, rfl⟩
          | str x => exact ⟨"str", fun _ => .base (.str x), .inr ⟨(fun z => nomatch z), .inr (.inr rfl)⟩, rfl⟩
          | _ => cases fl
        obtain ⟨s, ts, hs, hsc⟩ := ty
        have kL : kitB s "list" = some false := by
          rcases hs with ⟨rfl, _⟩ | ⟨_, rfl | rfl | rfl⟩ <;> decide +kernel
        have kT : kitB s "tuple" = some false := by
          rcases hs with ⟨rfl, _⟩ | ⟨_, rfl | rfl | rfl⟩ <;> decide +kernel
        refine ⟨_, rfl, by show 2 ≤ sizeLine; decide, fun tp ntp => ?_⟩
        have sm := same_new (o := .tup [V.ty "list", V.ty "tuple"]) ntp
        refine ⟨v, tp, _, _, [.type "list", .type "tuple"], false, rfl, upd_same, .cons (.ty _) (.cons (.ty _) .nil), ts _, kit0 s kL kT, false, rfl, iteF ?_⟩
        refine ⟨_, rfl, rfl, _, rfl, ite2 (fun e => ?_) (fun e => ?_)⟩
        · have ev : v = .non := of_decide_eq_true e
          refine iteT ?_
          refine ⟨_, rfl, rfl, _, rfl, ?_⟩
          rw [decide_eq_true ev]
          refine iteT ⟨_, rfl, rfl, ?_⟩
          rw [decide_eq_true ev]
          exact k _ sm
        · have ev : ¬ v = .non := fun z => e (decide_eq_true z)
          have kBI : ∃ r q p, kitB s "bool" = some r ∧ kitB s "int" = some q ∧ kitB s "str" = some p := by
            rcases hs with ⟨_, z⟩ | ⟨_, rfl | rfl | rfl⟩
            · exact absurd z ev
            · exact ⟨true, true, false, by decide +kernel, by decide +kernel, by decide +kernel⟩
            · exact ⟨false, true, false, by decide +kernel, by decide +kernel, by decide +kernel⟩
            · exact ⟨false, false, true, by decide +kernel, by decide +kernel, by decide +kernel⟩
          obtain ⟨r, q, p, kb, ki, ks⟩ := kBI
          refine ⟨_, rfl, rfl, _, rfl, ite2 (fun z => absurd (of_decide_eq_true z) ev) (fun _ => ?_)⟩
          refine ⟨_, rfl, v, _, _, _, r, rfl, .ty _, ts _, kit_ty kb, _, rfl, v, _, _, _, r, rfl, .ty _, ts _, kit_ty kb, rfl, _, rfl, ?_⟩
          rw [decide_eq_true (show V.bl r = V.bl r from rfl)]
          refine iteF ?_
          refine ⟨_, rfl, v, _, _, _, q, rfl, .ty _, ts _, kit_ty ki, _, rfl, v, _, _, _, q, rfl, .ty _, ts _, kit_ty ki, rfl, _, rfl, ?_⟩
          rw [decide_eq_true (show V.bl q = V.bl q from rfl)]
          refine iteF ?_
          refine ⟨_, rfl, v, _, _, _, p, rfl, .ty _, ts _, kit_ty ks, _, rfl, v, _, _, _, p, rfl, .ty _, ts _, kit_ty ks, rfl, _, rfl, ?_⟩
          rw [decide_eq_true (show V.bl p = V.bl p from rfl)]
          refine iteT ⟨_, rfl, _, rfl, hsc, ?_⟩
          rw [decide_eq_true (show v = v from rfl)]
          exact k _ sm
      · -- a list or a tuple
        have both : ∃ (s : String) (r : Bool), (s = "list" ∧ r = true ∨ s = "tuple" ∧ r = false) ∧ (∀ H' : Hp, Same H H' → TyX K H' (.ref a) (.type s) ∧ TyX K H' (.ref b) (.type s)) ∧
            (∀ H' : Hp, Same H H' → (SqL K H' a xs ∨ SqT K H' a xs) ∧ (SqL K H' b ys ∨ SqT K H' b ys)) := by
          rcases hab with ⟨ha, hb⟩ | ⟨ha, hb⟩
          · exact ⟨"list", true, .inl ⟨rfl, rfl⟩, fun H' sm => ⟨.base (.lst (sm _ _ ha)), .base (.lst (sm _ _ hb))⟩, fun H' sm => ⟨.inl (SqL.of (sm _ _ ha)), .inl (SqL.of (sm _ _ hb))⟩⟩
          · exact ⟨"tuple", false, .inr ⟨rfl, rfl⟩, fun H' sm => ⟨.base (.tup (sm _ _ ha)), .base (.tup (sm _ _ hb))⟩, fun H' sm => ⟨.inr (SqT.of (sm _ _ ha)), .inr (SqT.of (sm _ _ hb))⟩⟩
        obtain ⟨s, r, hsr, ts, sq⟩ := both
        have kL : kitB s "list" = some r := by
          rcases hsr with ⟨rfl, rfl⟩ | ⟨rfl, rfl⟩ <;> decide +kernel
        have kT : kitB s "tuple" = some (!r) := by
          rcases hsr with ⟨rfl, rfl⟩ | ⟨rfl, rfl⟩ <;> decide +kernel
        refine ⟨_, rfl, by show 2 ≤ sizeLine; decide, fun tp ntp => ?_⟩
        have sm := same_new (o := .tup [V.ty "list", V.ty "tuple"]) ntp
        refine ⟨.ref b, tp, _, _, [.type "list", .type "tuple"], true, rfl, upd_same, .cons (.ty _) (.cons (.ty _) .nil), (ts _ sm).2, kit2 s r kL kT, true, rfl, iteT ?_⟩
        refine ⟨_, rfl, _, _, _, _, r, rfl, .ty _, (ts _ sm).1, kit_ty kL, _, rfl, _, _, _, _, r, rfl, .ty _, (ts _ sm).2, kit_ty kL, rfl, _, rfl, ?_⟩
        rw [decide_eq_true (show V.bl r = V.bl r from rfl)]
        refine iteF ?_
        refine ⟨_, rfl, _, _, _, _, (!r), rfl, .ty _, (ts _ sm).1, kit_ty kT, _, rfl, _, _, _, _, (!r), rfl, .ty _, (ts _ sm).2, kit_ty kT, rfl, _, rfl, ?_⟩
        rw [decide_eq_true (show V.bl (!r) = V.bl (!r) from rfl)]
        refine iteF ?_
        refine ⟨_, rfl, a, xs, rfl, (sq _ sm).1, _, rfl, b, ys, rfl, (sq _ sm).2, rfl, _, rfl, ?_⟩
        rw [decide_eq_true (show V.int (xs.length : Nat) = V.int (ys.length : Nat) by rw [el])]
        refine iteT ?_
        -- the comprehension
        refine ⟨_, rfl, _, rfl, a, b, xs, ys, rfl, ?_⟩
        rcases hab with ⟨ha, hb⟩ | ⟨ha, hb⟩
        · refine .inl ⟨SqL.of (sm _ _ ha), SqL.of (sm _ _ hb), fun D nD => lc_it (walk_zip (n := xs.length) (xs := xs) (ys := ys) (by rw [← el, Nat.min_self])) (fun i H' => Same (upd H tp (.tup [V.ty "list", V.ty "tuple"])) H' ∧ H' D = some (.lst ((List.replicate i true).map V.bl))) ?_ ?_ ?_ ?_⟩
          · exact ⟨same_new nD, upd_same⟩
          · exact fun i H' _ h => ⟨SqL.of (h.1 _ _ (sm _ _ ha)), SqL.of (h.1 _ _ (sm _ _ hb))⟩
          · rintro i x H1 H2 hin ⟨s1, hD⟩ ⟨tq, x1, y1, rfl, ntq, rfl, f1, f2⟩
            have s2 := same_new (o := .tup [x1, y1]) ntq
            refine ⟨tq, [x1, y1], rfl, SqT.of upd_same, rfl, x1, [y1], rfl, y1, [], rfl, rfl, rfl, ?_⟩
            refine ⟨x1, rfl, y1, rfl, x1, y1, rfl, (hi i x1 y1 f1 f2).same (sm.trans (s1.trans s2)), fun H3 s3 => ?_⟩
            have hD3 : H3 D = some (.lst ((List.replicate i true).map V.bl)) := s3 _ _ (s2 _ _ hD)
            refine ⟨_, hD3, ?_, fun q o hq => ?_, ?_⟩
            · rw [List.length_map, List.length_replicate]
              exact small1000 (by omega)
            · have nq : q ≠ D := fun z => by
                rw [z, nD] at hq
                cases hq
              rw [upd_ne nq]
              exact s3 _ _ (s2 _ _ (s1 _ _ hq))
            · rw [upd_same, List.replicate_succ', List.map_append]
              rfl
          · rintro H1 ⟨s1, hD⟩
            refine ⟨D, _, rfl, SqL.of hD, ?_⟩
            rw [all_true]
            exact k _ (sm.trans s1)
        · refine .inr ⟨SqT.of (sm _ _ ha), SqT.of (sm _ _ hb), fun D nD => lc_it (walk_zipT (n := xs.length) (xs := xs) (ys := ys) (by rw [← el, Nat.min_self])) (fun i H' => Same (upd H tp (.tup [V.ty "list", V.ty "tuple"])) H' ∧ H' D = some (.lst ((List.replicate i true).map V.bl))) ?_ ?_ ?_ ?_⟩
          · exact ⟨same_new nD, upd_same⟩
          · exact fun i H' _ h => ⟨SqT.of (h.1 _ _ (sm _ _ ha)), SqT.of (h.1 _ _ (sm _ _ hb))⟩
          · rintro i x H1 H2 hin ⟨s1, hD⟩ ⟨tq, x1, y1, rfl, ntq, rfl, f1, f2⟩
            have s2 := same_new (o := .tup [x1, y1]) ntq
            refine ⟨tq, [x1, y1], rfl, SqT.of upd_same, rfl, x1, [y1], rfl, y1, [], rfl, rfl, rfl, ?_⟩
            refine ⟨x1, rfl, y1, rfl, x1, y1, rfl, (hi i x1 y1 f1 f2).same (sm.trans (s1.trans s2)), fun H3 s3 => ?_⟩
            have hD3 : H3 D = some (.lst ((List.replicate i true).map V.bl)) := s3 _ _ (s2 _ _ hD)
            refine ⟨_, hD3, ?_, fun q o hq => ?_, ?_⟩
            · rw [List.length_map, List.length_replicate]
              exact small1000 (by omega)
            · have nq : q ≠ D := fun z => by
                rw [z, nD] at hq
                cases hq
              rw [upd_ne nq]
              exact s3 _ _ (s2 _ _ (s1 _ _ hq))
            · rw [upd_same, List.replicate_succ', List.map_append]
              rfl
          · rintro H1 ⟨s1, hD⟩
            refine ⟨D, _, rfl, SqL.of hD, ?_⟩
            rw [all_true]
            exact k _ (sm.trans s1)
end
end Dk
namespace Dk
open PySem L2
section
variable {P : Program} {w : World} {K : PySem.W.Frag} {mg : Str → Option Value} {base : Heap}
theorem scDas : FnScope ["one", "other", "rest", "behind", "share", "share_behind", "times"] ["one", "other"] (defScope sDas) := ⟨rfl, rfl, rfl, by decide +kernel, rfl, by decide +kernel, by decide +kernel⟩
theorem ok_das {f : Addr} {fd : FuncData} (F : Fun K "divisor_and_share" "divisor_and_share" sDas f fd) : FnOk P w K mg base CX0 1 f fd ["one", "other"] spDas := by
  refine F.ok scDas (fun vs H Q E h => ?_) (fun cdv A outer s H vs Q E hr h => ?_)
  · obtain ⟨x, y, rfl, _⟩ := h
    rfl
  · obtain ⟨x, y, rfl, hx0, hx, hy, k⟩ := h
    refine ⟨_, pss_cons (ps_par (i := 2) (j := 3) (by rfl) scDas.nd rfl rfl (by decide) rfl rfl (pa_cons (pv 0) (pa_cons (pv 1) pa_nil)) (by rfl))
      (pss_cons (ps_asg (pe_tup (pa_cons pe_int (pa_cons pe_int pa_nil))) (pg_tup rfl (pgs_cons (pg_name (i := 4) scDas.nd rfl (Or.inl rfl)) (pgs_cons (pg_name (i := 5) scDas.nd rfl (Or.inl rfl)) pgs_nil))))
      (pss_cons (ps_while PassesOwn.never (pt_cmpR op_gt (pv 3) pe_int (nomark _))
      (pss_cons (ps_set (i := 6) scDas.nd rfl (Or.inl rfl) (pe_op op_fdivW (pv 2) (pv 3)))
      (pss_cons (ps_par (i := 2) (j := 3) (by rfl) scDas.nd rfl rfl (by decide) rfl rfl (pa_cons (pv 3) (pa_cons (pe_op op_sub (pv 2) (pe_op op_mul (pv 6) (pv 3))) pa_nil)) (by rfl))
      (pss_one (ps_par (i := 4) (j := 5) (by rfl) scDas.nd rfl rfl (by decide) rfl rfl (pa_cons (pv 5) (pa_cons (pe_op op_sub (pv 4) (pe_op op_mul (pv 6) (pv 5))) pa_nil)) (by rfl))))))
      (pss_one (ps_ret (pe_tup (pa_cons (pv 2) (pa_cons (pv 4) pa_nil))))))), ?_⟩
    refine ⟨_, rfl, _, rfl, _, _, rfl, by show 2 ≤ sizeLine; decide, fun t0 nt0 => ?_⟩
    refine ⟨t0, _, rfl, SqT.of upd_same, rfl, _, _, rfl, _, _, rfl, rfl, ?_⟩
    refine while_by (fun σ H' => ∃ (r b : Nat) (c d p q : Int) (y6 : Option V), σ = [some (.int (x : Int)), some (.int (y : Int)), some (.int (r : Int)), some (.int (b : Int)), some (.int c), some (.int d), y6] ∧ Same H H' ∧ 0 < r ∧ r < 2 ^ 64 ∧ b < 2 ^ 64 ∧ Nat.gcd r b = Nat.gcd x y ∧ c * x = r + p * y ∧ d * x = b + q * y)
      (fun σ _ => match σ with | [_, _, _, some (.int b), _, _, _] => b.toNat | _ => 0) ⟨x, y, 1, 0, 0, -1, _, rfl, same_new nt0, hx0, hx, hy, rfl, by omega, by omega⟩ ?_ (mono_test (mono_var 3) (mono_const _) ?_)
    · rintro σ H' ⟨r, b, c, d, p, q, y6, rfl, sm, hr0, hr1, hb1, hg, e1, e2⟩
      refine ⟨_, rfl, _, _, rfl, rfl, _, rfl, ite2 (fun e => ?_) (fun e => ?_)⟩
      · have hb0 : (0 : Int) < (b : Int) := of_decide_eq_true e
        have hd : CDivW (r : Int) (b : Int) := wide_div (b := 64) hb0 hb1 (by decide) (by decide)
        refine ⟨_, rfl, _, rfl, _, _, rfl, rfl, hd, ?_⟩
        have hq0 : (0 : Int) ≤ (r : Int) / (b : Int) := Int.ediv_nonneg (by omega) (by omega)
        have hq1 : (r : Int) / (b : Int) ≤ r := Int.ediv_le_self _ (by omega)
        have hmod := Int.emod_add_mul_ediv (r : Int) (b : Int)
        have hrb : ((r % b : Nat) : Int) = (r : Int) - (r : Int) / (b : Int) * (b : Int) := by
          rw [Int.natCast_emod, Int.mul_comm]
          omega
        have hml := Nat.mod_lt r (show 0 < b by omega)
        refine ⟨_, rfl, _, rfl, _, rfl, _, rfl, _, _, rfl, rfl, .inl ⟨by omega, by omega⟩, _, _, rfl, rfl, _, _, rfl, ?_⟩
        refine ⟨_, rfl, _, rfl, _, rfl, _, rfl, _, _, rfl, rfl, .inl ⟨by omega, by omega⟩, _, _, rfl, rfl, _, _, rfl, ?_⟩
        refine ⟨⟨b, r % b, d, c - (r : Int) / (b : Int) * d, q, p - (r : Int) / (b : Int) * q, some (.int ((r : Int) / (b : Int))), by rw [hrb]; rfl, sm, by omega, hb1, by omega, ?_, e2, ?_⟩, ?_⟩
        · rw [← hg, Nat.gcd_comm r b, Nat.gcd_rec b r, Nat.gcd_comm]
        · rw [Int.sub_mul, Int.sub_mul, Int.mul_assoc, Int.mul_assoc, e1, e2, hrb, Int.mul_add]
          omega
        · show ((r : Int) - (r : Int) / (b : Int) * (b : Int)).toNat < ((b : Nat) : Int).toNat
          rw [← hrb]
          omega
      · have hb0 : ¬ (0 : Int) < (b : Int) := fun z => e (decide_eq_true z)
        have eb : b = 0 := by omega
        subst eb
        rw [Nat.gcd_zero_right] at hg
        subst hg
        refine ⟨_, rfl, _, rfl, by show 2 ≤ sizeLine; decide, fun t nt => ?_⟩
        exact k _ t c p (sm.trans (same_new nt)) (sm.free nt) upd_same e1
    · rintro a b H' Q1 Q2 h ⟨i, j, e1, e2, q⟩
      exact ⟨i, j, e1, e2, h _ _ q⟩
theorem scWheel : FnScope ["sizes", "wheel", "size"] ["sizes"] (defScope sWheel) := ⟨rfl, rfl, rfl, by decide +kernel, rfl, by decide +kernel, by decide +kernel⟩
theorem ok_wheel {f fS : Addr} {fd fdS : FuncData} (F : Fun K "wheel_of" "wheel_of" sWheel f fd) (FS : Fun K "divisor_and_share" "divisor_and_share" sDas fS fdS) (bS : Binds K fdS ["one", "other"] []) (gS : mg "divisor_and_share" = some (.ref fS)) : FnOk P w K mg base CX0 2 f fd ["sizes"] (spWheel K) := by
  have GS : FnOk P w K mg base CX0 1 fS fdS ["one", "other"] spDas := ok_das FS
  refine F.ok scWheel (fun vs H Q E h => ?_) (fun cdv A outer s H vs Q E hr h => ?_)
  · obtain ⟨p, ns, rfl, _⟩ := h
    rfl
  · obtain ⟨p, ns, rfl, hS, hn, hl, k⟩ := h
    refine ⟨_, pss_cons (ps_set (i := 1) scWheel.nd rfl (Or.inl rfl) pe_int)
      (pss_cons (ps_for PassesOwn.never rfl (pi_any (pi_list (pv 0)) (pi_tup (pv 0))) (pg_name (i := 2) scWheel.nd rfl (Or.inl rfl))
      (pss_one (ps_set (i := 1) scWheel.nd rfl (Or.inl rfl) (pe_op op_mul (pe_op op_fdivW (pv 1) (pe_ix ix_tup (pe_call GS hr (by rfl) gS FS.kp bS .nil pass0 (pa_cons (pv 1) (pa_cons (pv 2) pa_nil))) pe_int (fun _ _ => rfl))) (pv 2)))))
      (pss_one (ps_ret (pv 1)))), ?_⟩
    have turn : ∀ (D : Ends) (i : Nat) (x : V) (σ : L2.St) (H' : Hp), D.nx = (fun σ H' => ∃ y2 : Option V, σ = [some (.ref p), some (.int (lcmL (ns.take (i + 1)) : Nat)), y2] ∧ Same H H') → (ns.map natV)[i]? = some x → (∃ y2 : Option V, σ = [some (.ref p), some (.int (lcmL (ns.take i) : Nat)), y2] ∧ Same H H') →
        gName 2 x σ H' fun σ2 H2 => (tAsg (tOp (rI CMul fun i j => .int (i * j)) (tOp (rI CDivW fun i j => .int (i / j)) (tVar 1) (tOp (rIxT K) (tCall spDas [] E0 (tCons (tVar 1) (tCons (tVar 2) tNil))) (tC (.int 0)))) (tVar 2)) (gName 1)) D σ2 H2 := by
      rintro D i x σ H' hD hx ⟨y2, rfl, s1⟩
      rw [List.getElem?_map] at hx
      obtain ⟨n, en, rfl⟩ : ∃ n, ns[i]? = some n ∧ x = natV n := by
        cases e : ns[i]? with
        | none =>
          rw [e] at hx
          cases hx
        | some n =>
          rw [e] at hx
          exact ⟨n, rfl, (Option.some.inj hx).symm⟩
      obtain ⟨hn0, hn1⟩ := hn n (List.mem_of_getElem? en)
      have hw := hl i
      have hw0 : 0 < lcmL (ns.take i) := foldl_pos _ (by decide) fun m hm => (hn m (List.mem_of_mem_take hm)).1
      generalize ew : lcmL (ns.take i) = w at *
      refine ⟨_, rfl, _, rfl, _, rfl, w, n, rfl, hw0, hw, hn1, fun H2 t c q s2 nt ht _ => ?_⟩
      have hgp : 0 < Nat.gcd w n := Nat.gcd_pos_of_pos_left n hw0
      have hgl : Nat.gcd w n ≤ w := Nat.le_of_dvd hw0 (Nat.gcd_dvd_left w n)
      have hd : CDivW (w : Int) (Nat.gcd w n : Nat) := wide_div (b := 64) (by omega) (by show ((Nat.gcd w n : Nat) : Int).natAbs < 2 ^ 64; omega) (by decide) (by decide)
      refine ⟨t, _, 0, _, rfl, rfl, SqT.of ht, atI_nat (j := 0) rfl, _, _, rfl, rfl, hd, _, rfl, _, _, rfl, rfl, .inr ⟨by omega, by omega⟩, ?_⟩
      show D.nx _ H2
      rw [hD]
      refine ⟨some (natV n), ?_, s1.trans s2⟩
      have e2 : ((w : Int) / (Nat.gcd w n : Nat)) * (n : Int) = ((lcmL (ns.take (i + 1)) : Nat) : Int) := by
        rw [lcmL_take en, ew, ← lcm_eq, Int.natCast_mul, Int.natCast_ediv]
      rw [← e2]
      rfl
    rcases hS with hS | hS
    · refine .inl ⟨_, rfl, p, rfl, ⟨_, hS⟩, for_list (K := K) (a := p) (xs := ns.map natV) (fun i σ H' => ∃ y2 : Option V, σ = [some (.ref p), some (.int (lcmL (ns.take i) : Nat)), y2] ∧ Same H H') ⟨_, rfl, Same.refl H⟩ (fun i σ H' _ h => by obtain ⟨_, _, s1⟩ := h; exact s1.seq hS) (fun i x σ H' hx h => turn _ i x σ H' rfl hx h) ?_⟩
      rintro σ H' ⟨y2, rfl, s1⟩
      rw [List.length_map, List.take_length]
      exact ⟨_, rfl, k H' s1⟩
    · refine .inr ⟨_, rfl, p, rfl, ⟨_, hS⟩, for_tup (K := K) (a := p) (xs := ns.map natV) (fun i σ H' => ∃ y2 : Option V, σ = [some (.ref p), some (.int (lcmL (ns.take i) : Nat)), y2] ∧ Same H H') ⟨_, rfl, Same.refl H⟩ (fun i σ H' _ h => by obtain ⟨_, _, s1⟩ := h; exact Same.tup s1 hS) (fun i x σ H' hx h => turn _ i x σ H' rfl hx h) ?_⟩
      rintro σ H' ⟨y2, rfl, s1⟩
      rw [List.length_map, List.take_length]
      exact ⟨_, rfl, k H' s1⟩
end
end Dk
namespace Dk
open PySem L2
section
variable {P : Program} {w : World} {K : PySem.W.Frag} {mg : Str → Option Value} {base : Heap}
theorem scMet : FnScope ["one", "other", "rest", "size", "other_rest", "other_size", "divisor", "share", "apart", "turns", "times"] ["one", "other"] (defScope sMet) := ⟨rfl, rfl, rfl, by decide +kernel, rfl, by decide +kernel, by decide +kernel⟩
theorem ok_met {f fS : Addr} {fd fdS : FuncData} (F : Fun K "met" "met" sMet f fd) (FS : Fun K "divisor_and_share" "divisor_and_share" sDas fS fdS) (bS : Binds K fdS ["one", "other"] []) (gS : mg "divisor_and_share" = some (.ref fS)) : FnOk P w K mg base CX0 2 f fd ["one", "other"] (spMet K) := by
  have GS : FnOk P w K mg base CX0 1 fS fdS ["one", "other"] spDas := ok_das FS
  refine F.ok scMet (fun vs H Q E h => ?_) (fun cdv A outer s H vs Q E hr h => ?_)
  · obtain ⟨p, q, a, b, r, s, rfl, _⟩ := h
    rfl
  · obtain ⟨p, q, a, b, r, u, rfl, hp, hq, ha0, ha1, hb0, hb1, hr0, hr1, hu0, hu1, k⟩ := h
    refine ⟨_, pss_cons (ps_asg (pv 0) (pg_tup rfl (pgs_cons (pg_name (i := 2) scMet.nd rfl (Or.inl rfl)) (pgs_cons (pg_name (i := 3) scMet.nd rfl (Or.inl rfl)) pgs_nil))))
      (pss_cons (ps_asg (pv 1) (pg_tup rfl (pgs_cons (pg_name (i := 4) scMet.nd rfl (Or.inl rfl)) (pgs_cons (pg_name (i := 5) scMet.nd rfl (Or.inl rfl)) pgs_nil))))
      (pss_cons (ps_asg (pe_call GS hr (by rfl) gS FS.kp bS .nil pass0 (pa_cons (pv 3) (pa_cons (pv 5) pa_nil))) (pg_tup rfl (pgs_cons (pg_name (i := 6) scMet.nd rfl (Or.inl rfl)) (pgs_cons (pg_name (i := 7) scMet.nd rfl (Or.inl rfl)) pgs_nil))))
      (pss_cons (ps_set (i := 8) scMet.nd rfl (Or.inl rfl) (pe_op op_sub (pv 4) (pv 2)))
      (pss_cons (ps_if (pt_cmpR op_ne (pe_op op_mod (pv 8) (pv 6)) pe_int (nomark _)) (pss_one (ps_ret pe_non)) pss_nil)
      (pss_cons (ps_set (i := 9) scMet.nd rfl (Or.inl rfl) (pe_op op_fdivW (pv 5) (pv 6)))
      (pss_cons (ps_set (i := 10) scMet.nd rfl (Or.inl rfl) (pe_op op_mod (pe_op op_mul (pe_op op_fdivW (pv 8) (pv 6)) (pv 7)) (pv 9)))
      (pss_one (ps_ret (pe_tup (pa_cons (pe_op op_add (pv 2) (pe_op op_mul (pv 10) (pv 3))) (pa_cons (pe_op op_mul (pv 3) (pv 9)) pa_nil))))))))))), ?_⟩
    refine ⟨_, rfl, p, _, rfl, hp, rfl, _, _, rfl, _, _, rfl, rfl, ?_⟩
    refine ⟨_, rfl, q, _, rfl, hq, rfl, _, _, rfl, _, _, rfl, rfl, ?_⟩
    refine ⟨_, rfl, _, rfl, a, b, rfl, ha0, ha1, hb1, fun H1 t c z s1 nt ht hc => ?_⟩
    have hgp : 0 < Nat.gcd a b := Nat.gcd_pos_of_pos_left b ha0
    have hga : Nat.gcd a b ≤ a := Nat.le_of_dvd ha0 (Nat.gcd_dvd_left a b)
    refine ⟨t, _, rfl, SqT.of ht, rfl, _, _, rfl, _, _, rfl, rfl, ?_⟩
    refine ⟨_, rfl, _, rfl, _, _, rfl, rfl, ?_⟩
    refine ⟨_, rfl, _, rfl, _, _, rfl, rfl, by omega, rfl, _, rfl, ite2 (fun e => ?_) (fun e => ?_)⟩
    · refine k _ _ s1 (.inl ⟨rfl, fun x h1 h2 => ?_⟩)
      have e1 : ¬ (V.int ((u - r) % ((Nat.gcd a b : Nat) : Int)) = V.int 0) := of_decide_eq_false (not_t e)
      exact meet_none (a := a) (b := b) (r := r) (s := u) (fun z => e1 (by rw [z])) x h1 h2
    · have hd : (u - r) % ((Nat.gcd a b : Nat) : Int) = 0 := by
        by_cases z : (u - r) % ((Nat.gcd a b : Nat) : Int) = 0
        · exact z
        · exact absurd (by rw [decide_eq_false (fun y => z (V.int.inj y))]; rfl) e
      have cd : ∀ x : Int, CDivW x ((Nat.gcd a b : Nat) : Int) := fun x => wide_div (b := 64) (by omega) (by show ((Nat.gcd a b : Nat) : Int).natAbs < 2 ^ 64; omega) (by decide) (by decide)
      refine ⟨_, rfl, _, rfl, _, _, rfl, rfl, cd _, ?_⟩
      have eb : (b : Int) / ((Nat.gcd a b : Nat) : Int) = ((b / Nat.gcd a b : Nat) : Int) := (Int.natCast_ediv _ _).symm
      dsimp only
      rw [eb]
      have htp : 0 < b / Nat.gcd a b := Nat.div_pos (Nat.le_of_dvd hb0 (Nat.gcd_dvd_right a b)) hgp
      have hq1 : -(2 ^ 64) < (u - r) / ((Nat.gcd a b : Nat) : Int) ∧ (u - r) / ((Nat.gcd a b : Nat) : Int) < 2 ^ 64 := by
        have h1 := Int.emod_add_mul_ediv (u - r) ((Nat.gcd a b : Nat) : Int)
        rw [hd] at h1
        generalize (u - r) / ((Nat.gcd a b : Nat) : Int) = y at *
        have h2 : (u - r).natAbs = Nat.gcd a b * y.natAbs := by
          rw [← h1, Int.zero_add, Int.natAbs_mul]
          rfl
        have h3 : 1 * y.natAbs ≤ Nat.gcd a b * y.natAbs := Nat.mul_le_mul_right _ hgp
        omega
      refine ⟨_, rfl, _, rfl, _, _, rfl, rfl, cd _, _, rfl, _, _, rfl, rfl, .inl hq1, _, rfl, _, _, rfl, rfl, by omega, ?_⟩
      have M := meet_ok (a := a) (b := b) (r := r) (s := u) (c := c) (q := z) ha0 hb0 hr0 hr1 hu0 hu1 hc hd
      refine ⟨_, rfl, _, rfl, _, rfl, _, _, rfl, rfl, .inr ⟨by omega, by omega⟩, _, _, rfl, rfl, _, rfl, _, rfl, _, _, rfl, rfl, .inl ⟨by omega, by omega⟩, by show 2 ≤ sizeLine; decide, fun t2 nt2 => ?_⟩
      refine k _ _ (s1.trans (same_new nt2)) (.inr ⟨t2, meetN a b r u c, rfl, ?_, M⟩)
      rw [upd_same, ← lcm_eq2, Int.natCast_mul]
      rfl
end
end Dk
namespace Dk
open PySem L2
section
variable {P : Program} {w : World} {K : PySem.W.Frag} {mg : Str → Option Value} {base : Heap}
def spLcm (K : PySem.W.Frag) : Sp := fun vs H Q _ => ∃ (p : Addr) (ns : List Nat), vs = [.ref p] ∧ SqL K H p (ns.map natV) ∧ (∀ n ∈ ns, 0 < n ∧ n < 2 ^ 20) ∧ (∀ i, lcmL (ns.take i) < 2 ^ 28) ∧ ∀ H', Same H H' → Q (.int (lcmL ns : Nat)) H'
theorem scLcm : FnScope ["_law_sizes", "_law_found", "_law_size", "_law_k"] ["_law_sizes"] (defScope sLcm) := ⟨rfl, rfl, rfl, by decide +kernel, rfl, by decide +kernel, by decide +kernel⟩
theorem ok_lcm {f : Addr} {fd : FuncData} (F : Fun K "_law_lcm" "_law_lcm" sLcm f fd) (mr : mg "range" = none) : FnOk P w K mg base CX0 1 f fd ["_law_sizes"] (spLcm K) := by
  refine F.ok scLcm (fun vs H Q E h => ?_) (fun cdv A outer s H vs Q E hr h => ?_)
  · obtain ⟨p, ns, rfl, _⟩ := h
    rfl
  · obtain ⟨p, ns, rfl, hS, hn, hl, k⟩ := h
    refine ⟨_, pss_cons (ps_set (i := 1) scLcm.nd rfl (Or.inl rfl) pe_int)
      (pss_cons (ps_for PassesOwn.never rfl (pi_list (pv 0)) (pg_name (i := 2) scLcm.nd rfl (Or.inr rfl))
      (pss_one (ps_set (i := 1) scLcm.nd rfl (Or.inl rfl) (pe_ix ix_list (pe_lc (own := [("_law_k", 3)]) (g := gName 3) rfl scLcm.nd (pi_range3 (by rfl) mr (pa_cons (pv 1) (pa_cons (pe_op op_add (pe_op op_mul (pv 1) (pv 2)) pe_int) (pa_cons (pv 1) pa_nil)))) (blkOk_by (N := ["_law_sizes", "_law_found", "_law_size", "_law_k"]) (sc := defScope sLcm) (by decide +kernel)) (fun _ _ _ _ _ => (pg_name (i := 3) scLcm.nd rfl (Or.inl rfl))) (fun _ _ _ _ _ => pts_one (pt_cmpR op_eq (pe_op op_mod (pv 3) (pv 2)) pe_int (nomark _))) (fun _ _ _ _ _ => (pv 3))) pe_int (fun _ _ => rfl)))))
      (pss_one (ps_ret (pv 1)))), ?_⟩
    refine ⟨_, rfl, p, rfl, ⟨_, hS⟩, for_list (K := K) (a := p) (xs := ns.map natV) (fun i σ H' => ∃ y2 : Option V, σ = [some (.ref p), some (.int (lcmL (ns.take i) : Nat)), y2, none] ∧ Same H H') ⟨_, rfl, Same.refl H⟩ (fun i σ H' _ h => by obtain ⟨_, _, s1⟩ := h; exact s1.seq hS) ?_ ?_⟩
    · rintro i x σ H' hx ⟨y2, rfl, s1⟩
      rw [List.getElem?_map] at hx
      obtain ⟨n, en, rfl⟩ : ∃ n, ns[i]? = some n ∧ x = natV n := by
        cases e : ns[i]? with
        | none =>
          rw [e] at hx
          cases hx
        | some n =>
          rw [e] at hx
          exact ⟨n, rfl, (Option.some.inj hx).symm⟩
      obtain ⟨hn0, hn1⟩ := hn n (List.mem_of_getElem? en)
      have hw := hl i
      have hw0 : 0 < lcmL (ns.take i) := foldl_pos _ (by decide) fun m hm => (hn m (List.mem_of_mem_take hm)).1
      have hnext := lcmL_take en
      generalize lcmL (ns.take i) = w at *
      refine ⟨_, rfl, _, rfl, _, rfl, _, _, rfl, rfl, .inl ⟨by omega, by omega⟩, _, _, rfl, rfl, _, rfl, (w : Int), _, (w : Int), n, rfl, rgc_mul hw0 hn0 hw (by omega), fun D nD => ?_⟩
      refine lc_it (walk_rangeC (lo := (w : Int)) (c := (w : Int)) (n := n)) (fun j H' => Same H H' ∧ H' D = some (.lst ((fls w n j).map natV))) ⟨s1.trans (same_new nD), upd_same⟩ (fun _ _ _ _ => trivial) ?_ ?_
      · rintro j x H2 H3 hj ⟨s2, hD⟩ ⟨rfl, rfl⟩
        have ej : (w : Int) + (j : Nat) * (w : Int) = ((w + j * w : Nat) : Int) := by
          rw [Int.natCast_add, Int.natCast_mul]
        dsimp only
        rw [ej]
        refine ⟨rfl, ?_⟩
        refine ⟨_, rfl, _, rfl, _, _, rfl, rfl, by omega, rfl, _, rfl, ?_⟩
        have em : ((w + j * w : Nat) : Int) % (n : Int) = (((w + j * w) % n : Nat) : Int) := (Int.natCast_emod _ _).symm
        refine ite2 (fun e => ?_) (fun e => ?_)
        · have e0 : (w + j * w) % n = 0 := by
            have e3 : ((w + j * w : Nat) : Int) % (n : Int) = 0 := V.int.inj (of_decide_eq_true e)
            rw [em] at e3
            omega
          refine ⟨_, rfl, _, hD, ?_, fun q o hq => ?_, ?_⟩
          · rw [List.length_map]
            have := fls_len w n j
            exact Nat.lt_of_le_of_lt this (Nat.lt_trans hj (Nat.lt_trans hn1 (by decide)))
          · have nq : q ≠ D := fun z => by
              rw [z, s1.free nD] at hq
              cases hq
            rw [upd_ne nq]
            exact s2 _ _ hq
          · rw [upd_same, fls_succ, if_pos e0, List.map_append]
            rfl
        · have e0 : ¬ (w + j * w) % n = 0 := fun z => e (decide_eq_true (show V.int (((w + j * w : Nat) : Int) % (n : Int)) = V.int 0 by rw [em, z]; rfl))
          refine ⟨s2, ?_⟩
          rw [hD, fls_succ, if_neg e0, List.append_nil]
      · rintro H2 ⟨s2, hD⟩
        have hh := (fls_head hw0 hn0 n).2 (Nat.div_le_self _ _)
        have ha : atI ((fls w n n).map natV) 0 = some (natV (Nat.lcm w n)) := atI_nat (j := 0) (by rw [List.getElem?_map, hh]; rfl)
        refine ⟨D, _, 0, _, rfl, rfl, SqL.of hD, ha, ?_⟩
        rw [← hnext]
        exact ⟨_, rfl, s2⟩
    · rintro σ H' ⟨y2, rfl, s1⟩
      rw [List.length_map, List.take_length]
      exact ⟨_, rfl, k H' s1⟩
def spShared : Sp := fun vs H Q _ => ∃ x y : Nat, vs = [.int (x : Int), .int (y : Int)] ∧ y < 2 ^ 100 ∧ Q (.int (Nat.gcd x y : Nat)) H
theorem scShared : FnScope ["_law_one", "_law_other", "_law_turn"] ["_law_one", "_law_other"] (defScope sShared) := ⟨rfl, rfl, rfl, by decide +kernel, rfl, by decide +kernel, by decide +kernel⟩
theorem ok_shared {f : Addr} {fd : FuncData} (F : Fun K "_law_shared" "_law_shared" sShared f fd) (mr : mg "range" = none) : FnOk P w K mg base CX0 1 f fd ["_law_one", "_law_other"] spShared := by
  refine F.ok scShared (fun vs H Q E h => ?_) (fun cdv A outer s H vs Q E hr h => ?_)
  · obtain ⟨x, y, rfl, _⟩ := h
    rfl
  · obtain ⟨x, y, rfl, hy, k⟩ := h
    refine ⟨_, pss_cons (ps_for PassesOwn.never rfl (pi_range1 (by rfl) mr (pa_cons pe_int pa_nil)) (pg_name (i := 2) scShared.nd rfl (Or.inl rfl))
      (pss_one (ps_if (pt_cmpR op_gt (pv 1) pe_int (nomark _)) (pss_one (ps_par (i := 0) (j := 1) (by rfl) scShared.nd rfl rfl (by decide) rfl rfl (pa_cons (pv 1) (pa_cons (pe_op op_mod (pv 0) (pv 1)) pa_nil)) (by rfl))) pss_nil)))
      (pss_one (ps_ret (pv 0))), ?_⟩
    refine ⟨200, rfl, by decide, by decide, for_range (n := 200) (fun i σ H' => ∃ y2 : Option V, σ = [some (natV (eit i (x, y)).1), some (natV (eit i (x, y)).2), y2] ∧ H' = H) ⟨_, rfl, rfl⟩ ?_ ?_⟩
    · rintro i σ H' _ ⟨y2, rfl, rfl⟩
      have es : eit (i + 1) (x, y) = estep (eit i (x, y)) := rfl
      rw [es]
      obtain ⟨a, b⟩ := eit i (x, y)
      refine ⟨_, rfl, _, _, rfl, rfl, _, rfl, ite2 (fun e => ?_) (fun e => ?_)⟩
      · have hb : (0 : Int) < (b : Int) := of_decide_eq_true e
        refine ⟨_, rfl, _, rfl, _, rfl, _, _, rfl, rfl, hb, _, _, rfl, ?_⟩
        refine ⟨some (.int (0 + (i : Int))), ?_, rfl⟩
        have e1 : estep (a, b) = (b, a % b) := if_pos (by show 0 < b; omega)
        rw [e1]
        show _ = [some (V.int (b : Int)), some (V.int ((a % b : Nat) : Int)), _]
        rw [Int.natCast_emod]
        rfl
      · have hb : ¬ (0 : Int) < (b : Int) := fun z => e (decide_eq_true z)
        have e1 : estep (a, b) = (a, b) := if_neg (by show ¬ 0 < b; omega)
        rw [e1]
        exact ⟨_, rfl, rfl⟩
    · rintro σ H' ⟨y2, rfl, rfl⟩
      have e := eit_gcd 100 x y hy
      rw [show eit 200 (x, y) = (Nat.gcd x y, 0) from e]
      exact ⟨_, rfl, k⟩
end
end Dk
namespace Dk
open PySem L2
section
variable {P : Program} {w : World} {K : PySem.W.Frag} {mg : Str → Option Value} {base : Heap}
def spLaw (K : PySem.W.Frag) : Sp := fun vs H Q _ => ∃ (a : Addr) (ns : List Int), vs = [.ref a] ∧ SqL K H a (ns.map V.int) ∧ ns.length ≤ 63 ∧ ∀ H', Q (.bl true) H'
theorem scLaw : FnScope ["_law_script", "_law_box_here", "_law_sizes", "_law_turn", "_law_size", "_law_step", "_law_rest", "_law_more", "_law_both", "_law_some", "_law_due", "_law_number", "_law_k"] ["_law_script"] (defScope sLaw) := ⟨rfl, rfl, rfl, by decide +kernel, rfl, by decide +kernel, by decide +kernel⟩
structure Txt8 (K : PySem.W.Frag) (mg : Str → Option Value) (fB fD fO fL fS fW fM fC fH : Addr) (dB dD dO dL dS dW dM dC dH : FuncData) : Prop where
  FB : Fun K "_law_box" "_law_box" sBox fB dB
  bB : Binds K dB ["_law_script"] []
  FD : Fun K "_law_draw" "_law_draw" sDraw fD dD
  bD : Binds K dD ["_law_box_here", "_law_many"] []
  FO : Fun K "_law_of" "_law_of" sOf fO dO
  bO : Binds K dO ["_law_box_here", "_law_some"] []
  FL : Fun K "_law_like" "_law_like" sLike fL dL
  bL : Binds K dL ["_law_found", "_law_due"] []
  FS : Fun K "divisor_and_share" "divisor_and_share" sDas fS dS
  bS : Binds K dS ["one", "other"] []
  FW : Fun K "wheel_of" "wheel_of" sWheel fW dW
  bW : Binds K dW ["sizes"] []
  FM : Fun K "met" "met" sMet fM dM
  bM : Binds K dM ["one", "other"] []
  FC : Fun K "_law_lcm" "_law_lcm" sLcm fC dC
  bC : Binds K dC ["_law_sizes"] []
  FH : Fun K "_law_shared" "_law_shared" sShared fH dH
  bH : Binds K dH ["_law_one", "_law_other"] []
  gB : mg "_law_box" = some (.ref fB)
  gD : mg "_law_draw" = some (.ref fD)
  gO : mg "_law_of" = some (.ref fO)
  gS : mg "divisor_and_share" = some (.ref fS)
  gW : mg "wheel_of" = some (.ref fW)
  gM : mg "met" = some (.ref fM)
  gC : mg "_law_lcm" = some (.ref fC)
  gH : mg "_law_shared" = some (.ref fH)
  T : LikeT mg fL
  max : mg "max" = none
  range : mg "range" = none
theorem ok_law {f fB fD fO fL fS fW fM fC fH : Addr} {fd dB dD dO dL dS dW dM dC dH : FuncData} (F : Fun K "law" "law" sLaw f fd) (T : Txt8 K mg fB fD fO fL fS fW fM fC fH dB dD dO dL dS dW dM dC dH) : FnOk P w K mg base CX0 4 f fd ["_law_script"] (spLaw K) := by
  have GB : FnOk P w K mg base CX0 1 fB dB ["_law_script"] (spBox K) := ok_box T.FB T.T.list
  have GD : FnOk P w K mg base CX0 1 fD dD ["_law_box_here", "_law_many"] spDraw := ok_draw T.FD T.T.len T.max
  have GO : FnOk P w K mg base CX0 2 fO dO ["_law_box_here", "_law_some"] spOf := ok_of T.FO T.FD T.bD T.gD T.T.len T.max
  have GL : FnOk P w K mg base CX0 3 fL dL ["_law_found", "_law_due"] (spLike 3) := ok_like T.FL T.bL T.T 3
  have GW : FnOk P w K mg base CX0 2 fW dW ["sizes"] (spWheel K) := ok_wheel T.FW T.FS T.bS T.gS
  have GM : FnOk P w K mg base CX0 2 fM dM ["one", "other"] (spMet K) := ok_met T.FM T.FS T.bS T.gS
  have GC : FnOk P w K mg base CX0 1 fC dC ["_law_sizes"] (spLcm K) := ok_lcm T.FC T.range
  have GH : FnOk P w K mg base CX0 1 fH dH ["_law_one", "_law_other"] spShared := ok_shared T.FH T.range
  refine F.ok scLaw (fun vs H Q E h => ?_) (fun cdv A outer s H vs Q E hr h => ?_)
  · obtain ⟨a, ns, rfl, _⟩ := h
    rfl
  · obtain ⟨a, ns, rfl, hS, hlen, k⟩ := h
    have hr1 : Room 1 _ := hr.mono (by decide)
    have hr2 : Room 2 _ := hr.mono (by decide)
    refine ⟨_, pss_cons (ps_set (i := 1) scLaw.nd rfl (Or.inr rfl) (pe_call GB hr1 (by rfl) T.gB T.FB.kp T.bB .nil pass0 (pa_cons (pv 0) pa_nil)))
      (pss_cons (ps_setLc (i := 2) (own := [("_law_k", 12)]) (g := gName 12) (tt := tYes) rfl scLaw.nd rfl rfl (sw_true rfl rfl rfl (by decide +kernel)) (pi_range1 (by rfl) T.range (pa_cons (pe_call GD hr1 (by rfl) T.gD T.FD.kp T.bD .nil pass0 (pa_cons (pv 1) (pa_cons pe_int pa_nil))) pa_nil)) (blkOk_by (N := ["_law_script", "_law_box_here", "_law_sizes", "_law_turn", "_law_size", "_law_step", "_law_rest", "_law_more", "_law_both", "_law_some", "_law_due", "_law_number", "_law_k"]) (sc := defScope sLaw) (by decide +kernel)) (fun _ _ _ _ _ => (pg_name (i := 12) scLaw.nd rfl (Or.inl rfl))) (fun _ _ _ _ _ => pts_nil) (fun _ _ _ _ _ => (pe_op op_add pe_int (pe_call GD hr1 (by rfl) T.gD T.FD.kp T.bD .nil pass0 (pa_cons (pv 1) (pa_cons pe_int pa_nil))))))
      (pss_cons (ps_if (pt_not (pt_val (pe_call GL hr (by rfl) T.T.me T.FL.kp T.bL .nil pass0 (pa_cons (pe_lst (pa_cons (pe_call GW hr2 (by rfl) T.gW T.FW.kp T.bW .nil pass0 (pa_cons (pv 2) pa_nil)) (pa_cons (pe_call GW hr2 (by rfl) T.gW T.FW.kp T.bW .nil pass0 (pa_cons (pe_callTy call_tuple_of (by rfl) T.T.tuple (by decide +kernel) (pa_cons (pe_revL (pv 2)) pa_nil)) pa_nil)) (pa_cons (pe_call GW hr2 (by rfl) T.gW T.FW.kp T.bW .nil pass0 (pa_cons (pe_lst pa_nil) pa_nil)) pa_nil)))) (pa_cons (pe_op op_cat (pe_op op_rep (pe_lst (pa_cons (pe_call GC hr1 (by rfl) T.gC T.FC.kp T.bC .nil pass0 (pa_cons (pv 2) pa_nil)) pa_nil)) pe_int) (pe_lst (pa_cons pe_int pa_nil))) pa_nil))))) (pss_one (ps_ret pe_bl)) pss_nil)
      (pss_cons (ps_for PassesOwn.never rfl (pi_range1 (by rfl) T.range (pa_cons pe_int pa_nil)) (pg_name (i := 3) scLaw.nd rfl (Or.inl rfl))
      (pss_cons (ps_mid (ps_asg (pe_tup (pa_cons (pe_op op_add pe_int (pe_call GD hr1 (by rfl) T.gD T.FD.kp T.bD .nil pass0 (pa_cons (pv 1) (pa_cons pe_int pa_nil)))) (pa_cons (pe_op op_add pe_int (pe_call GD hr1 (by rfl) T.gD T.FD.kp T.bD .nil pass0 (pa_cons (pv 1) (pa_cons pe_int pa_nil)))) pa_nil))) (pg_tup rfl (pgs_cons (pg_name (i := 4) scLaw.nd rfl (Or.inr rfl)) (pgs_cons (pg_name (i := 5) scLaw.nd rfl (Or.inr rfl)) pgs_nil)))))
      (pss_cons (ps_asg (pe_tup (pa_cons (pe_call GD hr1 (by rfl) T.gD T.FD.kp T.bD .nil pass0 (pa_cons (pv 1) (pa_cons (pv 4) pa_nil))) (pa_cons (pe_call GD hr1 (by rfl) T.gD T.FD.kp T.bD .nil pass0 (pa_cons (pv 1) (pa_cons (pv 5) pa_nil))) pa_nil))) (pg_tup rfl (pgs_cons (pg_name (i := 6) scLaw.nd rfl (Or.inr rfl)) (pgs_cons (pg_name (i := 7) scLaw.nd rfl (Or.inr rfl)) pgs_nil))))
      (pss_cons (ps_set (i := 8) scLaw.nd rfl (Or.inr rfl) (pe_call GC hr1 (by rfl) T.gC T.FC.kp T.bC .nil pass0 (pa_cons (pe_lst (pa_cons (pv 4) (pa_cons (pv 5) pa_nil))) pa_nil)))
      (pss_cons (ps_setLc (i := 9) (own := [("_law_k", 12)]) (g := gName 12) rfl scLaw.nd rfl rfl (sw_true rfl rfl rfl (by decide +kernel)) (pi_range1 (by rfl) T.range (pa_cons (pv 8) pa_nil)) (blkOk_by (N := ["_law_script", "_law_box_here", "_law_sizes", "_law_turn", "_law_size", "_law_step", "_law_rest", "_law_more", "_law_both", "_law_some", "_law_due", "_law_number", "_law_k"]) (sc := defScope sLaw) (by decide +kernel)) (fun _ _ _ _ _ => (pg_name (i := 12) scLaw.nd rfl (Or.inl rfl))) (fun _ _ _ _ _ => pts_one (PW.pt (pw_and (pt_cmpR op_eq (pe_op op_mod (pv 12) (pv 4)) (pv 6) (nomark _)) (pw_and1 (pt_cmpR op_eq (pe_op op_mod (pv 12) (pv 5)) (pv 7) (nomark _)))))) (fun _ _ _ _ _ => (pe_tup (pa_cons (pv 12) (pa_cons (pv 8) pa_nil)))))
      (pss_cons (ps_set (i := 10) scLaw.nd rfl (Or.inl rfl) (pe_ix ix_list (pe_op op_cat (pv 9) (pe_lst (pa_cons pe_non pa_nil))) pe_int (fun _ _ => rfl)))
      (pss_one (ps_if (pt_not (pt_val (pe_call GL hr (by rfl) T.T.me T.FL.kp T.bL .nil pass0 (pa_cons (pe_lst (pa_cons (pe_call GM hr2 (by rfl) T.gM T.FM.kp T.bM .nil pass0 (pa_cons (pe_tup (pa_cons (pv 6) (pa_cons (pv 4) pa_nil))) (pa_cons (pe_tup (pa_cons (pv 7) (pa_cons (pv 5) pa_nil))) pa_nil))) (pa_cons (pe_call GM hr2 (by rfl) T.gM T.FM.kp T.bM .nil pass0 (pa_cons (pe_tup (pa_cons (pv 7) (pa_cons (pv 5) pa_nil))) (pa_cons (pe_tup (pa_cons (pv 6) (pa_cons (pv 4) pa_nil))) pa_nil))) pa_nil))) (pa_cons (pe_lst (pa_cons (pv 10) (pa_cons (pv 10) pa_nil))) pa_nil))))) (pss_one (ps_ret pe_bl)) pss_nil))))))))
      (pss_cons (ps_mid (ps_asg (pe_tup (pa_cons (pe_call GD hr1 (by rfl) T.gD T.FD.kp T.bD .nil pass0 (pa_cons (pv 1) (pa_cons (pe_op op_pow pe_int pe_int) pa_nil))) (pa_cons (pe_op op_add pe_int (pe_call GD hr1 (by rfl) T.gD T.FD.kp T.bD .nil pass0 (pa_cons (pv 1) (pa_cons (pe_op op_pow pe_int pe_int) pa_nil)))) pa_nil))) (pg_tup rfl (pgs_cons (pg_name (i := 11) scLaw.nd rfl (Or.inl rfl)) (pgs_cons (pg_name (i := 4) scLaw.nd rfl (Or.inr rfl)) pgs_nil)))))
      (pss_cons (ps_set (i := 5) scLaw.nd rfl (Or.inr rfl) (pe_call GO hr2 (by rfl) T.gO T.FO.kp T.bO .nil pass0 (pa_cons (pv 1) (pa_cons (pe_lst (pa_cons (pe_op op_add pe_int (pe_call GD hr1 (by rfl) T.gD T.FD.kp T.bD .nil pass0 (pa_cons (pv 1) (pa_cons (pe_op op_pow pe_int pe_int) pa_nil)))) (pa_cons (pv 4) (pa_cons (pe_op op_mul pe_int (pv 4)) (pa_cons pe_int pa_nil))))) pa_nil))))
      (pss_cons (ps_mid (ps_set (i := 8) scLaw.nd rfl (Or.inr rfl) (pe_op op_fdivW (pe_op op_mul (pv 4) (pv 5)) (pe_call GH hr1 (by rfl) T.gH T.FH.kp T.bH .nil pass0 (pa_cons (pv 4) (pa_cons (pv 5) pa_nil))))))
      (pss_cons (ps_if (pt_not (pt_val (pe_call GL hr (by rfl) T.T.me T.FL.kp T.bL .nil pass0 (pa_cons (pe_call GW hr2 (by rfl) T.gW T.FW.kp T.bW .nil pass0 (pa_cons (pe_lst (pa_cons (pv 4) (pa_cons (pv 5) pa_nil))) pa_nil)) (pa_cons (pv 8) pa_nil))))) (pss_one (ps_ret pe_bl)) pss_nil)
      (pss_one (ps_ret (pe_call GL hr (by rfl) T.T.me T.FL.kp T.bL .nil pass0 (pa_cons (pe_call GM hr2 (by rfl) T.gM T.FM.kp T.bM .nil pass0 (pa_cons (pe_tup (pa_cons (pe_op op_mod (pv 11) (pv 4)) (pa_cons (pv 4) pa_nil))) (pa_cons (pe_tup (pa_cons (pe_op op_mod (pv 11) (pv 5)) (pa_cons (pv 5) pa_nil))) pa_nil))) (pa_cons (pe_tup (pa_cons (pe_op op_mod (pv 11) (pv 8)) (pa_cons (pv 8) pa_nil))) pa_nil)))))))))))), ?_⟩
    refine ⟨_, rfl, a, ns, rfl, hS, fun H1 b l s1 nb nl hB => ?_⟩
    -- sizes
    refine ⟨_, rfl, b, l, 6, rfl, hB, by decide, by decide, fun r H2 hr0 hr6 v2 hB2 => ?_⟩
    refine ⟨r, rfl, by omega, by omega, fun D nD => ?_⟩
    have nDb := hB2.b1 nD
    have nDl := hB2.l1 nD
    refine lc_range (lo := 0) (n := r.toNat) (fun j H' => Box H' b l ∧ ∃ zs : List Nat, zs.length = j ∧ (∀ n ∈ zs, 0 < n ∧ n ≤ 12) ∧ H' D = some (.lst (zs.map natV))) ⟨hB2.new nD, [], rfl, (fun n hn => by cases hn), upd_same⟩ ?_ ?_
    · rintro j H3 hj ⟨hB3, zs, el, hz, hD⟩
      refine ⟨rfl, ?_⟩
      refine ⟨_, rfl, b, l, 12, rfl, hB3, by decide, by decide, fun q H4 hq0 hq1 v4 hB4 => ?_⟩
      refine ⟨_, _, rfl, rfl, _, v4 _ _ nDb hD, ?_, hB4.put nDb nDl, zs ++ [(1 + q).toNat], ?_, ?_, ?_⟩
      · rw [List.length_map]
        exact small1000 (by omega)
      · rw [List.length_append, el]
        rfl
      · intro n hn
        rcases List.mem_append.mp hn with h | h
        · exact hz n h
        · rw [List.mem_singleton.mp h]
          omega
      · rw [upd_same, List.map_append]
        show some (HO.lst (zs.map natV ++ [V.int (1 + q)])) = some (HO.lst (zs.map natV ++ [V.int (((1 + q).toNat : Nat) : Int)]))
        rw [show (((1 + q).toNat : Nat) : Int) = 1 + q by omega]
    rintro H3 ⟨hB3, zs, el, hz, hD⟩
    have hz1 : ∀ n ∈ zs, 0 < n ∧ n < 2 ^ 64 := fun n hn => by
      have := hz n hn
      omega
    have hz2 : ∀ n ∈ zs.reverse, 0 < n ∧ n < 2 ^ 64 := fun n hn => hz1 n (List.mem_reverse.mp hn)
    have hlen5 : zs.length ≤ 5 := by omega
    have hl1 : ∀ i, lcmL (zs.take i) < 2 ^ 28 := fun i => Nat.lt_of_le_of_lt (lcmL_small (c := 12) (k := 5) (fun n hn => (hz n hn).2) (by decide) hlen5 i) (by decide)
    have hl2 : ∀ i, lcmL (zs.reverse.take i) < 2 ^ 28 := fun i => Nat.lt_of_le_of_lt (lcmL_small (c := 12) (k := 5) (fun n hn => (hz n (List.mem_reverse.mp hn)).2) (by decide) (by rw [List.length_reverse]; exact hlen5) i) (by decide)
    refine ⟨_, rfl, D, zs, rfl, .inl (SqL.of hD), hz1, fun i => Nat.lt_trans (hl1 i) (by decide), fun H4 s4 => ?_⟩
    have hD4 := s4 _ _ hD
    refine ⟨_, rfl, D, _, rfl, SqL.of hD4, fun q nq => ?_⟩
    refine ⟨q, _, rfl, .inl ⟨SqL.of upd_same, fun t nt => ?_⟩⟩
    refine ⟨t, zs.reverse, rfl, .inr (SqT.of (by rw [upd_same, List.map_reverse])), hz2, fun i => Nat.lt_trans (hl2 i) (by decide), fun H5 s5 => ?_⟩
    refine ⟨Nat.zero_le _, fun e ne => ?_⟩
    refine ⟨e, [], rfl, .inl (SqL.of upd_same), (fun n hn => by cases hn), (fun i => by rw [List.take_nil]; decide), fun H6 s6 => ?_⟩
    refine ⟨by show 3 ≤ sizeLine; decide, fun g ng => ?_⟩
    have s46 := ((same_new nq).trans (same_new nt)).trans (s5.trans ((same_new ne).trans s6))
    have hD6 := s46 _ _ hD4
    have hD7 := same_new (o := .lst [natV (lcmL zs), natV (lcmL zs.reverse), natV (lcmL [])]) ng _ _ hD6
    refine ⟨_, rfl, D, zs, rfl, SqL.of hD7, fun n hn => ⟨(hz n hn).1, by have := (hz n hn).2; omega⟩, hl1, fun H7 s7 => ?_⟩
    refine ⟨by show 1 ≤ sizeLine; decide, fun d nd => ?_⟩
    refine ⟨d, 2, _, rfl, rfl, upd_same, by decide, by decide, by show 1 * 2 ≤ sizeLine; decide, fun h nh => ?_⟩
    refine ⟨by show 1 ≤ sizeLine; decide, fun i ni => ?_⟩
    have nhi : h ≠ i := ne_of_none upd_same ni
    refine ⟨h, i, _, _, rfl, rfl, by rw [upd_ne nhi]; exact upd_same, upd_same, by show 2 + 1 ≤ sizeLine; decide, fun j nj => ?_⟩
    have s7j := (same_new nd).trans ((same_new nh).trans ((same_new ni).trans (same_new (o := .lst [natV (lcmL zs), natV (lcmL zs), natV 1]) nj)))
    have fl3 : ∀ x ∈ [natV (lcmL zs), natV (lcmL zs), natV 1], flatV x = true := by
      intro x hx
      simp only [List.mem_cons, List.mem_nil_iff, or_false] at hx
      rcases hx with rfl | rfl | rfl <;> rfl
    have hg7 : (upd H6 g (.lst [natV (lcmL zs), natV (lcmL zs.reverse), natV (lcmL [])])) g = some (.lst [natV (lcmL zs), natV (lcmL zs), natV 1]) := by
      rw [upd_same, lcmL_rev]
      rfl
    refine ⟨_, _, rfl, Lk.lst (n := 1) (s7j _ _ (s7 _ _ hg7)) upd_same (by show 3 ≤ 1000; decide) fl3, fun H8 s8 => ⟨true, rfl, iteF ?_⟩⟩
    have hB8 := hB3.same (s4.trans (s46.trans ((same_new ng).trans (s7.trans (s7j.trans s8)))))
    clear s7j hg7 hD7 hD6 s46 hD4
    -- four pairs of rests
    refine ⟨4, rfl, by decide, by decide, for_range (n := 4) (fun i σ H' => ∃ y2 y3 y4 y5 y6 y7 y8 y9 y10 y11 : Option V, σ = [some (.ref a), some (.ref b), y2, y3, y4, y5, y6, y7, y8, y9, y10, y11, none] ∧ Box H' b l) ⟨_, _, _, _, _, _, _, _, _, _, rfl, hB8⟩ ?_ ?_⟩
    · rintro i4 σ K1 _ ⟨y2, y3, y4, y5, y6, y7, y8, y9, y10, y11, rfl, hB⟩
      refine ⟨fun σ H' => ∃ (p q : Nat), σ = [some (.ref a), some (.ref b), y2, some (.int (0 + (i4 : Int))), some (natV p), some (natV q), y6, y7, y8, y9, y10, y11, none] ∧ 0 < p ∧ p ≤ 24 ∧ 0 < q ∧ q ≤ 24 ∧ Box H' b l, ?_, ?_⟩
      · refine ⟨_, rfl, b, l, 24, rfl, hB, by decide, by decide, fun r1 K2 h10 h11 v2 hB2 => ?_⟩
        refine ⟨_, _, rfl, rfl, _, rfl, b, l, 24, rfl, hB2, by decide, by decide, fun r2 K3 h20 h21 v3 hB3 => ?_⟩
        refine ⟨_, _, rfl, rfl, by show 2 ≤ sizeLine; decide, fun t nt => ?_⟩
        refine ⟨t, _, rfl, SqT.of upd_same, rfl, _, _, rfl, _, _, rfl, rfl, ?_⟩
        refine ⟨(1 + r1).toNat, (1 + r2).toNat, ?_, by omega, by omega, by omega, by omega, hB3.new nt⟩
        rw [← nat_of (x := 1 + r1) (by omega), ← nat_of (x := 1 + r2) (by omega)]
        rfl
      rintro σ K4 ⟨p, q, rfl, hp0, hp1, hq0, hq1, hB⟩
      -- rests
      refine ⟨_, rfl, _, rfl, b, l, (p : Int), rfl, hB, by omega, small (by omega), fun r K5 hr0 hrp v5 hB5 => ?_⟩
      refine ⟨_, rfl, _, rfl, b, l, (q : Int), rfl, hB5, by omega, small (by omega), fun u K6 hu0 huq v6 hB6 => ?_⟩
      refine ⟨by show 2 ≤ sizeLine; decide, fun t nt => ?_⟩
      refine ⟨t, _, rfl, SqT.of upd_same, rfl, _, _, rfl, _, _, rfl, rfl, ?_⟩
      have hB7 := hB6.new (o := .tup [.int r, .int u]) nt
      generalize upd K6 t (.tup [.int r, .int u]) = K7 at hB7
      -- both
      refine ⟨_, rfl, _, rfl, by show 2 ≤ sizeLine; decide, fun g ng => ?_⟩
      have h24 : p * q ≤ 24 * 24 := Nat.mul_le_mul hp1 hq1
      refine ⟨g, [p, q], rfl, SqL.of upd_same, ?_, fun i => Nat.lt_of_le_of_lt (lcmL_take2 p q i hp0 hq0) (Nat.lt_of_le_of_lt h24 (by decide)), fun K8 s8 => ?_⟩
      · intro n hn
        rcases List.mem_cons.mp hn with rfl | hn
        · omega
        · rw [List.mem_singleton.mp hn]
          omega
      rw [lcmL_two]
      have hB8 := (hB7.new ng).same s8
      have hL : Nat.lcm p q ≤ 576 := Nat.le_trans (lcm_le_mul p q) h24
      have hL0 : 0 < Nat.lcm p q := Nat.lcm_pos hp0 hq0
      -- all hits
      refine ⟨_, rfl, _, rfl, by omega, by omega, fun D nD => ?_⟩
      refine lc_range (lo := 0) (n := ((Nat.lcm p q : Nat) : Int).toNat) (fun j H' => Same K8 H' ∧ ∃ ps, H' D = some (.lst ps) ∧ Hits H' p q r u j ps) ⟨same_new nD, [], upd_same, Nat.le_refl _, .inl ⟨rfl, fun k k0 k1 _ _ => by omega⟩⟩ ?_ ?_
      · rintro j H' hj ⟨s9, ps, hD, hh⟩
        refine ⟨rfl, ?_⟩
        refine ⟨_, rfl, _, rfl, _, _, rfl, rfl, by omega, _, rfl, rfl, _, rfl, ite2 (fun e1 => ?_) (fun e1 => ?_)⟩
        · have e1' : (0 + (j : Int)) % (p : Int) = r := V.int.inj (of_decide_eq_true e1)
          refine ⟨_, rfl, _, rfl, _, _, rfl, rfl, by omega, _, rfl, rfl, _, rfl, ite2 (fun e2 => ?_) (fun e2 => ?_)⟩
          · have e2' : (0 + (j : Int)) % (q : Int) = u := V.int.inj (of_decide_eq_true e2)
            refine ⟨_, rfl, _, rfl, by show 2 ≤ sizeLine; decide, fun t2 nt2 => ?_⟩
            have ntD : t2 ≠ D := fun z => by
              rw [z, hD] at nt2
              cases nt2
            refine ⟨ps, by rw [upd_ne ntD.symm]; exact hD, small1000 (by have := hh.1; omega), fun x o hx => ?_, ps ++ [.ref t2], upd_same, ?_⟩
            · have nx : x ≠ D := fun z => by
                rw [z, nD] at hx
                cases hx
              rw [upd_ne nx]
              exact same_new nt2 _ _ (s9 _ _ hx)
            · refine (hh.keep (H' := upd (upd H' t2 (.tup [.int (0 + (j : Int)), .int (Nat.lcm p q : Nat)])) D (.lst (ps ++ [.ref t2]))) fun y xs hy => ?_).hit (by rw [← Int.zero_add (j : Int)]; exact e1') (by rw [← Int.zero_add (j : Int)]; exact e2') ?_
              · have ny : y ≠ D := fun z => by
                  rw [z, hD] at hy
                  cases hy
                rw [upd_ne ny]
                exact same_new nt2 _ _ hy
              · rw [upd_ne ntD, upd_same, Int.zero_add]
          · exact ⟨s9, ps, hD, hh.miss fun z => e2 (decide_eq_true (show V.int ((0 + (j : Int)) % (q : Int)) = V.int u by rw [Int.zero_add, z.2]))⟩
        · exact ⟨s9, ps, hD, hh.miss fun z => e1 (decide_eq_true (show V.int ((0 + (j : Int)) % (p : Int)) = V.int r by rw [Int.zero_add, z.1]))⟩
      rintro K9 ⟨s9, ps, hD, hh⟩
      rw [Int.toNat_natCast] at hh
      obtain ⟨dv, hat, hF⟩ := hh.due
      have hps := hh.1
      have hB9 := hB8.same s9
      -- due
      refine ⟨_, rfl, by show 1 ≤ sizeLine; decide, fun e ne => ?_⟩
      refine ⟨D, e, _, _, rfl, rfl, same_new ne _ _ hD, upd_same, ?_, fun g2 ng2 => ?_⟩
      · show ps.length + 1 ≤ sizeLine
        exact small1000 (by omega)
      refine ⟨g2, _, 0, dv, rfl, rfl, SqL.of upd_same, hat, ?_⟩
      have s10 := same2 (u := .lst (ps ++ [.non])) ne ng2
      have hB10 := hB9.same s10
      have hF10 := hF.same s10
      generalize upd (upd K9 e (.lst [.non])) g2 (.lst (ps ++ [.non])) = K10 at hB10 hF10
      -- both ways about
      refine ⟨_, rfl, _, rfl, by show 2 ≤ sizeLine; decide, fun t1 n1 => ?_⟩
      refine ⟨_, rfl, _, rfl, by show 2 ≤ sizeLine; decide, fun t2 n2 => ?_⟩
      refine ⟨t1, t2, p, q, r, u, rfl, SqT.of (same_new n2 _ _ upd_same), SqT.of upd_same, hp0, by omega, hq0, by omega, hr0, hrp, hu0, huq, fun K11 v1 s11 m1 => ?_⟩
      refine ⟨_, rfl, _, rfl, by show 2 ≤ sizeLine; decide, fun t3 n3 => ?_⟩
      refine ⟨_, rfl, _, rfl, by show 2 ≤ sizeLine; decide, fun t4 n4 => ?_⟩
      refine ⟨t3, t4, q, p, u, r, rfl, SqT.of (same_new n4 _ _ upd_same), SqT.of upd_same, hq0, by omega, hp0, by omega, hu0, huq, hr0, hrp, fun K12 v2 s12 m2 => ?_⟩
      refine ⟨by show 2 ≤ sizeLine; decide, fun g3 n5 => ?_⟩
      refine ⟨_, rfl, _, rfl, by show 2 ≤ sizeLine; decide, fun g4 n6 => ?_⟩
      have s13 := (same_new (o := .lst [v1, v2]) n5).trans (same_new (o := .lst [dv, dv]) n6)
      have s1112 := ((same_new (o := .tup [.int u, .int (q : Int)]) n3).trans (same_new (o := .tup [.int r, .int (p : Int)]) n4)).trans s12
      have s1013 := ((same_new (o := .tup [.int r, .int (p : Int)]) n1).trans (same_new (o := .tup [.int u, .int (q : Int)]) n2)).trans (s11.trans (s1112.trans s13))
      have fF := hF10.same s1013
      have f1 := m1.same (s1112.trans s13)
      have f2 := (m2.same s13).swap
      refine ⟨_, _, rfl, .inr ⟨g3, g4, [v1, v2], [dv, dv], rfl, rfl, rfl, by show 2 ≤ 1000; decide, .inl ⟨same_new n6 _ _ upd_same, upd_same⟩, fun i x y hx hy => ?_⟩, fun K14 s14 => ⟨true, rfl, iteF ?_⟩⟩
      · match i, hx, hy with
        | 0, hx, hy =>
          rw [← Option.some.inj hx, ← Option.some.inj hy]
          exact met_like (n := 0) f1 fF
        | 1, hx, hy =>
          rw [← Option.some.inj hx, ← Option.some.inj hy]
          exact met_like (n := 0) f2 fF
        | i + 2, hx, hy => cases hx
      exact ⟨_, _, _, _, _, _, _, _, _, _, rfl, hB10.same (s1013.trans s14)⟩
    · rintro σ K1 ⟨y2, y3, y4, y5, y6, y7, y8, y9, y10, y11, rfl, hB⟩
      refine ⟨fun σ H' => ∃ (x : Int) (p : Nat), σ = [some (.ref a), some (.ref b), y2, y3, some (natV p), y5, y6, y7, y8, y9, y10, some (.int x), none] ∧ 0 ≤ x ∧ 0 < p ∧ p ≤ 10 ^ 9 ∧ Box H' b l, ?_, ?_⟩
      · refine ⟨_, rfl, _, _, rfl, rfl, ⟨by decide, by decide, by decide⟩, b, l, _, rfl, hB, by decide, by decide, fun x K2 h10 h11 v2 hB2 => ?_⟩
        refine ⟨_, rfl, _, _, rfl, rfl, ⟨by decide, by decide, by decide⟩, b, l, _, rfl, hB2, by decide, by decide, fun r2 K3 h20 h21 v3 hB3 => ?_⟩
        have h21' : r2 < 10 ^ 9 := h21
        refine ⟨_, _, rfl, rfl, by show 2 ≤ sizeLine; decide, fun t nt => ?_⟩
        refine ⟨t, _, rfl, SqT.of upd_same, rfl, _, _, rfl, _, _, rfl, rfl, ?_⟩
        refine ⟨x, (1 + r2).toNat, ?_, h10, by omega, by omega, hB3.new nt⟩
        rw [← nat_of (x := 1 + r2) (by omega)]
        rfl
      rintro σ K4 ⟨x, p, rfl, hx0, hp0, hp1, hB⟩
      -- step
      refine ⟨_, rfl, _, rfl, _, _, rfl, rfl, ⟨by decide, by decide, by decide⟩, b, l, _, rfl, hB, by decide, by decide, fun r3 K5 h30 h31 v5 hB5 => ?_⟩
      have h31' : r3 < 10 ^ 9 := h31
      refine ⟨_, _, rfl, rfl, _, rfl, _, rfl, _, _, rfl, rfl, .inl ⟨by decide, by decide⟩, by show 4 ≤ sizeLine; decide, fun g ng => ?_⟩
      refine ⟨b, l, _, rfl, hB5.new ng, .inl ⟨g, _, rfl, hB5.b1 ng, upd_same, by show 0 < 4; decide, by show 4 ≤ 1000; decide, fun y K6 hy v6 hB6 => ?_⟩⟩
      obtain ⟨q, rfl, hq0, hq1⟩ := step_of hy h30 h31' hp0 hp1
      have hpq : p * q ≤ 10 ^ 9 * (2 * 10 ^ 9) := Nat.mul_le_mul hp1 hq1
      have hL : Nat.lcm p q ≤ 10 ^ 9 * (2 * 10 ^ 9) := Nat.le_trans (lcm_le_mul p q) hpq
      have hL0 : 0 < Nat.lcm p q := Nat.lcm_pos hp0 hq0
      have hg0 : 0 < Nat.gcd p q := Nat.gcd_pos_of_pos_left q hp0
      have hg1 : Nat.gcd p q ≤ p := Nat.le_of_dvd hp0 (Nat.gcd_dvd_left p q)
      -- both
      refine ⟨fun σ H' => σ = [some (.ref a), some (.ref b), y2, y3, some (natV p), some (natV q), y6, y7, some (natV (Nat.lcm p q)), y9, y10, some (.int x), none] ∧ H' = K6, ?_, ?_⟩
      · refine ⟨_, rfl, _, rfl, _, _, rfl, rfl, .inl ⟨by omega, by omega⟩, _, rfl, _, rfl, p, q, rfl, by omega, _, _, rfl, rfl, wide_div (b := 64) (by omega) (by show ((Nat.gcd p q : Nat) : Int).natAbs < 2 ^ 64; omega) (by decide) (by decide), ?_⟩
        refine ⟨?_, rfl⟩
        show _ = [some (V.ref a), some (V.ref b), y2, y3, some (natV p), some (natV q), y6, y7, some (V.int ((Nat.lcm p q : Nat) : Int)), y9, y10, some (V.int x), none]
        rw [← lcm_int]
        rfl
      rintro σ K7 ⟨rfl, rfl⟩
      have hb2 : ∀ n ∈ [p, q], 0 < n ∧ n < 2 ^ 64 := by
        intro n hn
        rcases List.mem_cons.mp hn with rfl | hn
        · omega
        · rw [List.mem_singleton.mp hn]
          omega
      refine ⟨_, rfl, _, rfl, by show 2 ≤ sizeLine; decide, fun g1 ng1 => ?_⟩
      refine ⟨g1, [p, q], rfl, .inl (SqL.of upd_same), hb2, fun i => Nat.lt_of_le_of_lt (lcmL_take2 p q i hp0 hq0) (Nat.lt_of_le_of_lt hpq (by decide)), fun K8 s8 => ?_⟩
      refine ⟨_, rfl, _, _, rfl, .inl ⟨by rw [lcmL_two]; rfl, rfl⟩, fun K9 s9 => ⟨true, rfl, iteF ?_⟩⟩
      -- the number itself
      refine ⟨_, rfl, _, rfl, _, _, rfl, rfl, by omega, _, rfl, by show 2 ≤ sizeLine; decide, fun t1 n1 => ?_⟩
      refine ⟨_, rfl, _, rfl, _, _, rfl, rfl, by omega, _, rfl, by show 2 ≤ sizeLine; decide, fun t2 n2 => ?_⟩
      refine ⟨t1, t2, p, q, x % (p : Int), x % (q : Int), rfl, SqT.of (same_new n2 _ _ upd_same), SqT.of upd_same, hp0, by omega, hq0, by omega, Int.emod_nonneg _ (by omega), Int.emod_lt_of_pos _ (by omega), Int.emod_nonneg _ (by omega), Int.emod_lt_of_pos _ (by omega), fun K10 v1 s10 m1 => ?_⟩
      refine ⟨_, rfl, _, rfl, _, _, rfl, rfl, by omega, _, rfl, by show 2 ≤ sizeLine; decide, fun t3 n3 => ?_⟩
      have rr := rest_rest x p q
      refine ⟨_, _, rfl, met_like (n := 1) (m1.same (same_new n3)) (.inr ⟨t3, x % ((Nat.lcm p q : Nat) : Int), rfl, upd_same, Int.emod_nonneg _ (by omega), Int.emod_lt_of_pos _ (by omega), rr.1, rr.2⟩), fun K11 s11 => k K11⟩
end
end Dk
namespace Dk
open PySem L2
theorem all_mk {l : PySem.W.OpenLaw} {w : World} {K : PySem.W.Frag} {h : Heap} {mg : Str → Option Value} {fa f0 f1 f2 f3 f4 f5 f6 f7 f8 f9 : Addr} (X : K.In h) (G : h.Ns mainGlobals mg) (hfa : mg "law" = some (.ref fa))
    {od0 an0 od1 an1 od2 an2 od3 an3 od4 an4 od5 an5 od6 an6 od7 an7 od8 an8 od9 an9 : Option Addr} {sl0 sl1 sl2 sl3 sl4 sl5 sl6 sl7 sl8 sl9 : Array (Option Value)}
    {oc0 kV0 dc0 pm0 cd0 ct0 oc1 kV1 dc1 pm1 cd1 ct1 oc2 kV2 dc2 pm2 cd2 ct2 oc3 kV3 dc3 pm3 cd3 ct3 oc4 kV4 dc4 pm4 cd4 ct4 oc5 kV5 dc5 pm5 cd5 ct5 oc6 kV6 dc6 pm6 cd6 ct6 oc7 kV7 dc7 pm7 cd7 ct7 oc8 kV8 dc8 pm8 cd8 ct8 oc9 kV9 dc9 pm9 cd9 ct9 : Value}
    (a0 : PySem.W.nsIn K mainGlobals "_law_box" = some (some (.ref f0)))
    (l0 : K.lookup f0 = some ⟨oc0, od0, .func (PySem.W.fnOf "_law_box" "_law_box" (defArgs sBox) (defBody sBox) (defScope sBox) .none kV0 dc0 pm0 an0 cd0 ct0), sl0⟩)
    (c0 : PySem.W.codeIn K cd0 "_law_box" = true) (k0 : PySem.W.keepIn K (.ref f0) = true)
    (a1 : PySem.W.nsIn K mainGlobals "_law_draw" = some (some (.ref f1)))
    (l1 : K.lookup f1 = some ⟨oc1, od1, .func (PySem.W.fnOf "_law_draw" "_law_draw" (defArgs sDraw) (defBody sDraw) (defScope sDraw) .none kV1 dc1 pm1 an1 cd1 ct1), sl1⟩)
    (c1 : PySem.W.codeIn K cd1 "_law_draw" = true) (k1 : PySem.W.keepIn K (.ref f1) = true)
    (a2 : PySem.W.nsIn K mainGlobals "_law_of" = some (some (.ref f2)))
    (l2 : K.lookup f2 = some ⟨oc2, od2, .func (PySem.W.fnOf "_law_of" "_law_of" (defArgs sOf) (defBody sOf) (defScope sOf) .none kV2 dc2 pm2 an2 cd2 ct2), sl2⟩)
    (c2 : PySem.W.codeIn K cd2 "_law_of" = true) (k2 : PySem.W.keepIn K (.ref f2) = true)
    (a3 : PySem.W.nsIn K mainGlobals "_law_like" = some (some (.ref f3)))
    (l3 : K.lookup f3 = some ⟨oc3, od3, .func (PySem.W.fnOf "_law_like" "_law_like" (defArgs sLike) (defBody sLike) (defScope sLike) .none kV3 dc3 pm3 an3 cd3 ct3), sl3⟩)
    (c3 : PySem.W.codeIn K cd3 "_law_like" = true) (k3 : PySem.W.keepIn K (.ref f3) = true)
    (a4 : PySem.W.nsIn K mainGlobals "divisor_and_share" = some (some (.ref f4)))
    (l4 : K.lookup f4 = some ⟨oc4, od4, .func (PySem.W.fnOf "divisor_and_share" "divisor_and_share" (defArgs sDas) (defBody sDas) (defScope sDas) .none kV4 dc4 pm4 an4 cd4 ct4), sl4⟩)
    (c4 : PySem.W.codeIn K cd4 "divisor_and_share" = true) (k4 : PySem.W.keepIn K (.ref f4) = true)
    (a5 : PySem.W.nsIn K mainGlobals "wheel_of" = some (some (.ref f5)))
    (l5 : K.lookup f5 = some ⟨oc5, od5, .func (PySem.W.fnOf "wheel_of" "wheel_of" (defArgs sWheel) (defBody sWheel) (defScope sWheel) .none kV5 dc5 pm5 an5 cd5 ct5), sl5⟩)
    (c5 : PySem.W.codeIn K cd5 "wheel_of" = true) (k5 : PySem.W.keepIn K (.ref f5) = true)
    (a6 : PySem.W.nsIn K mainGlobals "met" = some (some (.ref f6)))
    (l6 : K.lookup f6 = some ⟨oc6, od6, .func (PySem.W.fnOf "met" "met" (defArgs sMet) (defBody sMet) (defScope sMet) .none kV6 dc6 pm6 an6 cd6 ct6), sl6⟩)
    (c6 : PySem.W.codeIn K cd6 "met" = true) (k6 : PySem.W.keepIn K (.ref f6) = true)
    (a7 : PySem.W.nsIn K mainGlobals "_law_lcm" = some (some (.ref f7)))
    (l7 : K.lookup f7 = some ⟨oc7, od7, .func (PySem.W.fnOf "_law_lcm" "_law_lcm" (defArgs sLcm) (defBody sLcm) (defScope sLcm) .none kV7 dc7 pm7 an7 cd7 ct7), sl7⟩)
    (c7 : PySem.W.codeIn K cd7 "_law_lcm" = true) (k7 : PySem.W.keepIn K (.ref f7) = true)
    (a8 : PySem.W.nsIn K mainGlobals "_law_shared" = some (some (.ref f8)))
    (l8 : K.lookup f8 = some ⟨oc8, od8, .func (PySem.W.fnOf "_law_shared" "_law_shared" (defArgs sShared) (defBody sShared) (defScope sShared) .none kV8 dc8 pm8 an8 cd8 ct8), sl8⟩)
    (c8 : PySem.W.codeIn K cd8 "_law_shared" = true) (k8 : PySem.W.keepIn K (.ref f8) = true)
    (a9 : PySem.W.nsIn K mainGlobals "law" = some (some (.ref f9)))
    (l9 : K.lookup f9 = some ⟨oc9, od9, .func (PySem.W.fnOf "law" "law" (defArgs sLaw) (defBody sLaw) (defScope sLaw) .none kV9 dc9 pm9 an9 cd9 ct9), sl9⟩)
    (c9 : PySem.W.codeIn K cd9 "law" = true) (k9 : PySem.W.keepIn K (.ref f9) = true)
    (z_list : PySem.W.nsIn K mainGlobals "list" = some none)
    (z_len : PySem.W.nsIn K mainGlobals "len" = some none)
    (z_max : PySem.W.nsIn K mainGlobals "max" = some none)
    (z_isinstance : PySem.W.nsIn K mainGlobals "isinstance" = some none)
    (z_tuple : PySem.W.nsIn K mainGlobals "tuple" = some none)
    (z_all : PySem.W.nsIn K mainGlobals "all" = some none)
    (z_zip : PySem.W.nsIn K mainGlobals "zip" = some none)
    (z_bool : PySem.W.nsIn K mainGlobals "bool" = some none)
    (z_int : PySem.W.nsIn K mainGlobals "int" = some none)
    (z_str : PySem.W.nsIn K mainGlobals "str" = some none)
    (z_range : PySem.W.nsIn K mainGlobals "range" = some none)
    : ∃ fd : FuncData, (∀ (s : Shared) (v : Value), BindsTo s fd ⟨[v], []⟩ [("_law_script", v)]) ∧ ∀ base : Heap, K.In base → base.Ns mainGlobals mg → FnOk l.prog w K mg base CX0 4 fa fd ["_law_script"] (spLaw K) := by
  have e := hfa.symm.trans (PySem.W.mg_of X G a9)
  cases e
  have F0 := fun_mk (st := sBox) l0 c0 k0
  have b0 := F0.binds (ps := ["_law_script"]) fun _ _ _ _ _ _ us hl => match us, hl with | [_], _ => rfl
  have g0 := PySem.W.mg_of X G a0
  have F1 := fun_mk (st := sDraw) l1 c1 k1
  have b1 := F1.binds (ps := ["_law_box_here", "_law_many"]) fun _ _ _ _ _ _ us hl => match us, hl with | [_, _], _ => rfl
  have g1 := PySem.W.mg_of X G a1
  have F2 := fun_mk (st := sOf) l2 c2 k2
  have b2 := F2.binds (ps := ["_law_box_here", "_law_some"]) fun _ _ _ _ _ _ us hl => match us, hl with | [_, _], _ => rfl
  have g2 := PySem.W.mg_of X G a2
  have F3 := fun_mk (st := sLike) l3 c3 k3
  have b3 := F3.binds (ps := ["_law_found", "_law_due"]) fun _ _ _ _ _ _ us hl => match us, hl with | [_, _], _ => rfl
  have g3 := PySem.W.mg_of X G a3
  have F4 := fun_mk (st := sDas) l4 c4 k4
  have b4 := F4.binds (ps := ["one", "other"]) fun _ _ _ _ _ _ us hl => match us, hl with | [_, _], _ => rfl
  have g4 := PySem.W.mg_of X G a4
  have F5 := fun_mk (st := sWheel) l5 c5 k5
  have b5 := F5.binds (ps := ["sizes"]) fun _ _ _ _ _ _ us hl => match us, hl with | [_], _ => rfl
  have g5 := PySem.W.mg_of X G a5
  have F6 := fun_mk (st := sMet) l6 c6 k6
  have b6 := F6.binds (ps := ["one", "other"]) fun _ _ _ _ _ _ us hl => match us, hl with | [_, _], _ => rfl
  have g6 := PySem.W.mg_of X G a6
  have F7 := fun_mk (st := sLcm) l7 c7 k7
  have b7 := F7.binds (ps := ["_law_sizes"]) fun _ _ _ _ _ _ us hl => match us, hl with | [_], _ => rfl
  have g7 := PySem.W.mg_of X G a7
  have F8 := fun_mk (st := sShared) l8 c8 k8
  have b8 := F8.binds (ps := ["_law_one", "_law_other"]) fun _ _ _ _ _ _ us hl => match us, hl with | [_, _], _ => rfl
  have g8 := PySem.W.mg_of X G a8
  have F9 := fun_mk (st := sLaw) l9 c9 k9
  have n_list := PySem.W.mg_none_of X G z_list
  have n_len := PySem.W.mg_none_of X G z_len
  have n_max := PySem.W.mg_none_of X G z_max
  have n_isinstance := PySem.W.mg_none_of X G z_isinstance
  have n_tuple := PySem.W.mg_none_of X G z_tuple
  have n_all := PySem.W.mg_none_of X G z_all
  have n_zip := PySem.W.mg_none_of X G z_zip
  have n_bool := PySem.W.mg_none_of X G z_bool
  have n_int := PySem.W.mg_none_of X G z_int
  have n_str := PySem.W.mg_none_of X G z_str
  have n_range := PySem.W.mg_none_of X G z_range
  refine ⟨PySem.W.fnOf "law" "law" (defArgs sLaw) (defBody sLaw) (defScope sLaw) .none kV9 dc9 pm9 an9 cd9 ct9, fun s v => .of_eq rfl, fun base _ _ => ?_⟩
  exact ok_law F9 ⟨F0, b0, F1, b1, F2, b2, F3, b3, F4, b4, F5, b5, F6, b6, F7, b7, F8, b8, g0, g1, g2, g4, g5, g6, g7, g8, ⟨n_isinstance, n_list, n_tuple, n_len, n_all, n_zip, n_bool, n_int, n_str, g3⟩, n_max, n_range⟩
end Dk
open PySem PySem.W PyProof.Rows in
set_option maxRecDepth 100000 in
set_option maxHeartbeats 0 in
theorem PySem.Challenge.cw_darkthread_k08_wheels_and_rests_holds : PySem.Challenge.rw_darkthread_k08_wheels_and_rests.Holds := by
  w_on; o_law; k_head; (case hw => w_witness2)
  k_fill
  refine L2.walk_of (l := PySem.Challenge.rw_darkthread_k08_wheels_and_rests) (n := 63) (k := 4) (x := "_law_script") (CX := fun _ => L2.CX0) (sp := fun w => Dk.spLaw _) rfl (by decide) rfl ⟨rfl, by decide, by decide⟩ (fun w h Y => PySem.W.kIn_of Y) ?F (fun _ _ a ns hl _ hS => ⟨a, ns, rfl, hS, hl, fun _ => rfl⟩) (fun _ _ _ _ _ h => h)
  case F =>
    intro w mg fa h KX G hmg
    refine' Dk.all_mk KX G hmg ?a0 ?l0 ?c0 ?k0 ?a1 ?l1 ?c1 ?k1 ?a2 ?l2 ?c2 ?k2 ?a3 ?l3 ?c3 ?k3 ?a4 ?l4 ?c4 ?k4 ?a5 ?l5 ?c5 ?k5 ?a6 ?l6 ?c6 ?k6 ?a7 ?l7 ?c7 ?k7 ?a8 ?l8 ?c8 ?k8 ?a9 ?l9 ?c9 ?k9 ?z_list ?z_len ?z_max ?z_isinstance ?z_tuple ?z_all ?z_zip ?z_bool ?z_int ?z_str ?z_range
    (case a0 => k_is)
    (case l0 => k_is)
    (case c0 => k_is)
    (case k0 => k_is)
    (case a1 => k_is)
    (case l1 => k_is)
    (case c1 => k_is)
    (case k1 => k_is)
    (case a2 => k_is)
    (case l2 => k_is)
    (case c2 => k_is)
    (case k2 => k_is)
    (case a3 => k_is)
    (case l3 => k_is)
    (case c3 => k_is)
    (case k3 => k_is)
    (case a4 => k_is)
    (case l4 => k_is)
    (case c4 => k_is)
    (case k4 => k_is)
    (case a5 => k_is)
    (case l5 => k_is)
    (case c5 => k_is)
    (case k5 => k_is)
    (case a6 => k_is)
    (case l6 => k_is)
    (case c6 => k_is)
    (case k6 => k_is)
    (case a7 => k_is)
    (case l7 => k_is)
    (case c7 => k_is)
    (case k7 => k_is)
    (case a8 => k_is)
    (case l8 => k_is)
    (case c8 => k_is)
    (case k8 => k_is)
    (case a9 => k_is)
    (case l9 => k_is)
    (case c9 => k_is)
    (case k9 => k_is)
    (case z_list => k_is)
    (case z_len => k_is)
    (case z_max => k_is)
    (case z_isinstance => k_is)
    (case z_tuple => k_is)
    (case z_all => k_is)
    (case z_zip => k_is)
    (case z_bool => k_is)
    (case z_int => k_is)
    (case z_str => k_is)
    (case z_range => k_is)
