import PyProof.Rows.All
import Wide.All
import OpenK.AllK
import Wide.FinOn
import HandS.ForMost
import HandS.Walk
import HandS.IsInst
import HandS.Zip
import HandS.Wide
import HandS.Flow
import HandS.Defaults
import HandS.Style
import PySem.Challenge.RW_darkthread_k07_places_and_rounds_turned
set_option Elab.async false
set_option maxRecDepth 100000
set_option maxHeartbeats 4000000
namespace Dk
open PySem L2
/-! ### cuts: a piece is walked to a middle that the prover names -/
section
variable {X : Cx}
def tMid (t : TS) : TS := fun D s H => ∃ M : L2.St → Hp → Prop, t { D with nx := M } s H ∧ ∀ s' H', M s' H' → D.nx s' H'
theorem ps_mid {st : Stmt} {t : TS} (h : PS X st t) : PS X st (tMid t) := by
  refine ⟨fun pins s σ H D I q => ?_⟩
  obtain ⟨M, q1, q2⟩ := q
  refine thn (h.run pins s σ H { D with nx := M } I q1) fun f s1 z => ?_
  cases f with
  | next =>
    obtain ⟨σ', H', I', m⟩ := z
    exact ⟨σ', H', I', q2 _ _ m⟩
  | ret v => exact z
  | brk => exact z
  | cont => exact z
def eMid (t : TE) : TE := fun s H Q => ∃ M : VK, t s H M ∧ ∀ v H', M v H' → Q v H'
theorem pe_mid {e : Expr} {t : TE} (h : PE X e t) : PE X e (eMid t) := by
  refine ⟨fun pins s σ H Q I q => ?_⟩
  obtain ⟨M, q1, q2⟩ := q
  refine thn (h.run pins s σ H M I q1) fun u s1 z => ?_
  obtain ⟨v, H', I', r, m⟩ := z
  exact ⟨v, H', I', r, q2 _ _ m⟩
end
/-! ### heaps -/
theorem same_new {H : Hp} {p : Addr} {o : HO} (h : H p = none) : Same H (upd H p o) := fun b x e => by
  rw [upd_ne (ne_of_none e h)]
  exact e
theorem upd_id {H : Hp} {p : Addr} {o : HO} (h : H p = some o) : upd H p o = H := by
  funext q
  by_cases e : q = p
  · rw [e, upd_same, h]
  · rw [upd_ne e]
theorem upd_upd {H : Hp} {p : Addr} {o u : HO} : upd (upd H p o) p u = upd H p u := by
  funext q
  by_cases e : q = p
  · rw [e, upd_same, upd_same]
  · rw [upd_ne e, upd_ne e, upd_ne e]
/-- all but b is as it was -/
def Sav (b : Addr) (H H' : Hp) : Prop := ∀ q o, q ≠ b → H q = some o → H' q = some o
theorem Sav.refl (b : Addr) (H : Hp) : Sav b H H := fun _ _ _ h => h
theorem Sav.trans {b : Addr} {H H1 H2 : Hp} (x : Sav b H H1) (y : Sav b H1 H2) : Sav b H H2 := fun q o n h => y q o n (x q o n h)
theorem Sav.of {b : Addr} {H H1 : Hp} (x : Same H H1) : Sav b H H1 := fun q o _ h => x q o h
theorem Sav.upd {b : Addr} {H : Hp} {o : HO} : Sav b H (upd H b o) := fun q x n h => by
  rw [upd_ne n]
  exact h
/-! ### the box of draws -/
def bxv (l : Addr) (i c s t : Int) : List V := [.ref l, .int i, .int c, .int s, .int t]
def Box (H : Hp) (b l : Addr) : Prop := ∃ (ns : List Int) (i c s t : Int),
  H b = some (.lst (bxv l i c s t)) ∧ H l = some (.lst (ns.map V.int)) ∧ 0 ≤ i ∧ 0 ≤ c ∧ 0 ≤ s ∧ s < 2147483629
theorem Box.ne {H : Hp} {b l : Addr} {ns : List Int} {i c s t : Int} (h1 : H b = some (.lst (bxv l i c s t))) (h2 : H l = some (.lst (ns.map V.int))) : l ≠ b := ne_of h2 h1 (by
  intro z
  cases ns with
  | nil => cases z
  | cons x r => cases z)
theorem Box.same {H H' : Hp} {b l : Addr} (h : Box H b l) (s : Same H H') : Box H' b l := by
  obtain ⟨ns, i, c, s0, t, h1, h2, r⟩ := h
  exact ⟨ns, i, c, s0, t, s _ _ h1, s _ _ h2, r⟩
theorem Box.new {H : Hp} {b l p : Addr} {o : HO} (h : Box H b l) (n : H p = none) : Box (upd H p o) b l := h.same (same_new n)
theorem Box.b1 {H : Hp} {b l p : Addr} (h : Box H b l) (n : H p = none) : p ≠ b := by
  obtain ⟨ns, i, c, s0, t, h1, h2, r⟩ := h
  exact (ne_of_none h1 n).symm
theorem Box.l1 {H : Hp} {b l p : Addr} (h : Box H b l) (n : H p = none) : p ≠ l := by
  obtain ⟨ns, i, c, s0, t, h1, h2, r⟩ := h
  exact (ne_of_none h2 n).symm
theorem Box.put {H : Hp} {b l p : Addr} {o : HO} (h : Box H b l) (n1 : p ≠ b) (n2 : p ≠ l) : Box (upd H p o) b l := by
  obtain ⟨ns, i, c, s0, t, h1, h2, r⟩ := h
  exact ⟨ns, i, c, s0, t, by rw [upd_ne n1.symm]; exact h1, by rw [upd_ne n2.symm]; exact h2, r⟩
/-- a draw below m: some number, the box turned on -/
def spDraw : Sp := fun vs H Q _ => ∃ (b l : Addr) (m : Int), vs = [.ref b, .int m] ∧ Box H b l ∧ 0 < m ∧ m.natAbs < 2 ^ 100 ∧
  ∀ (r : Int) (H' : Hp), 0 ≤ r → r < m → Sav b H H' → Box H' b l → Q (.int r) H'
end Dk
namespace Dk
open PySem L2
/-- a new box out of the script -/
def spBox (K : PySem.W.Frag) : Sp := fun vs H Q _ => ∃ (a : Addr) (ns : List Int), vs = [.ref a] ∧ SqL K H a (ns.map V.int) ∧
  ∀ (H' : Hp) (b l : Addr), Same H H' → H b = none → H l = none → Box H' b l → Q (.ref b) H'
/-- one of some -/
def spOf : Sp := fun vs H Q _ => ∃ (b l : Addr) (v : V), vs = [.ref b, v] ∧ Box H b l ∧
  ((∃ (p : Addr) (xs : List V), v = .ref p ∧ p ≠ b ∧ H p = some (.lst xs) ∧ 0 < xs.length ∧ xs.length ≤ 1000 ∧ ∀ (x : V) (H' : Hp), x ∈ xs → Sav b H H' → Box H' b l → Q x H') ∨
   (∃ z : Str, v = .str z ∧ 0 < z.length ∧ z.length ≤ 1000 ∧ ∀ (c : Nat) (H' : Hp), c ∈ z.cps.toList → Sav b H H' → Box H' b l → Q (.str ⟨#[c]⟩) H'))
theorem cut_ints (ns : List Int) (a b : Option Int) : ∃ ms : List Int, cutV (ns.map V.int) a b = ms.map V.int := by
  refine ⟨(ns.drop (HT.sIx (ns.map V.int).length 0 a)).take (HT.sIx (ns.map V.int).length (ns.map V.int).length b - HT.sIx (ns.map V.int).length 0 a), ?_⟩
  unfold cutV
  rw [List.map_take, List.map_drop]
theorem at_some {α : Type} {xs : List α} {r : Int} (h0 : 0 ≤ r) (h1 : r < (xs.length : Int)) : ∃ x, x ∈ xs ∧ atI xs r = some x := by
  have e : ((r.toNat : Nat) : Int) = r := Int.toNat_of_nonneg h0
  have hl : r.toNat < xs.length := by omega
  refine ⟨xs[r.toNat], List.getElem_mem hl, ?_⟩
  have z := atI_nat (List.getElem?_eq_getElem hl)
  rw [e] at z
  exact z
theorem small {n : Nat} (h : n ≤ 1000) : ((n : Nat) : Int).natAbs < 2 ^ 100 := by
  have e : ((n : Nat) : Int).natAbs = n := rfl
  rw [e]
  exact Nat.lt_of_le_of_lt h (by decide)
end Dk
namespace Dk
open PySem L2
/-- two values of the same plain data, n deep at most -/
def Lk : Nat → Hp → V → V → Prop
  | 0, _, _, _ => False
  | n + 1, H, v, u => (v = u ∧ flatV v = true) ∨ ∃ (a b : Addr) (xs ys : List V), v = .ref a ∧ u = .ref b ∧ xs.length = ys.length ∧ xs.length ≤ 1000 ∧
      (H a = some (.lst xs) ∧ H b = some (.lst ys) ∨ H a = some (.tup xs) ∧ H b = some (.tup ys)) ∧ ∀ (i : Nat) (x y : V), xs[i]? = some x → ys[i]? = some y → Lk n H x y
theorem Lk.same : ∀ {n : Nat} {H H' : Hp} {v u : V}, Same H H' → Lk n H v u → Lk n H' v u
  | 0, _, _, _, _, _, h => h
  | n + 1, H, H', v, u, s, h => by
    rcases h with h | ⟨a, b, xs, ys, e1, e2, e3, e4, e5, e6⟩
    · exact .inl h
    · refine .inr ⟨a, b, xs, ys, e1, e2, e3, e4, ?_, fun i x y h1 h2 => (e6 i x y h1 h2).same s⟩
      rcases e5 with ⟨x, y⟩ | ⟨x, y⟩
      · exact .inl ⟨s _ _ x, s _ _ y⟩
      · exact .inr ⟨s _ _ x, s _ _ y⟩
def spLike (n : Nat) : Sp := fun vs H Q _ => ∃ v u : V, vs = [v, u] ∧ Lk n H v u ∧ ∀ H', Same H H' → Q (.bl true) H'
theorem walk_zipT {K : PySem.W.Frag} {a b : Addr} {xs ys : List V} {n : Nat} (hn : n = min xs.length ys.length) : Walk (RZ.ItzT K a b) n (fun H => SqT K H a xs ∧ SqT K H b ys) (YPair (fun i => xs[i]?) (fun i => ys[i]?)) := by
  subst hn
  refine ⟨fun i H hi g => ?_, fun H g => ⟨xs, ys, g.1, g.2, by omega⟩, fun i H v H' _ g y => ?_⟩
  · have h1 : i < xs.length := by omega
    have h2 : i < ys.length := by omega
    exact ⟨xs, ys, _, _, g.1, g.2, List.getElem?_eq_getElem h1, List.getElem?_eq_getElem h2⟩
  · obtain ⟨T, x, z, h1, h2, h3, h4, h5⟩ := y
    exact ⟨T, x, z, h1, h2, h3, h4 _ g.1, h5 _ g.2⟩
theorem all_true (n : Nat) : (List.replicate n true).all id = true := by
  induction n with
  | zero => rfl
  | succ n ih =>
    rw [List.replicate_succ, List.all_cons, ih]
    rfl
end Dk
namespace Dk
open PySem L2
/-! ### names -/
def abc : Str := Str.ofString "abcdefghijklmnopqrstuvwxyz"
def isNm (z : Str) : Bool := decide (1 ≤ z.length ∧ z.length ≤ 8) && z.cps.toList.all fun c => decide (c ∈ abc.cps.toList)
def spName : Sp := fun vs H Q _ => ∃ z : Str, vs = [.str z] ∧ z.length ≤ 1000 ∧ ∀ H', Same H H' → Q (.bl (isNm z)) H'
theorem len_str (z : Str) : z.cps.toList.length = z.length := by simp [Str.length]
/-- the list that the comprehension over the signs leaves -/
def inAbc (z : Str) (i : Nat) : List Bool := (z.cps.toList.take i).map fun c => decide (c ∈ abc.cps.toList)
theorem inAbc_succ {z : Str} {i c : Nat} (h : z.cps[i]? = some c) : inAbc z (i + 1) = inAbc z i ++ [decide (c ∈ abc.cps.toList)] := by
  have e : z.cps.toList[i]? = some c := by
    rw [Array.getElem?_toList]
    exact h
  unfold inAbc
  rw [List.take_add_one, e, List.map_append]
  rfl
theorem inAbc_all (z : Str) : (inAbc z z.cps.size).all id = z.cps.toList.all fun c => decide (c ∈ abc.cps.toList) := by
  unfold inAbc
  rw [List.take_of_length_le (by simp), List.all_map]
  rfl
theorem inAbc_len {z : Str} {i : Nat} (h : z.length ≤ 1000) : ((inAbc z i).map V.bl).length < sizeLine := by
  unfold inAbc
  rw [List.length_map, List.length_map, List.length_take, len_str]
  exact small1000 (by omega)
theorem nm_in {z : Str} {b : Bool} (h : decide (1 ≤ z.length ∧ z.length ≤ 8) = b) : isNm z = (b && z.cps.toList.all fun c => decide (c ∈ abc.cps.toList)) := by
  unfold isNm
  rw [h]
/-- joined texts are no longer than their parts together -/
theorem join_len (sep : Str) : ∀ ys : List Str, (Str.join sep ys).length ≤ (ys.map (·.length)).sum + ys.length * sep.length
  | [] => Nat.zero_le _
  | [x] => by
    show x.length ≤ _
    simp
  | x :: y :: r => by
    have ih := join_len sep (y :: r)
    show (x ++ sep ++ Str.join sep (y :: r)).length ≤ _
    rw [Str.length_append, Str.length_append]
    simp only [List.map_cons, List.sum_cons, List.length_cons] at ih ⊢
    rw [Nat.add_mul (r.length + 1) 1, Nat.one_mul]
    omega
end Dk
namespace Dk
open PySem L2
/-! ### a text taken none or one time -/
section
variable {X : Cx}
theorem op_mul01 : OpR X (binaryOp .Mult) (fun x y H Q => ∃ (z : Str) (k : Int), x = .str z ∧ y = .int k ∧ (k = 0 ∨ k = 1) ∧ Q (.str (if k = 1 then z else Str.empty)) H) := by
  intro pins s σ H x y v u Q I rx ry h
  obtain ⟨z, k, rfl, rfl, hk, q⟩ := h
  obtain ⟨t, rfl⟩ := rx
  obtain ⟨t', rfl⟩ := ry
  rcases hk with rfl | rfl
  · exact PySem.P.mul_str_none (by decide) (by decide) ⟨.str Str.empty, H, I.tok _, ⟨_, rfl⟩, q⟩
  · exact PySem.P.mul_str rfl (fun _ e => by cases e) (fun _ e => by cases e) ⟨.str z, H, I, ⟨_, rfl⟩, q⟩
end
/-! ### drawn names -/
def sgn (a c : Int) (k : Nat) : Str := ⟨#[97 + ((a + c * k) % 26).toNat]⟩
def nmAt (a c : Int) (t : Str) (p : Int) (k : Nat) : Str :=
  if p = 0 then sgn a c k ++ t else if p = 1 then t ++ sgn a c k else sgn a c k ++ (if ((k : Int) % 2) = 1 then t else Str.empty)
def nms (a c : Int) (t : Str) (p : Int) (n : Nat) : List Str := (List.range n).map (nmAt a c t p)
theorem nms_succ (a c : Int) (t : Str) (p : Int) (n : Nat) : nms a c t p (n + 1) = nms a c t p n ++ [nmAt a c t p n] := by
  unfold nms
  rw [List.range_succ, List.map_append]
  rfl
theorem nms_len (a c : Int) (t : Str) (p : Int) (n : Nat) : (nms a c t p n).length = n := by
  unfold nms
  rw [List.length_map, List.length_range]
theorem abc_at : ∀ i : Nat, i < 26 → abc.cps.toList[i]? = some (97 + i) := by decide +kernel
theorem abc_mem {i : Nat} (h : i < 26) : 97 + i ∈ abc.cps.toList := List.mem_of_getElem? (abc_at i h)
theorem mod26 (x : Int) : (x % 26).toNat < 26 ∧ (((x % 26).toNat : Nat) : Int) = x % 26 := by
  have h1 : 0 ≤ x % 26 := Int.emod_nonneg _ (by decide)
  have h2 : x % 26 < 26 := Int.emod_lt_of_pos _ (by decide)
  omega
theorem isNm_of {z : Str} (h1 : 1 ≤ z.length) (h2 : z.length ≤ 8) (h3 : ∀ c ∈ z.cps.toList, c ∈ abc.cps.toList) : isNm z = true := by
  unfold isNm
  rw [decide_eq_true ⟨h1, h2⟩, Bool.true_and, List.all_eq_true]
  exact fun c hc => decide_eq_true (h3 c hc)
theorem cps_app (a b : Str) : (a ++ b).cps.toList = a.cps.toList ++ b.cps.toList := by
  rw [Str.cps_append, Array.toList_append]
/-- a drawn tail: at most seven small letters -/
def Tail (t : Str) : Prop := t.length ≤ 7 ∧ ∀ c ∈ t.cps.toList, c ∈ abc.cps.toList
theorem tail_empty : Tail Str.empty := ⟨by decide, fun c hc => by cases hc⟩
theorem sgn_in (a c : Int) (k : Nat) : ∀ d ∈ (sgn a c k).cps.toList, d ∈ abc.cps.toList := by
  intro d hd
  have e : d = 97 + ((a + c * k) % 26).toNat := List.mem_singleton.mp hd
  rw [e]
  exact abc_mem (mod26 _).1
theorem nm_cat {x y : Str} (h : x.length + y.length ≤ 8) (h0 : 1 ≤ x.length + y.length) (hx : ∀ c ∈ x.cps.toList, c ∈ abc.cps.toList) (hy : ∀ c ∈ y.cps.toList, c ∈ abc.cps.toList) : isNm (x ++ y) = true := by
  refine isNm_of (by rw [Str.length_append]; exact h0) (by rw [Str.length_append]; exact h) ?_
  intro c hc
  rw [cps_app] at hc
  rcases List.mem_append.mp hc with h | h
  · exact hx c h
  · exact hy c h
theorem sgn_len (a c : Int) (k : Nat) : (sgn a c k).length = 1 := rfl
theorem nmAt_name {a c : Int} {t : Str} {p : Int} (k : Nat) (ht : Tail t) : isNm (nmAt a c t p k) = true := by
  obtain ⟨h1, h2⟩ := ht
  unfold nmAt
  split
  · exact nm_cat (by rw [sgn_len]; omega) (by rw [sgn_len]; omega) (sgn_in a c k) h2
  · split
    · exact nm_cat (by rw [sgn_len]; omega) (by rw [sgn_len]; omega) h2 (sgn_in a c k)
    · split
      · exact nm_cat (by rw [sgn_len]; omega) (by rw [sgn_len]; omega) (sgn_in a c k) h2
      · exact nm_cat (by rw [sgn_len]; show 1 + 0 ≤ 8; decide) (by rw [sgn_len]; show 1 ≤ 1 + 0; decide) (sgn_in a c k) (fun c hc => by cases hc)
theorem step_inj {a c : Int} (hc : c = 1 ∨ c = 3 ∨ c = 5 ∨ c = 7 ∨ c = 9 ∨ c = 11) {j k : Nat} (hj : j < 26) (hk : k < 26) (h : ((a + c * j) % 26).toNat = ((a + c * k) % 26).toNat) : j = k := by
  have h1 := (mod26 (a + c * j)).2
  have h2 := (mod26 (a + c * k)).2
  rcases hc with rfl | rfl | rfl | rfl | rfl | rfl <;> omega
theorem nmAt_inj {a c : Int} {t : Str} {p : Int} (hc : c = 1 ∨ c = 3 ∨ c = 5 ∨ c = 7 ∨ c = 9 ∨ c = 11) {j k : Nat} (hj : j < 26) (hk : k < 26) (h : nmAt a c t p j = nmAt a c t p k) : j = k := by
  have h' : (nmAt a c t p j).cps.toList = (nmAt a c t p k).cps.toList := by rw [h]
  unfold nmAt at h'
  refine step_inj hc hj hk (a := a) ?_
  have key : ∀ {x y : Nat} {r s : List Nat}, x :: r = y :: s → x = y := fun e => (List.cons.inj e).1
  by_cases p0 : p = 0
  · rw [if_pos p0, if_pos p0, cps_app, cps_app] at h'
    have := key h'
    omega
  · rw [if_neg p0, if_neg p0] at h'
    by_cases p1 : p = 1
    · rw [if_pos p1, if_pos p1, cps_app, cps_app] at h'
      have e := List.append_cancel_left h'
      have := key e
      omega
    · rw [if_neg p1, if_neg p1, cps_app, cps_app] at h'
      have := key h'
      omega
theorem nms_nodup {a c : Int} {t : Str} {p : Int} (hc : c = 1 ∨ c = 3 ∨ c = 5 ∨ c = 7 ∨ c = 9 ∨ c = 11) : ∀ {n : Nat}, n ≤ 26 → (nms a c t p n).Nodup
  | 0, _ => List.nodup_nil
  | n + 1, hn => by
    rw [nms_succ, List.nodup_append]
    refine ⟨nms_nodup hc (by omega), by simp, fun x hx y hy e => ?_⟩
    rw [List.mem_singleton.mp hy] at e
    unfold nms at hx
    obtain ⟨k, hk, rfl⟩ := List.mem_map.mp hx
    have h1 := List.mem_range.mp hk
    have h2 := nmAt_inj hc (by omega) (by omega) e
    omega
theorem nms_all {a c : Int} {t : Str} {p : Int} (ht : Tail t) (n : Nat) : ∀ z ∈ nms a c t p n, isNm z = true := by
  intro z hz
  unfold nms at hz
  obtain ⟨k, _, rfl⟩ := List.mem_map.mp hz
  exact nmAt_name k ht
theorem sgn_at (a c : Int) (i : Nat) : atI abc.cps.toList ((a + c * (0 + (i : Int))) % 26) = some (97 + ((a + c * i) % 26).toNat) := by
  obtain ⟨h1, h2⟩ := mod26 (a + c * i)
  have z := atI_nat (abc_at _ h1)
  rw [h2] at z
  rw [Int.zero_add]
  exact z
theorem pick3 {a c : Int} {t : Str} {p : Int} {i : Nat} (h0 : 0 ≤ p) (h1 : p < 3) : atI [V.str (sgn a c i ++ t), V.str (t ++ sgn a c i), V.str (sgn a c i ++ (if ((0 + (i : Int)) % 2) = 1 then t else Str.empty))] p = some (V.str (nmAt a c t p i)) := by
  rw [Int.zero_add]
  have e : p = 0 ∨ p = 1 ∨ p = 2 := by omega
  rcases e with rfl | rfl | rfl <;> rfl
theorem Sav.free {b : Addr} {H H' : Hp} (s : Sav b H H') {g : Addr} (n : g ≠ b) (h : H' g = none) : H g = none := by
  cases e : H g with
  | none => rfl
  | some z =>
    rw [s g z n e] at h
    cases h
theorem tail_len {t : Str} {a c : Int} {i : Nat} (h : Tail t) : (sgn a c i).length + t.length ≤ sizeLine ∧ t.length + (sgn a c i).length ≤ sizeLine := by
  have h1 := h.1
  rw [sgn_len]
  have h2 : 8 ≤ sizeLine := by decide
  omega
/-- a list of m unlike names -/
def Names (zs : List Str) : Prop := zs.Nodup ∧ ∀ z ∈ zs, isNm z = true
def spNames : Sp := fun vs H Q _ => ∃ (b l : Addr) (m : Int), vs = [.ref b, .int m] ∧ Box H b l ∧ 0 ≤ m ∧ m ≤ 26 ∧
  ∀ (H' : Hp) (p : Addr) (zs : List Str), Sav b H H' → Box H' b l → H p = none → H' p = some (.lst (zs.map V.str)) → zs.length = m.toNat → Names zs → Q (.ref p) H'
end Dk
namespace Dk
open PySem L2
theorem Same.tup {K : PySem.W.Frag} {H H' : Hp} {a : Addr} {xs : List V} (e : Same H H') (h : SqT K H a xs) : SqT K H' a xs := by
  rcases h with (h | ⟨o, h⟩) | h
  · exact .inl (.inl (e _ _ h))
  · exact .inl (.inr ⟨o, e _ _ h⟩)
  · exact .inr h
/-- a list or a tuple -/
def Sq (K : PySem.W.Frag) (H : Hp) (a : Addr) (xs : List V) : Prop := SqL K H a xs ∨ SqT K H a xs
theorem Sq.same {K : PySem.W.Frag} {H H' : Hp} {a : Addr} {xs : List V} (h : Sq K H a xs) (e : Same H H') : Sq K H' a xs := by
  rcases h with h | h
  · exact .inl (e.seq h)
  · exact .inr (Same.tup e h)
/-! ### places -/
def plc (xs : List V) (n : Int) : V := xs.getD (n % (xs.length : Int)).toNat .non
def trn (xs : List V) : List V := (List.range xs.length).map fun (i : Nat) => plc xs (-(i : Int))
theorem modlen {n : Nat} (h : 0 < n) (x : Int) : (x % (n : Int)).toNat < n ∧ (((x % (n : Int)).toNat : Nat) : Int) = x % (n : Int) := by
  have h1 : 0 ≤ x % (n : Int) := Int.emod_nonneg _ (by omega)
  have h2 : x % (n : Int) < n := Int.emod_lt_of_pos _ (by omega)
  omega
theorem plc_at {xs : List V} (h : 0 < xs.length) (n : Int) : atI xs (n % (xs.length : Int)) = some (plc xs n) := by
  obtain ⟨h1, h2⟩ := modlen h n
  have e : xs[(n % (xs.length : Int)).toNat]? = some (plc xs n) := by
    unfold plc
    rw [List.getD_eq_getElem?_getD, List.getElem?_eq_getElem h1]
    rfl
  have z := atI_nat e
  rw [h2] at z
  exact z
theorem plc_mem {xs : List V} (h : 0 < xs.length) (n : Int) : plc xs n ∈ xs := by
  obtain ⟨h1, _⟩ := modlen h n
  unfold plc
  rw [List.getD_eq_getElem?_getD, List.getElem?_eq_getElem h1]
  exact List.getElem_mem h1
theorem trn_len (xs : List V) : (trn xs).length = xs.length := by
  unfold trn
  rw [List.length_map, List.length_range]
theorem trn_get {xs : List V} {i : Nat} (h : i < xs.length) : (trn xs)[i]? = some (plc xs (-(i : Int))) := by
  unfold trn
  rw [List.getElem?_map, List.getElem?_range h]
  rfl
theorem neg_neg_mod (b n : Int) : (-((-b) % n)) % n = b % n := by
  have h := Int.emod_add_mul_ediv (-b) n
  have e : -((-b) % n) = b + n * ((-b) / n) := by omega
  rw [e, Int.add_mul_emod_self_left]
theorem plc_trn {xs : List V} (h : 0 < xs.length) (b : Int) : plc (trn xs) (-b) = plc xs b := by
  obtain ⟨h1, h2⟩ := modlen h (-b)
  have e1 : plc (trn xs) (-b) = plc xs (-(((-b) % (xs.length : Int)).toNat : Int)) := by
    show (trn xs).getD ((-b) % ((trn xs).length : Int)).toNat .non = _
    rw [trn_len, List.getD_eq_getElem?_getD, trn_get h1]
    rfl
  rw [e1, h2]
  show xs.getD ((-((-b) % (xs.length : Int))) % (xs.length : Int)).toNat .non = xs.getD (b % (xs.length : Int)).toNat .non
  rw [neg_neg_mod]
theorem trn_cons (x : V) (r : List V) : trn (x :: r) = x :: r.reverse := by
  refine List.ext_getElem? fun i => ?_
  by_cases hi : i < (x :: r).length
  · rw [trn_get hi]
    cases i with
    | zero => rfl
    | succ j =>
      have hj : j < r.length := by simpa using hi
      have e : (-(((j + 1 : Nat)) : Int)) % (((x :: r).length : Nat) : Int) = ((r.length - j : Nat) : Int) := by
        have e2 : (-(((j + 1 : Nat)) : Int)) = ((r.length - j : Nat) : Int) + (((x :: r).length : Nat) : Int) * (-1) := by
          rw [List.length_cons]
          omega
        rw [e2, Int.add_mul_emod_self_left, Int.emod_eq_of_lt (by omega) (by rw [List.length_cons]; omega)]
      show some ((x :: r).getD ((-(((j + 1 : Nat)) : Int)) % (((x :: r).length : Nat) : Int)).toNat .non) = (x :: r.reverse)[j + 1]?
      rw [e, Int.toNat_natCast, List.getElem?_cons_succ, List.getElem?_reverse hj, List.getD_eq_getElem?_getD]
      have e3 : r.length - j = (r.length - 1 - j) + 1 := by omega
      rw [e3, List.getElem?_cons_succ, List.getElem?_eq_getElem (by omega)]
      rfl
  · rw [List.getElem?_eq_none (by rw [trn_len]; omega), List.getElem?_eq_none (by simp at hi ⊢; omega)]
theorem trn_trn : ∀ {xs : List V}, 0 < xs.length → trn (trn xs) = xs
  | [], h => by cases h
  | x :: r, _ => by rw [trn_cons, trn_cons, List.reverse_reverse]
/-! ### plain lists, equal ones -/
theorem Lk.flat {n : Nat} {H : Hp} {v : V} (h : flatV v = true) : Lk (n + 1) H v v := .inl ⟨rfl, h⟩
theorem Lk.lst {n : Nat} {H : Hp} {a b : Addr} {xs : List V} (ha : H a = some (.lst xs)) (hb : H b = some (.lst xs)) (hl : xs.length ≤ 1000) (hf : ∀ x ∈ xs, flatV x = true) : Lk (n + 2) H (.ref a) (.ref b) := by
  refine .inr ⟨a, b, xs, xs, rfl, rfl, rfl, hl, .inl ⟨ha, hb⟩, fun i x y hx hy => ?_⟩
  have e : x = y := Option.some.inj (hx.symm.trans hy)
  rw [← e]
  exact Lk.flat (hf x (List.mem_of_getElem? hx))
theorem Lk.tup {n : Nat} {H : Hp} {a b : Addr} {xs : List V} (ha : H a = some (.tup xs)) (hb : H b = some (.tup xs)) (hl : xs.length ≤ 1000) (hf : ∀ x ∈ xs, flatV x = true) : Lk (n + 2) H (.ref a) (.ref b) := by
  refine .inr ⟨a, b, xs, xs, rfl, rfl, rfl, hl, .inr ⟨ha, hb⟩, fun i x y hx hy => ?_⟩
  have e : x = y := Option.some.inj (hx.symm.trans hy)
  rw [← e]
  exact Lk.flat (hf x (List.mem_of_getElem? hx))
theorem flat_strs {zs : List Str} : ∀ x ∈ zs.map V.str, flatV x = true := by
  intro x hx
  obtain ⟨z, _, rfl⟩ := List.mem_map.mp hx
  rfl
theorem str_of {zs : List Str} {x : V} (h : x ∈ zs.map V.str) : ∃ z, z ∈ zs ∧ x = V.str z := by
  obtain ⟨z, hz, rfl⟩ := List.mem_map.mp h
  exact ⟨z, hz, rfl⟩
theorem dp_strs {K : PySem.W.Frag} {H : Hp} : ∀ zs : List Str, DpAll K H (zs.map V.str) (zs.map PyData.str)
  | [] => .nil
  | z :: r => .cons (.str z) (dp_strs r)
theorem nm_ok {z : Str} (h : isNm z = true) : PyData.strOk z = true := by
  unfold isNm at h
  rw [Bool.and_eq_true] at h
  have h2 := List.all_eq_true.mp h.2
  have key : ∀ c ∈ abc.cps.toList, 97 ≤ c ∧ c < 123 := by decide +kernel
  unfold PyData.strOk
  rw [Array.all_eq_true']
  intro c hc
  have h3 := key c (of_decide_eq_true (h2 c (Array.mem_toList_iff.mpr hc)))
  exact decide_eq_true (by omega)
theorem lay_strs : ∀ {zs : List Str}, (∀ z ∈ zs, PyData.strOk z = true) → PyData.canLayAll0 (zs.map PyData.str) = true ∧ PyData.depthAll (zs.map PyData.str) = 0
  | [], _ => ⟨rfl, rfl⟩
  | z :: r, h => by
    obtain ⟨h1, h2⟩ := lay_strs (zs := r) fun y hy => h y (List.mem_cons_of_mem _ hy)
    have h0 := h z List.mem_cons_self
    constructor
    · show (PyData.strOk z && PyData.canLayAll0 (r.map PyData.str)) = true
      rw [h0, h1]
      rfl
    · show max 0 (PyData.depthAll (r.map PyData.str)) = 0
      rw [h2]
      rfl
theorem shaped_strs {zs : List Str} (h : ∀ z ∈ zs, PyData.strOk z = true) : SeqAt.shaped (.tuple (zs.map PyData.str)) = true := by
  obtain ⟨h1, h2⟩ := lay_strs h
  unfold SeqAt.shaped
  have e1 : (PyData.tuple (zs.map PyData.str)).canLay0 = true := h1
  have e2 : (PyData.tuple (zs.map PyData.str)).depth = 1 := by
    show PyData.depthAll (zs.map PyData.str) + 1 = 1
    rw [h2]
  rw [e1, e2]
  rfl
end Dk
namespace Dk
open PySem L2
theorem cut_strs (zs : List Str) (a b : Option Int) : ∃ ms : List Str, cutV (zs.map V.str) a b = ms.map V.str ∧ (∀ m ∈ ms, m ∈ zs) ∧ ms.length ≤ zs.length := by
  refine ⟨(zs.drop (HT.sIx (zs.map V.str).length 0 a)).take (HT.sIx (zs.map V.str).length (zs.map V.str).length b - HT.sIx (zs.map V.str).length 0 a), ?_, ?_, ?_⟩
  · unfold cutV
    rw [List.map_take, List.map_drop]
  · intro m hm
    exact List.mem_of_mem_drop (List.mem_of_mem_take hm)
  · rw [List.length_take, List.length_drop]
    omega
theorem cut_tail (x : V) (r : List V) : cutV (x :: r) (some 1) none = r := by
  unfold cutV
  have h1 : HT.sIx (x :: r).length 0 (some 1) = 1 := by
    rw [show HT.sIx (x :: r).length 0 (some 1) = min 1 (x :: r).length from HT.sIx_nat (x :: r).length 0 1, List.length_cons]
    omega
  rw [h1, HT.sIx_none, List.length_cons]
  show r.take (r.length + 1 - 1) = r
  rw [Nat.add_sub_cancel, List.take_length]
theorem same2 {H : Hp} {p q : Addr} {o u : HO} (n1 : H p = none) (n2 : upd H p o q = none) : Same H (upd (upd H p o) q u) := (same_new n1).trans (same_new n2)
end Dk
namespace Dk
open PySem L2
theorem sign_of {x : V} (h : x ∈ [V.int (-1), V.int 1]) : ∃ i : Int, x = .int i ∧ (i = -1 ∨ i = 1) := by
  rcases List.mem_cons.mp h with rfl | h
  · exact ⟨_, rfl, .inl rfl⟩
  · rw [List.mem_singleton.mp h]
    exact ⟨_, rfl, .inr rfl⟩
theorem int_of {x : V} {m n : Int} (h : x ∈ [V.int m, V.int n]) : ∃ i : Int, x = .int i := by
  rcases List.mem_cons.mp h with rfl | h
  · exact ⟨_, rfl⟩
  · rw [List.mem_singleton.mp h]
    exact ⟨_, rfl⟩
end Dk
namespace Dk
open PySem L2
def top (i : Nat) : Stmt := PySem.Challenge.pw_darkthread_k07_places_and_rounds_turned.main.body.getD i (.Pass ⟨0, 0, 0, 0⟩)
abbrev sPlace : Stmt := top 1
abbrev sTurned : Stmt := top 2
abbrev sBox : Stmt := top 4
abbrev sDraw : Stmt := top 5
abbrev sOf : Stmt := top 6
abbrev sNames : Stmt := top 7
abbrev sLike : Stmt := top 8
abbrev sLaw : Stmt := top 9
end Dk
namespace Dk
open PySem L2
section
variable {P : Program} {w : World} {K : PySem.W.Frag} {mg : Str → Option Value} {base : Heap}
theorem scDraw : FnScope ["_law_box_here", "_law_many", "_law_cell", "_law_got"] ["_law_box_here", "_law_many"] (defScope sDraw) := ⟨rfl, rfl, rfl, by decide +kernel, rfl, by decide +kernel, by decide +kernel⟩
theorem ok_draw {f : Addr} {fd : FuncData} (F : Fun K "_law_draw" "_law_draw" sDraw f fd) (ml : mg "len" = none) (mx : mg "max" = none) : FnOk P w K mg base CX0 1 f fd ["_law_box_here", "_law_many"] spDraw := by
  refine F.ok scDraw (fun vs H Q E h => ?_) (fun cdv A outer s H vs Q E hr h => ?_)
  · obtain ⟨b, l, m, rfl, _⟩ := h
    rfl
  · obtain ⟨b, l, m, rfl, ⟨ns, i, c, s0, t, hb, hl, hi, hc, hs0, hs1⟩, hm, hm2, k⟩ := h
    refine ⟨_, pss_cons (ps_mid (ps_if (PW.pt (pw_and (pt_cmpR op_lt (pe_ix ix_list (pv 0) pe_int (fun _ _ => rfl)) pe_int (nomark _))
          (pw_and1 (pt_cmpR op_lt (pe_ix ix_list (pv 0) pe_int (fun _ _ => rfl)) (pe_callB call_len_seq (by rfl) ml PySem.boot_len (pa_cons (pe_ix ix_list (pv 0) pe_int (fun _ _ => rfl)) pa_nil)) (nomark _)))))
        (pss_cons (ps_set (i := 2) scDraw.nd rfl (Or.inl rfl) (pe_ix ix_list (pe_ix ix_list (pv 0) pe_int (fun _ _ => rfl)) (pe_ix ix_list (pv 0) pe_int (fun _ _ => rfl)) (fun _ _ => rfl)))
        (pss_cons (ps_asg (pe_op op_add (pe_ix ix_list (pv 0) pe_int (fun _ _ => rfl)) pe_int) (pg_sub (pv 0) pe_int set_list))
        (pss_cons (ps_asg (pe_callB (call_max2 rfl) (by rfl) mx (by decide +kernel) (pa_cons pe_int (pa_cons (pe_op op_sub (pv 2) (pe_op op_pow pe_int pe_int)) pa_nil))) (pg_sub (pv 0) pe_int set_list))
        (pss_one (ps_asg (pe_op op_mod (pe_op op_add (pe_op op_add (pe_op op_mul (pe_ix ix_list (pv 0) pe_int (fun _ _ => rfl)) pe_int) (pe_op op_mul (pe_op op_mod (pv 2) pe_int) pe_int)) pe_int) pe_int) (pg_sub (pv 0) pe_int set_list))))))
        pss_nil))
      (pss_cons (ps_if (pt_cmpR op_gt (pe_ix ix_list (pv 0) pe_int (fun _ _ => rfl)) pe_int (nomark _))
        (pss_cons (ps_set (i := 3) scDraw.nd rfl (Or.inl rfl) (pe_op op_mod (pe_ix ix_list (pv 0) pe_int (fun _ _ => rfl)) (pv 1)))
        (pss_cons (ps_asg (pe_op op_fdivW (pe_ix ix_list (pv 0) pe_int (fun _ _ => rfl)) (pv 1)) (pg_sub (pv 0) pe_int set_list))
        (pss_one (ps_ret (pv 3)))))
        pss_nil)
      (pss_cons (ps_asg (pe_op op_add (pe_ix ix_list (pv 0) pe_int (fun _ _ => rfl)) pe_int) (pg_sub (pv 0) pe_int set_list))
      (pss_cons (ps_asg (pe_op op_mod (pe_op op_add (pe_op op_add (pe_op op_pow (pe_ix ix_list (pv 0) pe_int (fun _ _ => rfl)) pe_int) (pe_op op_mul pe_int (pe_ix ix_list (pv 0) pe_int (fun _ _ => rfl)))) pe_int) pe_int) (pg_sub (pv 0) pe_int set_list))
      (pss_one (ps_ret (pe_op op_mod (pe_op op_fdiv (pe_ix ix_list (pv 0) pe_int (fun _ _ => rfl)) pe_int) (pv 1))))))), ?_⟩
    have nlb : l ≠ b := Box.ne hb hl
    have mk : ∀ (i c s0 t : Int), 0 ≤ i → 0 ≤ c → 0 ≤ s0 → s0 < 2147483629 → Box (upd H b (.lst (bxv l i c s0 t))) b l := fun i c s0 t h1 h2 h3 h4 =>
      ⟨ns, i, c, s0, t, upd_same, by rw [upd_ne nlb]; exact hl, h1, h2, h3, h4⟩
    refine ⟨fun σ H1 => ∃ (y : Option V) (i c s0 : Int), σ = [some (.ref b), some (.int m), y, none] ∧ H1 = upd H b (.lst (bxv l i c s0 t)) ∧ 0 ≤ i ∧ 0 ≤ c ∧ 0 ≤ s0 ∧ s0 < 2147483629, ?_, ?_⟩
    · refine ⟨_, rfl, b, _, _, _, rfl, rfl, SqL.of hb, rfl, _, _, rfl, rfl, _, rfl, ite2 (fun _ => ?_) (fun _ => ?_)⟩
      · refine ⟨_, rfl, b, _, _, _, rfl, rfl, SqL.of hb, rfl, _, rfl, b, _, _, _, rfl, rfl, SqL.of hb, rfl, l, _, rfl, .inl (SqL.of hl), _, _, rfl, rfl, _, rfl, ite2 (fun e => ?_) (fun _ => ?_)⟩
        · have e1 : i < ((ns.map V.int).length : Int) := of_decide_eq_true e
          rw [List.length_map] at e1
          have hx : atI (ns.map V.int) i = some (.int (ns.getD i.toNat 0)) := by
            have e2 : ((i.toNat : Nat) : Int) = i := Int.toNat_of_nonneg hi
            have e3 : i.toNat < ns.length := by omega
            have e4 : (ns.map V.int)[i.toNat]? = some (.int (ns.getD i.toNat 0)) := by
              rw [List.getElem?_map, List.getElem?_eq_getElem e3]
              simp [e3]
            have e5 := atI_nat e4
            rw [e2] at e5
            exact e5
          refine ⟨_, rfl, b, _, _, _, rfl, rfl, SqL.of hb, rfl, _, rfl, b, _, _, _, rfl, rfl, SqL.of hb, rfl, l, _, _, _, rfl, rfl, SqL.of hl, hx, ?_⟩
          refine ⟨_, rfl, b, _, _, _, rfl, rfl, SqL.of hb, rfl, _, _, rfl, rfl, _, rfl, b, _, _, _, rfl, rfl, hb, rfl, ?_⟩
          refine ⟨_, rfl, _, _, rfl, rfl, ⟨by decide, by decide, by decide⟩, _, _, rfl, rfl, _, _, rfl, _, rfl, b, _, _, _, rfl, rfl, upd_same, rfl, ?_⟩
          refine ⟨_, rfl, b, _, _, _, rfl, rfl, SqL.of upd_same, rfl, _, _, rfl, rfl, .inr ⟨by decide, by decide⟩, _, rfl, _, _, rfl, rfl, (by show (0 : Int) < 2147483629; decide), _, _, rfl, rfl, .inr ⟨by decide, by decide⟩, _, _, rfl, rfl, _, _, rfl, rfl, _, _, rfl, rfl, (by show (0 : Int) < 2147483629; decide), _, rfl, b, _, _, _, rfl, rfl, upd_same, rfl, ?_⟩
          refine ⟨_, _, _, _, rfl, by rw [upd_upd, upd_upd]; rfl, by omega, ?_, Int.emod_nonneg _ (by decide), Int.emod_lt_of_pos _ (by decide)⟩
          split <;> omega
        · exact ⟨none, i, c, s0, rfl, (upd_id hb).symm, hi, hc, hs0, hs1⟩
      · exact ⟨none, i, c, s0, rfl, (upd_id hb).symm, hi, hc, hs0, hs1⟩
    · rintro σ H1 ⟨y, i, c, s0, rfl, rfl, hi, hc, hs0, hs1⟩
      have hm3 : CDivW c m := wide_div hm hm2 (by decide) (by decide)
      refine ⟨_, rfl, b, _, _, _, rfl, rfl, SqL.of upd_same, rfl, _, _, rfl, rfl, _, rfl, ite2 (fun _ => ?_) (fun _ => ?_)⟩
      · refine ⟨_, rfl, b, _, _, _, rfl, rfl, SqL.of upd_same, rfl, _, rfl, _, _, rfl, rfl, hm, ?_⟩
        refine ⟨_, rfl, b, _, _, _, rfl, rfl, SqL.of upd_same, rfl, _, rfl, _, _, rfl, rfl, hm3, _, rfl, b, _, _, _, rfl, rfl, upd_same, rfl, ?_⟩
        refine ⟨_, rfl, ?_⟩
        rw [upd_upd]
        exact k _ _ (Int.emod_nonneg _ (by omega)) (Int.emod_lt_of_pos _ hm) Sav.upd (mk _ _ _ _ hi (Int.ediv_nonneg hc (by omega)) hs0 hs1)
      · refine ⟨_, rfl, b, _, _, _, rfl, rfl, SqL.of upd_same, rfl, _, _, rfl, rfl, _, rfl, b, _, _, _, rfl, rfl, upd_same, rfl, ?_⟩
        refine ⟨_, rfl, b, _, _, _, rfl, rfl, SqL.of upd_same, rfl, _, _, rfl, rfl, ⟨by decide, by decide, ?_⟩, _, rfl, b, _, _, _, rfl, rfl, SqL.of upd_same, rfl, _, _, rfl, rfl, .inl ⟨by decide, by decide⟩, _, _, rfl, rfl, _, _, rfl, rfl, _, _, rfl, rfl, (by show (0 : Int) < 2147483629; decide), _, rfl, b, _, _, _, rfl, rfl, upd_same, rfl, ?_⟩
        · omega
        · refine ⟨_, rfl, b, _, _, _, rfl, rfl, SqL.of upd_same, rfl, _, _, rfl, rfl, ⟨by decide, by decide⟩, _, rfl, _, _, rfl, rfl, hm, ?_⟩
          rw [upd_upd, upd_upd]
          exact k _ _ (Int.emod_nonneg _ (by omega)) (Int.emod_lt_of_pos _ hm) Sav.upd (mk _ _ _ _ hi hc (Int.emod_nonneg _ (by decide)) (Int.emod_lt_of_pos _ (by decide)))
theorem scBox : FnScope ["_law_script"] ["_law_script"] (defScope sBox) := ⟨rfl, rfl, rfl, by decide +kernel, rfl, by decide +kernel, by decide +kernel⟩
theorem ok_box {f : Addr} {fd : FuncData} (F : Fun K "_law_box" "_law_box" sBox f fd) (ml : mg "list" = none) : FnOk P w K mg base CX0 1 f fd ["_law_script"] (spBox K) := by
  refine F.ok scBox (fun vs H Q E h => ?_) (fun cdv A outer s H vs Q E hr h => ?_)
  · obtain ⟨a, ns, rfl, _⟩ := h
    rfl
  · obtain ⟨a, ns, rfl, hS, k⟩ := h
    refine ⟨_, pss_one (ps_ret (pe_lst (pa_cons (pe_callTy call_list_of (by rfl) ml (by decide +kernel) (pa_cons (pe_slice sl_list (pv 0) po_none (po_some pe_int)) pa_nil)) (pa_cons pe_int (pa_cons pe_int (pa_cons pe_int (pa_cons pe_int pa_nil))))))), ?_⟩
    obtain ⟨ms, em⟩ := cut_ints ns none (some 63)
    refine ⟨_, rfl, 63, rfl, a, _, rfl, hS, fun c nc => ?_⟩
    refine ⟨c, _, rfl, .inl (SqL.of upd_same), fun l nl => ?_⟩
    refine ⟨by show 5 ≤ sizeLine; decide, fun b nb => ?_⟩
    have nlb : l ≠ b := ne_of_none upd_same nb
    have s1 := same_new (o := .lst (cutV (ns.map V.int) none (some 63))) nc
    have s2 := same_new (o := .lst (cutV (ns.map V.int) none (some 63))) nl
    have s3 := same_new (o := .lst [V.ref l, .int 0, .int 0, .int 29, .int 0]) nb
    have s12 := s1.trans s2
    refine k _ b l (s12.trans s3) (s12.free nb) (s1.free nl) ⟨ms, 0, 0, 29, 0, upd_same, ?_, by decide, by decide, by decide, by decide⟩
    rw [upd_ne nlb, upd_same, em]
theorem scOf : FnScope ["_law_box_here", "_law_some"] ["_law_box_here", "_law_some"] (defScope sOf) := ⟨rfl, rfl, rfl, by decide +kernel, rfl, by decide +kernel, by decide +kernel⟩
theorem ok_of {f fD : Addr} {fd fdD : FuncData} (F : Fun K "_law_of" "_law_of" sOf f fd) (FD : Fun K "_law_draw" "_law_draw" sDraw fD fdD) (bD : Binds K fdD ["_law_box_here", "_law_many"] []) (gD : mg "_law_draw" = some (.ref fD)) (ml : mg "len" = none) (mx : mg "max" = none) :
    FnOk P w K mg base CX0 2 f fd ["_law_box_here", "_law_some"] spOf := by
  have GD : FnOk P w K mg base CX0 1 fD fdD ["_law_box_here", "_law_many"] spDraw := ok_draw FD ml mx
  refine F.ok scOf (fun vs H Q E h => ?_) (fun cdv A outer s H vs Q E hr h => ?_)
  · obtain ⟨b, l, v, rfl, _⟩ := h
    rfl
  · obtain ⟨b, l, v, rfl, hB, h⟩ := h
    refine ⟨_, pss_one (ps_ret (pe_ix ix_seq (pv 1) (pe_call GD hr (by rfl) gD FD.kp bD .nil pass0 (pa_cons (pv 0) (pa_cons (pe_callB call_len (by rfl) ml PySem.boot_len (pa_cons (pv 1) pa_nil)) pa_nil))) (fun _ _ => rfl))), ?_⟩
    rcases h with ⟨p, xs, rfl, npb, hp, h0, h1, k⟩ | ⟨z, rfl, h0, h1, k⟩
    · refine ⟨_, rfl, _, rfl, _, rfl, _, xs.length, rfl, .inl ⟨xs, SqL.of hp, rfl⟩, b, l, _, rfl, hB, by omega, small h1, fun r H' hr0 hr1 sv hB' => ?_⟩
      obtain ⟨x, hx, ha⟩ := at_some hr0 hr1
      exact .inl ⟨p, xs, r, x, rfl, rfl, SqL.of (sv _ _ npb hp), ha, k x H' hx sv hB'⟩
    · refine ⟨_, rfl, _, rfl, _, rfl, _, z.length, rfl, ⟨Nat.le_of_lt (small1000 h1), rfl⟩, b, l, _, rfl, hB, by omega, small h1, fun r H' hr0 hr1 sv hB' => ?_⟩
      have el : z.cps.toList.length = z.length := by simp [Str.length]
      obtain ⟨c, hc, ha⟩ := at_some (xs := z.cps.toList) hr0 (by rw [el]; exact hr1)
      exact .inr (.inr ⟨z, r, c, rfl, rfl, Nat.le_of_lt (small1000 h1), ha, k c H' hc sv hB'⟩)
end
end Dk
namespace Dk
open PySem L2
section
variable {P : Program} {w : World} {K : PySem.W.Frag} {mg : Str → Option Value} {base : Heap}
theorem scLike : FnScope ["_law_found", "_law_due", "_law_one", "_law_other"] ["_law_found", "_law_due"] (defScope sLike) := ⟨rfl, rfl, rfl, by decide +kernel, rfl, by decide +kernel, by decide +kernel⟩
structure LikeT (mg : Str → Option Value) (f : Addr) : Prop where
  isi : mg "isinstance" = none
  list : mg "list" = none
  tuple : mg "tuple" = none
  len : mg "len" = none
  all : mg "all" = none
  zip : mg "zip" = none
  bool : mg "bool" = none
  int : mg "int" = none
  str : mg "str" = none
  me : mg "_law_like" = some (.ref f)
theorem ok_like {f : Addr} {fd : FuncData} (F : Fun K "_law_like" "_law_like" sLike f fd) (bF : Binds K fd ["_law_found", "_law_due"] []) (T : LikeT mg f) : ∀ n : Nat, FnOk P w K mg base CX0 n f fd ["_law_found", "_law_due"] (spLike n)
  | 0 => ⟨fun vs H Q E h => by obtain ⟨v, u, _, z, _⟩ := h; exact z.elim, fun A outer s H args us vs Q E _ _ _ _ h => by obtain ⟨v, u, _, z, _⟩ := h; exact z.elim⟩
  | n + 1 => by
    have G := ok_like F bF T n
    refine F.ok scLike (fun vs H Q E h => ?_) (fun cdv A outer s H vs Q E hr h => ?_)
    · obtain ⟨v, u, rfl, _⟩ := h
      rfl
    · obtain ⟨v, u, rfl, hL, k⟩ := h
      refine ⟨_, pss_cons (ps_if (pt_val (pe_callB call_isiT (by rfl) T.isi (by decide +kernel) (pa_cons (pv 1) (pa_cons (pe_tup (pa_cons (pe_bltn (v := .ty "list") (by rfl) T.list (by decide +kernel) rfl) (pa_cons (pe_bltn (v := .ty "tuple") (by rfl) T.tuple (by decide +kernel) rfl) pa_nil))) pa_nil))))
          (pss_cons (ps_if (PW.pt (pw_or (pt_cmpR op_ne (pe_callB call_isi (by rfl) T.isi (by decide +kernel) (pa_cons (pv 0) (pa_cons (pe_bltn (v := .ty "list") (by rfl) T.list (by decide +kernel) rfl) pa_nil))) (pe_callB call_isi (by rfl) T.isi (by decide +kernel) (pa_cons (pv 1) (pa_cons (pe_bltn (v := .ty "list") (by rfl) T.list (by decide +kernel) rfl) pa_nil))) (nomark _))
              (pw_or1 (pt_cmpR op_ne (pe_callB call_isi (by rfl) T.isi (by decide +kernel) (pa_cons (pv 0) (pa_cons (pe_bltn (v := .ty "tuple") (by rfl) T.tuple (by decide +kernel) rfl) pa_nil))) (pe_callB call_isi (by rfl) T.isi (by decide +kernel) (pa_cons (pv 1) (pa_cons (pe_bltn (v := .ty "tuple") (by rfl) T.tuple (by decide +kernel) rfl) pa_nil))) (nomark _)))))
            (pss_one (ps_ret pe_bl)) pss_nil)
          (pss_one (ps_ret (pe_and (pe_cmpR op_eq (pe_callB call_len_seq (by rfl) T.len PySem.boot_len (pa_cons (pv 0) pa_nil)) (pe_callB call_len_seq (by rfl) T.len PySem.boot_len (pa_cons (pv 1) pa_nil)) (nomark _))
            (pe_one (pe_callB (cr_all rfl) (by rfl) T.all (by decide +kernel) (pa_cons (pe_lc (own := [("_law_one", 2), ("_law_other", 3)]) (g := gTup K 2 (gCons (gName 2) (gCons (gName 3) gNil))) (tt := tYes) rfl scLike.nd (RZ.pi_zipA (by rfl) T.zip (pa_cons (pv 0) (pa_cons (pv 1) pa_nil)))
              (blkOk_by (N := ["_law_found", "_law_due", "_law_one", "_law_other"]) (sc := defScope sLike) (by decide +kernel))
              (fun _ _ _ _ _ => pg_tup rfl (pgs_cons (pg_name (i := 2) scLike.nd rfl (Or.inl rfl)) (pgs_cons (pg_name (i := 3) scLike.nd rfl (Or.inl rfl)) pgs_nil))) (fun _ _ _ _ _ => pts_nil)
              (fun _ _ _ _ _ => pe_call G hr (by rfl) T.me F.kp bF .nil pass0 (pa_cons (pv 2) (pa_cons (pv 3) pa_nil)))) pa_nil)))))))
          pss_nil)
        (pss_cons (ps_if (PW.pt (pw_or (pt_cmpR op_isN (pv 0) pe_non (nomark _)) (pw_or1 (pt_cmpR op_isN (pv 1) pe_non (nomark _)))))
          (pss_one (ps_ret (pe_and (pe_cmpR op_isN (pv 0) pe_non (nomark _)) (pe_one (pe_cmpR op_isN (pv 1) pe_non (nomark _)))))) pss_nil)
        (pss_cons (ps_if (PW.pt (pw_or (pt_cmpR op_ne (pe_callB call_isi (by rfl) T.isi (by decide +kernel) (pa_cons (pv 0) (pa_cons (pe_bltn (v := .ty "bool") (by rfl) T.bool (by decide +kernel) rfl) pa_nil))) (pe_callB call_isi (by rfl) T.isi (by decide +kernel) (pa_cons (pv 1) (pa_cons (pe_bltn (v := .ty "bool") (by rfl) T.bool (by decide +kernel) rfl) pa_nil))) (nomark _))
              (pw_or1 (pt_cmpR op_ne (pe_callB call_isi (by rfl) T.isi (by decide +kernel) (pa_cons (pv 0) (pa_cons (pe_bltn (v := .ty "int") (by rfl) T.int (by decide +kernel) rfl) pa_nil))) (pe_callB call_isi (by rfl) T.isi (by decide +kernel) (pa_cons (pv 1) (pa_cons (pe_bltn (v := .ty "int") (by rfl) T.int (by decide +kernel) rfl) pa_nil))) (nomark _)))))
          (pss_one (ps_ret pe_bl)) pss_nil)
        (pss_one (ps_ret (pe_and (pe_cmpR op_eq (pe_callB call_isi (by rfl) T.isi (by decide +kernel) (pa_cons (pv 0) (pa_cons (pe_bltn (v := .ty "str") (by rfl) T.str (by decide +kernel) rfl) pa_nil))) (pe_callB call_isi (by rfl) T.isi (by decide +kernel) (pa_cons (pv 1) (pa_cons (pe_bltn (v := .ty "str") (by rfl) T.str (by decide +kernel) rfl) pa_nil))) (nomark _))
          (pe_one (pe_cmpR op_eq (pv 0) (pv 1) (nomark _)))))))), ?_⟩
      have kit2 : ∀ (s : String) (r : Bool), kitB s "list" = some r → kitB s "tuple" = some (!r) → PySem.W.kitAny K (.type s) [.type "list", .type "tuple"] = some true := fun s r h1 h2 =>
        kitAny_cons (kit_ty h1) (fun e => kitAny_cons (kit_ty h2) (fun e2 => by rw [e] at e2; cases e2) (fun _ => rfl)) (fun _ => rfl)
      have kit0 : ∀ (s : String), kitB s "list" = some false → kitB s "tuple" = some false → PySem.W.kitAny K (.type s) [.type "list", .type "tuple"] = some false := fun s h1 h2 =>
        kitAny_cons (kit_ty h1) (fun _ => kitAny_cons (kit_ty h2) (fun _ => kitAny_nil) (fun e => by cases e)) (fun e => by cases e)
      rcases hL with ⟨rfl, fl⟩ | ⟨a, b, xs, ys, rfl, rfl, el, e1000, hab, hi⟩
      · -- plain values
        have ty : ∃ s : String, (∀ H : Hp, TyX K H v (.type s)) ∧ (s = "NoneType" ∧ v = .non ∨ v ≠ .non ∧ (s = "bool" ∨ s = "int" ∨ s = "str")) ∧ scal v v = true := by
          cases v with
          | non => exact ⟨"NoneType", fun _ => .base .non, .inl ⟨rfl, rfl⟩, rfl⟩
          | bl x => exact ⟨"bool", fun _ => .base (.bl x), .inr ⟨(fun z => nomatch z), .inl rfl⟩, rfl⟩
          | int x => exact ⟨"int", fun _ => .base (.int x), .inr ⟨(fun z => nomatch z), .inr (.inl rfl)⟩, rfl⟩
          | str x => exact ⟨"str", fun _ => .base (.str x), .inr ⟨(fun z => nomatch z), .inr (.inr rfl)⟩, rfl⟩
          | _ => cases fl
        obtain ⟨s, ts, hs, hsc⟩ := ty
        have kL : kitB s "list" = some false := by
          rcases hs with ⟨rfl, _⟩ | ⟨_, rfl | rfl | rfl⟩ <;> decide +kernel
        have kT : kitB s "tuple" = some false := by
          rcases hs with ⟨rfl, _⟩ | ⟨_, rfl | rfl | rfl⟩ <;> decide +kernel
        refine ⟨_, rfl, by show 2 ≤ sizeLine; decide, fun tp ntp => ?_⟩
        have sm := same_new (o := .tup [V.ty "list", V.ty "tuple"]) ntp
        refine ⟨v, tp, _, _, [.type "list", .type "tuple"], false, rfl, upd_same, .cons (.ty _) (.cons (.ty _) .nil), ts _, kit0 s kL kT, false, rfl, iteF ?_⟩
        refine ⟨_, rfl, rfl, _, rfl, ite2 (fun e => ?_) (fun e => ?_)⟩
        · have ev : v = .non := of_decide_eq_true e
          refine iteT ?_
          refine ⟨_, rfl, rfl, _, rfl, ?_⟩
          rw [decide_eq_true ev]
          refine iteT ⟨_, rfl, rfl, ?_⟩
          rw [decide_eq_true ev]
          exact k _ sm
        · have ev : ¬ v = .non := fun z => e (decide_eq_true z)
          have kBI : ∃ r q p, kitB s "bool" = some r ∧ kitB s "int" = some q ∧ kitB s "str" = some p := by
            rcases hs with ⟨_, z⟩ | ⟨_, rfl | rfl | rfl⟩
            · exact absurd z ev
            · exact ⟨true, true, false, by decide +kernel, by decide +kernel, by decide +kernel⟩
            · exact ⟨false, true, false, by decide +kernel, by decide +kernel, by decide +kernel⟩
            · exact ⟨false, false, true, by decide +kernel, by decide +kernel, by decide +kernel⟩
          obtain ⟨r, q, p, kb, ki, ks⟩ := kBI
          refine ⟨_, rfl, rfl, _, rfl, ite2 (fun z => absurd (of_decide_eq_true z) ev) (fun _ => ?_)⟩
          refine ⟨_, rfl, v, _, _, _, r, rfl, .ty _, ts _, kit_ty kb, _, rfl, v, _, _, _, r, rfl, .ty _, ts _, kit_ty kb, rfl, _, rfl, ?_⟩
          rw [decide_eq_true (show V.bl r = V.bl r from rfl)]
          refine iteF ?_
          refine ⟨_, rfl, v, _, _, _, q, rfl, .ty _, ts _, kit_ty ki, _, rfl, v, _, _, _, q, rfl, .ty _, ts _, kit_ty ki, rfl, _, rfl, ?_⟩
          rw [decide_eq_true (show V.bl q = V.bl q from rfl)]
          refine iteF ?_
          refine ⟨_, rfl, v, _, _, _, p, rfl, .ty _, ts _, kit_ty ks, _, rfl, v, _, _, _, p, rfl, .ty _, ts _, kit_ty ks, rfl, _, rfl, ?_⟩
          rw [decide_eq_true (show V.bl p = V.bl p from rfl)]
          refine iteT ⟨_, rfl, _, rfl, hsc, ?_⟩
          rw [decide_eq_true (show v = v from rfl)]
          exact k _ sm
      · -- a list or a tuple
        have both : ∃ (s : String) (r : Bool), (s = "list" ∧ r = true ∨ s = "tuple" ∧ r = false) ∧ (∀ H' : Hp, Same H H' → TyX K H' (.ref a) (.type s) ∧ TyX K H' (.ref b) (.type s)) ∧
            (∀ H' : Hp, Same H H' → (SqL K H' a xs ∨ SqT K H' a xs) ∧ (SqL K H' b ys ∨ SqT K H' b ys)) := by
          rcases hab with ⟨ha, hb⟩ | ⟨ha, hb⟩
          · exact ⟨"list", true, .inl ⟨rfl, rfl⟩, fun H' sm => ⟨.base (.lst (sm _ _ ha)), .base (.lst (sm _ _ hb))⟩, fun H' sm => ⟨.inl (SqL.of (sm _ _ ha)), .inl (SqL.of (sm _ _ hb))⟩⟩
          · exact ⟨"tuple", false, .inr ⟨rfl, rfl⟩, fun H' sm => ⟨.base (.tup (sm _ _ ha)), .base (.tup (sm _ _ hb))⟩, fun H' sm => ⟨.inr (SqT.of (sm _ _ ha)), .inr (SqT.of (sm _ _ hb))⟩⟩
        obtain ⟨s, r, hsr, ts, sq⟩ := both
        have kL : kitB s "list" = some r := by
          rcases hsr with ⟨rfl, rfl⟩ | ⟨rfl, rfl⟩ <;> decide +kernel
        have kT : kitB s "tuple" = some (!r) := by
          rcases hsr with ⟨rfl, rfl⟩ | ⟨rfl, rfl⟩ <;> decide +kernel
        refine ⟨_, rfl, by show 2 ≤ sizeLine; decide, fun tp ntp => ?_⟩
        have sm := same_new (o := .tup [V.ty "list", V.ty "tuple"]) ntp
        refine ⟨.ref b, tp, _, _, [.type "list", .type "tuple"], true, rfl, upd_same, .cons (.ty _) (.cons (.ty _) .nil), (ts _ sm).2, kit2 s r kL kT, true, rfl, iteT ?_⟩
        refine ⟨_, rfl, _, _, _, _, r, rfl, .ty _, (ts _ sm).1, kit_ty kL, _, rfl, _, _, _, _, r, rfl, .ty _, (ts _ sm).2, kit_ty kL, rfl, _, rfl, ?_⟩
        rw [decide_eq_true (show V.bl r = V.bl r from rfl)]
        refine iteF ?_
        refine ⟨_, rfl, _, _, _, _, (!r), rfl, .ty _, (ts _ sm).1, kit_ty kT, _, rfl, _, _, _, _, (!r), rfl, .ty _, (ts _ sm).2, kit_ty kT, rfl, _, rfl, ?_⟩
        rw [decide_eq_true (show V.bl (!r) = V.bl (!r) from rfl)]
        refine iteF ?_
        refine ⟨_, rfl, a, xs, rfl, (sq _ sm).1, _, rfl, b, ys, rfl, (sq _ sm).2, rfl, _, rfl, ?_⟩
        rw [decide_eq_true (show V.int (xs.length : Nat) = V.int (ys.length : Nat) by rw [el])]
        refine iteT ?_
        -- the comprehension
        refine ⟨_, rfl, _, rfl, a, b, xs, ys, rfl, ?_⟩
        rcases hab with ⟨ha, hb⟩ | ⟨ha, hb⟩
        · refine .inl ⟨SqL.of (sm _ _ ha), SqL.of (sm _ _ hb), fun D nD => lc_it (walk_zip (n := xs.length) (xs := xs) (ys := ys) (by rw [← el, Nat.min_self])) (fun i H' => Same (upd H tp (.tup [V.ty "list", V.ty "tuple"])) H' ∧ H' D = some (.lst ((List.replicate i true).map V.bl))) ?_ ?_ ?_ ?_⟩
          · exact ⟨same_new nD, upd_same⟩
          · exact fun i H' _ h => ⟨SqL.of (h.1 _ _ (sm _ _ ha)), SqL.of (h.1 _ _ (sm _ _ hb))⟩
          · rintro i x H1 H2 hin ⟨s1, hD⟩ ⟨tq, x1, y1, rfl, ntq, rfl, f1, f2⟩
            have s2 := same_new (o := .tup [x1, y1]) ntq
            refine ⟨tq, [x1, y1], rfl, SqT.of upd_same, rfl, x1, [y1], rfl, y1, [], rfl, rfl, rfl, ?_⟩
            refine ⟨x1, rfl, y1, rfl, x1, y1, rfl, (hi i x1 y1 f1 f2).same (sm.trans (s1.trans s2)), fun H3 s3 => ?_⟩
            have hD3 : H3 D = some (.lst ((List.replicate i true).map V.bl)) := s3 _ _ (s2 _ _ hD)
            refine ⟨_, hD3, ?_, fun q o hq => ?_, ?_⟩
            · rw [List.length_map, List.length_replicate]
              exact small1000 (by omega)
            · have nq : q ≠ D := fun z => by
                rw [z, nD] at hq
                cases hq
              rw [upd_ne nq]
              exact s3 _ _ (s2 _ _ (s1 _ _ hq))
            · rw [upd_same, List.replicate_succ', List.map_append]
              rfl
          · rintro H1 ⟨s1, hD⟩
            refine ⟨D, _, rfl, SqL.of hD, ?_⟩
            rw [all_true]
            exact k _ (sm.trans s1)
        · refine .inr ⟨SqT.of (sm _ _ ha), SqT.of (sm _ _ hb), fun D nD => lc_it (walk_zipT (n := xs.length) (xs := xs) (ys := ys) (by rw [← el, Nat.min_self])) (fun i H' => Same (upd H tp (.tup [V.ty "list", V.ty "tuple"])) H' ∧ H' D = some (.lst ((List.replicate i true).map V.bl))) ?_ ?_ ?_ ?_⟩
          · exact ⟨same_new nD, upd_same⟩
          · exact fun i H' _ h => ⟨SqT.of (h.1 _ _ (sm _ _ ha)), SqT.of (h.1 _ _ (sm _ _ hb))⟩
          · rintro i x H1 H2 hin ⟨s1, hD⟩ ⟨tq, x1, y1, rfl, ntq, rfl, f1, f2⟩
            have s2 := same_new (o := .tup [x1, y1]) ntq
            refine ⟨tq, [x1, y1], rfl, SqT.of upd_same, rfl, x1, [y1], rfl, y1, [], rfl, rfl, rfl, ?_⟩
            refine ⟨x1, rfl, y1, rfl, x1, y1, rfl, (hi i x1 y1 f1 f2).same (sm.trans (s1.trans s2)), fun H3 s3 => ?_⟩
            have hD3 : H3 D = some (.lst ((List.replicate i true).map V.bl)) := s3 _ _ (s2 _ _ hD)
            refine ⟨_, hD3, ?_, fun q o hq => ?_, ?_⟩
            · rw [List.length_map, List.length_replicate]
              exact small1000 (by omega)
            · have nq : q ≠ D := fun z => by
                rw [z, nD] at hq
                cases hq
              rw [upd_ne nq]
              exact s3 _ _ (s2 _ _ (s1 _ _ hq))
            · rw [upd_same, List.replicate_succ', List.map_append]
              rfl
          · rintro H1 ⟨s1, hD⟩
            refine ⟨D, _, rfl, SqL.of hD, ?_⟩
            rw [all_true]
            exact k _ (sm.trans s1)
end
end Dk
namespace Dk
open PySem L2
section
variable {P : Program} {w : World} {K : PySem.W.Frag} {mg : Str → Option Value} {base : Heap}
def spPlace (K : PySem.W.Frag) : Sp := fun vs H Q _ => ∃ (p : Addr) (xs : List V) (b d : Int), vs = [.ref p, .int b, .int d] ∧ Sq K H p xs ∧ 0 < xs.length ∧ Q (plc xs (b - d)) H
def spTurned (K : PySem.W.Frag) : Sp := fun vs H Q _ => ∃ (p : Addr) (xs : List V), vs = [.ref p] ∧ Sq K H p xs ∧ 0 < xs.length ∧ xs.length ≤ 1000 ∧
  ∀ (H' : Hp) (t : Addr), Same H H' → H t = none → H' t = some (.tup (trn xs)) → Q (.ref t) H'
abbrev FunP (K : PySem.W.Frag) (f : Addr) (fd : FuncData) : Prop := FunD K "place" "place" (defArgs sPlace) (defBody sPlace) (defScope sPlace) [] [("delay", .int 0)] f fd
theorem scPlace : FnScope ["rooms", "beat", "delay"] ["rooms", "beat", "delay"] (defScope sPlace) := ⟨rfl, rfl, rfl, by decide +kernel, rfl, by decide +kernel, by decide +kernel⟩
theorem ok_place {f : Addr} {fd : FuncData} (F : FunP K f fd) (ml : mg "len" = none) : FnOk P w K mg base CX0 1 f fd ["rooms", "beat", "delay"] (spPlace K) := by
  refine F.ok scPlace (fun vs H Q E h => ?_) (fun cdv A outer s H vs Q E hr h => ?_)
  · obtain ⟨p, xs, b, d, rfl, _⟩ := h
    rfl
  · obtain ⟨p, xs, b, d, rfl, hS, h0, k⟩ := h
    refine ⟨_, pss_one (ps_ret (pe_ix ix_seq (pv 0) (pe_op op_mod (pe_op op_sub (pv 1) (pv 2)) (pe_callB call_len_seq (by rfl) ml PySem.boot_len (pa_cons (pv 0) pa_nil))) (fun _ _ => rfl))), ?_⟩
    refine ⟨_, rfl, _, rfl, _, rfl, _, _, rfl, rfl, _, rfl, p, xs, rfl, hS, _, _, rfl, rfl, by omega, ?_⟩
    rcases hS with hS | hS
    · exact .inl ⟨p, xs, _, _, rfl, rfl, hS, plc_at h0 _, k⟩
    · exact .inr (.inl ⟨p, xs, _, _, rfl, rfl, hS, plc_at h0 _, k⟩)
theorem bind_place {f : Addr} {fd : FuncData} (F : FunP K f fd) : ∃ ds, Vals [V.int 0] ds ∧ Binds K fd ["rooms", "beat", "delay"] ds := by
  refine FunD.binds0 F 2 (by simp) rfl ?_
  intro D doc pm an cdv ct us ks h1 h2
  match us, h1, ks, h2 with
  | [_, _], _, [_], _ => exact ⟨_, _, _, _, _, _, rfl, rfl, rfl⟩
theorem bindk_place {f : Addr} {fd : FuncData} (F : FunP K f fd) : KBn K fd ["rooms", "beat", "delay"] 2 ["delay"] (fun us ws => us ++ ws) (fun vs zs => vs ++ zs) := by
  obtain ⟨oc, od, dV, kV, doc, pm, an, cdv, ct, osl, rfl, lk, hcd, hD, hK⟩ := F.ex
  rcases hD with ⟨_, rfl⟩ | ⟨e, _⟩
  · refine ⟨fun s us ws _ h1 h2 => ?_, fun r1 r2 => r1.append r2⟩
    match us, h1, ws, h2 with
    | [_, _], _, [_], _ => exact .of_eq rfl
  · exact absurd rfl e
theorem scTurned : FnScope ["rooms", "at"] ["rooms"] (defScope sTurned) := ⟨rfl, rfl, rfl, by decide +kernel, rfl, by decide +kernel, by decide +kernel⟩
theorem ok_turned {f fP : Addr} {fd fdP : FuncData} (F : Fun K "turned" "turned" sTurned f fd) (FP : FunP K fP fdP) (gP : mg "place" = some (.ref fP)) (ml : mg "len" = none) (mt : mg "tuple" = none) (mr : mg "range" = none) : FnOk P w K mg base CX0 2 f fd ["rooms"] (spTurned K) := by
  have GP : FnOk P w K mg base CX0 1 fP fdP ["rooms", "beat", "delay"] (spPlace K) := ok_place FP ml
  obtain ⟨ds, vds, bP⟩ := bind_place FP
  refine F.ok scTurned (fun vs H Q E h => ?_) (fun cdv A outer s H vs Q E hr h => ?_)
  · obtain ⟨p, xs, rfl, _⟩ := h
    rfl
  · obtain ⟨p, xs, rfl, hS, h0, h1, k⟩ := h
    refine ⟨_, pss_one (ps_ret (pe_callTy call_tuple_of (by rfl) mt (by decide +kernel) (pa_cons (pe_lc (own := [("at", 1)]) (g := gName 1) (tt := tYes) rfl scTurned.nd (pi_range1 (by rfl) mr (pa_cons (pe_callB call_len_seq (by rfl) ml PySem.boot_len (pa_cons (pv 0) pa_nil)) pa_nil))
      (blkOk_by (N := ["rooms", "at"]) (sc := defScope sTurned) (by decide +kernel)) (fun _ _ _ _ _ => pg_name (i := 1) scTurned.nd rfl (Or.inl rfl)) (fun _ _ _ _ _ => pts_nil)
      (fun _ _ _ _ _ => pe_call GP hr (by rfl) gP FP.kp bP vds pass0 (pa_cons (pv 0) (pa_cons (pe_un un_neg (pv 1)) pa_nil)))) pa_nil))), ?_⟩
    refine ⟨_, rfl, p, xs, rfl, hS, _, rfl, by omega, by omega, fun D nD => ?_⟩
    refine lc_range (lo := 0) (n := xs.length) (fun j H' => Same H H' ∧ H' D = some (.lst ((List.range j).map fun (i : Nat) => plc xs (-(i : Int))))) ⟨same_new nD, upd_same⟩ ?_ ?_
    · rintro j H3 hj ⟨s3, hD⟩
      refine ⟨rfl, ?_⟩
      refine ⟨_, rfl, _, rfl, _, rfl, p, xs, _, _, rfl, hS.same s3, h0, ?_⟩
      refine ⟨_, hD, by rw [List.length_map, List.length_range]; exact small1000 (by omega), fun q o hq => ?_, ?_⟩
      · rw [upd_ne (ne_of_none hq nD)]
        exact s3 _ _ hq
      · rw [upd_same, List.range_succ, List.map_append, show -(0 + (j : Int)) - 0 = -(j : Int) by omega]
        rfl
    · rintro H3 ⟨s3, hD⟩
      refine ⟨D, _, rfl, .inl ⟨SqL.of hD, fun t nt => ?_⟩⟩
      exact k _ t (s3.trans (same_new nt)) (s3.free nt) upd_same
end
end Dk
namespace Dk
open PySem L2
section
variable {P : Program} {w : World} {K : PySem.W.Frag} {mg : Str → Option Value} {base : Heap}
theorem scNames : FnScope ["_law_box_here", "_law_many", "_law_letters", "_law_start", "_law_step", "_law_tail", "_law_pick", "_law_found", "_law_k", "_law_sign"] ["_law_box_here", "_law_many"] (defScope sNames) := ⟨rfl, rfl, rfl, by decide +kernel, rfl, by decide +kernel, by decide +kernel⟩
theorem ok_names {f fD fO : Addr} {fd fdD fdO : FuncData} (F : Fun K "_law_names" "_law_names" sNames f fd) (FD : Fun K "_law_draw" "_law_draw" sDraw fD fdD) (bD : Binds K fdD ["_law_box_here", "_law_many"] []) (gD : mg "_law_draw" = some (.ref fD))
    (FO : Fun K "_law_of" "_law_of" sOf fO fdO) (bO : Binds K fdO ["_law_box_here", "_law_some"] []) (gO : mg "_law_of" = some (.ref fO)) (ml : mg "len" = none) (mx : mg "max" = none) (mr : mg "range" = none) :
    FnOk P w K mg base CX0 3 f fd ["_law_box_here", "_law_many"] spNames := by
  have GD : FnOk P w K mg base CX0 1 fD fdD ["_law_box_here", "_law_many"] spDraw := ok_draw FD ml mx
  have GO : FnOk P w K mg base CX0 2 fO fdO ["_law_box_here", "_law_some"] spOf := ok_of FO FD bD gD ml mx
  refine F.ok scNames (fun vs H Q E h => ?_) (fun cdv A outer s H vs Q E hr h => ?_)
  · obtain ⟨b, l, m, rfl, _⟩ := h
    rfl
  · obtain ⟨b, l, m, rfl, hB, hm0, hm1, k⟩ := h
    have hr1 : Room 1 _ := hr.mono (by decide)
    refine ⟨_, pss_cons (ps_set (i := 2) scNames.nd rfl (Or.inl rfl) pe_str)
      (pss_cons (ps_par (i := 3) (j := 4) (by rfl) scNames.nd rfl rfl (by decide) rfl rfl
        (pa_cons (pe_call GD hr1 (by rfl) gD FD.kp bD .nil pass0 (pa_cons (pv 0) (pa_cons pe_int pa_nil)))
        (pa_cons (pe_call GO hr (by rfl) gO FO.kp bO .nil pass0 (pa_cons (pv 0) (pa_cons (pe_lst (pa_cons pe_int (pa_cons pe_int (pa_cons pe_int (pa_cons pe_int (pa_cons pe_int (pa_cons pe_int pa_nil))))))) pa_nil))) pa_nil)) (by rfl))
      (pss_cons (ps_par (i := 5) (j := 6) (by rfl) scNames.nd rfl rfl (by decide) rfl rfl
        (pa_cons (pe_call GO hr (by rfl) gO FO.kp bO .nil pass0 (pa_cons (pv 0) (pa_cons (pe_lst (pa_cons pe_str (pa_cons pe_str (pa_cons pe_str (pa_cons pe_str (pa_cons pe_str pa_nil)))))) pa_nil)))
        (pa_cons (pe_call GD hr1 (by rfl) gD FD.kp bD .nil pass0 (pa_cons (pv 0) (pa_cons pe_int pa_nil))) pa_nil)) (by rfl))
      (pss_cons (ps_set (i := 7) scNames.nd rfl (Or.inl rfl) (pe_lst pa_nil))
      (pss_cons (ps_for PassesOwn.never rfl (pi_range1 (by rfl) mr (pa_cons (pv 1) pa_nil)) (pg_name (i := 8) scNames.nd rfl (Or.inl rfl))
        (pss_cons (ps_set (i := 9) scNames.nd rfl (Or.inl rfl) (pe_ix ix_str (pv 2) (pe_op op_mod (pe_op op_add (pv 3) (pe_op op_mul (pv 4) (pv 8))) pe_int) (fun _ _ => rfl)))
        (pss_one (ps_expr (pe_bm PySem.F.plainAttrs_list PySem.F.slot_list_append PySem.F.type_list_append mt_append (pv 7)
          (pa_cons (pe_ix ix_list (pe_lst (pa_cons (pe_op op_add_str (pv 9) (pv 5)) (pa_cons (pe_op op_add_str (pv 5) (pv 9)) (pa_cons (pe_op op_add_str (pv 9) (pe_op op_mul01 (pv 5) (pe_op op_mod (pv 8) pe_int))) pa_nil)))) (pv 6) (fun _ _ => rfl)) pa_nil))))))
      (pss_one (ps_ret (pv 7))))))), ?_⟩
    refine ⟨_, rfl, b, l, 26, rfl, hB, by decide, by decide, fun a H1 ha0 ha1 v1 hB1 => ?_⟩
    refine ⟨_, rfl, by show 6 ≤ sizeLine; decide, fun q1 nq1 => ?_⟩
    refine ⟨b, l, _, rfl, hB1.new nq1, .inl ⟨q1, _, rfl, hB1.b1 nq1, upd_same, by decide, by decide, fun x H2 hx v2 hB2 => ?_⟩⟩
    have hc : ∃ c : Int, x = .int c ∧ (c = 1 ∨ c = 3 ∨ c = 5 ∨ c = 7 ∨ c = 9 ∨ c = 11) := by
      simp only [List.mem_cons, List.mem_nil_iff, or_false] at hx
      rcases hx with rfl | rfl | rfl | rfl | rfl | rfl <;> exact ⟨_, rfl, by decide⟩
    obtain ⟨c, rfl, hc⟩ := hc
    refine ⟨_, _, rfl, ?_⟩
    refine ⟨_, rfl, by show 5 ≤ sizeLine; decide, fun q2 nq2 => ?_⟩
    refine ⟨b, l, _, rfl, hB2.new nq2, .inl ⟨q2, _, rfl, hB2.b1 nq2, upd_same, by decide, by decide, fun x H3 hx v3 hB3 => ?_⟩⟩
    have ht : ∃ t : Str, x = .str t ∧ Tail t := by
      simp only [List.mem_cons, List.mem_nil_iff, or_false] at hx
      rcases hx with rfl | rfl | rfl | rfl | rfl <;> exact ⟨_, rfl, by decide +kernel, by decide +kernel⟩
    obtain ⟨t, rfl, ht⟩ := ht
    refine ⟨_, rfl, b, l, 3, rfl, hB3, by decide, by decide, fun p H4 hp0 hp1 v4 hB4 => ?_⟩
    refine ⟨_, _, rfl, ?_⟩
    refine ⟨Nat.zero_le _, fun g ng => ?_⟩
    have sv0 := v1.trans ((Sav.of (same_new nq1)).trans (v2.trans ((Sav.of (same_new nq2)).trans (v3.trans v4))))
    have ngb := hB4.b1 ng
    have ngl := hB4.l1 ng
    have ngH : H g = none := sv0.free ngb ng
    have sv := sv0.trans (Sav.of (same_new (o := .lst []) ng))
    refine ⟨_, rfl, m, rfl, by omega, by omega, for_range (n := m.toNat) (fun i σ H' => ∃ y8 y9 : Option V, σ = [some (.ref b), some (.int m), some (.str abc), some (.int a), some (.int c), some (.str t), some (.int p), some (.ref g), y8, y9] ∧ Sav b H H' ∧ Box H' b l ∧ H' g = some (.lst ((nms a c t p i).map V.str)))
      ⟨none, none, rfl, sv, hB4.new ng, upd_same⟩ ?_ ?_⟩
    · rintro i σ H1 hi ⟨y8, y9, rfl, s1, hB1, hg⟩
      have hc1 : -(2 ^ 64) < c ∧ c < 2 ^ 64 := by omega
      refine ⟨_, rfl, _, rfl, _, rfl, _, rfl, _, _, rfl, rfl, .inl hc1, _, _, rfl, rfl, _, _, rfl, rfl, (by show (0 : Int) < 26; decide), _, _, _, rfl, rfl, by decide +kernel, sgn_at a c i, ?_⟩
      have tl := tail_len (a := a) (c := c) (i := i) ht
      have hk2 : (0 + (i : Int)) % 2 = 0 ∨ (0 + (i : Int)) % 2 = 1 := by omega
      refine ⟨_, rfl, .inl ⟨rfl, _, SqL.of hg⟩, ?_⟩
      refine ⟨_, rfl, _, rfl, _, _, rfl, rfl, tl.1, _, rfl, _, rfl, _, _, rfl, rfl, tl.2, _, rfl, _, rfl, _, rfl, _, _, rfl, rfl, (by show (0 : Int) < 2; decide), _, _, rfl, rfl, hk2, _, _, rfl, rfl, ?_, ?_⟩
      · split
        · exact tl.1
        · show 1 + 0 ≤ sizeLine
          decide
      · refine ⟨by show 3 ≤ sizeLine; decide, fun q nq => ?_⟩
        have ngq : g ≠ q := ne_of_none hg nq
        refine ⟨_, rfl, q, _, p, _, rfl, rfl, SqL.of upd_same, pick3 hp0 hp1, ?_⟩
        refine ⟨g, _, _, rfl, rfl, by rw [upd_ne ngq]; exact hg, ?_, ?_⟩
        · rw [List.length_map, nms_len]
          exact small1000 (by omega)
        · refine ⟨_, _, rfl, fun x o n hx => ?_, (hB1.new nq).put ngb ngl, ?_⟩
          · have nx : x ≠ g := fun e => by
              rw [e, ngH] at hx
              cases hx
            rw [upd_ne nx]
            exact same_new nq _ _ (s1 x o n hx)
          · rw [upd_same, nms_succ, List.map_append]
            rfl
    · rintro σ H1 ⟨y8, y9, rfl, s1, hB1, hg⟩
      exact ⟨_, rfl, k H1 g _ s1 hB1 ngH hg (nms_len _ _ _ _ _) ⟨nms_nodup hc (by omega), nms_all ht _⟩⟩
end
end Dk
namespace Dk
open PySem L2
section
variable {P : Program} {w : World} {K : PySem.W.Frag} {mg : Str → Option Value} {base : Heap}
def spLaw (K : PySem.W.Frag) : Sp := fun vs H Q _ => ∃ (a : Addr) (ns : List Int), vs = [.ref a] ∧ SqL K H a (ns.map V.int) ∧ ns.length ≤ 63 ∧ ∀ H', Q (.bl true) H'
theorem scLaw : FnScope ["_law_script", "_law_box_here", "_law_turn", "_law_rooms", "_law_about", "_law_step", "_law_beat", "_law_late", "_law_due"] ["_law_script"] (defScope sLaw) := ⟨rfl, rfl, rfl, by decide +kernel, rfl, by decide +kernel, by decide +kernel⟩
structure Txt7 (K : PySem.W.Frag) (mg : Str → Option Value) (fB fD fO fN fL fP fT : Addr) (dB dD dO dN dL dP dT : FuncData) : Prop where
  FB : Fun K "_law_box" "_law_box" sBox fB dB
  FD : Fun K "_law_draw" "_law_draw" sDraw fD dD
  FO : Fun K "_law_of" "_law_of" sOf fO dO
  FN : Fun K "_law_names" "_law_names" sNames fN dN
  FL : Fun K "_law_like" "_law_like" sLike fL dL
  FP : FunP K fP dP
  FT : Fun K "turned" "turned" sTurned fT dT
  bB : Binds K dB ["_law_script"] []
  bD : Binds K dD ["_law_box_here", "_law_many"] []
  bO : Binds K dO ["_law_box_here", "_law_some"] []
  bN : Binds K dN ["_law_box_here", "_law_many"] []
  bL : Binds K dL ["_law_found", "_law_due"] []
  bT : Binds K dT ["rooms"] []
  gB : mg "_law_box" = some (.ref fB)
  gD : mg "_law_draw" = some (.ref fD)
  gO : mg "_law_of" = some (.ref fO)
  gN : mg "_law_names" = some (.ref fN)
  gP : mg "place" = some (.ref fP)
  gT : mg "turned" = some (.ref fT)
  T : LikeT mg fL
  max : mg "max" = none
  range : mg "range" = none
theorem ok_law {f fB fD fO fN fL fP fT : Addr} {fd dB dD dO dN dL dP dT : FuncData} (F : Fun K "law" "law" sLaw f fd) (T : Txt7 K mg fB fD fO fN fL fP fT dB dD dO dN dL dP dT) : FnOk P w K mg base CX0 4 f fd ["_law_script"] (spLaw K) := by
  have GB : FnOk P w K mg base CX0 1 fB dB ["_law_script"] (spBox K) := ok_box T.FB T.T.list
  have GD : FnOk P w K mg base CX0 1 fD dD ["_law_box_here", "_law_many"] spDraw := ok_draw T.FD T.T.len T.max
  have GO : FnOk P w K mg base CX0 2 fO dO ["_law_box_here", "_law_some"] spOf := ok_of T.FO T.FD T.bD T.gD T.T.len T.max
  have GN : FnOk P w K mg base CX0 3 fN dN ["_law_box_here", "_law_many"] spNames := ok_names T.FN T.FD T.bD T.gD T.FO T.bO T.gO T.T.len T.max T.range
  have GL : FnOk P w K mg base CX0 2 fL dL ["_law_found", "_law_due"] (spLike 2) := ok_like T.FL T.bL T.T 2
  have GP : FnOk P w K mg base CX0 1 fP dP ["rooms", "beat", "delay"] (spPlace K) := ok_place T.FP T.T.len
  have GT : FnOk P w K mg base CX0 2 fT dT ["rooms"] (spTurned K) := ok_turned T.FT T.FP T.gP T.T.len T.T.tuple T.range
  obtain ⟨ds, vds, bP⟩ := bind_place T.FP
  have bK := bindk_place T.FP
  refine F.ok scLaw (fun vs H Q E h => ?_) (fun cdv A outer s H vs Q E hr h => ?_)
  · obtain ⟨a, ns, rfl, _⟩ := h
    rfl
  · obtain ⟨a, ns, rfl, hS, hlen, k⟩ := h
    have hr1 : Room 1 _ := hr.mono (by decide)
    have hr2 : Room 2 _ := hr.mono (by decide)
    refine ⟨_, pss_cons (ps_set (i := 1) scLaw.nd rfl (Or.inl rfl) (pe_call GB hr1 (by rfl) T.gB T.FB.kp T.bB .nil pass0 (pa_cons (pv 0) pa_nil)))
      (pss_cons (ps_for PassesOwn.never rfl (pi_range1 (by rfl) T.range (pa_cons pe_int pa_nil)) (pg_name (i := 2) scLaw.nd rfl (Or.inl rfl))
      (pss_cons (ps_set (i := 3) scLaw.nd rfl (Or.inl rfl) (pe_call GN hr (by rfl) T.gN T.FN.kp T.bN .nil pass0 (pa_cons (pv 1) (pa_cons (pe_op op_add pe_int (pe_call GD hr1 (by rfl) T.gD T.FD.kp T.bD .nil pass0 (pa_cons (pv 1) (pa_cons pe_int pa_nil)))) pa_nil))))
      (pss_cons (ps_set (i := 3) scLaw.nd rfl (Or.inl rfl) (pe_op op_cat (pv 3) (pe_slice sl_list (pv 3) po_none (po_some (pe_call GD hr1 (by rfl) T.gD T.FD.kp T.bD .nil pass0 (pa_cons (pv 1) (pa_cons pe_int pa_nil)))))))
      (pss_cons (ps_set (i := 4) scLaw.nd rfl (Or.inl rfl) (pe_call GT hr2 (by rfl) T.gT T.FT.kp T.bT .nil pass0 (pa_cons (pe_callTy call_list_of (by rfl) T.T.list (by decide +kernel) (pa_cons (pv 3) pa_nil)) pa_nil)))
      (pss_cons (ps_if (PW.pt (pw_or (pt_not (pt_val (pe_call GL hr2 (by rfl) T.T.me T.FL.kp T.bL .nil pass0 (pa_cons (pv 4) (pa_cons (pe_callTy call_tuple_of (by rfl) T.T.tuple (by decide +kernel) (pa_cons (pe_op op_cat (pe_lst (pa_cons (pe_ix ix_list (pv 3) pe_int (fun _ _ => rfl)) pa_nil)) (pe_revL (pe_slice sl_list (pv 3) (po_some pe_int) po_none))) pa_nil)) pa_nil))))) (pw_or1 (pt_cmpR (op_neD hr.units) (pe_call GT hr2 (by rfl) T.gT T.FT.kp T.bT .nil pass0 (pa_cons (pv 4) pa_nil)) (pe_callTy call_tuple_of (by rfl) T.T.tuple (by decide +kernel) (pa_cons (pv 3) pa_nil)) (nomark _))))) (pss_one (ps_ret pe_bl)) pss_nil)
      (pss_one (ps_for PassesOwn.never rfl (pi_range1 (by rfl) T.range (pa_cons pe_int pa_nil)) (pg_name (i := 5) scLaw.nd rfl (Or.inl rfl))
      (pss_cons (ps_set (i := 6) scLaw.nd rfl (Or.inl rfl) (pe_op op_mul (pe_call GO hr2 (by rfl) T.gO T.FO.kp T.bO .nil pass0 (pa_cons (pv 1) (pa_cons (pe_lst (pa_cons (pe_un un_neg pe_int) (pa_cons pe_int pa_nil))) pa_nil))) (pe_call GD hr1 (by rfl) T.gD T.FD.kp T.bD .nil pass0 (pa_cons (pv 1) (pa_cons (pe_op op_pow pe_int pe_int) pa_nil)))))
      (pss_cons (ps_set (i := 7) scLaw.nd rfl (Or.inl rfl) (pe_op op_mul (pe_call GO hr2 (by rfl) T.gO T.FO.kp T.bO .nil pass0 (pa_cons (pv 1) (pa_cons (pe_lst (pa_cons (pe_un un_neg pe_int) (pa_cons pe_int pa_nil))) pa_nil))) (pe_call GD hr1 (by rfl) T.gD T.FD.kp T.bD .nil pass0 (pa_cons (pv 1) (pa_cons (pe_op op_pow pe_int pe_int) pa_nil)))))
      (pss_cons (ps_par (i := 6) (j := 7) (by rfl) scLaw.nd rfl rfl (by decide) rfl rfl (pa_cons (pe_call GO hr2 (by rfl) T.gO T.FO.kp T.bO .nil pass0 (pa_cons (pv 1) (pa_cons (pe_lst (pa_cons (pv 6) (pa_cons (pe_call GD hr1 (by rfl) T.gD T.FD.kp T.bD .nil pass0 (pa_cons (pv 1) (pa_cons pe_int pa_nil))) pa_nil))) pa_nil))) (pa_cons (pe_call GO hr2 (by rfl) T.gO T.FO.kp T.bO .nil pass0 (pa_cons (pv 1) (pa_cons (pe_lst (pa_cons (pv 7) (pa_cons (pe_call GD hr1 (by rfl) T.gD T.FD.kp T.bD .nil pass0 (pa_cons (pv 1) (pa_cons pe_int pa_nil))) pa_nil))) pa_nil))) pa_nil)) (by rfl))
      (pss_cons (ps_set (i := 8) scLaw.nd rfl (Or.inl rfl) (pe_lst (pa_cons (pe_ix ix_list (pv 3) (pe_op op_mod (pe_op op_sub (pv 6) (pv 7)) (pe_callB call_len_seq (by rfl) T.T.len PySem.boot_len (pa_cons (pv 3) pa_nil))) (fun _ _ => rfl)) (pa_cons (pe_ix ix_list (pv 3) (pe_op op_mod (pv 6) (pe_callB call_len_seq (by rfl) T.T.len PySem.boot_len (pa_cons (pv 3) pa_nil))) (fun _ _ => rfl)) pa_nil))))
      (pss_cons (ps_if (pt_not (pt_val (pe_call GL hr2 (by rfl) T.T.me T.FL.kp T.bL .nil pass0 (pa_cons (pe_lst (pa_cons (pe_callN GP hr1 (by rfl) T.gP T.FP.kp bK pass0 (pa_cons (pv 3) (pa_cons (pv 6) pa_nil)) (pk_cons (pv 7) pk_nil)) (pa_cons (pe_call GP hr1 (by rfl) T.gP T.FP.kp bP vds pass0 (pa_cons (pe_callTy call_tuple_of (by rfl) T.T.tuple (by decide +kernel) (pa_cons (pv 3) pa_nil)) (pa_cons (pv 6) pa_nil))) pa_nil))) (pa_cons (pv 8) pa_nil))))) (pss_one (ps_ret pe_bl)) pss_nil)
      (pss_one (ps_if (pt_cmpR op_ne (pe_call GP hr1 (by rfl) T.gP T.FP.kp bP vds pass0 (pa_cons (pv 4) (pa_cons (pe_un un_neg (pv 6)) pa_nil))) (pe_ix ix_list (pv 8) pe_int (fun _ _ => rfl)) (nomark _)) (pss_one (ps_ret pe_bl)) pss_nil))))))))))))))
      (pss_one (ps_ret pe_bl))), ?_⟩
    refine ⟨_, rfl, a, ns, rfl, hS, fun H1 b l s1 nb nl hB => ?_⟩
    refine ⟨4, rfl, by decide, by decide, for_range (n := 4) (fun i σ H' => ∃ y2 y3 y4 y5 y6 y7 y8 : Option V, σ = [some (.ref a), some (.ref b), y2, y3, y4, y5, y6, y7, y8] ∧ Box H' b l) ⟨_, _, _, _, _, _, _, rfl, hB⟩ ?_ ?_⟩
    · rintro i σ H2 hi4 ⟨y2, y3, y4, y5, y6, y7, y8, rfl, hB⟩
      refine ⟨_, rfl, _, rfl, b, l, 8, rfl, hB, by decide, by decide, fun r1 H3 hr0 hr8 v3 hB3 => ?_⟩
      refine ⟨_, _, rfl, rfl, b, l, _, rfl, hB3, by omega, by omega, fun H4 p zs v4 hB4 np hp hl hN => ?_⟩
      refine ⟨_, rfl, _, rfl, _, rfl, b, l, 2, rfl, hB4, by decide, by decide, fun r2 H5 _ _ v5 hB5 => ?_⟩
      have npb : p ≠ b := hB3.b1 np
      have hp5 := v5 _ _ npb hp
      refine ⟨r2, rfl, p, _, rfl, SqL.of hp5, fun q nq => ?_⟩
      obtain ⟨ms, em, hm, hml⟩ := cut_strs zs none (some r2)
      have npq : p ≠ q := ne_of_none hp5 nq
      refine ⟨p, q, _, _, rfl, rfl, by rw [upd_ne npq]; exact hp5, upd_same, ?_, fun g ng => ?_⟩
      · rw [em, List.length_map, List.length_map]
        exact Nat.le_of_lt (small1000 (by omega))
      rw [em, ← List.map_append] at *
      have hok : ∀ z ∈ zs ++ ms, isNm z = true := fun z hz => by
        rcases List.mem_append.mp hz with h | h
        · exact hN.2 z h
        · exact hN.2 z (hm z h)
      have hw0 : 0 < (zs ++ ms).length := by
        rw [List.length_append]
        omega
      have hw1 : (zs ++ ms).length ≤ 1000 := by
        rw [List.length_append]
        omega
      have hB6 : Box (upd (upd H5 q (.lst (ms.map V.str))) g (.lst ((zs ++ ms).map V.str))) b l := (hB5.new nq).new ng
      have ngb : g ≠ b := (hB5.new nq).b1 ng
      have hg6 : (upd (upd H5 q (.lst (ms.map V.str))) g (.lst ((zs ++ ms).map V.str))) g = some (.lst ((zs ++ ms).map V.str)) := upd_same
      generalize upd (upd H5 q (.lst (ms.map V.str))) g (.lst ((zs ++ ms).map V.str)) = H6 at hB6 hg6
      generalize zs ++ ms = ws at hok hw0 hw1 hg6
      have hx0 : 0 < (ws.map V.str).length := by rw [List.length_map]; exact hw0
      have hx1 : (ws.map V.str).length ≤ 1000 := by rw [List.length_map]; exact hw1
      -- about
      refine ⟨_, rfl, g, _, rfl, .inl (SqL.of hg6), fun c nc => ?_⟩
      refine ⟨c, _, rfl, .inl (SqL.of upd_same), hx0, hx1, fun H7 t s7 nt ht => ?_⟩
      have s67 := (same_new (o := .lst (ws.map V.str)) nc).trans s7
      have hB7 := hB6.same s67
      have hg7 := s67 _ _ hg6
      have ntb : t ≠ b := (hB6.new nc).b1 nt
      -- like
      obtain ⟨x, r, exr⟩ : ∃ x r, ws.map V.str = x :: r := by
        cases e : ws.map V.str with
        | nil =>
          rw [e] at hx0
          cases hx0
        | cons x r => exact ⟨x, r, rfl⟩
      have hat : atI (ws.map V.str) 0 = some x := by
        rw [exr]
        exact atI_nat (j := 0) rfl
      refine ⟨_, rfl, _, rfl, g, _, 0, _, rfl, rfl, SqL.of hg7, hat, by show 1 ≤ sizeLine; decide, fun d nd => ?_⟩
      have hg8 := same_new (o := .lst [x]) nd _ _ hg7
      refine ⟨_, rfl, 1, rfl, g, _, rfl, SqL.of hg8, fun e ne => ?_⟩
      refine ⟨e, _, rfl, SqL.of upd_same, fun h nh => ?_⟩
      have hde : d ≠ e := ne_of_none upd_same ne
      have hdh : d ≠ h := ne_of_none (by rw [upd_ne hde]; exact upd_same) nh
      refine ⟨d, h, _, _, rfl, rfl, by rw [upd_ne hdh, upd_ne hde]; exact upd_same, upd_same, ?_, fun i ni => ?_⟩
      · rw [exr, cut_tail]
        show 1 + r.reverse.length ≤ sizeLine
        rw [List.length_reverse]
        have : r.length + 1 ≤ 1000 := by
          rw [exr] at hx1
          exact hx1
        exact Nat.le_of_lt (small1000 (by omega))
      refine ⟨i, _, rfl, .inl ⟨SqL.of upd_same, fun j nj => ?_⟩⟩
      have s78 := (same_new (o := .lst [x]) nd).trans ((same_new ne).trans ((same_new nh).trans ((same_new ni).trans (same_new (o := .tup ([x] ++ (cutV (ws.map V.str) (some 1) none).reverse)) nj))))
      have etr : [x] ++ (cutV (ws.map V.str) (some 1) none).reverse = trn (ws.map V.str) := by
        rw [exr, cut_tail, trn_cons]
        rfl
      have ftr : ∀ y ∈ trn (ws.map V.str), flatV y = true := by
        intro y hy
        unfold trn at hy
        obtain ⟨n, _, rfl⟩ := List.mem_map.mp hy
        exact flat_strs _ (plc_mem hx0 _)
      refine ⟨_, _, rfl, Lk.tup (n := 0) (s78 _ _ ht) (by rw [upd_same, etr]) (by rw [trn_len]; exact hx1) ftr, fun H9 s9 => ⟨true, rfl, iteF ?_⟩⟩
      have s79 := s78.trans s9
      clear s78 nj ni nh ne nd hg8
      have hg9 := s79 _ _ hg7
      have ht9 := s79 _ _ ht
      have hB9 := hB7.same s79
      -- turned again
      refine ⟨_, rfl, t, _, rfl, .inr (SqT.of ht9), by rw [trn_len]; exact hx0, by rw [trn_len]; exact hx1, fun H10 t2 s10 nt2 ht2 => ?_⟩
      refine ⟨_, rfl, g, _, rfl, .inl ⟨SqL.of (s10 _ _ hg9), fun u nu => ?_⟩⟩
      have so := fun z hz => nm_ok (hok z hz)
      have sh := shaped_strs so
      rw [trn_trn hx0] at ht2
      refine ⟨_, _, .tup (SqT.of (same_new nu _ _ ht2)) (dp_strs ws), .tup (SqT.of upd_same) (dp_strs ws), sh, sh, _, rfl, ?_⟩
      rw [SeqAt.eqv_refl _ (SeqAt.canLay_of_shaped sh)]
      refine iteF ?_
      have s11 := s10.trans (same_new (o := .tup (ws.map V.str)) nu)
      have hg11 := s11 _ _ hg9
      have ht11 := s11 _ _ ht9
      have hB11 := hB9.same s11
      clear sh so nu ht2
      generalize upd H10 u (.tup (ws.map V.str)) = H11 at hg11 ht11 hB11
      refine ⟨5, rfl, by decide, by decide, for_range (n := 5) (fun i σ H' => ∃ y2 y5 y6 y7 y8 : Option V, σ = [some (.ref a), some (.ref b), y2, some (.ref g), some (.ref t), y5, y6, y7, y8] ∧ Box H' b l ∧ H' g = some (.lst (ws.map V.str)) ∧ H' t = some (.tup (trn (ws.map V.str)))) ⟨_, _, _, _, _, rfl, hB11, hg11, ht11⟩ ?_ ?_⟩
      · rintro i5 σ K1 _ ⟨y2, y5, y6, y7, y8, rfl, hB, hg, ht⟩
        refine ⟨_, rfl, 1, rfl, by show 2 ≤ sizeLine; decide, fun q1 nq1 => ?_⟩
        refine ⟨b, l, _, rfl, hB.new nq1, .inl ⟨q1, _, rfl, hB.b1 nq1, upd_same, by decide, by decide, fun x1 Ka1 hx1 va1 hBa1 => ?_⟩⟩
        obtain ⟨i1, rfl, hi1⟩ := sign_of hx1
        refine ⟨_, rfl, _, _, rfl, rfl, ⟨by decide, by decide, by decide⟩, b, l, _, rfl, hBa1, by decide, by decide, fun r1 Kb1 _ _ vb1 hBb1 => ?_⟩
        refine ⟨_, _, rfl, rfl, .inl (by omega), ?_⟩
        have w1 := (Sav.of (same_new nq1)).trans (va1.trans vb1)
        refine ⟨_, rfl, 1, rfl, by show 2 ≤ sizeLine; decide, fun q2 nq2 => ?_⟩
        refine ⟨b, l, _, rfl, hBb1.new nq2, .inl ⟨q2, _, rfl, hBb1.b1 nq2, upd_same, by decide, by decide, fun x2 Ka2 hx2 va2 hBa2 => ?_⟩⟩
        obtain ⟨i2, rfl, hi2⟩ := sign_of hx2
        refine ⟨_, rfl, _, _, rfl, rfl, ⟨by decide, by decide, by decide⟩, b, l, _, rfl, hBa2, by decide, by decide, fun r2 Kb2 _ _ vb2 hBb2 => ?_⟩
        refine ⟨_, _, rfl, rfl, .inl (by omega), ?_⟩
        have w2 := (Sav.of (same_new nq2)).trans (va2.trans vb2)
        refine ⟨_, rfl, _, rfl, _, rfl, b, l, 9, rfl, hBb2, by decide, by decide, fun r3 Ka3 _ _ va3 hBa3 => ?_⟩
        refine ⟨by show 2 ≤ sizeLine; decide, fun q3 nq3 => ?_⟩
        refine ⟨b, l, _, rfl, hBa3.new nq3, .inl ⟨q3, _, rfl, hBa3.b1 nq3, upd_same, by show 0 < 2; decide, by show 2 ≤ 1000; decide, fun x3 Kb3 hx3 vb3 hBb3 => ?_⟩⟩
        obtain ⟨i3, rfl⟩ := int_of hx3
        have w3 := va3.trans ((Sav.of (same_new nq3)).trans vb3)
        refine ⟨_, rfl, _, rfl, _, rfl, b, l, 9, rfl, hBb3, by decide, by decide, fun r4 Ka4 _ _ va4 hBa4 => ?_⟩
        refine ⟨by show 2 ≤ sizeLine; decide, fun q4 nq4 => ?_⟩
        refine ⟨b, l, _, rfl, hBa4.new nq4, .inl ⟨q4, _, rfl, hBa4.b1 nq4, upd_same, by show 0 < 2; decide, by show 2 ≤ 1000; decide, fun x4 Kb4 hx4 vb4 hBb4 => ?_⟩⟩
        obtain ⟨i4, rfl⟩ := int_of hx4
        have w4 := va4.trans ((Sav.of (same_new nq4)).trans vb4)
        refine ⟨_, _, rfl, ?_⟩
        have w := w1.trans (w2.trans (w3.trans w4))
        have hg5 := w _ _ ngb hg
        have ht5 := w _ _ ntb ht
        -- due
        have hlen0 : (0 : Int) < ((ws.map V.str).length : Int) := by omega
        refine ⟨_, rfl, _, rfl, _, rfl, _, _, rfl, rfl, _, rfl, g, _, rfl, .inl (SqL.of hg5), _, _, rfl, rfl, hlen0, g, _, _, _, rfl, rfl, SqL.of hg5, plc_at hx0 _, ?_⟩
        refine ⟨_, rfl, _, rfl, _, rfl, g, _, rfl, .inl (SqL.of hg5), _, _, rfl, rfl, hlen0, g, _, _, _, rfl, rfl, SqL.of hg5, plc_at hx0 _, by show 2 ≤ sizeLine; decide, fun d nd => ?_⟩
        have s5 := same_new (o := .lst [plc (ws.map V.str) (i3 - i4), plc (ws.map V.str) i3]) nd
        have hg6 := s5 _ _ hg5
        refine ⟨_, rfl, _, rfl, _, rfl, rfl, rfl, g, _, _, _, rfl, .inl (SqL.of hg6), hx0, ?_⟩
        refine ⟨_, rfl, g, _, rfl, .inl ⟨SqL.of hg6, fun u nu => ?_⟩⟩
        refine ⟨_, rfl, u, _, i3, 0, rfl, .inr (SqT.of upd_same), hx0, by show 2 ≤ sizeLine; decide, fun e ne => ?_⟩
        rw [Int.sub_zero]
        have s7 := (same_new (o := .tup (ws.map V.str)) nu).trans (same_new (o := .lst [plc (ws.map V.str) (i3 - i4), plc (ws.map V.str) i3]) ne)
        have fl : ∀ y ∈ [plc (ws.map V.str) (i3 - i4), plc (ws.map V.str) i3], flatV y = true := by
          intro y hy
          rcases List.mem_cons.mp hy with rfl | hy
          · exact flat_strs _ (plc_mem hx0 _)
          · rw [List.mem_singleton.mp hy]
            exact flat_strs _ (plc_mem hx0 _)
        refine ⟨_, rfl, _, _, rfl, Lk.lst (n := 0) upd_same (s7 _ _ upd_same) (by show 2 ≤ 1000; decide) fl, fun K8 s8 => ⟨true, rfl, iteF ?_⟩⟩
        have s58 := s5.trans (s7.trans s8)
        have hd8 := (s7.trans s8) _ _ (upd_same (H := Kb4) (a := d) (o := .lst [plc (ws.map V.str) (i3 - i4), plc (ws.map V.str) i3]))
        -- the round turned about
        refine ⟨_, rfl, _, rfl, _, rfl, t, _, _, 0, rfl, .inr (SqT.of (s58 _ _ ht5)), by rw [trn_len]; exact hx0, ?_⟩
        rw [Int.sub_zero, plc_trn hx0]
        obtain ⟨z, hz, ez⟩ := str_of (plc_mem hx0 i3)
        refine ⟨_, rfl, d, _, 1, _, rfl, rfl, SqL.of hd8, atI_nat (j := 1) rfl, ?_⟩
        rw [ez]
        refine ⟨rfl, _, rfl, ?_⟩
        rw [decide_eq_true (show V.str z = V.str z from rfl)]
        refine iteF ?_
        exact ⟨_, _, _, _, _, rfl, hBb4.same s58, s58 _ _ hg5, s58 _ _ ht5⟩
      · rintro σ K1 ⟨y2, y5, y6, y7, y8, rfl, hB, hg, ht⟩
        exact ⟨_, _, _, _, _, _, _, rfl, hB⟩
    · rintro σ H2 ⟨y2, y3, y4, y5, y6, y7, y8, rfl, hB⟩
      exact k _
end
end Dk
namespace Dk
open PySem L2
theorem all_mk {l : PySem.W.OpenLaw} {w : World} {K : PySem.W.Frag} {h : Heap} {mg : Str → Option Value} {fa f0 f1 f2 f3 f4 f5 f6 f7 : Addr} (X : K.In h) (G : h.Ns mainGlobals mg) (hfa : mg "law" = some (.ref fa))
    {od0 an0 od1 an1 od2 an2 od3 an3 od4 an4 od5 an5 od6 an6 od7 an7 : Option Addr} {sl0 sl1 sl2 sl3 sl4 sl5 sl6 sl7 : Array (Option Value)}
    {oc0 kV0 dc0 pm0 cd0 ct0 oc1 kV1 dc1 pm1 cd1 ct1 oc2 kV2 dc2 pm2 cd2 ct2 oc3 kV3 dc3 pm3 cd3 ct3 oc4 kV4 dc4 pm4 cd4 ct4 oc5 dc5 pm5 cd5 ct5 oc6 kV6 dc6 pm6 cd6 ct6 oc7 kV7 dc7 pm7 cd7 ct7 : Value}
    (a0 : PySem.W.nsIn K mainGlobals "_law_box" = some (some (.ref f0)))
    (l0 : K.lookup f0 = some ⟨oc0, od0, .func (PySem.W.fnOf "_law_box" "_law_box" (defArgs sBox) (defBody sBox) (defScope sBox) .none kV0 dc0 pm0 an0 cd0 ct0), sl0⟩)
    (c0 : PySem.W.codeIn K cd0 "_law_box" = true) (k0 : PySem.W.keepIn K (.ref f0) = true)
    (a1 : PySem.W.nsIn K mainGlobals "_law_draw" = some (some (.ref f1)))
    (l1 : K.lookup f1 = some ⟨oc1, od1, .func (PySem.W.fnOf "_law_draw" "_law_draw" (defArgs sDraw) (defBody sDraw) (defScope sDraw) .none kV1 dc1 pm1 an1 cd1 ct1), sl1⟩)
    (c1 : PySem.W.codeIn K cd1 "_law_draw" = true) (k1 : PySem.W.keepIn K (.ref f1) = true)
    (a2 : PySem.W.nsIn K mainGlobals "_law_of" = some (some (.ref f2)))
    (l2 : K.lookup f2 = some ⟨oc2, od2, .func (PySem.W.fnOf "_law_of" "_law_of" (defArgs sOf) (defBody sOf) (defScope sOf) .none kV2 dc2 pm2 an2 cd2 ct2), sl2⟩)
    (c2 : PySem.W.codeIn K cd2 "_law_of" = true) (k2 : PySem.W.keepIn K (.ref f2) = true)
    (a3 : PySem.W.nsIn K mainGlobals "_law_names" = some (some (.ref f3)))
    (l3 : K.lookup f3 = some ⟨oc3, od3, .func (PySem.W.fnOf "_law_names" "_law_names" (defArgs sNames) (defBody sNames) (defScope sNames) .none kV3 dc3 pm3 an3 cd3 ct3), sl3⟩)
    (c3 : PySem.W.codeIn K cd3 "_law_names" = true) (k3 : PySem.W.keepIn K (.ref f3) = true)
    (a4 : PySem.W.nsIn K mainGlobals "_law_like" = some (some (.ref f4)))
    (l4 : K.lookup f4 = some ⟨oc4, od4, .func (PySem.W.fnOf "_law_like" "_law_like" (defArgs sLike) (defBody sLike) (defScope sLike) .none kV4 dc4 pm4 an4 cd4 ct4), sl4⟩)
    (c4 : PySem.W.codeIn K cd4 "_law_like" = true) (k4 : PySem.W.keepIn K (.ref f4) = true)
    {kD5 : Addr} {kt5_delay : Tok}
    (w5_delay : PySem.W.nsIn K kD5 "delay" = some (some (.int 0 kt5_delay)))
    (a5 : PySem.W.nsIn K mainGlobals "place" = some (some (.ref f5)))
    (l5 : K.lookup f5 = some ⟨oc5, od5, .func (PySem.W.fnOf "place" "place" (defArgs sPlace) (defBody sPlace) (defScope sPlace) .none (.ref kD5) dc5 pm5 an5 cd5 ct5), sl5⟩)
    (c5 : PySem.W.codeIn K cd5 "place" = true) (k5 : PySem.W.keepIn K (.ref f5) = true)
    (a6 : PySem.W.nsIn K mainGlobals "turned" = some (some (.ref f6)))
    (l6 : K.lookup f6 = some ⟨oc6, od6, .func (PySem.W.fnOf "turned" "turned" (defArgs sTurned) (defBody sTurned) (defScope sTurned) .none kV6 dc6 pm6 an6 cd6 ct6), sl6⟩)
    (c6 : PySem.W.codeIn K cd6 "turned" = true) (k6 : PySem.W.keepIn K (.ref f6) = true)
    (a7 : PySem.W.nsIn K mainGlobals "law" = some (some (.ref f7)))
    (l7 : K.lookup f7 = some ⟨oc7, od7, .func (PySem.W.fnOf "law" "law" (defArgs sLaw) (defBody sLaw) (defScope sLaw) .none kV7 dc7 pm7 an7 cd7 ct7), sl7⟩)
    (c7 : PySem.W.codeIn K cd7 "law" = true) (k7 : PySem.W.keepIn K (.ref f7) = true)
    (z_list : PySem.W.nsIn K mainGlobals "list" = some none)
    (z_len : PySem.W.nsIn K mainGlobals "len" = some none)
    (z_max : PySem.W.nsIn K mainGlobals "max" = some none)
    (z_isinstance : PySem.W.nsIn K mainGlobals "isinstance" = some none)
    (z_tuple : PySem.W.nsIn K mainGlobals "tuple" = some none)
    (z_all : PySem.W.nsIn K mainGlobals "all" = some none)
    (z_zip : PySem.W.nsIn K mainGlobals "zip" = some none)
    (z_bool : PySem.W.nsIn K mainGlobals "bool" = some none)
    (z_int : PySem.W.nsIn K mainGlobals "int" = some none)
    (z_str : PySem.W.nsIn K mainGlobals "str" = some none)
    (z_range : PySem.W.nsIn K mainGlobals "range" = some none)
    : ∃ fd : FuncData, (∀ (s : Shared) (v : Value), BindsTo s fd ⟨[v], []⟩ [("_law_script", v)]) ∧ ∀ base : Heap, K.In base → base.Ns mainGlobals mg → FnOk l.prog w K mg base CX0 4 fa fd ["_law_script"] (spLaw K) := by
  have e := hfa.symm.trans (PySem.W.mg_of X G a7)
  cases e
  have F0 := fun_mk (st := sBox) l0 c0 k0
  have b0 := F0.binds (ps := ["_law_script"]) fun _ _ _ _ _ _ us hl => match us, hl with | [_], _ => rfl
  have g0 := PySem.W.mg_of X G a0
  have F1 := fun_mk (st := sDraw) l1 c1 k1
  have b1 := F1.binds (ps := ["_law_box_here", "_law_many"]) fun _ _ _ _ _ _ us hl => match us, hl with | [_, _], _ => rfl
  have g1 := PySem.W.mg_of X G a1
  have F2 := fun_mk (st := sOf) l2 c2 k2
  have b2 := F2.binds (ps := ["_law_box_here", "_law_some"]) fun _ _ _ _ _ _ us hl => match us, hl with | [_, _], _ => rfl
  have g2 := PySem.W.mg_of X G a2
  have F3 := fun_mk (st := sNames) l3 c3 k3
  have b3 := F3.binds (ps := ["_law_box_here", "_law_many"]) fun _ _ _ _ _ _ us hl => match us, hl with | [_, _], _ => rfl
  have g3 := PySem.W.mg_of X G a3
  have F4 := fun_mk (st := sLike) l4 c4 k4
  have b4 := F4.binds (ps := ["_law_found", "_law_due"]) fun _ _ _ _ _ _ us hl => match us, hl with | [_, _], _ => rfl
  have g4 := PySem.W.mg_of X G a4
  have F5 : FunD K "place" "place" (defArgs sPlace) (defBody sPlace) (defScope sPlace) [] [("delay", V.int 0)] f5 _ := ⟨⟨_, _, _, _, _, _, _, _, _, _, rfl, l5, c5, .inl ⟨rfl, rfl⟩, .inr ⟨kD5, rfl, fun q hq => by
    simp only [List.mem_cons, List.mem_nil_iff, or_false] at hq
    rcases hq with rfl
    · exact ⟨_, w5_delay, ⟨_, rfl⟩⟩⟩⟩, k5⟩
  have g5 := PySem.W.mg_of X G a5
  have F6 := fun_mk (st := sTurned) l6 c6 k6
  have b6 := F6.binds (ps := ["rooms"]) fun _ _ _ _ _ _ us hl => match us, hl with | [_], _ => rfl
  have g6 := PySem.W.mg_of X G a6
  have F7 := fun_mk (st := sLaw) l7 c7 k7
  have n_list := PySem.W.mg_none_of X G z_list
  have n_len := PySem.W.mg_none_of X G z_len
  have n_max := PySem.W.mg_none_of X G z_max
  have n_isinstance := PySem.W.mg_none_of X G z_isinstance
  have n_tuple := PySem.W.mg_none_of X G z_tuple
  have n_all := PySem.W.mg_none_of X G z_all
  have n_zip := PySem.W.mg_none_of X G z_zip
  have n_bool := PySem.W.mg_none_of X G z_bool
  have n_int := PySem.W.mg_none_of X G z_int
  have n_str := PySem.W.mg_none_of X G z_str
  have n_range := PySem.W.mg_none_of X G z_range
  refine ⟨PySem.W.fnOf "law" "law" (defArgs sLaw) (defBody sLaw) (defScope sLaw) .none kV7 dc7 pm7 an7 cd7 ct7, fun s v => .of_eq rfl, fun base _ _ => ?_⟩
  exact ok_law F7 ⟨F0, F1, F2, F3, F4, F5, F6, b0, b1, b2, b3, b4, b6, g0, g1, g2, g3, g5, g6, ⟨n_isinstance, n_list, n_tuple, n_len, n_all, n_zip, n_bool, n_int, n_str, g4⟩, n_max, n_range⟩
end Dk
open PySem PySem.W PyProof.Rows in
set_option maxRecDepth 100000 in
set_option maxHeartbeats 0 in
theorem PySem.Challenge.cw_darkthread_k07_places_and_rounds_turned_holds : PySem.Challenge.rw_darkthread_k07_places_and_rounds_turned.Holds := by
  w_on; o_law; k_head; (case hw => w_witness2)
  k_fill
  refine L2.walk_of (l := PySem.Challenge.rw_darkthread_k07_places_and_rounds_turned) (n := 63) (k := 4) (x := "_law_script") (CX := fun _ => L2.CX0) (sp := fun w => Dk.spLaw _) rfl (by decide) rfl ⟨rfl, by decide, by decide⟩ (fun w h Y => PySem.W.kIn_of Y) ?F (fun _ _ a ns hl _ hS => ⟨a, ns, rfl, hS, hl, fun _ => rfl⟩) (fun _ _ _ _ _ h => h)
  case F =>
    intro w mg fa h KX G hmg
    refine' Dk.all_mk KX G hmg ?a0 ?l0 ?c0 ?k0 ?a1 ?l1 ?c1 ?k1 ?a2 ?l2 ?c2 ?k2 ?a3 ?l3 ?c3 ?k3 ?a4 ?l4 ?c4 ?k4 ?w5_delay ?a5 ?l5 ?c5 ?k5 ?a6 ?l6 ?c6 ?k6 ?a7 ?l7 ?c7 ?k7 ?z_list ?z_len ?z_max ?z_isinstance ?z_tuple ?z_all ?z_zip ?z_bool ?z_int ?z_str ?z_range
    (case a0 => k_is)
    (case l0 => k_is)
    (case c0 => k_is)
    (case k0 => k_is)
    (case a1 => k_is)
    (case l1 => k_is)
    (case c1 => k_is)
    (case k1 => k_is)
    (case a2 => k_is)
    (case l2 => k_is)
    (case c2 => k_is)
    (case k2 => k_is)
    (case a3 => k_is)
    (case l3 => k_is)
    (case c3 => k_is)
    (case k3 => k_is)
    (case a4 => k_is)
    (case l4 => k_is)
    (case c4 => k_is)
    (case k4 => k_is)
    (case a5 => k_is)
    (case l5 => k_is)
    (case c5 => k_is)
    (case k5 => k_is)
    (case a6 => k_is)
    (case l6 => k_is)
    (case c6 => k_is)
    (case k6 => k_is)
    (case a7 => k_is)
    (case l7 => k_is)
    (case c7 => k_is)
    (case k7 => k_is)
    (case w5_delay => k_is)
    (case z_list => k_is)
    (case z_len => k_is)
    (case z_max => k_is)
    (case z_isinstance => k_is)
    (case z_tuple => k_is)
    (case z_all => k_is)
    (case z_zip => k_is)
    (case z_bool => k_is)
    (case z_int => k_is)
    (case z_str => k_is)
    (case z_range => k_is)
