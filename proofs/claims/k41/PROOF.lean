import PyProof.Rows.All
import Wide.All
import OpenK.AllK
import Wide.FinOn
import HandS.ForMost
import HandS.Walk
import HandS.IsInst
import HandS.Zip
import HandS.Wide
import HandS.Flow
import HandS.Defaults
import HandS.Head0
import HandS.Head1
import HandS.Head2
import HandS.HeadEnd
import HandS.HeadHook1
import HandS.HeadHook2
import HandS.HeadHook4
import HandS.HeadWalk
import KE.KExcInit
import HandS.ExcInit
import HandS.ExcField
import HandS.ExcIs
import HandS.Nested
import HandS.DictComp
import HandS.Style
import HandS.Deep
import HandS.OwnEq
import HandS.DeepEq
import HandS.FStr
import KE.KCallOwn
import KE.KFmtOwn
import KE.SortData
import KE.GoesEnum
import HandS.Iter
import HandS.Conv
import HandS.MakeKw
import HandS.Small
import HandS.More
import HandS.TupMul
import HandS.TupAny
import HandS.Star
import HandS.CallRecv
import HandS.TupLen
import HandS.HotCalls
import KE.GoesZip
import KE.KExcIs
import KE.KTryMore
import HandS.ExcCtx
import KE.KLam
import KE.KDflt
import HandS.ExcInitHot
import KE.KDictDisplayH
import KE.KRevSl
import HandS.Strs
import KE.KDictPairs
import HandS.EndTab
import KE.GoesMore
import PySem.Challenge.RW_darkthread_k41_whole_bars_and_more_posts
set_option Elab.async false
set_option linter.all false
set_option maxRecDepth 100000
set_option maxHeartbeats 4000000
namespace Dk
open PySem L2
/-! ### cuts: a piece is walked to a middle that the prover names -/
section
variable {X : Cx}
def tMid (t : TS) : TS := fun D s H => ∃ M : L2.St → Hp → Prop, t { D with nx := M } s H ∧ ∀ s' H', M s' H' → D.nx s' H'
theorem ps_mid {st : Stmt} {t : TS} (h : PS X st t) : PS X st (tMid t) := by
  refine ⟨fun pins s σ H D I q => ?_⟩
  obtain ⟨M, q1, q2⟩ := q
  refine thn (h.run pins s σ H { D with nx := M } I q1) fun f s1 z => ?_
  cases f with
  | next =>
    obtain ⟨σ', H', I', m⟩ := z
    exact ⟨σ', H', I', q2 _ _ m⟩
  | ret v => exact z
  | brk => exact z
  | cont => exact z
def eMid (t : TE) : TE := fun s H Q => ∃ M : VK, t s H M ∧ ∀ v H', M v H' → Q v H'
theorem pe_mid {e : Expr} {t : TE} (h : PE X e t) : PE X e (eMid t) := by
  refine ⟨fun pins s σ H Q I q => ?_⟩
  obtain ⟨M, q1, q2⟩ := q
  refine thn (h.run pins s σ H M I q1) fun u s1 z => ?_
  obtain ⟨v, H', I', r, m⟩ := z
  exact ⟨v, H', I', r, q2 _ _ m⟩
def bMid (t : TT) : TT := fun s H Q => ∃ M : Bool → Hp → Prop, t s H M ∧ ∀ b H', M b H' → Q b H'
theorem pt_mid {e : Expr} {t : TT} (h : PT X e t) : PT X e (bMid t) := by
  refine ⟨fun pins s σ H Q I q => ?_⟩
  obtain ⟨M, q1, q2⟩ := q
  refine thn (h.run pins s σ H M I q1) fun b s1 z => ?_
  obtain ⟨H', I', m⟩ := z
  exact ⟨H', I', q2 _ _ m⟩
end
/-! ### heaps -/
theorem same_new {H : Hp} {p : Addr} {o : HO} (h : H p = none) : Same H (upd H p o) := fun b x e => by
  rw [upd_ne (ne_of_none e h)]
  exact e
theorem upd_id {H : Hp} {p : Addr} {o : HO} (h : H p = some o) : upd H p o = H := by
  funext q
  by_cases e : q = p
  · rw [e, upd_same, h]
  · rw [upd_ne e]
theorem upd_upd {H : Hp} {p : Addr} {o u : HO} : upd (upd H p o) p u = upd H p u := by
  funext q
  by_cases e : q = p
  · rw [e, upd_same, upd_same]
  · rw [upd_ne e, upd_ne e, upd_ne e]
/-- all but b is as it was -/
def Sav (b : Addr) (H H' : Hp) : Prop := ∀ q o, q ≠ b → H q = some o → H' q = some o
theorem Sav.refl (b : Addr) (H : Hp) : Sav b H H := fun _ _ _ h => h
theorem Sav.trans {b : Addr} {H H1 H2 : Hp} (x : Sav b H H1) (y : Sav b H1 H2) : Sav b H H2 := fun q o n h => y q o n (x q o n h)
theorem Sav.of {b : Addr} {H H1 : Hp} (x : Same H H1) : Sav b H H1 := fun q o _ h => x q o h
theorem Sav.upd {b : Addr} {H : Hp} {o : HO} : Sav b H (upd H b o) := fun q x n h => by
  rw [upd_ne n]
  exact h
/-! ### the box of draws -/
def bxv (l : Addr) (i c s t : Int) : List V := [.ref l, .int i, .int c, .int s, .int t]
def Box (H : Hp) (b l : Addr) : Prop := ∃ (ns : List Int) (i c s t : Int),
  H b = some (.lst (bxv l i c s t)) ∧ H l = some (.lst (ns.map V.int)) ∧ 0 ≤ i ∧ 0 ≤ c ∧ 0 ≤ s ∧ s < 2147483629
theorem Box.ne {H : Hp} {b l : Addr} {ns : List Int} {i c s t : Int} (h1 : H b = some (.lst (bxv l i c s t))) (h2 : H l = some (.lst (ns.map V.int))) : l ≠ b := ne_of h2 h1 (by
  intro z
  cases ns with
  | nil => cases z
  | cons x r => cases z)
theorem Box.same {H H' : Hp} {b l : Addr} (h : Box H b l) (s : Same H H') : Box H' b l := by
  obtain ⟨ns, i, c, s0, t, h1, h2, r⟩ := h
  exact ⟨ns, i, c, s0, t, s _ _ h1, s _ _ h2, r⟩
theorem Box.new {H : Hp} {b l p : Addr} {o : HO} (h : Box H b l) (n : H p = none) : Box (upd H p o) b l := h.same (same_new n)
theorem Box.b1 {H : Hp} {b l p : Addr} (h : Box H b l) (n : H p = none) : p ≠ b := by
  obtain ⟨ns, i, c, s0, t, h1, h2, r⟩ := h
  exact (ne_of_none h1 n).symm
theorem Box.l1 {H : Hp} {b l p : Addr} (h : Box H b l) (n : H p = none) : p ≠ l := by
  obtain ⟨ns, i, c, s0, t, h1, h2, r⟩ := h
  exact (ne_of_none h2 n).symm
theorem Box.put {H : Hp} {b l p : Addr} {o : HO} (h : Box H b l) (n1 : p ≠ b) (n2 : p ≠ l) : Box (upd H p o) b l := by
  obtain ⟨ns, i, c, s0, t, h1, h2, r⟩ := h
  exact ⟨ns, i, c, s0, t, by rw [upd_ne n1.symm]; exact h1, by rw [upd_ne n2.symm]; exact h2, r⟩
/-- a draw below m: some number, the box turned on -/
def spDraw : Sp := fun vs H Q _ => ∃ (b l : Addr) (m : Int), vs = [.ref b, .int m] ∧ Box H b l ∧ 0 < m ∧ m.natAbs < 2 ^ 100 ∧
  ∀ (r : Int) (H' : Hp), 0 ≤ r → r < m → Sav b H H' → Box H' b l → Q (.int r) H'
end Dk
namespace Dk
open PySem L2
/-- a new box out of the script -/
def spBox (K : PySem.W.Frag) : Sp := fun vs H Q _ => ∃ (a : Addr) (ns : List Int), vs = [.ref a] ∧ SqL K H a (ns.map V.int) ∧
  ∀ (H' : Hp) (b l : Addr), Same H H' → H b = none → H l = none → Box H' b l → Q (.ref b) H'
/-- one of some -/
def spOf : Sp := fun vs H Q _ => ∃ (b l : Addr) (v : V), vs = [.ref b, v] ∧ Box H b l ∧
  ((∃ (p : Addr) (xs : List V), v = .ref p ∧ p ≠ b ∧ H p = some (.lst xs) ∧ 0 < xs.length ∧ xs.length ≤ 1000 ∧ ∀ (x : V) (H' : Hp), x ∈ xs → Sav b H H' → Box H' b l → Q x H') ∨
   (∃ z : Str, v = .str z ∧ 0 < z.length ∧ z.length ≤ 1000 ∧ ∀ (c : Nat) (H' : Hp), c ∈ z.cps.toList → Sav b H H' → Box H' b l → Q (.str ⟨#[c]⟩) H'))
theorem cut_ints (ns : List Int) (a b : Option Int) : ∃ ms : List Int, cutV (ns.map V.int) a b = ms.map V.int := by
  refine ⟨(ns.drop (HT.sIx (ns.map V.int).length 0 a)).take (HT.sIx (ns.map V.int).length (ns.map V.int).length b - HT.sIx (ns.map V.int).length 0 a), ?_⟩
  unfold cutV
  rw [List.map_take, List.map_drop]
theorem at_some {α : Type} {xs : List α} {r : Int} (h0 : 0 ≤ r) (h1 : r < (xs.length : Int)) : ∃ x, x ∈ xs ∧ atI xs r = some x := by
  have e : ((r.toNat : Nat) : Int) = r := Int.toNat_of_nonneg h0
  have hl : r.toNat < xs.length := by omega
  refine ⟨xs[r.toNat], List.getElem_mem hl, ?_⟩
  have z := atI_nat (List.getElem?_eq_getElem hl)
  rw [e] at z
  exact z
theorem small {n : Nat} (h : n ≤ 1000) : ((n : Nat) : Int).natAbs < 2 ^ 100 := by
  have e : ((n : Nat) : Int).natAbs = n := rfl
  rw [e]
  exact Nat.lt_of_le_of_lt h (by decide)
end Dk
namespace Dk
open PySem L2
/-- two values of the same plain data, n deep at most -/
def Lk : Nat → Hp → V → V → Prop
  | 0, _, _, _ => False
  | n + 1, H, v, u => (v = u ∧ flatV v = true) ∨ ∃ (a b : Addr) (xs ys : List V), v = .ref a ∧ u = .ref b ∧ xs.length = ys.length ∧ xs.length ≤ 1000 ∧
      (H a = some (.lst xs) ∧ H b = some (.lst ys) ∨ H a = some (.tup xs) ∧ H b = some (.tup ys)) ∧ ∀ (i : Nat) (x y : V), xs[i]? = some x → ys[i]? = some y → Lk n H x y
theorem Lk.same : ∀ {n : Nat} {H H' : Hp} {v u : V}, Same H H' → Lk n H v u → Lk n H' v u
  | 0, _, _, _, _, _, h => h
  | n + 1, H, H', v, u, s, h => by
    rcases h with h | ⟨a, b, xs, ys, e1, e2, e3, e4, e5, e6⟩
    · exact .inl h
    · refine .inr ⟨a, b, xs, ys, e1, e2, e3, e4, ?_, fun i x y h1 h2 => (e6 i x y h1 h2).same s⟩
      rcases e5 with ⟨x, y⟩ | ⟨x, y⟩
      · exact .inl ⟨s _ _ x, s _ _ y⟩
      · exact .inr ⟨s _ _ x, s _ _ y⟩
theorem walk_zipT {K : PySem.W.Frag} {a b : Addr} {xs ys : List V} {n : Nat} (hn : n = min xs.length ys.length) : Walk (RZ.ItzT K a b) n (fun H => SqT K H a xs ∧ SqT K H b ys) (YPair (fun i => xs[i]?) (fun i => ys[i]?)) := by
  subst hn
  refine ⟨fun i H hi g => ?_, fun H g => ⟨xs, ys, g.1, g.2, by omega⟩, fun i H v H' _ g y => ?_⟩
  · have h1 : i < xs.length := by omega
    have h2 : i < ys.length := by omega
    exact ⟨xs, ys, _, _, g.1, g.2, List.getElem?_eq_getElem h1, List.getElem?_eq_getElem h2⟩
  · obtain ⟨T, x, z, h1, h2, h3, h4, h5⟩ := y
    exact ⟨T, x, z, h1, h2, h3, h4 _ g.1, h5 _ g.2⟩
end Dk
namespace Dk
open PySem L2
/-! ### names -/
def abc : Str := Str.ofString "abcdefghijklmnopqrstuvwxyz"
def isNm (z : Str) : Bool := decide (1 ≤ z.length ∧ z.length ≤ 8) && z.cps.toList.all fun c => decide (c ∈ abc.cps.toList)
def spName : Sp := fun vs H Q _ => ∃ z : Str, vs = [.str z] ∧ z.length ≤ 1000 ∧ ∀ H', Same H H' → Q (.bl (isNm z)) H'
theorem len_str (z : Str) : z.cps.toList.length = z.length := by simp [Str.length]
/-- the list that the comprehension over the signs leaves -/
def inAbc (z : Str) (i : Nat) : List Bool := (z.cps.toList.take i).map fun c => decide (c ∈ abc.cps.toList)
theorem inAbc_succ {z : Str} {i c : Nat} (h : z.cps[i]? = some c) : inAbc z (i + 1) = inAbc z i ++ [decide (c ∈ abc.cps.toList)] := by
  have e : z.cps.toList[i]? = some c := by
    rw [Array.getElem?_toList]
    exact h
  unfold inAbc
  rw [List.take_add_one, e, List.map_append]
  rfl
theorem inAbc_all (z : Str) : (inAbc z z.cps.size).all id = z.cps.toList.all fun c => decide (c ∈ abc.cps.toList) := by
  unfold inAbc
  rw [List.take_of_length_le (by simp), List.all_map]
  rfl
theorem inAbc_len {z : Str} {i : Nat} (h : z.length ≤ 1000) : ((inAbc z i).map V.bl).length < sizeLine := by
  unfold inAbc
  rw [List.length_map, List.length_map, List.length_take, len_str]
  exact small1000 (by omega)
theorem nm_in {z : Str} {b : Bool} (h : decide (1 ≤ z.length ∧ z.length ≤ 8) = b) : isNm z = (b && z.cps.toList.all fun c => decide (c ∈ abc.cps.toList)) := by
  unfold isNm
  rw [h]
end Dk
namespace Dk
open PySem L2 PyProof.Rows
/-! ### the head: facts by names, and one question more -/
abbrev AlY : Type := He.AlD × Bool
section
variable {K : PySem.W.Frag} {h : Heap} {mg : Str → Option Value} {x y q : Str} {st : Stmt} {f : Addr} {fd : FuncData}
theorem fun_ofD (F : FunD K x q (defArgs st) (defBody st) (defScope st) [] [] f fd) : Fun K x q st f fd := by
  obtain ⟨⟨oc, od, dV, kV, doc, pm, an, cdv, ct, osl, rfl, lk, hcd, hD, hK⟩, kp⟩ := F
  rcases hD with ⟨_, rfl⟩ | ⟨e, _⟩
  · exact ⟨⟨oc, od, kV, doc, pm, an, cdv, ct, osl, rfl, lk, hcd⟩, kp⟩
  · exact absurd rfl e
theorem glo_fun (X : K.In h) (G : h.Ns mainGlobals mg) (d : ∃ fd, FunD K x x (defArgs st) (defBody st) (defScope st) [] [] (He.fAd K (x, none)) fd) (c : (He.Fa.glo x).ok K = true) : ∃ f fd, Fun K x x st f fd ∧ mg x = some (.ref f) := by
  obtain ⟨fd, F⟩ := d
  exact ⟨_, fd, fun_ofD F, He.glo_ok X G c⟩
theorem met_fun {C : Addr} (e : C = He.ga K y) (d : ∃ fd, FunD K x q (defArgs st) (defBody st) (defScope st) [] [] (He.fAd K (y, some x)) fd) (c : (He.Fa.meth y x).ok K = true) : ∃ f fd, Fun K x q st f fd ∧ Meth K C x f := by
  obtain ⟨fd, F⟩ := d
  subst e
  exact ⟨_, fd, fun_ofD F, He.meth_ok c⟩
end
end Dk
namespace Dk
open PySem PySem.Spec PyProof.Rows L2
def kwords : List Str := ["BadName", "Taken", "Leans", "BadNumber", "NotAWalk", "Broken", "TooGreat", "BadText", "Full", "Loop", "NoDoor", "NoSight", "BadRound", "Bare", "BadDeed", "BadAsking", "NoRoom", "NoPost", "NoWatcher", "NoWatch", "Nothing"]
def obZ (n : List Addr) (fs : List He.Fa) (ds : List He.DefD) (tf : List He.Defn) (e : PySem.W.Frag → Bool) (g : Addr → Option Obj) : AlY := (He.obsD fs ds (He.frT g n), e (He.frT g n) && He.tabsB g tf (He.frT g n))
structure SaysZ (fs : List He.Fa) (ds : List He.DefD) (tf : List He.Defn) (e : PySem.W.Frag → Bool) (hp : Heap) (K : PySem.W.Frag) : Prop where
  t : He.SaysD fs ds K
  more : e K = true
  hd : ∀ p ∈ tf, PySem.W.codeHdIn K (He.cT K p).1 (He.cT K p).2 = true
  out : ∀ p ∈ tf, K.lookup (He.cT K p).2 = none
  emp : ∀ p ∈ tf, hp.get? (He.cT K p).2 = some { cls := .none, data := .fields #[] }
theorem saysZ_of {n : List Addr} {fs : List He.Fa} {ds : List He.DefD} {tf : List He.Defn} {e : PySem.W.Frag → Bool} {hp : Heap} (z : obZ n fs ds tf e hp.get? = (He.valD ds, true)) : SaysZ fs ds tf e hp (He.frT hp.get? n) := by
  have z1 : He.obsD fs ds (He.frT hp.get? n) = He.valD ds := congrArg Prod.fst z
  have z2 : (e (He.frT hp.get? n) && He.tabsB hp.get? tf (He.frT hp.get? n)) = true := congrArg Prod.snd z
  obtain ⟨y1, y2⟩ := He.ba z2
  have key : ∀ p ∈ tf, PySem.W.codeHdIn (He.frT hp.get? n) (He.cT (He.frT hp.get? n) p).1 (He.cT (He.frT hp.get? n) p).2 = true ∧ ∃ o, hp.get? (He.cT (He.frT hp.get? n) p).2 = some o ∧ He.emptyTab o = true := fun p m => by
    obtain ⟨x1, x2⟩ := He.ba (List.all_eq_true.mp y2 p m)
    refine ⟨x1, ?_⟩
    split at x2
    · rename_i o q
      exact ⟨o, q, x2⟩
    · cases x2
  refine ⟨z1, y1, fun p m => (key p m).1, fun p m => ?_, fun p m => ?_⟩
  · obtain ⟨_, o, q, y⟩ := key p m
    exact He.frT_none q y
  · obtain ⟨_, o, q, y⟩ := key p m
    rw [q, He.emptyTab_eq y]
def hkZ (n : List Addr) (fs : List He.Fa) (ds : List He.DefD) (tf : List He.Defn) (e : PySem.W.Frag → Bool) : PySem.W.Hook where
  α := AlY
  obs := fun z => obZ n fs ds tf e z.heap.get?
  val := fun _ => (He.valD ds, true)
  says := fun _ hp => ∃ K : PySem.W.Frag, K.In hp ∧ SaysZ fs ds tf e hp K
  of := fun _ _ z => ⟨_, He.frT_in, saysZ_of z⟩
  keeps := fun _ _ _ z y => z.elim fun K x => ⟨K, PySem.W.Frag.In.keeps x.1 y, x.2.t, x.2.more, x.2.hd, x.2.out, fun p m => y _ _ (x.2.emp p m)⟩
theorem obZ_eq {n : List Addr} {fs : List He.Fa} {ds : List He.DefD} {tf : List He.Defn} {e : PySem.W.Frag → Bool} (z : PySem.W.SharedT) : obZ n fs ds tf e (HandSHeadRun.getT z) = (hkZ n fs ds tf e).obs z.abs := by
  have q : HandSHeadRun.getT z = z.abs.heap.get? := funext (HandSHeadRun.getT_eq z)
  rw [q]
  rfl
def csK (K : PySem.W.Frag) (j : Nat) : Addr := He.ga K (kwords.getD j "")
def makB (K : PySem.W.Frag) (bmB : List Value) (newId : String) (x : PySem.Str) : Bool := PySem.W.excInitIn K (He.ga K x) bmB newId && (PySem.W.excOver K (He.ga K x) bmB && (PySem.W.hasDictIn K (He.ga K x) && (He.eqO (PySem.W.findIn K (.ref (He.ga K x)) "__setattr__") (some (some (.builtin "object.__setattr__"))) && (decide (PySem.W.subIn K (.ref (He.ga K x)) (.type "BaseException") = some true) &&
  (decide (PySem.W.typeIn K (.ref (He.ga K x)) = some (.type "type")) && (PySem.W.keepIn K (.ref (He.ga K x)) && (He.eqO (PySem.W.findIn K (.ref (He.ga K x)) "__init__") (some (some (.ref (He.fAd K (x, some "__init__"))))) && (decide (PySem.W.typeIn K (.ref (He.fAd K (x, some "__init__"))) = some (.type "function")) && He.eqO (PySem.W.findIn K (.ref (He.ga K x)) "word") (some none)))))))))
def basB (K : PySem.W.Frag) (x : PySem.Str) (T : String) (init : String) : Bool := (He.Fa.glo x).ok K && (He.eqO (PySem.W.specialIn K (.ref (He.ga K x)) "__getattribute__") (some (some (.builtin "type.__getattribute__"))) && (PySem.W.readsIn K (He.ga K x) (.type "type") && ((match PySem.W.findCls K (.ref (He.ga K x)) (.type "type") "__init__" with
  | some (.val v) => decide (v = .ref (He.fAd K (x, some "__init__")))
  | _ => false) && (match PySem.W.findCls K (.type T) (.type "type") "__init__" with
  | some (.val v) => decide (v = .builtin init)
  | _ => false))))
abbrev leT : List Value := [.type "LookupError", .type "Exception", .type "BaseException", .type "object"]
abbrev veT : List Value := [.type "ValueError", .type "Exception", .type "BaseException", .type "object"]
/-! ### the run in four looks -/
theorem opt4 {σ α β γ δ : Type} {o : Option σ} {f : σ → α} {g : σ → β} {h : σ → γ} {i : σ → δ} {a : α} {b : β} {c : γ} {d : δ} (e1 : o.map f = some a) (e2 : o.map g = some b) (e3 : o.map h = some c) (e4 : o.map i = some d) : (o.map fun s => (f s, g s, h s, i s)) = some (a, b, c, d) := by
  cases o with
  | none => cases e1
  | some s =>
    cases e1
    cases e2
    cases e3
    cases e4
    rfl
section
open PySem.W HandSHeadRun
def RunA (r : OpenRow) (M : Nat) (w : World) : Prop := ∀ os : OsState, (endF (stepQ (denQ tabQ) r.prog w) M r.prog w os).map (fun s => looksF r.prog (boot_heap w.params) s.abs) = some true
def RunB (r : OpenRow) (q : Program) (M : Nat) (loose : List PySem.Str) (w : World) : Prop := ∀ os : OsState, (endF (stepQ (denQ tabQ) r.prog w) M r.prog w os).map (fun s => seenQ q loose (importedModules r.prog.main.body) (fun s => xlAt q [] s && recOk r.toRowW.records s) s.abs) = some (openGood q loose)
def RunC (r : OpenRow) (n : List Addr) (fs : List He.Fa) (ds : List He.DefD) (M : Nat) (w : World) : Prop := ∀ os : OsState, (endF (stepQ (denQ tabQ) r.prog w) M r.prog w os).map (fun s => He.obsD fs ds (He.frT (getT s) n)) = some (He.valD ds)
def RunD (r : OpenRow) (n : List Addr) (tf : List He.Defn) (e : PySem.W.Frag → Bool) (M : Nat) (w : World) : Prop := ∀ os : OsState, (endF (stepQ (denQ tabQ) r.prog w) M r.prog w os).map (fun s => e (He.frT (getT s) n) && He.tabsB (getT s) tf (He.frT (getT s) n)) = some true
theorem runEq4 {r : OpenRow} {q : Program} {n : List Addr} {fs : List He.Fa} {ds : List He.DefD} {tf : List He.Defn} {e : PySem.W.Frag → Bool} {M : Nat} {loose : List PySem.Str} {w : World} (a : RunA r M w) (b : RunB r q M loose w) (c : RunC r n fs ds M w) (d : RunD r n tf e M w) : RunEq r q (hkZ n fs ds tf e) (fun s => obZ n fs ds tf e (getT s)) M loose w := fun os => opt4 (a os) (b os) (c os) (d os)
end
end Dk
namespace Dk
open PySem L2
/-- a refusal that is raised, in a row that has not all of them -/
def gnoB (K : PySem.W.Frag) (x fl : PySem.Str) : Bool := (He.Fa.glo x).ok K && He.eqO (PySem.W.findIn K (.ref (He.ga K x)) fl) (some none)
end Dk
namespace Dk
open PySem L2
def top (i : Nat) : Stmt := PySem.Challenge.pw_darkthread_k41_whole_bars_and_more_posts.main.body.getD i (.Pass ⟨0, 0, 0, 0⟩)
abbrev sx_DarkError : Stmt := inClass (top 2) 0
abbrev sx_BadNumber : Stmt := inClass (top 5) 0
abbrev sx_Missing : Stmt := inClass (top 11) 0
abbrev sx_NoRoom : Stmt := inClass (top 12) 0
abbrev sIsBeat : Stmt := top 16
abbrev sNeedBeat : Stmt := top 17
abbrev sIsName : Stmt := top 22
abbrev sNewName : Stmt := top 23
abbrev sNeed : Stmt := top 24
abbrev sNeeds : Stmt := top 25
abbrev sNU : Stmt := top 26
abbrev sNew : Stmt := top 27
abbrev sUnlike : Stmt := top 28
abbrev sLinked : Stmt := top 29
abbrev sInit : Stmt := inClass (top 30) 0
abbrev sRooms : Stmt := inClass (top 30) 1
abbrev sDoors : Stmt := inClass (top 30) 2
abbrev sSights : Stmt := inClass (top 30) 3
abbrev sHas : Stmt := inClass (top 30) 4
abbrev sSees : Stmt := inClass (top 30) 6
abbrev sHasDoor : Stmt := inClass (top 30) 7
abbrev sAtHand : Stmt := inClass (top 30) 9
abbrev sNeedRound : Stmt := top 33
abbrev sPlace : Stmt := top 34
abbrev sDas : Stmt := top 35
abbrev sWheel : Stmt := top 36
abbrev sRoomsAt : Stmt := top 38
abbrev sHasRelief : Stmt := top 39
abbrev sSpanOf : Stmt := top 40
abbrev sHanded : Stmt := top 41
abbrev sRelieved : Stmt := top 42
abbrev sChanged : Stmt := top 43
abbrev sOrders : Stmt := top 44
abbrev sLitRooms : Stmt := top 46
abbrev sMoves : Stmt := top 47
abbrev sHands : Stmt := top 48
abbrev sNeedDelay : Stmt := top 54
abbrev sNeedReach : Stmt := top 55
abbrev sNeedRelief : Stmt := top 56
abbrev sNeedCounts : Stmt := top 57
abbrev sNamesOf : Stmt := top 58
abbrev sNewPosts : Stmt := top 59
abbrev sNewWatchers : Stmt := top 60
abbrev sc_init : Stmt := inClass (top 61) 0
abbrev sc_reaches_in : Stmt := inClass (top 61) 1
abbrev sc_house : Stmt := inClass (top 61) 4
abbrev sc_is_dark : Stmt := inClass (top 61) 14
abbrev sc_steps : Stmt := inClass (top 61) 16
abbrev sc_wheel : Stmt := inClass (top 61) 19
abbrev sNextCells : Stmt := top 63
abbrev sTraced : Stmt := top 65
abbrev sSearched : Stmt := top 66
abbrev sNeedAsked : Stmt := top 68
abbrev sBegin : Stmt := top 69
abbrev sToldWay : Stmt := top 70
abbrev sWay : Stmt := top 71
abbrev sIsWalk : Stmt := top 72
abbrev sIsWay : Stmt := top 73
abbrev s_guards_of : Stmt := top 75
abbrev s_guarded : Stmt := top 76
abbrev s_asked_scene : Stmt := top 77
abbrev s_choices : Stmt := top 78
abbrev s_ways_left : Stmt := top 79
abbrev s_fewest : Stmt := top 80
abbrev sBox : Stmt := top 82
abbrev sPlain : Stmt := top 83
abbrev sDraw : Stmt := top 84
abbrev sOf : Stmt := top 85
abbrev sNames : Stmt := top 86
abbrev sLawHouse : Stmt := top 87
abbrev sLawNear : Stmt := top 88
abbrev sLawHand : Stmt := top 89
abbrev sLawRound : Stmt := top 90
abbrev sLawScene : Stmt := top 91
abbrev s_law_guarded : Stmt := top 92
abbrev sLawMade : Stmt := top 93
abbrev s_law_reaches : Stmt := top 94
abbrev s_law_many : Stmt := top 95
abbrev sLaw : Stmt := top 96
end Dk
namespace Dk
open PySem L2
def dsY : List He.DefD := [⟨("is_name", none), "is_name", "is_name", defArgs sIsName, defBody sIsName, defScope sIsName, [], []⟩,
  ⟨("need_new_name", none), "need_new_name", "need_new_name", defArgs sNewName, defBody sNewName, defScope sNewName, [], []⟩,
  ⟨("need_room", none), "need_room", "need_room", defArgs sNeed, defBody sNeed, defScope sNeed, [], []⟩,
  ⟨("need_rooms", none), "need_rooms", "need_rooms", defArgs sNeeds, defBody sNeeds, defScope sNeeds, [], []⟩,
  ⟨("need_unlike", none), "need_unlike", "need_unlike", defArgs sNU, defBody sNU, defScope sNU, [], []⟩,
  ⟨("new_names", none), "new_names", "new_names", defArgs sNew, defBody sNew, defScope sNew, [], []⟩,
  ⟨("unlike_pairs", none), "unlike_pairs", "unlike_pairs", defArgs sUnlike, defBody sUnlike, defScope sUnlike, [], []⟩,
  ⟨("linked", none), "linked", "linked", defArgs sLinked, defBody sLinked, defScope sLinked, [], []⟩,
  ⟨("need_round", none), "need_round", "need_round", defArgs sNeedRound, defBody sNeedRound, defScope sNeedRound, [], []⟩,
  ⟨("place", none), "place", "place", defArgs sPlace, defBody sPlace, defScope sPlace, [], [("delay", .int 0)]⟩,
  ⟨("divisor_and_share", none), "divisor_and_share", "divisor_and_share", defArgs sDas, defBody sDas, defScope sDas, [], []⟩,
  ⟨("wheel_of", none), "wheel_of", "wheel_of", defArgs sWheel, defBody sWheel, defScope sWheel, [], []⟩,
  ⟨("rooms_at", none), "rooms_at", "rooms_at", defArgs sRoomsAt, defBody sRoomsAt, defScope sRoomsAt, [], []⟩,
  ⟨("has_relief", none), "has_relief", "has_relief", defArgs sHasRelief, defBody sHasRelief, defScope sHasRelief, [], []⟩,
  ⟨("span_of", none), "span_of", "span_of", defArgs sSpanOf, defBody sSpanOf, defScope sSpanOf, [], []⟩,
  ⟨("handed_over", none), "handed_over", "handed_over", defArgs sHanded, defBody sHanded, defScope sHanded, [], []⟩,
  ⟨("relieved", none), "relieved", "relieved", defArgs sRelieved, defBody sRelieved, defScope sRelieved, [], []⟩,
  ⟨("changed_order", none), "changed_order", "changed_order", defArgs sChanged, defBody sChanged, defScope sChanged, [], []⟩,
  ⟨("orders_of", none), "orders_of", "orders_of", defArgs sOrders, defBody sOrders, defScope sOrders, [], []⟩,
  ⟨("lit_rooms", none), "lit_rooms", "lit_rooms", defArgs sLitRooms, defBody sLitRooms, defScope sLitRooms, [], []⟩,
  ⟨("moves_of", none), "moves_of", "moves_of", defArgs sMoves, defBody sMoves, defScope sMoves, [], []⟩,
  ⟨("rooms_at_hand", none), "rooms_at_hand", "rooms_at_hand", defArgs sHands, defBody sHands, defScope sHands, [], []⟩,
  ⟨("need_delay", none), "need_delay", "need_delay", defArgs sNeedDelay, defBody sNeedDelay, defScope sNeedDelay, [], []⟩,
  ⟨("need_reach", none), "need_reach", "need_reach", defArgs sNeedReach, defBody sNeedReach, defScope sNeedReach, [], []⟩,
  ⟨("need_relief", none), "need_relief", "need_relief", defArgs sNeedRelief, defBody sNeedRelief, defScope sNeedRelief, [], []⟩,
  ⟨("need_counts", none), "need_counts", "need_counts", defArgs sNeedCounts, defBody sNeedCounts, defScope sNeedCounts, [], []⟩,
  ⟨("names_of", none), "names_of", "names_of", defArgs sNamesOf, defBody sNamesOf, defScope sNamesOf, [], []⟩,
  ⟨("new_posts", none), "new_posts", "new_posts", defArgs sNewPosts, defBody sNewPosts, defScope sNewPosts, [], []⟩,
  ⟨("new_watchers", none), "new_watchers", "new_watchers", defArgs sNewWatchers, defBody sNewWatchers, defScope sNewWatchers, [], []⟩,
  ⟨("is_beat", none), "is_beat", "is_beat", defArgs sIsBeat, defBody sIsBeat, defScope sIsBeat, [], []⟩,
  ⟨("need_beat", none), "need_beat", "need_beat", defArgs sNeedBeat, defBody sNeedBeat, defScope sNeedBeat, [], []⟩,
  ⟨("_law_box", none), "_law_box", "_law_box", defArgs sBox, defBody sBox, defScope sBox, [], []⟩,
  ⟨("_law_draw", none), "_law_draw", "_law_draw", defArgs sDraw, defBody sDraw, defScope sDraw, [], []⟩,
  ⟨("_law_of", none), "_law_of", "_law_of", defArgs sOf, defBody sOf, defScope sOf, [], []⟩,
  ⟨("_law_names", none), "_law_names", "_law_names", defArgs sNames, defBody sNames, defScope sNames, [], []⟩,
  ⟨("_law_house", none), "_law_house", "_law_house", defArgs sLawHouse, defBody sLawHouse, defScope sLawHouse, [], []⟩,
  ⟨("_law_near", none), "_law_near", "_law_near", defArgs sLawNear, defBody sLawNear, defScope sLawNear, [], []⟩,
  ⟨("_law_hand", none), "_law_hand", "_law_hand", defArgs sLawHand, defBody sLawHand, defScope sLawHand, [], []⟩,
  ⟨("_law_round", none), "_law_round", "_law_round", defArgs sLawRound, defBody sLawRound, defScope sLawRound, [], []⟩,
  ⟨("_law_scene", none), "_law_scene", "_law_scene", defArgs sLawScene, defBody sLawScene, defScope sLawScene, [], []⟩,
  ⟨("_law_made", none), "_law_made", "_law_made", defArgs sLawMade, defBody sLawMade, defScope sLawMade, [], []⟩,
  ⟨("next_cells", none), "next_cells", "next_cells", defArgs sNextCells, defBody sNextCells, defScope sNextCells, [], []⟩,
  ⟨("traced", none), "traced", "traced", defArgs sTraced, defBody sTraced, defScope sTraced, [], []⟩,
  ⟨("searched", none), "searched", "searched", defArgs sSearched, defBody sSearched, defScope sSearched, [], []⟩,
  ⟨("need_asked", none), "need_asked", "need_asked", defArgs sNeedAsked, defBody sNeedAsked, defScope sNeedAsked, [], []⟩,
  ⟨("beginnings", none), "beginnings", "beginnings", defArgs sBegin, defBody sBegin, defScope sBegin, [], []⟩,
  ⟨("told_way", none), "told_way", "told_way", defArgs sToldWay, defBody sToldWay, defScope sToldWay, [], []⟩,
  ⟨("way", none), "way", "way", defArgs sWay, defBody sWay, defScope sWay, [], [("begin", .non)]⟩,
  ⟨("guards_of", none), "guards_of", "guards_of", defArgs s_guards_of, defBody s_guards_of, defScope s_guards_of, [], []⟩,
  ⟨("guarded", none), "guarded", "guarded", defArgs s_guarded, defBody s_guarded, defScope s_guarded, [], []⟩,
  ⟨("asked_scene", none), "asked_scene", "asked_scene", defArgs s_asked_scene, defBody s_asked_scene, defScope s_asked_scene, [], []⟩,
  ⟨("choices", none), "choices", "choices", defArgs s_choices, defBody s_choices, defScope s_choices, [], []⟩,
  ⟨("ways_left", none), "ways_left", "ways_left", defArgs s_ways_left, defBody s_ways_left, defScope s_ways_left, [], []⟩,
  ⟨("fewest", none), "fewest", "fewest", defArgs s_fewest, defBody s_fewest, defScope s_fewest, [], []⟩,
  ⟨("is_walk", none), "is_walk", "is_walk", defArgs sIsWalk, defBody sIsWalk, defScope sIsWalk, [], []⟩,
  ⟨("is_way", none), "is_way", "is_way", defArgs sIsWay, defBody sIsWay, defScope sIsWay, [], []⟩,
  ⟨("_law_plain", none), "_law_plain", "_law_plain", defArgs sPlain, defBody sPlain, defScope sPlain, [], []⟩,
  ⟨("_law_guarded", none), "_law_guarded", "_law_guarded", defArgs s_law_guarded, defBody s_law_guarded, defScope s_law_guarded, [], []⟩,
  ⟨("_law_reaches", none), "_law_reaches", "_law_reaches", defArgs s_law_reaches, defBody s_law_reaches, defScope s_law_reaches, [], []⟩,
  ⟨("_law_many", none), "_law_many", "_law_many", defArgs s_law_many, defBody s_law_many, defScope s_law_many, [], []⟩,
  ⟨("law", none), "law", "law", defArgs sLaw, defBody sLaw, defScope sLaw, [], []⟩,
  ⟨("House", some "__init__"), "__init__", "House.__init__", defArgs sInit, defBody sInit, defScope sInit, [.adr (He.dflAt ("House", some "__init__") 0), .adr (He.dflAt ("House", some "__init__") 1), .adr (He.dflAt ("House", some "__init__") 2)], []⟩,
  ⟨("House", some "rooms"), "rooms", "House.rooms", defArgs sRooms, defBody sRooms, defScope sRooms, [], []⟩,
  ⟨("House", some "doors"), "doors", "House.doors", defArgs sDoors, defBody sDoors, defScope sDoors, [], []⟩,
  ⟨("House", some "sights"), "sights", "House.sights", defArgs sSights, defBody sSights, defScope sSights, [], []⟩,
  ⟨("House", some "has_room"), "has_room", "House.has_room", defArgs sHas, defBody sHas, defScope sHas, [], []⟩,
  ⟨("House", some "sees"), "sees", "House.sees", defArgs sSees, defBody sSees, defScope sSees, [], []⟩,
  ⟨("House", some "has_door"), "has_door", "House.has_door", defArgs sHasDoor, defBody sHasDoor, defScope sHasDoor, [], []⟩,
  ⟨("House", some "at_hand"), "at_hand", "House.at_hand", defArgs sAtHand, defBody sAtHand, defScope sAtHand, [], []⟩,
  ⟨("Scene", some "__init__"), "__init__", "Scene.__init__", defArgs sc_init, defBody sc_init, defScope sc_init, [.adr (He.dflAt ("Scene", some "__init__") 0), .adr (He.dflAt ("Scene", some "__init__") 1)], [("meet", .bl false), ("relief", .int 0)]⟩,
  ⟨("Scene", some "reaches_in"), "reaches_in", "Scene.reaches_in", defArgs sc_reaches_in, defBody sc_reaches_in, defScope sc_reaches_in, [], []⟩,
  ⟨("Scene", some "wheel"), "wheel", "Scene.wheel", defArgs sc_wheel, defBody sc_wheel, defScope sc_wheel, [], []⟩,
  ⟨("Scene", some "house"), "house", "Scene.house", defArgs sc_house, defBody sc_house, defScope sc_house, [], []⟩,
  ⟨("Scene", some "is_dark"), "is_dark", "Scene.is_dark", defArgs sc_is_dark, defBody sc_is_dark, defScope sc_is_dark, [], []⟩,
  ⟨("Scene", some "steps"), "steps", "Scene.steps", defArgs sc_steps, defBody sc_steps, defScope sc_steps, [], []⟩,
  ⟨("Missing", some "__init__"), "__init__", "Missing.__init__", defArgs sx_Missing, defBody sx_Missing, defScope sx_Missing, [.str "it is not there", .str "Missing"], []⟩,
  ⟨("DarkError", some "__init__"), "__init__", "DarkError.__init__", defArgs sx_DarkError, defBody sx_DarkError, defScope sx_DarkError, [.str "it cannot be", .str "DarkError"], []⟩,
  ⟨("NoRoom", some "__init__"), "__init__", "NoRoom.__init__", defArgs sx_NoRoom, defBody sx_NoRoom, defScope sx_NoRoom, [], []⟩,
  ⟨("BadNumber", some "__init__"), "__init__", "BadNumber.__init__", defArgs sx_BadNumber, defBody sx_BadNumber, defScope sx_BadNumber, [], []⟩]
def dY (i : Nat) : He.DefD := dsY.getD i ⟨("law", none), "law", "law", defArgs sLaw, defBody sLaw, defScope sLaw, [], []⟩
def fsY : List He.Fa := [.glo "is_name", .glo "need_new_name", .glo "need_room", .glo "need_rooms", .glo "need_unlike", .glo "new_names", .glo "unlike_pairs", .glo "linked", .glo "need_round", .glo "place", .glo "divisor_and_share", .glo "wheel_of", .glo "rooms_at", .glo "has_relief", .glo "span_of", .glo "handed_over", .glo "relieved", .glo "changed_order", .glo "orders_of", .glo "lit_rooms", .glo "moves_of", .glo "rooms_at_hand", .glo "need_delay", .glo "need_reach", .glo "need_relief", .glo "need_counts", .glo "names_of", .glo "new_posts", .glo "new_watchers", .glo "is_beat", .glo "need_beat", .glo "_law_box", .glo "_law_draw", .glo "_law_of", .glo "_law_names", .glo "_law_house", .glo "_law_near", .glo "_law_hand", .glo "_law_round", .glo "_law_scene", .glo "_law_made", .glo "next_cells", .glo "traced", .glo "searched", .glo "need_asked", .glo "beginnings", .glo "told_way", .glo "way", .glo "guards_of", .glo "guarded", .glo "asked_scene", .glo "choices", .glo "ways_left", .glo "fewest", .glo "is_walk", .glo "is_way", .glo "_law_plain", .glo "_law_guarded", .glo "_law_reaches", .glo "_law_many", .glo "law", .glo "House", .cls "House", .mkr "House", .meth "House" "rooms", .meth "House" "doors", .meth "House" "sights", .meth "House" "has_room", .meth "House" "sees", .meth "House" "has_door", .meth "House" "at_hand", .noat "House" "names", .noat "House" "behind", .noat "House" "views", .glo "Scene", .cls "Scene", .mkr "Scene", .meth "Scene" "reaches_in", .meth "Scene" "wheel", .meth "Scene" "house", .meth "Scene" "is_dark", .meth "Scene" "steps", .noat "Scene" "home", .noat "Scene" "post_rows", .noat "Scene" "watcher_rows", .noat "Scene" "has_meet", .noat "Scene" "relief_beats", .noat "Scene" "span_beats", .noat "Scene" "orders", .noat "Scene" "hands", .noat "Scene" "lights", .noat "Scene" "moves", .free "list", .free "len", .free "max", .free "min", .free "isinstance", .free "tuple", .free "all", .free "zip", .free "bool", .free "int", .free "str", .free "range", .free "enumerate", .free "dict", .free "any", .free "LookupError", .free "ValueError", .int "LONGEST_NAME" 8, .str "SMALL_LETTERS" abc, .int "MOST_ROOMS" 8, .int "MOST_ROUND" 6, .int "NEVER" 0, .int "MOST_RELIEF" 4, .int "MOST_POSTS" 5, .int "MOST_WATCHERS" 6, .int "FARTHEST" 1000000000]
def exC1 (x : Str) (K : PySem.W.Frag) : Bool := He.eqO (PySem.W.findIn K (.ref (He.ga K x)) "__class__") (some (some (.builtin "object.__class__"))) && (He.eqO (PySem.W.specialIn K (.builtin "object.__class__") "__get__") (some (some (.builtin "getset_descriptor.__get__"))) && (decide (PySem.W.takesIn K (.builtin "object.__class__") = some true) && (decide (PySem.W.mroIn K (He.ga K x) (.type "object") = some true) && (PySem.W.isClsIn K (He.ga K x) && decide (PySem.W.typeIn K (.ref (He.ga K x)) = some (.type "type"))))))
def exH (K : PySem.W.Frag) : Bool := exC1 "House" K
def exX (K : PySem.W.Frag) : Bool := basB K "Missing" "LookupError" "LookupError.__init__" && (basB K "DarkError" "ValueError" "ValueError.__init__" && (makB K leT "LookupError.__new__" "NoRoom" && (gnoB K "NoRoom" "name" && (makB K veT "ValueError.__new__" "BadNumber" && (gnoB K "BadNumber" "asked")))))
def exC (K : PySem.W.Frag) : Bool := exH K && exX K
def tfY : List He.Defn := [("way", none)]
def loose0 : List PySem.Str := ["_wall", "DarkError", "BadName", "Taken", "BadNumber", "NotAWalk", "Full", "Loop", "BadRound", "Bare", "Missing", "NoRoom", "NoPost", "FARTHEST", "is_beat", "need_beat", "MOST_ROOMS", "LONGEST_NAME", "SMALL_LETTERS", "is_name", "need_new_name", "need_room", "need_rooms", "need_unlike", "new_names", "unlike_pairs", "linked", "House", "MOST_ROUND", "need_round"]
def loose1 : List PySem.Str := ["place", "divisor_and_share", "wheel_of", "rooms_at", "has_relief", "span_of", "handed_over", "relieved", "changed_order", "orders_of", "lit_rooms", "moves_of", "rooms_at_hand", "MOST_POSTS", "MOST_WATCHERS", "MOST_RELIEF", "NEVER", "need_delay", "need_reach", "need_relief", "need_counts", "names_of", "new_posts", "new_watchers", "Scene", "next_cells", "traced", "searched", "need_asked", "beginnings"]
def loose2 : List PySem.Str := ["told_way", "way", "is_walk", "is_way", "guards_of", "guarded", "asked_scene", "choices", "ways_left", "fewest", "_law_box", "_law_plain", "_law_draw", "_law_of", "_law_names", "_law_house", "_law_near", "_law_hand", "_law_round", "_law_scene", "_law_guarded", "_law_made", "_law_reaches", "_law_many"]
def looseY : List PySem.Str := loose0 ++ loose1 ++ loose2
abbrev RY : PySem.W.OpenRow := PySem.W.OpenLaw.row PySem.Challenge.rw_darkthread_k41_whole_bars_and_more_posts
def asY : List Addr := [2, 3, 39, 97, 212, 232, 260, 267, 272, 279, 286, 293, 300, 307, 314, 319, 423, 434, 442, 449, 456, 461, 468, 473, 480, 487, 494, 501, 506, 511, 516, 523, 530, 537, 544, 549, 556, 563, 732, 741, 748, 753, 760, 765, 770, 778, 783, 790, 795, 800, 807, 812, 819, 824, 831, 838, 845, 852, 859, 864, 869, 874, 881, 886, 891, 898, 903, 910, 915, 38, 96, 211, 231, 259, 266, 271, 278, 285, 292, 299, 306, 313, 318, 422, 433, 441, 435, 448, 455, 460, 467, 472, 479, 486, 493, 500, 505, 510, 515, 522, 529, 536, 543, 548, 555, 562, 731, 740, 747, 752, 759, 764, 769, 777, 771, 782, 789, 794, 799, 806, 811, 818, 823, 830, 837, 844, 851, 858, 863, 868, 873, 880, 885, 890, 897, 902, 909, 914, 36, 94, 209, 229, 335, 342, 347, 352, 359, 373, 380, 394, 579, 584, 605, 675, 687, 708, 35, 29, 93, 208, 202, 228, 334, 330, 341, 346, 351, 358, 372, 379, 393, 578, 573, 574, 583, 604, 674, 686, 707]
abbrev hkR : PySem.W.Hook := hkZ asY fsY dsY tfY exC
def obR (s : PySem.W.SharedT) : AlY := obZ asY fsY dsY tfY exC (HandSHeadRun.getT s)
theorem obR_eq (s : PySem.W.SharedT) : obR s = hkR.obs s.abs := obZ_eq s
theorem runYa (w : World) : RunA RY 60000 w := by
  intro os
  kernel_rfl
theorem runYb (w : World) : RunB RY (PySem.W.view RY.prog [96]) 60000 looseY w := by
  intro os
  kernel_rfl
theorem runYc (w : World) : RunC RY asY fsY dsY 60000 w := by
  intro os
  kernel_rfl
theorem runYd (w : World) : RunD RY asY tfY exC 60000 w := by
  intro os
  kernel_rfl
theorem runY (w : World) : HandSHeadRun.RunEq RY (PySem.W.view RY.prog [96]) hkR obR 60000 looseY w := runEq4 (r := RY) (q := PySem.W.view RY.prog [96]) (n := asY) (fs := fsY) (ds := dsY) (tf := tfY) (e := exC) (M := 60000) (loose := looseY) (runYa w) (runYb w) (runYc w) (runYd w)
end Dk
namespace Dk
open PySem PySem.Spec PyProof.Rows L2 LamX NdefX
/-! ### lambdas as values: made here, called by whoever was handed one -/
/-- at f lies the lambda of the words F whose value is be -/
def LmO (f : Addr) (F : NF) (be : Expr) : HO := .ext fun g => ∃ (dx : Option Addr) (sl : Array (Option Value)) (m ct : Value), g.get? f = some (⟨.type "function", dx, .func (PySem.W.kla_fn F.name F.qual F.params be F.scope F.cl m (.ref F.c) ct), sl⟩ : Obj)
theorem lm_tbl {f : Addr} {F : NF} {be : Expr} (qs : Array Value) : LmO f F be ≠ .tbl qs := by
  unfold LmO
  intro e
  cases e
theorem lm_at {P : Program} {w : World} {H : Hp} {g : Heap} {f : Addr} {F : NF} {be : Expr} (o : HOk P w H g) (e : H f = some (LmO f F be)) : ∃ (dx : Option Addr) (sl : Array (Option Value)) (m ct : Value), g.get? f = some (⟨.type "function", dx, .func (PySem.W.kla_fn F.name F.qual F.params be F.scope F.cl m (.ref F.c) ct), sl⟩ : Obj) := by
  have q := o f _ e
  exact q.1
abbrev lmQ (X : Cx) : Str := X.env.qual ++ "<lambda>"
abbrev lmF (X : Cx) (as : Arguments) (sc : Scope) (c : Addr) : NF := ⟨"<lambda>", lmQ X, as, [], sc, cloFrom X.env.cells sc.names [], c⟩
section
variable {X : Cx} {pins : List (Addr × Obj)} {σ : L2.St} {H : Hp} {s : Shared}
theorem lm_new {F : NF} {be : Expr} {m ct : Value} {tk : Nat} (J : Inv X pins σ H s) : Inv X pins σ (upd H s.heap.objs.size (LmO s.heap.objs.size F be)) { s with heap := s.heap.push (PySem.W.kla_obj F.name F.qual F.params be F.scope F.cl m F.c ct), toks := tk } := by
  have g : (s.heap.push (PySem.W.kla_obj F.name F.qual F.params be F.scope F.cl m F.c ct)).get? s.heap.objs.size = some (PySem.W.kla_obj F.name F.qual F.params be F.scope F.cl m F.c ct) := Heap.get?_push_size _ rfl
  refine J.laid (fun _ _ q => Heap.get?_push_of_some _ q) (Nat.le_refl _) ⟨⟨_, _, m, ct, g⟩, ⟨_, g⟩, ?_⟩
  rintro g1 g2 ⟨x1, x2, x3, x4, z⟩ st
  exact ⟨x1, x2, x3, x4, st _ z⟩
/-- the tables behind one more code object -/
theorem tabs_more {T : List (Addr × Str)} {P c' : Addr} {q : Str} {ps : Array Value} {pos : Pos} (hT : Tabs T H) (hu : ∀ p ∈ T, p.1 = P → p.2 = q) (hP : H P = some (.tbl ps)) (ht : TriplesOk ps.toList) (ha : ∀ (pos : Pos) (v : Value), codeAmong pos ps.toList = some v → ∃ c, v = .ref c ∧ H c = some (CodeO c q)) (nc : H c' = none) :
    Tabs T (upd (upd H P (.tbl (ps ++ #[rawInt pos.line, rawInt pos.col, .ref c']))) c' (CodeO c' q)) ∧ ExtN H (upd (upd H P (.tbl (ps ++ #[rawInt pos.line, rawInt pos.col, .ref c']))) c' (CodeO c' q)) := by
  have ex : ExtN H (upd (upd H P (.tbl (ps ++ #[rawInt pos.line, rawInt pos.col, .ref c']))) c' (CodeO c' q)) := by
    intro b o e n
    have nb : b ≠ P := by
      rintro rfl
      exact n ps (Option.some.inj (e.symm.trans hP))
    rw [upd_ne (ne_of_none e nc), upd_ne nb, e]
  refine ⟨fun p hp => ?_, ex⟩
  obtain ⟨ps1, k1, k2, k3⟩ := hT p hp
  by_cases hb : p.1 = P
  · have eq := hu p hp hb
    refine ⟨ps ++ #[rawInt pos.line, rawInt pos.col, .ref c'], by rw [hb, upd_ne (ne_of_none hP nc), upd_same], ?_, fun pos2 v hv => ?_⟩
    · rw [Array.toList_append]
      exact PySem.TriplesOk_snoc _ _ _ _ ht
    · rw [Array.toList_append] at hv
      rw [eq]
      rcases among_app _ ht hv with z | z
      · obtain ⟨c0, e1, e2⟩ := ha pos2 v z
        exact ⟨c0, e1, ex _ _ e2 codeO_ne⟩
      · exact ⟨c', z, upd_same⟩
  · refine ⟨ps1, by rw [upd_ne (ne_of_none k1 nc), upd_ne hb, k1], k2, fun pos2 v hv => ?_⟩
    obtain ⟨c0, e1, e2⟩ := k3 pos2 v hv
    exact ⟨c0, e1, ex _ _ e2 codeO_ne⟩
/-- a lambda comes to be -/
theorem lm_make {T : List (Addr × Str)} {c P : Addr} {as : Arguments} {be : Expr} {sc : Scope} {pos : Pos} {E Q : Value → Shared → Prop} (J : Inv X pins σ H s) (TB : TabB X.base X.mg c P) (hc : X.env.code = .ref c) (hm : (P, lmQ X) ∈ T) (hu : ∀ p ∈ T, p.1 = P → p.2 = lmQ X) (hT : Tabs T H)
    (hd : defaultsOf as X.env = ([], [])) (hf : ∀ y ∈ sc.names, y.2 = .free → ∃ c, X.env.cells.lookup y.1 = some c)
    (k : ∀ (f c' : Addr) (H1 : Hp) (s1 : Shared), Inv X pins σ H1 s1 → ExtN H H1 → Tabs T H1 → H f = none → H1 f = some (LmO f (lmF X as sc c') be) → H1 c' = some (CodeO c' (lmQ X)) → (∀ b, H1 b = none → H b = none) → Q (.ref f) s1) :
    wpAny (model X.prog X.w) X.A (eval (.Lambda as be sc pos) X.env) Q E s := by
  obtain ⟨ps, hP, ht, ha⟩ := hT _ hm
  have gP : s.heap.get? P = some { cls := .none, data := .fields ps } := J.hok P _ hP
  have bP : s.heap.BuiltinsAt X.mg P := TB.bm.keeps J.bk
  refine PySem.W.kla_eval hd ?_
  cases q : codeAmong pos ps.toList with
  | none =>
    refine PySem.W.kla_makeFunction (mg := X.mg) (c := c) (P := P) (ps := ps) (closure_ok hf) J.ok.glob (J.mod.glob.keeps J.bk) hc (TB.code.keeps J.bk) gP ht q TB.gP bP ?_
    intro c' ct g' tk xb ge lt rec tb
    obtain ⟨c2, oc, vs, t, e2, hoc, hda, hva⟩ := rec
    have e2' : c' = c2 := Value.ref.inj e2
    subst e2'
    have nc : H c' = none := J.hok.fresh ge
    obtain ⟨T1, ex⟩ := tabs_more (pos := pos) hT hu hP ht ha nc
    have J1 := inv_table (t' := tk) (q := lmQ X) (more := #[rawInt pos.line, rawInt pos.col, .ref c']) (h' := g') J hP xb tb ge ⟨oc, vs, t, hoc, hda, hva⟩
    have nF := J1.hok.fresh (Nat.le_refl _)
    have J2 := lm_new (F := lmF X as sc c') (be := be) (m := (X.mg "__name__").getD .none) (ct := ct) (tk := tk) J1
    have st : ∀ b o, upd (upd H P (.tbl (ps ++ #[rawInt pos.line, rawInt pos.col, .ref c']))) c' (CodeO c' (lmQ X)) b = some o → upd (upd (upd H P (.tbl (ps ++ #[rawInt pos.line, rawInt pos.col, .ref c']))) c' (CodeO c' (lmQ X))) g'.objs.size (LmO g'.objs.size (lmF X as sc c') be) b = some o := fun b o e => by
      rw [upd_ne (ne_of_none e nF), e]
    refine k g'.objs.size c' _ _ J2 (fun b o e n => st b o (ex b o e n)) (T1.ext st) (J.hok.fresh (Nat.le_trans ge (Nat.le_of_lt lt))) upd_same (st _ _ upd_same) fun b e => ?_
    exact upd_none (upd_none (upd_none e))
  | some v =>
    obtain ⟨c', rfl, hco⟩ := ha pos v q
    refine PySem.W.kla_makeFunctionHit (mg := X.mg) (c := c) (P := P) (ps := ps) (closure_ok hf) J.ok.glob (J.mod.glob.keeps J.bk) hc (TB.code.keeps J.bk) gP ht q bP ?_
    intro ct g' tk hx hz
    have J1 : Inv X pins σ H { s with heap := g', toks := tk } := J.kept hx
    have nF : H g'.objs.size = none := J1.hok.fresh (Nat.le_refl _)
    have J2 := lm_new (F := lmF X as sc c') (be := be) (m := (X.mg "__name__").getD .none) (ct := ct) (tk := tk) J1
    have st : ∀ b o, H b = some o → upd H g'.objs.size (LmO g'.objs.size (lmF X as sc c') be) b = some o := fun b o e => by
      rw [upd_ne (ne_of_none e nF), e]
    exact k g'.objs.size c' _ _ J2 (ExtN.of st) (hT.ext st) nF upd_same (st _ _ hco) fun b e => upd_none e
end
/-- the reading of a lambda: a new function; nothing else but the tables is touched -/
def tLmV (T : List (Addr × Str)) (mk : Addr → NF) (be : Expr) : TE := fun σ H Q => Tabs T H ∧ ∀ (f c' : Addr) (H1 : Hp), ExtN H H1 → Tabs T H1 → H f = none → H1 f = some (LmO f (mk c') be) → H1 c' = some (CodeO c' (mk c').qual) → (∀ b, H1 b = none → H b = none) → Q (.ref f) H1
section
variable {X : Cx}
theorem pe_lmv {T : List (Addr × Str)} {c P : Addr} {as : Arguments} {be : Expr} {sc : Scope} {pos : Pos} (TB : TabB X.base X.mg c P) (hc : X.env.code = .ref c) (hm : (P, lmQ X) ∈ T) (hu : ∀ p ∈ T, p.1 = P → p.2 = lmQ X) (hd : defaultsOf as X.env = ([], []))
    (hf : ∀ y ∈ sc.names, y.2 = .free → X.env.scope.names.lookup y.1 = some .cell ∨ X.env.scope.names.lookup y.1 = some .free) : PE X (.Lambda as be sc pos) (tLmV T (lmF X as sc) be) := by
  constructor
  intro pins s σ H Q J h
  obtain ⟨hT, h⟩ := h
  refine lm_make J TB hc hm hu hT hd (fun y hy e => (hf y hy e).elim (fun z => J.ok.has _ (.inl z)) fun z => J.ok.has _ (.inr z)) fun f c' H1 s1 J1 a1 a2 a3 a4 a5 a6 => ?_
  exact ⟨.ref f, H1, J1, rfl, h f c' H1 a1 a2 a3 a4 a5 a6⟩
end
/-! ### what a lambda promises -/
structure LOk (P : Program) (w : World) (K : PySem.W.Frag) (mg : Str → Option Value) (base : Heap) (CX : CXT) (k : Nat) (f : Addr) (F : NF) (be : Expr) (ps fr : List Str) (sp : List (Option V) → Sp) : Prop where
  len : ∀ ws vs H Q E, sp ws vs H Q E → vs.length = ps.length
  run : ∀ (A : Around) (out : List Env) (s : Shared) (H : Hp) (us : List Value) (vs : List V) (ws : List (Option V)) (Q : VK) (E : XK), Room k A → Env0 P w K mg base A out s H → H f = some (LmO f F be) → H F.c = some (CodeO F.c F.qual) → CellsAt F.cl fr ws s.heap H →
    Vals vs us → sp ws vs H Q E → codeAny (model P w) A (.call (.ref f) ⟨us, []⟩) (CR CX out P w H s Q E) s
theorem lok_of {CX : CXT} {P : Program} {w : World} {K : PySem.W.Frag} {mg : Str → Option Value} {base : Heap} {N ps fr : List Str} {F : NF} {be : Expr} {f : Addr} {k : Nat} {sp : List (Option V) → Sp} (S : NScope N ps fr F.scope)
    (hb : ∀ (m ct : Value) (us : List Value), us.length = ps.length → bindArgs (PySem.W.kla_fn F.name F.qual F.params be F.scope F.cl m (.ref F.c) ct) ⟨us, []⟩ = pure (ps.zip us)) (len : ∀ ws vs H Q E, sp ws vs H Q E → vs.length = ps.length)
    (body : ∀ (A : Around) (out : List Env) (s : Shared) (H : Hp) (vs : List V) (ws : List (Option V)) (Q : VK) (E : XK), Room k (A.deeper (envF F f s.heap.objs.size)) → ws.length = fr.length → sp ws vs H Q E → ∃ t, PE (ncx CX P w K mg base N F f A out s H E) be t ∧ t (startF N vs ws) H Q) :
    LOk P w K mg base CX (k + 1) f F be ps fr sp := by
  refine ⟨len, fun A out s H us vs ws Q E hr e0 hf hc C r q => ?_⟩
  have lim : s.heap.NoLimit := e0.mod.nolimit.keeps fun b o z => (e0.bs b o z).1
  have hl := len ws vs H Q E q
  obtain ⟨dx, sl, m, ct, ho⟩ := lm_at e0.hok hf
  refine PySem.W.kla_callFunE hr.depth ho rfl S.co S.gen rfl (codeO_at e0.hok hc) ?_
  rw [hb m ct us (by rw [← r.length]; exact hl)]
  refine wpAny_pure (wpAny_newFunctionEnv S.nocell (fun y hy => S.par y.1 (List.of_mem_zip hy).1) (fun g1 hns hsb => ⟨lim.fresh _ hsb, ?_⟩) S.kind)
  show codeAny _ _ (.expr be (envF F f s.heap.objs.size)) _ _
  have kp : ∀ b o, s.heap.get? b = some o → g1.get? b = some o := fun b o z => hsb.extBut b o (Nat.ne_of_lt (Heap.lt_size z)) (Heap.get?_push_of_some _ z)
  obtain ⟨t, ht, hq⟩ := body A out s H vs ws Q E (hr.deeper _) C.len q
  have J : Inv (ncx CX P w K mg base N F f A out s H E) [] (startF N vs ws) H { s with heap := g1, toks := s.toks + (ps.zip us).length } := inv_startN S hr.hd e0 hl r C hns kp
  refine PySem.W.kla_codeExpr (wpAny_mono (ht.run [] _ _ H Q J hq) (fun v s' z => ?_) fun _ _ z => z)
  obtain ⟨v', H', J', rv, q'⟩ := z
  exact ⟨v', H', J'.os, J'.bare, J'.base, J'.hok, rv, q'⟩
/-- cells hold in a called def what they held when it began -/
theorem cells_go {X : Cx} {pins : List (Addr × Obj)} {σ : L2.St} {H : Hp} {s : Shared} {cl : List (Str × Addr)} {fr : List Str} {ws : List (Option V)} (C : CellsAt cl fr ws X.s_0.heap X.H_0) (hx : X.ex = []) (J : Inv X pins σ H s) : CellsAt cl fr ws s.heap H := by
  have nx : ∀ b : Addr, b ∉ X.ex := fun b => by
    rw [hx]
    exact List.not_mem_nil
  have kp : ∀ (c : Addr) (v : Option Value), X.H_0 c = none → X.s_0.heap.IsCell c v → s.heap.IsCell c v := by
    rintro c v n ⟨o, ho, hd⟩
    obtain ⟨sl, g⟩ := J.base.any ho n (nx c)
    exact ⟨_, g, hd⟩
  refine ⟨C.len, fun y c e => ?_, C.inj, fun i y e => ?_⟩
  · obtain ⟨n, v, z⟩ := C.all y c e
    obtain ⟨o, ho, hd⟩ := id z
    exact ⟨J.base.free c o ho n (nx c), v, kp c v n z⟩
  · obtain ⟨c, hc, hv⟩ := C.has i y e
    refine ⟨c, hc, fun v ev => ?_⟩
    obtain ⟨u, ru, z⟩ := hv v ev
    exact ⟨u, ru, kp c _ (C.all y c hc).1 z⟩
/-! ### a def whose promise speaks of the very state at its entry -/
structure FnS (P : Program) (w : World) (K : PySem.W.Frag) (mg : Str → Option Value) (base : Heap) (CX : CXT) (k : Nat) (f : Addr) (fd : FuncData) (ps : List Str) (sp : Shared → Sp) : Prop where
  len : ∀ s vs H Q E, sp s vs H Q E → vs.length = ps.length
  run : ∀ (A : Around) (out : List Env) (s : Shared) (H : Hp) (args : Args) (us : List Value) (vs : List V) (Q : VK) (E : XK), Room k A → Env0 P w K mg base A out s H → BindsTo s fd args (ps.zip us) → Vals vs us → sp s vs H Q E → codeAny (model P w) A (.call (.ref f) args) (CR CX out P w H s Q E) s
theorem fns_of {P : Program} {w : World} {K : PySem.W.Frag} {mg : Str → Option Value} {base : Heap} {x qual : Str} {st : Stmt} {f : Addr} {fd : FuncData} {N ps : List Str} {k : Nat} {sp : Shared → Sp} (F : Fun K x qual st f fd) (S : FnScope N ps (defScope st)) (len : ∀ s vs H Q E, sp s vs H Q E → vs.length = ps.length)
    (body : ∀ (cdv : Value) (A : Around) (out : List Env) (s : Shared) (H : Hp) (vs : List V) (Q : VK) (E : XK), Room k (A.deeper (envOfC qual (defScope st) s.heap.objs.size f cdv)) → sp s vs H Q E → ∃ t, PSs (cxOf CX0 P w K mg base N qual (defScope st) f cdv A out s H E).nox (defBody st) t ∧ t { nx := fun _ H' => Q .non H', rt := Q } (L2.start N vs) H) :
    FnS P w K mg base CX0 (k + 1) f fd ps sp := by
  obtain ⟨oc, od, kV, doc, pm, an, cdv, ct, osl, rfl, lk, hcd⟩ := F.ex
  refine ⟨len, fun A out s H args us vs Q E hr e0 hb r q => run_ofS lk hcd S hr e0 hb r (len s vs H Q E q) fun hr' => ?_⟩
  obtain ⟨t, h1, h2⟩ := body cdv A out s H vs Q E hr' q
  exact ⟨t, h1.nox, h2⟩
/-- its call: what the caller knows of its own state makes the promise's premise -/
theorem pe_callSt {X : Cx} {CX : CXT} {k : Nat} {f : Addr} {fd : FuncData} {ps : List Str} {sp : Shared → Sp} {E : XK} {x : Str} {e : Expr} {es : List Expr} {t : TA} {p pos : Pos} {pre : L2.St → List V → Hp → VK → Prop} (F : FnS X.prog X.w X.K X.mg X.base CX k f fd ps sp) (hr : Room k X.A) (hg : Gl X x) (hm : X.mg x = some (.ref f))
    (hk : PySem.W.keepIn X.K (.ref f) = true) (hb : Binds X.K fd ps []) (pa : Passes CX X E) (im : ∀ pins s σ H vs Q, Inv X pins σ H s → pre σ vs H Q → sp s vs H Q E) (ha : PA X (e :: es) t) (d1 : (x == ("__debug__" : Str)) = false := by decide)
    (he : starEach (e :: es) X.env = (false, eval e X.env) :: starEach es X.env := by rfl) (hpl : (backTo pos (starEach es X.env)).any (·.1) = false := by rfl) : PE X (.Call (.Name x p) (e :: es) [] pos) (fun σ H Q => t σ H fun vs H1 => pre σ vs H1 Q) := by
  constructor
  intro pins s σ H Q J h
  refine wpAny_Call_Name_kw (ld_glob J hg hm ?_ d1)
  refine PySem.W.callWith_K (h₀ := X.base) J.ok.mod.kin hk (thn (ha.run pos pins s σ H _ J h) fun us s1 hu => ?_) he hpl
  obtain ⟨vs, H1, J1, rv, q⟩ := hu
  have q1 := im pins s1 σ H1 vs Q J1 q
  have hl : us.length = ps.length := rv.length.symm.trans (F.len _ _ _ _ _ q1)
  have b := hb s1 us J1.kIn (by rw [List.append_nil]; exact hl)
  rw [List.append_nil] at b
  refine ⟨J1.kIn, ?_⟩
  show wpAny _ _ (call (.ref f) us) _ _ _
  refine wpAny_call (codeAny_mono (F.run X.A X.stack s1 H1 ⟨us, []⟩ us vs Q E hr J1.env0 b rv q1) fun r s2 z => ?_)
  match r, z with
  | .error e, z => exact pa pins σ H1 s1 e s2 J1 z
  | .ok (.ret u), z => exact J1.after z
end Dk
namespace Dk
open PySem PySem.Spec PyProof.Rows L2
/-! ### a dict built by a comprehension, its keys tuples -/
theorem dt_put {X : Cx} {pins : List (Addr × Obj)} {σ : L2.St} {H : Hp} {s : Shared} {E : Value → Shared → Prop} {D b : Addr} {ms : List (List Key × V)} {ks : List Key} {v : V} {y r : Value} {Q : Unit → Shared → Prop} (J : Inv X pins σ H s) (hu : X.A.units + 1 < cLine) (hD : H D = some (.dT ms)) (hz : ms.length < sizeLine) (hb : H b = some (.tup (ks.map kV)))
    (ry : RelV (.ref b) y) (rv : RelV v r) (k : ∀ s', Inv X pins σ (upd H D (.dT (putK ms ks v))) s' → Q () s') : wpAny (model X.prog X.w) X.A (dictSet D y r) Q E s := by
  obtain rfl : y = Value.ref b := ry
  obtain ⟨z, nm, xs, rel, dd⟩ := dt_of J.hok hD
  have l1 : xs.length ≤ sizeLine := by
    rw [← Paired.length rel]
    exact z
  have l2 : (putK ms ks v).length ≤ sizeLine := by
    have := length_putK ms ks v
    omega
  refine wpAny_dictSet_heap (hsz := l1) (show X.A.units < cLine by omega) (key_of J.hok hb) dd fun g' dd' sb => k _ ?_
  obtain ⟨q, es, ep, hq, a2, a3, a4, _, a5⟩ := dd'
  have st : ∀ c ys, H c = some (.tup ys) → upd H D (.dT (putK ms ks v)) c = some (.tup ys) := fun c ys e => by
    rw [upd_ne (ne_of e hD (fun z => nomatch z)), e]
  exact d_write J (by rw [hD]; exact True.intro) sb ⟨q, hq⟩ ⟨l2, nm, _, (rel.put ks hb rv).keeps st, q, es, ep, hq, a2, a3, a4, a5⟩
/-- {y: z for tg in it if ..}, the keys tuples of ints and texts -/
def tDcT (wi : TI) (g : TG) (tt : TT) (ty tz : TE) (vs : List Nat) : TE := fun σ H Q => wi σ H fun J G => ∀ D, G D = none → ∃ W : Nat → Nat → Hp → Prop, (∃ m, W 0 m (upd G D (.dT []))) ∧ ∀ i m H', W i m H' →
  (J.stop i H' ∧ Q (.ref D) H') ∨ (J.go i H' ∧ ∃ Nx : Hp → Prop, (∀ G', Nx G' → ∃ n, n < m ∧ W (i + 1) n G') ∧ ∀ x G1, J.yld i H' x G1 → g x (wipe σ vs) G1 fun σ2 G2 => wipe σ2 vs = wipe σ vs ∧ tt σ2 G2 fun b G3 =>
    if b = true then ty σ2 G3 fun y G4 => tz σ2 G4 fun z G5 => ∃ ms ks q, y = .ref q ∧ G5 q = some (.tup (ks.map kV)) ∧ G5 D = some (.dT ms) ∧ ms.length < sizeLine ∧ Nx (upd G5 D (.dT (putK ms ks z))) else Nx G3)
section
variable {X : Cx}
theorem dcT_core {pins : List (Addr × Obj)} {s : Shared} {σ : L2.St} {H : Hp} {Q : VK} {pos' : Pos} {use : Option (Value → Sem Unit)} {Qf : Value → Shared → Prop} {ky va tg it : Expr} {ifs : List Expr} {sc : Scope} {own : List (Str × Nat)} {pos : Pos} {wi : TI} {g : TG} {tt : TT} {ty tz : TE} (hu : X.A.units + 1 < cLine) (hc : X.calm = true) (hN : X.N.Nodup) (J : Inv X pins σ H s) (hi : PI X tg it wi) (ok : BlkOk X.N X.env.scope sc own)
    (hg : ∀ (s : Shared) (H : Hp) (C : Addr) (cl : List (Str × Addr)) (fp : List Addr), PG (X.blk s H sc (compEnvC sc cl C X.env) fp) tg g)
    (ht : ∀ (s : Shared) (H : Hp) (C : Addr) (cl : List (Str × Addr)) (fp : List Addr), PTs (X.blk s H sc (compEnvC sc cl C X.env) fp) ifs tt)
    (hy : ∀ (s : Shared) (H : Hp) (C : Addr) (cl : List (Str × Addr)) (fp : List Addr), PE (X.blk s H sc (compEnvC sc cl C X.env) fp) ky ty)
    (hv : ∀ (s : Shared) (H : Hp) (C : Addr) (cl : List (Str × Addr)) (fp : List Addr), PE (X.blk s H sc (compEnvC sc cl C X.env) fp) va tz) (hfo : ∀ x, foldedSetIterable it X.env x = pure x) (h : tDcT wi g tt ty tz (own.map (·.2)) σ H Q)
    (en : ∀ D C s' m G, Inv X pins σ G s' → Q (.ref D) G → s'.heap.Ns C m → FpOk X pins G C → compPost (model X.prog X.w) X.A X.xe use Qf (.ref D) C (.ok .next) s') :
    wpAny (model X.prog X.w) X.A (comprehension (.DictComp ky va [⟨tg, it, ifs, 0⟩] sc pos) sc X.env pos' newDict false (eval it X.env) use) Qf X.xe s := by
  have fr : ∀ y ∈ sc.names, y.2 = .free → ∃ c, X.env.cells.lookup y.1 = some c := fun y hy e => (ok.free y hy e).elim (fun z => J.ok.has _ (.inl z)) fun z => J.ok.has _ (.inr z)
  refine wpAny_comprehension_free (use := use) rfl hfo (closure_ok fr) ok.kind (fun y hy e => by rw [ok.uniq y hy, e]) (thn (hi.run pins s σ H _ J h) fun xv s1 hx => thn hx fun iv s2 hq => ?_)
  obtain ⟨ia, fp, tn, Jt, G2, rfl, J2, Tn, at2, f2, q⟩ := hq
  refine wpAny_newObj_type (newEnv_comp ?_)
  obtain ⟨D, eD⟩ : ∃ D, D = s2.heap.objs.size := ⟨_, rfl⟩
  have nD : G2 D = none := J2.hok.fresh (Nat.le_of_eq eD.symm)
  obtain ⟨W, ⟨m0, w0⟩, turn⟩ := q D nD
  obtain ⟨s3, e3⟩ : ∃ s3 : Shared, s3 = { s2 with heap := s2.heap.push { cls := .type "dict", data := .dict #[] } } := ⟨_, rfl⟩
  have g3 : s3.heap = s2.heap.push { cls := .type "dict", data := .dict #[] } := by rw [e3]
  have J3 : Inv X pins σ (upd G2 D (.dT [])) s3 := by
    rw [e3, eD]
    exact J2.laid (t' := s2.toks) (fun _ _ z => Heap.get?_push_of_some _ z) (Nat.le_refl _) (dt_empty s2.heap J2.big)
  have lt2 : ∀ b ∈ fp, b < s2.heap.objs.size := fun b hb => by
    obtain ⟨o, z, _⟩ := Tn.obj _ _ at2 b hb
    exact Heap.lt_size z
  have f3 : ∀ b ∈ fp, FpOk X pins (upd G2 D (.dT [])) b ∧ b < s3.heap.objs.size := fun b hb => by
    have l := lt2 b hb
    refine ⟨⟨?_, (f2 b hb).2⟩, by rw [g3, Heap.size_push]; exact Nat.lt_succ_of_lt l⟩
    rw [upd_ne (by rw [eD]; exact Nat.ne_of_lt l)]
    exact (f2 b hb).1
  have at3 : tn 0 s3.heap := Tn.keep _ _ _ at2 fun b _ o z => by
    rw [g3]
    exact Heap.get?_push_of_some _ z
  have J4 := block_start J3 ok hN f3
  have pg := hg s3 (upd G2 D (.dT [])) s3.heap.objs.size (cellsFrom (s3.heap.objs.size + 1) sc.names (cloFrom X.env.cells sc.names [])) fp
  have pt := ht s3 (upd G2 D (.dT [])) s3.heap.objs.size (cellsFrom (s3.heap.objs.size + 1) sc.names (cloFrom X.env.cells sc.names [])) fp
  have py := hy s3 (upd G2 D (.dT [])) s3.heap.objs.size (cellsFrom (s3.heap.objs.size + 1) sc.names (cloFrom X.env.cells sc.names [])) fp
  have pv := hv s3 (upd G2 D (.dT [])) s3.heap.objs.size (cellsFrom (s3.heap.objs.size + 1) sc.names (cloFrom X.env.cells sc.names [])) fp
  rw [← eD, ← e3]
  show codeAny _ _ (.compStart (.DictComp ky va [⟨tg, it, ifs, 0⟩] sc pos) 0 (.ref ia) (.ref D) (compEnvC sc (cellsFrom (s3.heap.objs.size + 1) sc.names (cloFrom X.env.cells sc.names [])) s3.heap.objs.size X.env)) (compPost (model X.prog X.w) X.A X.xe _ _ (.ref D) s3.heap.objs.size) { s3 with heap := pushCells (s3.heap.push { cls := .type "dict", data := .dict #[] }) sc.names }
  have n3 : ∀ b ∈ fp, (upd G2 D (.dT [])) b = none := fun b hb => (f3 b hb).1.1
  have cL : (compEnvC sc (cellsFrom (s3.heap.objs.size + 1) sc.names (cloFrom X.env.cells sc.names [])) s3.heap.objs.size X.env).locals = s3.heap.objs.size := rfl
  generalize compEnvC sc (cellsFrom (s3.heap.objs.size + 1) sc.names (cloFrom X.env.cells sc.names [])) s3.heap.objs.size X.env = ce at J4 pg pt py pv cL ⊢
  generalize upd G2 D (.dT []) = G3 at J3 J4 pg pt py pv w0 n3 f3
  obtain ⟨s4, e4⟩ : ∃ s4 : Shared, s4 = { s3 with heap := pushCells (s3.heap.push { cls := .type "dict", data := .dict #[] }) sc.names } := ⟨_, rfl⟩
  rw [← e4] at J4 ⊢
  have at4 : tn 0 s4.heap := Tn.keep _ _ _ at3 fun b _ o z => by
    rw [e4]
    exact pushCells_keeps _ _ _ _ (Heap.get?_push_of_some _ z)
  have fpk : ∀ {τ : L2.St} {G : Hp} {s' : Shared}, Inv (X.blk s3 G3 sc ce fp) [] τ G s' → (∀ b ∈ fp, G b = none) → ∀ b ∈ fp, FpOk (X.blk s3 G3 sc ce fp) [] G b := fun {τ G s'} K' hn b hb =>
    ⟨hn b hb, (K'.ok.exf b hb).1, K'.ok.exfs b hb, .inl hb, fun x c z => (K'.ok.exf b hb).2 x c z, fun p hp => absurd (show p ∈ ([] : List (Addr × Obj)) ++ [] from hp) (by simp)⟩
  refine codeAny_compStart_dict (R := compPost (model X.prog X.w) X.A X.xe use Qf (.ref D) s3.heap.objs.size) ?lp (Tn.self X.A 0 _ _ _ at4 ?lp)
  refine compLoop_anyD (fun n s' => ∃ i G, Inv (X.blk s3 G3 sc ce fp) [] (wipe σ (own.map (·.2))) G s' ∧ tn i s'.heap ∧ (∀ b ∈ fp, G b = none) ∧ W i n G) ?_ m0 ⟨0, G3, J4, at4, n3, w0⟩
  rintro n s5 ⟨i, G5, J5, at5, n5, w5⟩
  rcases turn i n G5 w5 with ⟨stop, qq⟩ | ⟨go, Nx, hNx, step⟩
  · refine thnF (Tn.done (X.blk s3 G3 sc ce fp) rfl rfl rfl hc i [] s5 _ G5 (fun _ _ => False) J5 (fpk J5 n5) at5 stop) fun r s6 z => ?_
    obtain ⟨rfl, J6⟩ := z
    have J7 : Inv X pins σ G5 s6 := J3.call' (ch := fp) J6.os J6.base J6.hok J6.bare fun b hb => ⟨(f3 b hb).1.2.2.2.1, (f3 b hb).1.2.1, (f3 b hb).1.2.2.2.2.1, (f3 b hb).1.2.2.2.2.2⟩
    have nC : G5 s3.heap.objs.size = none := by
      rw [← cL]
      exact J6.free
    obtain ⟨m, hn, _⟩ := J6.loc
    exact en D s3.heap.objs.size s6 m G5 J7 qq (by rw [← cL]; exact hn) (J3.fpOk (Nat.le_refl _) nC)
  · refine thnF (Tn.item (X.blk s3 G3 sc ce fp) rfl rfl rfl hc i [] s5 _ G5 (fun _ _ => False) J5 (fpk J5 n5) at5 go) fun r s6 z => ?_
    obtain ⟨u, rfl, z6⟩ := z
    refine thnF z6 fun _ s7 z => ?_
    obtain ⟨x, G7, J7, r7, y7, at7, n7⟩ := z
    have J7' := J7.pinned (fpk J7 n7) (Tn.obj _ _ at7)
    refine thnF (pg.run _ s7 _ G7 x u _ J7' r7 (step x G7 y7)) fun _ s8 z => ?_
    obtain ⟨τ, G8, J8, w8, q8⟩ := z
    refine thnF (pt.run _ s8 τ G8 _ J8 q8) fun b s9 z => ?_
    obtain ⟨G9, J9, q9⟩ := z
    have fin : ∀ {s' : Shared} {G : Hp}, Inv (X.blk s3 G3 sc ce fp) ([] ++ pinsAt fp s7.heap) τ G s' → Nx G → ∃ m, m < n ∧ ∃ i G, Inv (X.blk s3 G3 sc ce fp) [] (wipe σ (own.map (·.2))) G s' ∧ tn i s'.heap ∧ (∀ b ∈ fp, G b = none) ∧ W i m G := by
      intro s' G K' nx
      obtain ⟨m', lm, w'⟩ := hNx G nx
      have pn : ∀ b ∈ fp, ∀ o, s7.heap.get? b = some o → s'.heap.get? b = some o ∧ G b = none := fun b hb o z => by
        have y := K'.pin (b, o) (List.mem_append_right _ (List.mem_append_right _ (mem_pinsAt hb z)))
        exact ⟨y.1, y.2.1⟩
      refine ⟨m', lm, i + 1, G, (K'.unpinned (pins := [])).weak (by rw [← w8, wipe_length]) (fun j v z => ?_), Tn.keep _ _ _ at7 fun b hb o z => (pn b hb o z).1, fun b hb => ?_, w'⟩
      · rw [← w8] at z
        exact (wipe_some z).1
      · obtain ⟨o, z, _⟩ := Tn.obj _ _ at7 b hb
        exact (pn b hb o z).2
    match b, q9 with
    | false, q9 =>
      simp only [Bool.false_eq_true, if_false] at q9 ⊢
      exact fin J9 q9
    | true, q9 =>
      simp only [if_true] at q9 ⊢
      refine thnF (py.run _ s9 τ G9 _ J9 q9) fun kv s10 z => ?_
      obtain ⟨y, G10, J10, ry, q10⟩ := z
      refine thnF (pv.run _ s10 τ G10 _ J10 q10) fun vv s11 z => ?_
      obtain ⟨v, G11, J11, rv, ms, ks, qa, rfl, hqa, hD, hz, nx⟩ := z
      exact dt_put (X := X.blk s3 G3 sc ce fp) J11 hu hD hz hqa ry rv fun s12 J12 => fin J12 nx
/-- stored in a plain local name -/
theorem ps_setDcT {i : Nat} {n : Str} {pn : Pos} {ky va tg it : Expr} {ifs : List Expr} {sc : Scope} {own : List (Str × Nat)} {pos spos : Pos} {wi : TI} {g : TG} {tt : TT} {ty tz : TE} (hu : X.A.units + 1 < cLine) (hc : X.calm = true) (hN : X.N.Nodup) (hn : X.N[i]? = some n) (hnl : X.env.scope.names.lookup n = some .local)
    (hsw : swapsWith (.DictComp ky va [⟨tg, it, ifs, 0⟩] sc pos) (some (.Name n pn)) spos.line X.env = pure true) (hi : PI X tg it wi) (ok : BlkOk X.N X.env.scope sc own)
    (hg : ∀ (s : Shared) (H : Hp) (C : Addr) (cl : List (Str × Addr)) (fp : List Addr), PG (X.blk s H sc (compEnvC sc cl C X.env) fp) tg g)
    (ht : ∀ (s : Shared) (H : Hp) (C : Addr) (cl : List (Str × Addr)) (fp : List Addr), PTs (X.blk s H sc (compEnvC sc cl C X.env) fp) ifs tt)
    (hy : ∀ (s : Shared) (H : Hp) (C : Addr) (cl : List (Str × Addr)) (fp : List Addr), PE (X.blk s H sc (compEnvC sc cl C X.env) fp) ky ty)
    (hv : ∀ (s : Shared) (H : Hp) (C : Addr) (cl : List (Str × Addr)) (fp : List Addr), PE (X.blk s H sc (compEnvC sc cl C X.env) fp) va tz) (hfo : ∀ x, foldedSetIterable it X.env x = pure x := by intro _; rfl) :
    PS X (.Assign [.Name n pn] (.DictComp ky va [⟨tg, it, ifs, 0⟩] sc pos) spos) (tAsg (tDcT wi g tt ty tz (own.map (·.2))) (gName i)) := by
  constructor
  intro pins s σ H D J h
  rw [exec_Assign_Name_used _ _ _ _ hsw]
  have h' : tDcT wi g tt ty tz (own.map (·.2)) σ H (fun x G => gName i x σ G D.nx) := h
  refine wpAny_bind (wpAny_standAt (wpAny_bind ?_))
  show wpAny _ X.A (do let _ ← comprehension (.DictComp ky va [⟨tg, it, ifs, 0⟩] sc pos) sc X.env (firstIterPos [⟨tg, it, ifs, 0⟩] pos) newDict false (eval it X.env) (some (assign (.Name n pn) X.env))) _ _ s
  refine wpAny_bind (thn (dcT_core (Qf := fun _ s' => SP X pins D .next s') hu hc hN J hi ok hg ht hy hv hfo h' fun L C s' m G J' q hns fo => ?_) fun _ s' z => wpAny_pure (wpAny_pure z))
  show wpAny _ _ (assign (.Name n pn) X.env (.ref L)) _ _ _
  refine wpAny_assign_Name (store_ok2 (v := V.ref L) J' hN hn (.inl hnl) rfl (fun s2 J2 z => ?_) (.inr hnl))
  obtain ⟨a, sb, ha⟩ := z
  obtain ⟨k0, k1, k2, k3, k4, k5⟩ := fo
  have na : C ≠ a := ha.elim (fun z => by rw [z]; exact k1) fun z y => k4 n a z y.symm
  exact ⟨m, hns.sameBut sb na, fun g' sb' => ⟨_, G, J2.turned (t' := s2.toks) (fun b o hb z => (sb'.2 b hb).trans z) k0 k1 k3 k4 k5, q⟩⟩
end
theorem sw_dc {ky va : Expr} {gs : List Comprehension} {sc : Scope} {pos pn : Pos} {n : Str} {ln : Nat} {env : Env} (h1 : env.scope.kind = .function) (h2 : env.scope.names.lookup n = some .local) (h3 : (pn.line == pos.line) = true) (h4 : (sc.names.any fun x => x.1 == n && (x.2 == .local || x.2 == .cell)) = false) :
    swapsWith (.DictComp ky va gs sc pos) (some (.Name n pn)) ln env = pure true := by
  have e1 : env.kindOf n = some .local := h2
  have e2 : env.blockKind = .function := by
    unfold Env.blockKind
    rw [h1]
    rfl
  have h4' : (sc.names.any fun (x, k) => x == n && (k == .local || k == .cell)) = false := h4
  unfold swapsWith
  simp only [e1, e2, h4', Expr.pos, h3]
  rfl
end Dk
namespace Dk
open PySem L2
/-! ### a text taken none or one time -/
section
variable {X : Cx}
theorem op_mul01 : OpR X (binaryOp .Mult) (fun x y H Q => ∃ (z : Str) (k : Int), x = .str z ∧ y = .int k ∧ (k = 0 ∨ k = 1) ∧ Q (.str (if k = 1 then z else Str.empty)) H) := by
  intro pins s σ H x y v u Q I rx ry h
  obtain ⟨z, k, rfl, rfl, hk, q⟩ := h
  obtain ⟨t, rfl⟩ := rx
  obtain ⟨t', rfl⟩ := ry
  rcases hk with rfl | rfl
  · exact PySem.P.mul_str_none (by decide) (by decide) ⟨.str Str.empty, H, I.tok _, ⟨_, rfl⟩, q⟩
  · exact PySem.P.mul_str rfl (fun _ e => by cases e) (fun _ e => by cases e) ⟨.str z, H, I, ⟨_, rfl⟩, q⟩
end
/-! ### drawn names -/
def sgn (a c : Int) (k : Nat) : Str := ⟨#[97 + ((a + c * k) % 26).toNat]⟩
def nmAt (a c : Int) (t : Str) (p : Int) (k : Nat) : Str :=
  if p = 0 then sgn a c k ++ t else if p = 1 then t ++ sgn a c k else sgn a c k ++ (if ((k : Int) % 2) = 1 then t else Str.empty)
def nms (a c : Int) (t : Str) (p : Int) (n : Nat) : List Str := (List.range n).map (nmAt a c t p)
theorem nms_succ (a c : Int) (t : Str) (p : Int) (n : Nat) : nms a c t p (n + 1) = nms a c t p n ++ [nmAt a c t p n] := by
  unfold nms
  rw [List.range_succ, List.map_append]
  rfl
theorem nms_len (a c : Int) (t : Str) (p : Int) (n : Nat) : (nms a c t p n).length = n := by
  unfold nms
  rw [List.length_map, List.length_range]
theorem abc_at : ∀ i : Nat, i < 26 → abc.cps.toList[i]? = some (97 + i) := by decide +kernel
theorem abc_mem {i : Nat} (h : i < 26) : 97 + i ∈ abc.cps.toList := List.mem_of_getElem? (abc_at i h)
theorem mod26 (x : Int) : (x % 26).toNat < 26 ∧ (((x % 26).toNat : Nat) : Int) = x % 26 := by
  have h1 : 0 ≤ x % 26 := Int.emod_nonneg _ (by decide)
  have h2 : x % 26 < 26 := Int.emod_lt_of_pos _ (by decide)
  omega
theorem isNm_of {z : Str} (h1 : 1 ≤ z.length) (h2 : z.length ≤ 8) (h3 : ∀ c ∈ z.cps.toList, c ∈ abc.cps.toList) : isNm z = true := by
  unfold isNm
  rw [decide_eq_true ⟨h1, h2⟩, Bool.true_and, List.all_eq_true]
  exact fun c hc => decide_eq_true (h3 c hc)
theorem cps_app (a b : Str) : (a ++ b).cps.toList = a.cps.toList ++ b.cps.toList := by
  rw [Str.cps_append, Array.toList_append]
/-- a drawn tail: at most seven small letters -/
def Tail (t : Str) : Prop := t.length ≤ 7 ∧ (∀ c ∈ t.cps.toList, c ∈ abc.cps.toList) ∧ t.length ≠ 5 ∧ t.length ≠ 6 ∧ t.cps.toList ≠ [120, 116, 114, 97] ∧ t.cps.toList ≠ [101, 120, 116, 114] ∧ t.cps.toList ≠ [116, 114, 97, 110, 103, 101, 114] ∧ t.cps.toList ≠ [115, 116, 114, 97, 110, 103, 101] ∧ t.cps.toList ≠ [100, 100] ∧ t.cps.toList ≠ [111, 100]
theorem sgn_in (a c : Int) (k : Nat) : ∀ d ∈ (sgn a c k).cps.toList, d ∈ abc.cps.toList := by
  intro d hd
  have e : d = 97 + ((a + c * k) % 26).toNat := List.mem_singleton.mp hd
  rw [e]
  exact abc_mem (mod26 _).1
theorem nm_cat {x y : Str} (h : x.length + y.length ≤ 8) (h0 : 1 ≤ x.length + y.length) (hx : ∀ c ∈ x.cps.toList, c ∈ abc.cps.toList) (hy : ∀ c ∈ y.cps.toList, c ∈ abc.cps.toList) : isNm (x ++ y) = true := by
  refine isNm_of (by rw [Str.length_append]; exact h0) (by rw [Str.length_append]; exact h) ?_
  intro c hc
  rw [cps_app] at hc
  rcases List.mem_append.mp hc with h | h
  · exact hx c h
  · exact hy c h
theorem sgn_len (a c : Int) (k : Nat) : (sgn a c k).length = 1 := rfl
theorem nmAt_name {a c : Int} {t : Str} {p : Int} (k : Nat) (ht : Tail t) : isNm (nmAt a c t p k) = true := by
  obtain ⟨h1, h2, _⟩ := ht
  unfold nmAt
  split
  · exact nm_cat (by rw [sgn_len]; omega) (by rw [sgn_len]; omega) (sgn_in a c k) h2
  · split
    · exact nm_cat (by rw [sgn_len]; omega) (by rw [sgn_len]; omega) h2 (sgn_in a c k)
    · split
      · exact nm_cat (by rw [sgn_len]; omega) (by rw [sgn_len]; omega) (sgn_in a c k) h2
      · exact nm_cat (by rw [sgn_len]; show 1 + 0 ≤ 8; decide) (by rw [sgn_len]; show 1 ≤ 1 + 0; decide) (sgn_in a c k) (fun c hc => by cases hc)
theorem step_inj {a c : Int} (hc : c = 1 ∨ c = 3 ∨ c = 5 ∨ c = 7 ∨ c = 9 ∨ c = 11) {j k : Nat} (hj : j < 26) (hk : k < 26) (h : ((a + c * j) % 26).toNat = ((a + c * k) % 26).toNat) : j = k := by
  have h1 := (mod26 (a + c * j)).2
  have h2 := (mod26 (a + c * k)).2
  rcases hc with rfl | rfl | rfl | rfl | rfl | rfl <;> omega
theorem nmAt_inj {a c : Int} {t : Str} {p : Int} (hc : c = 1 ∨ c = 3 ∨ c = 5 ∨ c = 7 ∨ c = 9 ∨ c = 11) {j k : Nat} (hj : j < 26) (hk : k < 26) (h : nmAt a c t p j = nmAt a c t p k) : j = k := by
  have h' : (nmAt a c t p j).cps.toList = (nmAt a c t p k).cps.toList := by rw [h]
  unfold nmAt at h'
  refine step_inj hc hj hk (a := a) ?_
  have key : ∀ {x y : Nat} {r s : List Nat}, x :: r = y :: s → x = y := fun e => (List.cons.inj e).1
  by_cases p0 : p = 0
  · rw [if_pos p0, if_pos p0, cps_app, cps_app] at h'
    have := key h'
    omega
  · rw [if_neg p0, if_neg p0] at h'
    by_cases p1 : p = 1
    · rw [if_pos p1, if_pos p1, cps_app, cps_app] at h'
      have e := List.append_cancel_left h'
      have := key e
      omega
    · rw [if_neg p1, if_neg p1, cps_app, cps_app] at h'
      have := key h'
      omega
theorem nms_nodup {a c : Int} {t : Str} {p : Int} (hc : c = 1 ∨ c = 3 ∨ c = 5 ∨ c = 7 ∨ c = 9 ∨ c = 11) : ∀ {n : Nat}, n ≤ 26 → (nms a c t p n).Nodup
  | 0, _ => List.nodup_nil
  | n + 1, hn => by
    rw [nms_succ, List.nodup_append]
    refine ⟨nms_nodup hc (by omega), by simp, fun x hx y hy e => ?_⟩
    rw [List.mem_singleton.mp hy] at e
    unfold nms at hx
    obtain ⟨k, hk, rfl⟩ := List.mem_map.mp hx
    have h1 := List.mem_range.mp hk
    have h2 := nmAt_inj hc (by omega) (by omega) e
    omega
theorem nms_all {a c : Int} {t : Str} {p : Int} (ht : Tail t) (n : Nat) : ∀ z ∈ nms a c t p n, isNm z = true := by
  intro z hz
  unfold nms at hz
  obtain ⟨k, _, rfl⟩ := List.mem_map.mp hz
  exact nmAt_name k ht
/-- no drawn name has six or seven letters -/
def LenOk (z : Str) : Prop := z.length ≠ 6 ∧ z.length ≠ 7 ∧ z.cps.toList ≠ [101, 120, 116, 114, 97] ∧ z.cps.toList ≠ [115, 116, 114, 97, 110, 103, 101, 114] ∧ z.cps.toList ≠ [111, 100, 100]
theorem sgn_head {a c : Int} {k : Nat} {t : Str} (h : t.cps.toList ≠ [120, 116, 114, 97]) : (sgn a c k ++ t).cps.toList ≠ [101, 120, 116, 114, 97] := by
  rw [cps_app]
  intro e
  exact h (List.cons.inj e).2
theorem sgn_headS {a c : Int} {k : Nat} {t : Str} (h : t.cps.toList ≠ [116, 114, 97, 110, 103, 101, 114]) : (sgn a c k ++ t).cps.toList ≠ [115, 116, 114, 97, 110, 103, 101, 114] := by
  rw [cps_app]
  intro e
  exact h (List.cons.inj e).2
theorem sgn_tailS {a c : Int} {k : Nat} {t : Str} (h : t.cps.toList ≠ [115, 116, 114, 97, 110, 103, 101]) : (t ++ sgn a c k).cps.toList ≠ [115, 116, 114, 97, 110, 103, 101, 114] := by
  rw [cps_app]
  intro e
  exact h (List.append_inj' (show t.cps.toList ++ [97 + ((a + c * k) % 26).toNat] = [115, 116, 114, 97, 110, 103, 101] ++ [114] from e) rfl).1
theorem sgn_tail {a c : Int} {k : Nat} {t : Str} (h : t.cps.toList ≠ [101, 120, 116, 114]) : (t ++ sgn a c k).cps.toList ≠ [101, 120, 116, 114, 97] := by
  rw [cps_app]
  intro e
  exact h (List.append_inj' (show t.cps.toList ++ [97 + ((a + c * k) % 26).toNat] = [101, 120, 116, 114] ++ [97] from e) rfl).1
theorem sgn_headO {a c : Int} {k : Nat} {t : Str} (h : t.cps.toList ≠ [100, 100]) : (sgn a c k ++ t).cps.toList ≠ [111, 100, 100] := by
  rw [cps_app]
  intro e
  exact h (List.cons.inj e).2
theorem sgn_tailO {a c : Int} {k : Nat} {t : Str} (h : t.cps.toList ≠ [111, 100]) : (t ++ sgn a c k).cps.toList ≠ [111, 100, 100] := by
  rw [cps_app]
  intro e
  exact h (List.append_inj' (show t.cps.toList ++ [97 + ((a + c * k) % 26).toNat] = [111, 100] ++ [100] from e) rfl).1
theorem nms_lens {a c : Int} {t : Str} {p : Int} (ht : Tail t) (n : Nat) : ∀ z ∈ nms a c t p n, LenOk z := by
  intro z hz
  unfold nms at hz
  obtain ⟨k, _, rfl⟩ := List.mem_map.mp hz
  obtain ⟨h1, _, h3, h4, h5, h6, h7, h8, h9, h10⟩ := ht
  have e0 : Str.empty.length = 0 := rfl
  unfold LenOk nmAt
  split
  · refine ⟨?_, ?_, sgn_head h5, sgn_headS h7, sgn_headO h9⟩
    · rw [Str.length_append, sgn_len]
      omega
    · rw [Str.length_append, sgn_len]
      omega
  · split
    · refine ⟨?_, ?_, sgn_tail h6, sgn_tailS h8, sgn_tailO h10⟩
      · rw [Str.length_append, sgn_len]
        omega
      · rw [Str.length_append, sgn_len]
        omega
    · split
      · refine ⟨?_, ?_, sgn_head h5, sgn_headS h7, sgn_headO h9⟩
        · rw [Str.length_append, sgn_len]
          omega
        · rw [Str.length_append, sgn_len]
          omega
      · refine ⟨?_, ?_, sgn_head (by decide), sgn_headS (by decide), sgn_headO (by decide)⟩
        · rw [Str.length_append, sgn_len]
          omega
        · rw [Str.length_append, sgn_len]
          omega
theorem sgn_at (a c : Int) (i : Nat) : atI abc.cps.toList ((a + c * (0 + (i : Int))) % 26) = some (97 + ((a + c * i) % 26).toNat) := by
  obtain ⟨h1, h2⟩ := mod26 (a + c * i)
  have z := atI_nat (abc_at _ h1)
  rw [h2] at z
  rw [Int.zero_add]
  exact z
theorem pick3 {a c : Int} {t : Str} {p : Int} {i : Nat} (h0 : 0 ≤ p) (h1 : p < 3) : atI [V.str (sgn a c i ++ t), V.str (t ++ sgn a c i), V.str (sgn a c i ++ (if ((0 + (i : Int)) % 2) = 1 then t else Str.empty))] p = some (V.str (nmAt a c t p i)) := by
  rw [Int.zero_add]
  have e : p = 0 ∨ p = 1 ∨ p = 2 := by omega
  rcases e with rfl | rfl | rfl <;> rfl
theorem Sav.free {b : Addr} {H H' : Hp} (s : Sav b H H') {g : Addr} (n : g ≠ b) (h : H' g = none) : H g = none := by
  cases e : H g with
  | none => rfl
  | some z =>
    rw [s g z n e] at h
    cases h
theorem tail_len {t : Str} {a c : Int} {i : Nat} (h : Tail t) : (sgn a c i).length + t.length ≤ sizeLine ∧ t.length + (sgn a c i).length ≤ sizeLine := by
  have h1 := h.1
  rw [sgn_len]
  have h2 : 8 ≤ sizeLine := by decide
  omega
/-- a list of m unlike names -/
def Names (zs : List Str) : Prop := zs.Nodup ∧ ∀ z ∈ zs, isNm z = true
def spNames : Sp := fun vs H Q _ => ∃ (b l : Addr) (m : Int), vs = [.ref b, .int m] ∧ Box H b l ∧ 0 ≤ m ∧ m ≤ 26 ∧
  ∀ (H' : Hp) (p : Addr) (zs : List Str), Sav b H H' → Box H' b l → H p = none → H' p = some (.lst (zs.map V.str)) → zs.length = m.toNat → Names zs → (∀ z ∈ zs, LenOk z) → Q (.ref p) H'
end Dk
namespace Dk
open PySem L2
theorem Same.tup {K : PySem.W.Frag} {H H' : Hp} {a : Addr} {xs : List V} (e : Same H H') (h : SqT K H a xs) : SqT K H' a xs := by
  rcases h with (h | ⟨o, h⟩) | h
  · exact .inl (.inl (e _ _ h))
  · exact .inl (.inr ⟨o, e _ _ h⟩)
  · exact .inr h
/-- a list or a tuple -/
def Sq (K : PySem.W.Frag) (H : Hp) (a : Addr) (xs : List V) : Prop := SqL K H a xs ∨ SqT K H a xs
theorem Sq.same {K : PySem.W.Frag} {H H' : Hp} {a : Addr} {xs : List V} (h : Sq K H a xs) (e : Same H H') : Sq K H' a xs := by
  rcases h with h | h
  · exact .inl (e.seq h)
  · exact .inr (Same.tup e h)
/-! ### places -/
def plc (xs : List V) (n : Int) : V := xs.getD (n % (xs.length : Int)).toNat .non
theorem modlen {n : Nat} (h : 0 < n) (x : Int) : (x % (n : Int)).toNat < n ∧ (((x % (n : Int)).toNat : Nat) : Int) = x % (n : Int) := by
  have h1 : 0 ≤ x % (n : Int) := Int.emod_nonneg _ (by omega)
  have h2 : x % (n : Int) < n := Int.emod_lt_of_pos _ (by omega)
  omega
theorem plc_at {xs : List V} (h : 0 < xs.length) (n : Int) : atI xs (n % (xs.length : Int)) = some (plc xs n) := by
  obtain ⟨h1, h2⟩ := modlen h n
  have e : xs[(n % (xs.length : Int)).toNat]? = some (plc xs n) := by
    unfold plc
    rw [List.getD_eq_getElem?_getD, List.getElem?_eq_getElem h1]
    rfl
  have z := atI_nat e
  rw [h2] at z
  exact z
/-! ### plain lists, equal ones -/
theorem Lk.flat {n : Nat} {H : Hp} {v : V} (h : flatV v = true) : Lk (n + 1) H v v := .inl ⟨rfl, h⟩
theorem Lk.lst {n : Nat} {H : Hp} {a b : Addr} {xs : List V} (ha : H a = some (.lst xs)) (hb : H b = some (.lst xs)) (hl : xs.length ≤ 1000) (hf : ∀ x ∈ xs, flatV x = true) : Lk (n + 2) H (.ref a) (.ref b) := by
  refine .inr ⟨a, b, xs, xs, rfl, rfl, rfl, hl, .inl ⟨ha, hb⟩, fun i x y hx hy => ?_⟩
  have e : x = y := Option.some.inj (hx.symm.trans hy)
  rw [← e]
  exact Lk.flat (hf x (List.mem_of_getElem? hx))
theorem Lk.tup {n : Nat} {H : Hp} {a b : Addr} {xs : List V} (ha : H a = some (.tup xs)) (hb : H b = some (.tup xs)) (hl : xs.length ≤ 1000) (hf : ∀ x ∈ xs, flatV x = true) : Lk (n + 2) H (.ref a) (.ref b) := by
  refine .inr ⟨a, b, xs, xs, rfl, rfl, rfl, hl, .inr ⟨ha, hb⟩, fun i x y hx hy => ?_⟩
  have e : x = y := Option.some.inj (hx.symm.trans hy)
  rw [← e]
  exact Lk.flat (hf x (List.mem_of_getElem? hx))
theorem flat_strs {zs : List Str} : ∀ x ∈ zs.map V.str, flatV x = true := by
  intro x hx
  obtain ⟨z, _, rfl⟩ := List.mem_map.mp hx
  rfl
theorem str_of {zs : List Str} {x : V} (h : x ∈ zs.map V.str) : ∃ z, z ∈ zs ∧ x = V.str z := by
  obtain ⟨z, hz, rfl⟩ := List.mem_map.mp h
  exact ⟨z, hz, rfl⟩
theorem nm_ok {z : Str} (h : isNm z = true) : PyData.strOk z = true := by
  unfold isNm at h
  rw [Bool.and_eq_true] at h
  have h2 := List.all_eq_true.mp h.2
  have key : ∀ c ∈ abc.cps.toList, 97 ≤ c ∧ c < 123 := by decide +kernel
  unfold PyData.strOk
  rw [Array.all_eq_true']
  intro c hc
  have h3 := key c (of_decide_eq_true (h2 c (Array.mem_toList_iff.mpr hc)))
  exact decide_eq_true (by omega)
theorem lay_strs : ∀ {zs : List Str}, (∀ z ∈ zs, PyData.strOk z = true) → PyData.canLayAll0 (zs.map PyData.str) = true ∧ PyData.depthAll (zs.map PyData.str) = 0
  | [], _ => ⟨rfl, rfl⟩
  | z :: r, h => by
    obtain ⟨h1, h2⟩ := lay_strs (zs := r) fun y hy => h y (List.mem_cons_of_mem _ hy)
    have h0 := h z List.mem_cons_self
    constructor
    · show (PyData.strOk z && PyData.canLayAll0 (r.map PyData.str)) = true
      rw [h0, h1]
      rfl
    · show max 0 (PyData.depthAll (r.map PyData.str)) = 0
      rw [h2]
      rfl
theorem shaped_strs {zs : List Str} (h : ∀ z ∈ zs, PyData.strOk z = true) : SeqAt.shaped (.tuple (zs.map PyData.str)) = true := by
  obtain ⟨h1, h2⟩ := lay_strs h
  unfold SeqAt.shaped
  have e1 : (PyData.tuple (zs.map PyData.str)).canLay0 = true := h1
  have e2 : (PyData.tuple (zs.map PyData.str)).depth = 1 := by
    show PyData.depthAll (zs.map PyData.str) + 1 = 1
    rw [h2]
  rw [e1, e2]
  rfl
end Dk
namespace Dk
open PySem L2
theorem cut_tail (x : V) (r : List V) : cutV (x :: r) (some 1) none = r := by
  unfold cutV
  have h1 : HT.sIx (x :: r).length 0 (some 1) = 1 := by
    rw [show HT.sIx (x :: r).length 0 (some 1) = min 1 (x :: r).length from HT.sIx_nat (x :: r).length 0 1, List.length_cons]
    omega
  rw [h1, HT.sIx_none, List.length_cons]
  show r.take (r.length + 1 - 1) = r
  rw [Nat.add_sub_cancel, List.take_length]
end Dk
namespace Dk
open PySem L2
/-! ### pairs of texts -/
abbrev SS := Str × Str
def Pr (H : Hp) (x : V) (ab : SS) : Prop := ∃ q, x = V.ref q ∧ H q = some (.tup [.str ab.1, .str ab.2])
/-- values that are such pairs, one by one -/
def PL (H : Hp) (xs : List V) (ps : List SS) : Prop := xs.length = ps.length ∧ ∀ (i : Nat) (x : V) (ab : SS), xs[i]? = some x → ps[i]? = some ab → Pr H x ab
theorem Pr.same {H H' : Hp} {x : V} {ab : SS} (h : Pr H x ab) (e : Same H H') : Pr H' x ab := by
  obtain ⟨q, h1, h2⟩ := h
  exact ⟨q, h1, e _ _ h2⟩
theorem PL.same {H H' : Hp} {xs : List V} {ps : List SS} (h : PL H xs ps) (e : Same H H') : PL H' xs ps := ⟨h.1, fun i x ab h1 h2 => (h.2 i x ab h1 h2).same e⟩
/-- tuples stay where something else is written -/
def KeepT (H H' : Hp) : Prop := ∀ t xs, H t = some (.tup xs) → H' t = some (.tup xs)
theorem KeepT.of {H H' : Hp} (e : Same H H') : KeepT H H' := fun t xs h => e _ _ h
theorem KeepT.trans {H H1 H2 : Hp} (a : KeepT H H1) (b : KeepT H1 H2) : KeepT H H2 := fun t xs h => b t xs (a t xs h)
theorem KeepT.lst {H : Hp} {p : Addr} {o : HO} {xs : List V} (h : H p = some (.lst xs)) : KeepT H (upd H p o) := fun t ys e => by
  have n : t ≠ p := fun z => by
    rw [z, h] at e
    cases e
  rw [upd_ne n]
  exact e
theorem PL.keep {H H' : Hp} {xs : List V} {ps : List SS} (h : PL H xs ps) (e : KeepT H H') : PL H' xs ps := ⟨h.1, fun i x ab h1 h2 => by
  obtain ⟨q, h3, h4⟩ := h.2 i x ab h1 h2
  exact ⟨q, h3, e _ _ h4⟩⟩
theorem PL.nil {H : Hp} : PL H [] [] := ⟨rfl, fun i x ab h _ => by simp at h⟩
theorem PL.cons {H : Hp} {x : V} {ab : SS} {xs : List V} {ps : List SS} (h : Pr H x ab) (t : PL H xs ps) : PL H (x :: xs) (ab :: ps) := by
  refine ⟨by rw [List.length_cons, List.length_cons, t.1], fun i y cd h1 h2 => ?_⟩
  cases i with
  | zero =>
    rw [← Option.some.inj h1, ← Option.some.inj h2]
    exact h
  | succ i => exact t.2 i y cd h1 h2
theorem PL.tail {H : Hp} {x : V} {ab : SS} {xs : List V} {ps : List SS} (h : PL H (x :: xs) (ab :: ps)) : Pr H x ab ∧ PL H xs ps :=
  ⟨h.2 0 x ab rfl rfl, by have := h.1; simpa using this, fun i y cd h1 h2 => h.2 (i + 1) y cd h1 h2⟩
theorem PL.append {H : Hp} : ∀ {xs ys : List V} {ps qs : List SS}, PL H xs ps → PL H ys qs → PL H (xs ++ ys) (ps ++ qs)
  | [], _, [], _, _, h => h
  | [], _, _ :: _, _, h, _ => by cases h.1
  | _ :: _, _, [], _, h, _ => by cases h.1
  | x :: xs, ys, p :: ps, qs, h, h2 => PL.cons h.tail.1 (PL.append h.tail.2 h2)
theorem PL.snoc {H : Hp} {xs : List V} {ps : List SS} {x : V} {ab : SS} (h : PL H xs ps) (t : Pr H x ab) : PL H (xs ++ [x]) (ps ++ [ab]) := h.append (PL.cons t PL.nil)
theorem PL.at {H : Hp} {xs : List V} {ps : List SS} {i : Nat} {x : V} (h : PL H xs ps) (e : xs[i]? = some x) : ∃ ab, ps[i]? = some ab ∧ Pr H x ab := by
  have h1 : i < xs.length := (List.getElem?_eq_some_iff.mp e).1
  have h2 : i < ps.length := by rw [← h.1]; exact h1
  exact ⟨ps[i], List.getElem?_eq_getElem h2, h.2 i x _ e (List.getElem?_eq_getElem h2)⟩
/-! ### a pair among pairs -/
def pd (ab : SS) : PyData := .tuple [.str ab.1, .str ab.2]
theorem pr_dp {K : PySem.W.Frag} {H : Hp} {x : V} {ab : SS} (h : Pr H x ab) : Dp K H x (pd ab) := by
  obtain ⟨q, rfl, h2⟩ := h
  exact .tup (SqT.of h2) (.cons (.str _) (.cons (.str _) .nil))
theorem pl_dp {K : PySem.W.Frag} {H : Hp} : ∀ {xs : List V} {ps : List SS}, PL H xs ps → DpAll K H xs (ps.map pd)
  | [], [], _ => .nil
  | [], _ :: _, h => by cases h.1
  | _ :: _, [], h => by cases h.1
  | x :: xs, p :: ps, h => .cons (pr_dp h.tail.1) (pl_dp h.tail.2)
def okP (ab : SS) : Prop := PyData.strOk ab.1 = true ∧ PyData.strOk ab.2 = true
theorem pd_shaped {ab : SS} (h : okP ab) : SeqAt.shaped (pd ab) = true := shaped_strs (zs := [ab.1, ab.2]) (by
  intro z hz
  rcases List.mem_cons.mp hz with rfl | hz
  · exact h.1
  · rw [List.mem_singleton.mp hz]
    exact h.2)
theorem pds_lay : ∀ {ps : List SS}, (∀ p ∈ ps, okP p) → PyData.canLayAll0 (ps.map pd) = true ∧ PyData.depthAll (ps.map pd) ≤ 1
  | [], _ => ⟨rfl, Nat.zero_le _⟩
  | p :: r, h => by
    obtain ⟨h1, h2⟩ := pds_lay (ps := r) fun q hq => h q (List.mem_cons_of_mem _ hq)
    have h0 := h p List.mem_cons_self
    constructor
    · show ((pd p).canLay0 && PyData.canLayAll0 (r.map pd)) = true
      rw [h1, SeqAt.canLay_of_shaped (pd_shaped h0)]
      rfl
    · show max (pd p).depth (PyData.depthAll (r.map pd)) ≤ 1
      have e : (pd p).depth = 1 := rfl
      omega
theorem pds_shaped {ps : List SS} (h : ∀ p ∈ ps, okP p) : SeqAt.shaped (.list (ps.map pd)) = true := by
  obtain ⟨h1, h2⟩ := pds_lay h
  unfold SeqAt.shaped
  have e1 : (PyData.list (ps.map pd)).canLay0 = true := h1
  have e2 : (PyData.list (ps.map pd)).depth ≤ 64 := by
    show PyData.depthAll (ps.map pd) + 1 ≤ 64
    omega
  rw [e1, decide_eq_true e2]
  rfl
theorem eqv_pd (p q : SS) : PyData.eqv (pd p) (pd q) = decide (p = q) := by
  obtain ⟨a, b⟩ := p
  obtain ⟨c, d⟩ := q
  have e : PyData.eqv (pd (a, b)) (pd (c, d)) = ((a == c) && ((b == d) && true)) := by
    simp [pd, PyData.eqv, PyData.eqvAll]
  rw [e, Bool.and_true, Bool.eq_iff_iff, Bool.and_eq_true, beq_iff_eq, beq_iff_eq, decide_eq_true_eq, Prod.mk.injEq]
theorem any_pd (p : SS) : ∀ ps : List SS, ((ps.map pd).any fun z => PyData.eqv z (pd p)) = decide (p ∈ ps)
  | [] => by simp
  | q :: r => by
    rw [List.map_cons, List.any_cons, any_pd p r, eqv_pd, Bool.eq_iff_iff, Bool.or_eq_true, decide_eq_true_eq, decide_eq_true_eq, decide_eq_true_eq, List.mem_cons]
    constructor
    · rintro (h | h)
      · exact .inl h.symm
      · exact .inr h
    · rintro (h | h)
      · exact .inl h.symm
      · exact .inr h
/-! ### a text among texts -/
theorem in_strs (z : Str) : ∀ zs : List Str, inV (.str z) (zs.map V.str) = decide (z ∈ zs)
  | [] => by simp [inV]
  | y :: r => by
    have ih := in_strs z r
    unfold inV at ih ⊢
    rw [List.map_cons, List.any_cons, ih, Bool.eq_iff_iff, Bool.or_eq_true, decide_eq_true_eq, decide_eq_true_eq, List.mem_cons]
    show (y == z) = true ∨ _ ↔ _
    rw [beq_iff_eq]
    constructor
    · rintro (h | h)
      · exact .inl h.symm
      · exact .inr h
    · rintro (h | h)
      · exact .inl h.symm
      · exact .inr h
theorem flat_all (zs : List Str) : (zs.map V.str).all flatV = true := List.all_eq_true.mpr flat_strs
end Dk
namespace Dk
open PySem L2
/-! ### a dict of lists of texts, by the texts of a list -/
def kvs (zs : List Str) (as : List Addr) : List (Key × V) := (zs.zip as).map fun p => (Sum.inr p.1, V.ref p.2)
def LinkAt (H : Hp) (d : Addr) (zs : List Str) (f : Str → List Str) : Prop :=
  ∃ as : List Addr, as.length = zs.length ∧ H d = some (.dK (kvs zs as)) ∧ ∀ (i : Nat) (z : Str) (p : Addr), zs[i]? = some z → as[i]? = some p → H p = some (.lst ((f z).map V.str))
theorem LinkAt.same {H H' : Hp} {d : Addr} {zs : List Str} {f : Str → List Str} (h : LinkAt H d zs f) (e : Same H H') : LinkAt H' d zs f := by
  obtain ⟨as, h1, h2, h3⟩ := h
  exact ⟨as, h1, e _ _ h2, fun i z p a b => e _ _ (h3 i z p a b)⟩
theorem kvs_len (zs : List Str) (as : List Addr) (h : as.length = zs.length) : (kvs zs as).length = zs.length := by
  unfold kvs
  rw [List.length_map, List.length_zip, h, Nat.min_self]
theorem kvs_none {z : Str} : ∀ {zs : List Str} {as : List Addr}, z ∉ zs → valV (kvs zs as) (Sum.inr z : Key) = none
  | [], _, _ => rfl
  | _ :: _, [], _ => rfl
  | y :: zs, a :: as, h => by
    have h1 : ¬ ((Sum.inr y : Key) = Sum.inr z) := fun e => h (by rw [Sum.inr.inj e]; exact List.mem_cons_self)
    show valV ((Sum.inr y, V.ref a) :: kvs zs as) (Sum.inr z : Key) = none
    rw [valV_neg h1]
    exact kvs_none fun m => h (List.mem_cons_of_mem _ m)
theorem kvs_some : ∀ {zs : List Str} {as : List Addr} {i : Nat} {z : Str} {p : Addr}, zs.Nodup → zs[i]? = some z → as[i]? = some p → valV (kvs zs as) (Sum.inr z : Key) = some (V.ref p)
  | [], _, _, _, _, _, h, _ => by simp at h
  | _ :: _, [], _, _, _, _, _, h => by simp at h
  | y :: zs, a :: as, 0, z, p, _, h1, h2 => by
    have e1 : y = z := Option.some.inj h1
    have e2 : a = p := Option.some.inj h2
    subst e1
    subst e2
    exact valV_pos (p := ((Sum.inr y : Key), V.ref a)) rfl
  | y :: zs, a :: as, i + 1, z, p, nd, h1, h2 => by
    have hz : z ∈ zs := List.mem_of_getElem? (show zs[i]? = some z from h1)
    have h3 : ¬ ((Sum.inr y : Key) = Sum.inr z) := fun e => (List.nodup_cons.mp nd).1 (by rw [Sum.inr.inj e]; exact hz)
    show valV ((Sum.inr y, V.ref a) :: kvs zs as) (Sum.inr z : Key) = some (V.ref p)
    rw [valV_neg h3]
    exact kvs_some (List.nodup_cons.mp nd).2 h1 h2
theorem kvs_snoc {zs : List Str} {as : List Addr} (h : as.length = zs.length) (z : Str) (p : Addr) : kvs (zs ++ [z]) (as ++ [p]) = kvs zs as ++ [((Sum.inr z : Key), V.ref p)] := by
  unfold kvs
  rw [List.zip_append h.symm, List.map_append]
  rfl
theorem LinkAt.get {H : Hp} {d : Addr} {zs : List Str} {f : Str → List Str} {z : Str} (h : LinkAt H d zs f) (nd : zs.Nodup) (hz : z ∈ zs) : ∃ p : Addr, H p = some (.lst ((f z).map V.str)) ∧ ∀ H', Same H H' → DGet H' d (V.str z) (some (V.ref p)) := by
  obtain ⟨as, h1, h2, h3⟩ := h
  obtain ⟨i, hi, e⟩ := List.getElem_of_mem hz
  have hp : i < as.length := by rw [h1]; exact hi
  have e1 : zs[i]? = some z := by rw [List.getElem?_eq_getElem hi, e]
  have e2 : as[i]? = some as[i] := List.getElem?_eq_getElem hp
  refine ⟨as[i], h3 i z _ e1 e2, fun H' s => ?_⟩
  have g := DGet.k (k := (Sum.inr z : Key)) (s _ _ h2)
  rw [kvs_some nd e1 e2] at g
  exact g
/-! ### a loop over a list or a tuple -/
theorem for_sq {K : PySem.W.Frag} {j : Nat} {p : Addr} {xs : List V} {g : TG} {tb : TS} {D : Ends} {σ : L2.St} {H0 H : Hp} (hS : Sq K H0 p xs) (hv : σ[j]? = some (some (V.ref p))) (Pv : Nat → L2.St → Hp → Prop) (h0 : Pv 0 σ H) (hk : ∀ i σ H', Pv i σ H' → Same H0 H')
    (hs : ∀ i x σ H', xs[i]? = some x → Pv i σ H' → g x σ H' fun σ2 H2 => tb { D with nx := Pv (i + 1), ct := Pv (i + 1), bk := D.nx } σ2 H2) (hd : ∀ σ H', Pv xs.length σ H' → D.nx σ H') :
    tFor (fun σ H R => iList K (tVar j) σ H R ∨ iTup K (tVar j) σ H R) g tb D σ H := by
  have s0 := hk 0 σ H h0
  rcases hS with hS | hS
  · exact .inl ⟨_, hv, p, rfl, ⟨_, s0.seq hS⟩, for_list (K := K) (a := p) (xs := xs) Pv h0 (fun i σ H' _ h => (hk i σ H' h).seq hS) hs hd⟩
  · exact .inr ⟨_, hv, p, rfl, ⟨_, Same.tup s0 hS⟩, for_tup (K := K) (a := p) (xs := xs) Pv h0 (fun i σ H' _ h => Same.tup (hk i σ H' h) hS) hs hd⟩
theorem same_put {H H' : Hp} {p : Addr} {o : HO} (s : Same H H') (n : H p = none) : Same H (upd H' p o) := fun q x e => by
  rw [upd_ne (ne_of_none e n)]
  exact s _ _ e
theorem nodup_at {zs : List Str} (h : zs.Nodup) {i : Nat} {z : Str} (e : zs[i]? = some z) : z ∉ zs.take i := by
  intro hz
  obtain ⟨hi, ez⟩ := List.getElem?_eq_some_iff.mp e
  obtain ⟨j, hj, ej⟩ := List.getElem_of_mem hz
  rw [List.getElem_take] at ej
  have hji : j < i := by
    rw [List.length_take] at hj
    omega
  exact List.pairwise_iff_getElem.mp h j i (by omega) hi hji (by rw [ej, ez])
theorem take_snoc {zs : List Str} {i : Nat} {z : Str} (e : zs[i]? = some z) : zs.take (i + 1) = zs.take i ++ [z] := by
  rw [List.take_add_one, e]
  rfl
theorem str_at {zs : List Str} {i : Nat} {x : V} (e : (zs.map V.str)[i]? = some x) : ∃ z, zs[i]? = some z ∧ x = V.str z := by
  rw [List.getElem?_map] at e
  cases h : zs[i]? with
  | none =>
    rw [h] at e
    cases e
  | some z =>
    rw [h] at e
    exact ⟨z, rfl, (Option.some.inj e).symm⟩
section
variable {X : Cx}
theorem pi_any {tg iter : Expr} {w1 w2 : TI} (h1 : PI X tg iter w1) (h2 : PI X tg iter w2) : PI X tg iter (fun σ H R => w1 σ H R ∨ w2 σ H R) := ⟨fun pins s σ H R I h => h.elim (h1.run pins s σ H R I) (h2.run pins s σ H R I)⟩
end
/-! ### promises of the house's helpers -/
/-- an instance that has at least its names -/
def Nmd (C : Addr) (H : Hp) (h : Addr) (zs : List Str) : Prop := ∃ (dx n : Addr) (fs : List (Str × V)), H h = some (.ins C dx fs) ∧ fs.lookup ("names" : Str) = some (.ref n) ∧ fs.lookup ("has_room" : Str) = none ∧ H n = some (.lst (zs.map V.str))
theorem Nmd.same {C : Addr} {H H' : Hp} {h : Addr} {zs : List Str} (x : Nmd C H h zs) (e : Same H H') : Nmd C H' h zs := by
  obtain ⟨dx, n, fs, h1, h2, h3, h4⟩ := x
  exact ⟨dx, n, fs, e _ _ h1, h2, h3, e _ _ h4⟩
def spNewName : Sp := fun vs H Q _ => ∃ (z : Str) (o : Addr) (zs : List Str), vs = [.str z, .ref o] ∧ isNm z = true ∧ H o = some (.lst (zs.map V.str)) ∧ z ∉ zs ∧ ∀ H', Same H H' → Q .non H'
def spHas (C : Addr) : Sp := fun vs H Q _ => ∃ (h : Addr) (zs : List Str) (z : Str), vs = [.ref h, .str z] ∧ Nmd C H h zs ∧ Q (.bl (decide (z ∈ zs))) H
def spNeed (C : Addr) : Sp := fun vs H Q _ => ∃ (h : Addr) (zs : List Str) (z : Str), vs = [.ref h, .str z] ∧ Nmd C H h zs ∧ z ∈ zs ∧ Q .non H
def spNeeds (C : Addr) : Sp := fun vs H Q _ => ∃ (h : Addr) (zs : List Str) (y z : Str), vs = [.ref h, .str y, .str z] ∧ Nmd C H h zs ∧ y ∈ zs ∧ z ∈ zs ∧ Q .non H
def spNew (K : PySem.W.Frag) : Sp := fun vs H Q _ => ∃ (p : Addr) (zs : List Str), vs = [.ref p] ∧ Sq K H p (zs.map V.str) ∧ Names zs ∧ zs.length ≤ 1000 ∧ ∀ (H' : Hp) (n : Addr), Same H H' → H n = none → H' n = some (.lst (zs.map V.str)) → Q (.ref n) H'
def goodP (zs : List Str) (ab : SS) : Prop := ab.1 ∈ zs ∧ ab.2 ∈ zs ∧ ab.1 ≠ ab.2
def spNU (C : Addr) : Sp := fun vs H Q _ => ∃ (h : Addr) (zs : List Str) (y z : Str), vs = [.ref h, .str y, .str z] ∧ Nmd C H h zs ∧ y ∈ zs ∧ z ∈ zs ∧ y ≠ z ∧ Q .non H
def spUnlike (K : PySem.W.Frag) (C : Addr) : Sp := fun vs H Q _ => ∃ (h p : Addr) (zs : List Str) (xs : List V) (ps : List SS), vs = [.ref h, .ref p] ∧ Nmd C H h zs ∧ Sq K H p xs ∧ PL H xs ps ∧ xs.length ≤ 1000 ∧ (∀ ab ∈ ps, goodP zs ab) ∧
  ∀ (H' : Hp) (n : Addr) (ys : List V), Same H H' → H n = none → H' n = some (.lst ys) → PL H' ys ps → Q (.ref n) H'
/-- what of H' is new against H -/
def newPart (H H' : Hp) : Hp := fun x => match H x with
  | none => H' x
  | some _ => none
theorem new_at {H H' : Hp} {x : Addr} (h : H x = none) : newPart H H' x = H' x := by
  unfold newPart
  rw [h]
theorem new_old {H H' : Hp} {x : Addr} {o : HO} (h : H x = some o) : newPart H H' x = none := by
  unfold newPart
  rw [h]
theorem new_inv {H H' : Hp} {x : Addr} {o : HO} (h : newPart H H' x = some o) : H x = none ∧ H' x = some o := by
  cases e : H x with
  | none =>
    rw [new_at e] at h
    exact ⟨rfl, h⟩
  | some u =>
    rw [new_old e] at h
    cases h
theorem new_same (H H' : Hp) : Same (newPart H H') H' := fun q o h => (new_inv h).2
theorem new_up {H0 Ha Hb Hf : Hp} (s : Same H0 Ha) (h : ∀ q o, Ha q = none → Hb q = some o → Hf q = some o) : Same (newPart Ha Hb) (newPart H0 Hf) := fun q o e => by
  obtain ⟨h1, h2⟩ := new_inv e
  rw [new_at (s.free h1)]
  exact h q o h1 h2
def lnk (zs : List Str) (ps : List SS) (a : Str) : List Str := zs.filter fun b => decide ((a, b) ∈ ps)
def spLinked : Sp := fun vs H Q _ => ∃ (n p : Addr) (zs : List Str) (ys : List V) (ps : List SS), vs = [.ref n, .ref p] ∧ H n = some (.lst (zs.map V.str)) ∧ Names zs ∧ zs.length ≤ 1000 ∧ H p = some (.lst ys) ∧ PL H ys ps ∧ (∀ ab ∈ ps, okP ab) ∧
  ∀ (H' : Hp) (d : Addr), Same H H' → H d = none → LinkAt (newPart H H') d zs (lnk zs ps) → Q (.ref d) H'
theorem pred_ok {zs : List Str} (h : Names zs) {ab : SS} (g : goodP zs ab) : okP ab := ⟨nm_ok (h.2 _ g.1), nm_ok (h.2 _ g.2.1)⟩
theorem lnk_take {zs : List Str} {ps : List SS} {a b : Str} {i : Nat} (e : zs[i]? = some b) : lnk (zs.take (i + 1)) ps a = lnk (zs.take i) ps a ++ (if (a, b) ∈ ps then [b] else []) := by
  unfold lnk
  rw [List.take_add_one, e, List.filter_append]
  congr 1
  by_cases h : (a, b) ∈ ps
  · rw [if_pos h]
    show List.filter _ [b] = _
    simp [h]
  · rw [if_neg h]
    show List.filter _ [b] = _
    simp [h]
theorem lnk_len (zs : List Str) (ps : List SS) (a : Str) : (lnk zs ps a).length ≤ zs.length := List.length_filter_le _ _
end Dk
namespace Dk
open PySem L2
theorem nm_len {z : Str} (h : isNm z = true) : z.length ≤ 1000 := by
  unfold isNm at h
  rw [Bool.and_eq_true] at h
  have := (of_decide_eq_true h.1).2
  omega
end Dk
namespace Dk
open PySem L2
theorem dc_list {K : PySem.W.Frag} {a : Addr} {xs : List V} {g : TG} {tt : TT} {tk tv : TE} {vs : List Nat} {σ : L2.St} {H1 : Hp} {D : Addr} {Qd : Hp → Prop} (Pv : Nat → Hp → Prop) (h0 : Pv 0 (upd H1 D (.dK []))) (hl : ∀ i H, i ≤ xs.length → Pv i H → SqL K H a xs)
    (hs : ∀ i x H, xs[i]? = some x → Pv i H → g x (wipe σ vs) H fun s2 H2 => wipe s2 vs = wipe σ vs ∧ tt s2 H2 fun b H3 =>
      if b = true then tk s2 H3 fun y H4 => tv s2 H4 fun z H5 => ∃ ms k, y = kV k ∧ H5 D = some (.dK ms) ∧ ms.length < sizeLine ∧ Pv (i + 1) (upd H5 D (.dK (putK ms k z))) else Pv (i + 1) H3) (hd : ∀ H, Pv xs.length H → Qd H) :
    ∃ W : Nat → Nat → Hp → Prop, (∃ m, W 0 m (upd H1 D (.dK []))) ∧ ∀ i m H, W i m H →
      ((Itl K a).stop i H ∧ Qd H) ∨ ((Itl K a).go i H ∧ ∃ Nx : Hp → Prop, (∀ H', Nx H' → ∃ m', m' < m ∧ W (i + 1) m' H') ∧ ∀ x H', (Itl K a).yld i H x H' → g x (wipe σ vs) H' fun s2 H2 => wipe s2 vs = wipe σ vs ∧ tt s2 H2 fun b H3 =>
        if b = true then tk s2 H3 fun y H4 => tv s2 H4 fun z H5 => ∃ ms k, y = kV k ∧ H5 D = some (.dK ms) ∧ ms.length < sizeLine ∧ Nx (upd H5 D (.dK (putK ms k z))) else Nx H3) := by
  refine ⟨fun i m H => i + m = xs.length ∧ Pv i H, ⟨xs.length, by omega, h0⟩, ?_⟩
  rintro i m H ⟨em, p⟩
  have q := hl i H (by omega) p
  by_cases hlt : i < xs.length
  · refine .inr ⟨⟨xs, _, q, List.getElem?_eq_getElem hlt⟩, Pv (i + 1), fun H' p' => ⟨m - 1, by omega, by omega, p'⟩, fun x H' y => ?_⟩
    obtain ⟨e, y⟩ := y
    subst e
    exact hs i x _ (y xs q) p
  · have e : i = xs.length := by omega
    subst e
    exact .inl ⟨⟨xs, q, Nat.le_refl _⟩, hd H p⟩
end Dk
namespace Dk
open PySem L2
/-! ### a house as an object -/
def hf (n b v : Addr) : List (Str × V) := [(("names" : Str), V.ref n), (("behind" : Str), V.ref b), (("views" : Str), V.ref v)]
theorem nb_ : ¬ (("names" : Str) = "behind") := by decide +kernel
theorem nv_ : ¬ (("names" : Str) = "views") := by decide +kernel
theorem bv_ : ¬ (("behind" : Str) = "views") := by decide +kernel
theorem put_b (n b : Addr) : putF ("behind" : Str) (V.ref b) [(("names" : Str), V.ref n)] = [(("names" : Str), V.ref n), (("behind" : Str), V.ref b)] := by
  show (if ("names" : Str) = "behind" then _ else (("names" : Str), V.ref n) :: putF ("behind" : Str) (V.ref b) []) = _
  rw [if_neg nb_]
  rfl
theorem put_v (n b v : Addr) : putF ("views" : Str) (V.ref v) [(("names" : Str), V.ref n), (("behind" : Str), V.ref b)] = hf n b v := by
  show (if ("names" : Str) = "views" then _ else (("names" : Str), V.ref n) :: (if ("behind" : Str) = "views" then _ else (("behind" : Str), V.ref b) :: putF ("views" : Str) (V.ref v) [])) = _
  rw [if_neg nv_, if_neg bv_]
  rfl
theorem hf_n (n b v : Addr) : (hf n b v).lookup ("names" : Str) = some (V.ref n) := by
  rw [← put_v, lookup_putF, if_neg nv_, ← put_b, lookup_putF, if_neg nb_]
  exact List.lookup_cons_self
theorem hf_b (n b v : Addr) : (hf n b v).lookup ("behind" : Str) = some (V.ref b) := by
  rw [← put_v, lookup_putF, if_neg bv_, ← put_b, lookup_putF, if_pos rfl]
theorem hf_v (n b v : Addr) : (hf n b v).lookup ("views" : Str) = some (V.ref v) := by
  rw [← put_v, lookup_putF, if_pos rfl]
theorem one_no (n : Addr) {m : Str} (h1 : ¬ m = "names") : ([(("names" : Str), V.ref n)] : List (Str × V)).lookup m = none := by
  have e : putF ("names" : Str) (V.ref n) [] = [(("names" : Str), V.ref n)] := rfl
  rw [← e, lookup_putF, if_neg h1]
  rfl
theorem hf_no (n b v : Addr) {m : Str} (h1 : ¬ m = "names") (h2 : ¬ m = "behind") (h3 : ¬ m = "views") : (hf n b v).lookup m = none := by
  rw [← put_v, lookup_putF, if_neg h3, ← put_b, lookup_putF, if_neg h2]
  have e : putF ("names" : Str) (V.ref n) [] = [(("names" : Str), V.ref n)] := rfl
  rw [← e, lookup_putF, if_neg h1]
  rfl
/-- a whole house: its rooms, what is behind the doors of each, what each sees -/
def HouseAt (C : Addr) (H : Hp) (h : Addr) (zs : List Str) (bh vw : Str → List Str) : Prop :=
  ∃ dx n b v : Addr, H h = some (.ins C dx (hf n b v)) ∧ H n = some (.lst (zs.map V.str)) ∧ LinkAt H b zs bh ∧ LinkAt H v zs vw ∧ Names zs ∧ zs.length ≤ 8
theorem HouseAt.same {C : Addr} {H H' : Hp} {h : Addr} {zs : List Str} {bh vw : Str → List Str} (x : HouseAt C H h zs bh vw) (e : Same H H') : HouseAt C H' h zs bh vw := by
  obtain ⟨dx, n, b, v, h1, h2, h3, h4, h5⟩ := x
  exact ⟨dx, n, b, v, e _ _ h1, e _ _ h2, h3.same e, h4.same e, h5⟩
def swp (ps : List SS) : List SS := ps.map fun p => (p.2, p.1)
def both (ds : List SS) : List SS := ds ++ swp ds
def spInit (K : PySem.W.Frag) (C : Addr) : Sp := fun vs H Q _ => ∃ (H0 : Hp) (x dx r d s : Addr) (zs : List Str) (xs us : List V) (ds ss : List SS), vs = [.ref x, .ref r, .ref d, .ref s] ∧ Same H0 H ∧ H0 x = none ∧ H x = some (.ins C dx []) ∧
  Sq K H0 r (zs.map V.str) ∧ Names zs ∧ zs.length ≤ 8 ∧ Sq K H0 d xs ∧ PL H0 xs ds ∧ xs.length ≤ 400 ∧ (∀ ab ∈ ds, goodP zs ab) ∧ Sq K H0 s us ∧ PL H0 us ss ∧ us.length ≤ 400 ∧ (∀ ab ∈ ss, goodP zs ab) ∧
  ∀ H', Same H0 H' → HouseAt C (newPart H0 H') x zs (lnk zs (both ds)) (lnk zs ss) → Q .non H'
theorem LinkAt.put {H : Hp} {d x : Addr} {o : HO} {zs : List Str} {f : Str → List Str} (h : LinkAt H d zs f) {C dx : Addr} {fs : List (Str × V)} (hx : H x = some (.ins C dx fs)) : LinkAt (upd H x o) d zs f := by
  obtain ⟨as, h1, h2, h3⟩ := h
  refine ⟨as, h1, ?_, fun i z p a b => ?_⟩
  · rw [upd_ne (fun e => by rw [e, hx] at h2; cases h2)]
    exact h2
  · have h4 := h3 i z p a b
    rw [upd_ne (fun e => by rw [e, hx] at h4; cases h4)]
    exact h4
theorem KeepT.ins {H : Hp} {p C dx : Addr} {o : HO} {fs : List (Str × V)} (h : H p = some (.ins C dx fs)) : KeepT H (upd H p o) := fun t ys e => by
  have n : t ≠ p := fun z => by
    rw [z, h] at e
    cases e
  rw [upd_ne n]
  exact e
theorem swp_len (ps : List SS) : (swp ps).length = ps.length := by
  unfold swp
  rw [List.length_map]
end Dk
namespace Dk
open PySem L2
/-! ### comprehensions, any body -/
theorem it_any {J : It} {n : Nat} {G : Hp → Prop} {Y : Nat → Hp → V → Hp → Prop} (w : Walk J n G Y) {B : V → Hp → (Hp → Prop) → Prop} {Qd : Hp → Prop} {Hs : Hp} (Pv : Nat → Hp → Prop) (h0 : Pv 0 Hs) (hG : ∀ i H, i ≤ n → Pv i H → G H)
    (hs : ∀ i x H H', i < n → Pv i H → Y i H x H' → B x H' (Pv (i + 1))) (hd : ∀ H, Pv n H → Qd H) :
    ∃ W : Nat → Nat → Hp → Prop, (∃ m, W 0 m Hs) ∧ ∀ i m H, W i m H → (J.stop i H ∧ Qd H) ∨ (J.go i H ∧ ∃ Nx : Hp → Prop, (∀ H', Nx H' → ∃ m', m' < m ∧ W (i + 1) m' H') ∧ ∀ x H', J.yld i H x H' → B x H' Nx) := by
  refine ⟨fun i m H => i + m = n ∧ Pv i H, ⟨n, by omega, h0⟩, ?_⟩
  rintro i m H ⟨em, p⟩
  have q := hG i H (by omega) p
  by_cases hlt : i < n
  · exact .inr ⟨w.goes i H hlt q, Pv (i + 1), fun H' p' => ⟨m - 1, by omega, by omega, p'⟩, fun x H' y => hs i x H H' hlt p (w.yields i H x H' hlt q y)⟩
  · have e : i = n := by omega
    subst e
    exact .inl ⟨w.stops H q, hd H p⟩
/-! ### what a house tells -/
def dAt (zs : List Str) (bh : Str → List Str) (i : Nat) : List SS := match zs[i]? with
  | some a => ((zs.drop (i + 1)).filter fun b => decide (b ∈ bh a)).map fun b => (a, b)
  | none => []
def dUp (zs : List Str) (bh : Str → List Str) (n : Nat) : List SS := ((List.range n).map (dAt zs bh)).flatten
theorem dUp_succ (zs : List Str) (bh : Str → List Str) (n : Nat) : dUp zs bh (n + 1) = dUp zs bh n ++ dAt zs bh n := by
  unfold dUp
  rw [List.range_succ, List.map_append, List.flatten_append]
  simp
def sAt (zs : List Str) (vw : Str → List Str) (i : Nat) : List SS := match zs[i]? with
  | some a => (vw a).map fun b => (a, b)
  | none => []
def sUp (zs : List Str) (vw : Str → List Str) (n : Nat) : List SS := ((List.range n).map (sAt zs vw)).flatten
theorem sUp_succ (zs : List Str) (vw : Str → List Str) (n : Nat) : sUp zs vw (n + 1) = sUp zs vw n ++ sAt zs vw n := by
  unfold sUp
  rw [List.range_succ, List.map_append, List.flatten_append]
  simp
theorem dAt_some {zs : List Str} {bh : Str → List Str} {i : Nat} {a : Str} (e : zs[i]? = some a) : dAt zs bh i = ((zs.drop (i + 1)).filter fun b => decide (b ∈ bh a)).map fun b => (a, b) := by
  unfold dAt
  rw [e]
theorem sAt_some {zs : List Str} {vw : Str → List Str} {i : Nat} {a : Str} (e : zs[i]? = some a) : sAt zs vw i = (vw a).map fun b => (a, b) := by
  unfold sAt
  rw [e]
theorem dAt_len (zs : List Str) (bh : Str → List Str) (i : Nat) : (dAt zs bh i).length ≤ zs.length := by
  unfold dAt
  split
  · rw [List.length_map]
    refine Nat.le_trans (List.length_filter_le _ _) ?_
    rw [List.length_drop]
    omega
  · exact Nat.zero_le _
theorem dUp_len (zs : List Str) (bh : Str → List Str) : ∀ n : Nat, (dUp zs bh n).length ≤ n * zs.length
  | 0 => Nat.zero_le _
  | n + 1 => by
    rw [dUp_succ, List.length_append, Nat.succ_mul]
    have := dUp_len zs bh n
    have := dAt_len zs bh n
    omega
theorem sAt_len {zs : List Str} {vw : Str → List Str} (h : ∀ a, (vw a).length ≤ zs.length) (i : Nat) : (sAt zs vw i).length ≤ zs.length := by
  unfold sAt
  split
  · rw [List.length_map]
    exact h _
  · exact Nat.zero_le _
theorem sUp_len {zs : List Str} {vw : Str → List Str} (h : ∀ a, (vw a).length ≤ zs.length) : ∀ n : Nat, (sUp zs vw n).length ≤ n * zs.length
  | 0 => Nat.zero_le _
  | n + 1 => by
    rw [sUp_succ, List.length_append, Nat.succ_mul]
    have := sUp_len h n
    have := sAt_len h n
    omega
def dAll (zs : List Str) (bh : Str → List Str) : List SS := dUp zs bh zs.length
def sAll (zs : List Str) (vw : Str → List Str) : List SS := sUp zs vw zs.length
/-- a house whose lists are no longer than its rooms -/
def Hs (C : Addr) (H : Hp) (h : Addr) (zs : List Str) (bh vw : Str → List Str) : Prop := HouseAt C H h zs bh vw ∧ (∀ a, (bh a).length ≤ zs.length) ∧ (∀ a, (vw a).length ≤ zs.length) ∧ ∀ a b, b ∈ vw a → b ∈ zs
theorem Hs.same {C : Addr} {H H' : Hp} {h : Addr} {zs : List Str} {bh vw : Str → List Str} (x : Hs C H h zs bh vw) (e : Same H H') : Hs C H' h zs bh vw := ⟨x.1.same e, x.2⟩
def spRooms (C : Addr) : Sp := fun vs H Q _ => ∃ (h : Addr) (zs : List Str) (bh vw : Str → List Str), vs = [.ref h] ∧ Hs C H h zs bh vw ∧ ∀ (H' : Hp) (p : Addr), Same H H' → H p = none → H' p = some (.lst (zs.map V.str)) → Q (.ref p) H'
def spDoors (C : Addr) : Sp := fun vs H Q _ => ∃ (h : Addr) (zs : List Str) (bh vw : Str → List Str), vs = [.ref h] ∧ Hs C H h zs bh vw ∧ ∀ (H' : Hp) (p : Addr) (ys : List V), Same H H' → H p = none → H' p = some (.lst ys) → PL H' ys (dAll zs bh) → Q (.ref p) H'
def spSights (C : Addr) : Sp := fun vs H Q _ => ∃ (h : Addr) (zs : List Str) (bh vw : Str → List Str), vs = [.ref h] ∧ Hs C H h zs bh vw ∧ ∀ (H' : Hp) (p : Addr) (ys : List V), Same H H' → H p = none → H' p = some (.lst ys) → PL H' ys (sAll zs vw) → Q (.ref p) H'
theorem cut_from {zs : List Str} (i : Nat) : cutV (zs.map V.str) (some ((i : Nat) : Int)) none = (zs.drop i).map V.str := by
  unfold cutV
  rw [show HT.sIx (zs.map V.str).length 0 (some ((i : Nat) : Int)) = min i (zs.map V.str).length from HT.sIx_nat _ 0 i, HT.sIx_none, List.length_map]
  by_cases h : i ≤ zs.length
  · rw [Nat.min_eq_left h, List.take_of_length_le (by rw [List.length_drop, List.length_map]; omega), List.map_drop]
  · rw [Nat.min_eq_right (by omega), List.drop_of_length_le (by rw [List.length_map]; omega), List.drop_of_length_le (by omega)]
    simp
theorem filter_take {zs : List Str} {f : Str → Bool} {b : Str} {i : Nat} (e : zs[i]? = some b) : (zs.take (i + 1)).filter f = (zs.take i).filter f ++ (if f b = true then [b] else []) := by
  rw [List.take_add_one, e, List.filter_append]
  congr 1
  cases h : f b with
  | true =>
    rw [if_pos rfl]
    show List.filter f [b] = _
    simp [h]
  | false =>
    rw [if_neg (by decide)]
    show List.filter f [b] = _
    simp [h]
end Dk
namespace Dk
open PySem L2
/-! ### equal houses -/
/-! ### rows of text -/
theorem mem_flat {α : Type} {f : Nat → List α} {n : Nat} {x : α} (h : x ∈ ((List.range n).map f).flatten) : ∃ i, i < n ∧ x ∈ f i := by
  obtain ⟨l, hl, hx⟩ := List.mem_flatten.mp h
  obtain ⟨i, hi, rfl⟩ := List.mem_map.mp hl
  exact ⟨i, List.mem_range.mp hi, hx⟩
end Dk
namespace Dk
open PySem L2
/-! ### the law's own house: three lists in a tuple -/
def LHouse (H : Hp) (t : Addr) (zs : List Str) (ds ss : List SS) : Prop :=
  ∃ (r d s : Addr) (xs us : List V), H t = some (.tup [.ref r, .ref d, .ref s]) ∧ H r = some (.lst (zs.map V.str)) ∧ H d = some (.lst xs) ∧ PL H xs ds ∧ H s = some (.lst us) ∧ PL H us ss
theorem LHouse.same {H H' : Hp} {t : Addr} {zs : List Str} {ds ss : List SS} (h : LHouse H t zs ds ss) (e : Same H H') : LHouse H' t zs ds ss := by
  obtain ⟨r, d, s, xs, us, h1, h2, h3, h4, h5, h6⟩ := h
  exact ⟨r, d, s, xs, us, e _ _ h1, e _ _ h2, e _ _ h3, h4.same e, e _ _ h5, h6.same e⟩
/-- what such a house keeps to -/
structure Good (zs : List Str) (ds ss : List SS) : Prop where
  names : Names zs
  one : 1 ≤ zs.length
  eight : zs.length ≤ 8
  dg : ∀ p ∈ ds, goodP zs p
  sg : ∀ p ∈ ss, goodP zs p
  dl : ds.length ≤ 64
  sl : ss.length ≤ 64
  sn : ss.Nodup
  ln : ∀ z ∈ zs, LenOk z
theorem both_iff (ds : List SS) (a b : Str) : (a, b) ∈ both ds ↔ (a, b) ∈ ds ∨ (b, a) ∈ ds := by
  unfold both swp
  rw [List.mem_append, List.mem_map]
  constructor
  · rintro (h | ⟨p, hp, e⟩)
    · exact .inl h
    · obtain ⟨c, d⟩ := p
      have e1 := (Prod.mk.inj e).1
      have e2 := (Prod.mk.inj e).2
      simp only at e1 e2
      subst e1
      subst e2
      exact .inr hp
  · rintro (h | h)
    · exact .inl h
    · exact .inr ⟨(b, a), h, rfl⟩
def spLawNear : Sp := fun vs H Q _ => ∃ (t : Addr) (zs : List Str) (ds ss : List SS) (z : Str), vs = [.ref t, .str z] ∧ LHouse H t zs ds ss ∧ Good zs ds ss ∧ z ∈ zs ∧ ∀ (H' : Hp) (p : Addr), Same H H' → H p = none → H' p = some (.lst ((lnk zs (both ds) z).map V.str)) → Q (.ref p) H'
/-- three lists told -/
def Told (H : Hp) (p : Addr) (zs : List Str) (ds ss : List SS) : Prop :=
  ∃ (r d s : Addr) (xs us : List V), H p = some (.lst [.ref r, .ref d, .ref s]) ∧ H r = some (.lst (zs.map V.str)) ∧ H d = some (.lst xs) ∧ PL H xs ds ∧ H s = some (.lst us) ∧ PL H us ss
theorem Told.same {H H' : Hp} {t : Addr} {zs : List Str} {ds ss : List SS} (h : Told H t zs ds ss) (e : Same H H') : Told H' t zs ds ss := by
  obtain ⟨r, d, s, xs, us, h1, h2, h3, h4, h5, h6⟩ := h
  exact ⟨r, d, s, xs, us, e _ _ h1, e _ _ h2, e _ _ h3, h4.same e, e _ _ h5, h6.same e⟩
/-- none of its lists is the box -/
def LHouseN (b : Addr) (H : Hp) (t : Addr) (zs : List Str) (ds ss : List SS) : Prop :=
  ∃ (r d s : Addr) (xs us : List V), r ≠ b ∧ d ≠ b ∧ s ≠ b ∧ H t = some (.tup [.ref r, .ref d, .ref s]) ∧ H r = some (.lst (zs.map V.str)) ∧ H d = some (.lst xs) ∧ PL H xs ds ∧ H s = some (.lst us) ∧ PL H us ss
theorem LHouseN.of {b : Addr} {H : Hp} {t : Addr} {zs : List Str} {ds ss : List SS} (h : LHouseN b H t zs ds ss) : LHouse H t zs ds ss := by
  obtain ⟨r, d, s, xs, us, _, _, _, h1⟩ := h
  exact ⟨r, d, s, xs, us, h1⟩
end Dk
namespace Dk
open PySem L2
theorem Sav.keepT {b l : Addr} {H H' : Hp} (v : Sav b H H') (hB : Box H b l) : KeepT H H' := fun t xs e => by
  refine v t _ (fun z => ?_) e
  obtain ⟨ns, i, c, s, t', h1, _⟩ := hB
  rw [z, h1] at e
  cases e
theorem at_str {zs : List Str} {i : Nat} {a : Str} (e : zs[i]? = some a) {k : Int} (hk : k = (i : Nat)) : atI (zs.map V.str) k = some (.str a) := by
  rw [hk]
  exact atI_nat (by rw [List.getElem?_map, e]; rfl)
theorem two_at {x y : V} {q : Int} (h0 : 0 ≤ q) (h1 : q < 2) : ∃ v, atI [x, y] q = some v ∧ (v = x ∨ v = y) := by
  have e : q = 0 ∨ q = 1 := by omega
  rcases e with rfl | rfl
  · exact ⟨x, atI_nat (j := 0) rfl, .inl rfl⟩
  · exact ⟨y, atI_nat (j := 1) rfl, .inr rfl⟩
theorem Sav.put {b : Addr} {H H' : Hp} {p : Addr} {o : HO} (v : Sav b H H') (n : H p = none) : Sav b H (L2.upd H' p o) := fun q x nq e => by
  rw [upd_ne (ne_of_none e n)]
  exact v q x nq e
theorem LHouseN.sav {b l : Addr} {H H' : Hp} {t : Addr} {zs : List Str} {ds ss : List SS} (h : LHouseN b H t zs ds ss) (hB : Box H b l) (v : Sav b H H') : LHouseN b H' t zs ds ss := by
  obtain ⟨r, d, s, xs, us, n1, n2, n3, h1, h2, h3, h4, h5, h6⟩ := h
  have kt := v.keepT hB
  exact ⟨r, d, s, xs, us, n1, n2, n3, kt _ _ h1, v _ _ n1 h2, v _ _ n2 h3, h4.keep kt, v _ _ n3 h5, h6.keep kt⟩
end Dk
namespace Dk
open PySem L2
theorem take_more {zs : List Str} {i : Nat} {z : Str} (h : z ∈ zs.take i) : z ∈ zs.take (i + 1) := by
  rw [List.take_add_one]
  exact List.mem_append.mpr (.inl h)
theorem nodup_snoc {α : Type} {l : List α} {x : α} (h : l.Nodup) (n : x ∉ l) : (l ++ [x]).Nodup := by
  refine List.nodup_append.mpr ⟨h, List.nodup_cons.mpr ⟨by simp, List.nodup_nil⟩, fun a ha b hb e => ?_⟩
  rw [List.mem_singleton.mp hb] at e
  rw [e] at ha
  exact n ha
end Dk
namespace Dk
open PySem L2
/-! ### doors told twice, either way about -/
def dTw (ms ds : List SS) : List SS := (ms ++ swp ms) ++ ds
theorem lnk_congr {zs : List Str} {ps qs : List SS} (h : ∀ a b, (a, b) ∈ ps ↔ (a, b) ∈ qs) : lnk zs ps = lnk zs qs := by
  funext a
  unfold lnk
  refine List.filter_congr fun b _ => ?_
  rw [Bool.eq_iff_iff, decide_eq_true_eq, decide_eq_true_eq]
  exact h a b
theorem PL.take {H : Hp} {xs : List V} {ps : List SS} (h : PL H xs ps) (n : Nat) : PL H (xs.take n) (ps.take n) := by
  refine ⟨by rw [List.length_take, List.length_take, h.1], fun i x ab h1 h2 => ?_⟩
  rw [List.getElem?_take] at h1 h2
  split at h1
  · rename_i hi
    rw [if_pos hi] at h2
    exact h.2 i x ab h1 h2
  · cases h1
/-! ### alike -/
/-! ### three lists as data -/
theorem Hs.of {C : Addr} {H : Hp} {h : Addr} {zs : List Str} {ps qs : List SS} (x : HouseAt C H h zs (lnk zs ps) (lnk zs qs)) : Hs C H h zs (lnk zs ps) (lnk zs qs) :=
  ⟨x, fun a => lnk_len zs ps a, fun a => lnk_len zs qs a, fun a b hb => (List.mem_filter.mp hb).1⟩
theorem PL.swap {H : Hp} {xs : List V} {ps : List SS} {i : Nat} {x : V} (h : PL H xs ps) (e : xs[i]? = some x) : ∃ ab : SS, ps[i]? = some ab ∧ ∃ q, x = .ref q ∧ H q = some (.tup [.str ab.1, .str ab.2]) := by
  obtain ⟨ab, h1, q, h2, h3⟩ := h.at e
  exact ⟨ab, h1, q, h2, h3⟩
end Dk
namespace Dk
open PySem L2 PySem.W
/-! ### pairs of texts in their order -/
def srt (ps : List SS) : List SS := ps.mergeSort (dataLe false pd)
/-- a pair with the lesser text first -/
def nrm (p : SS) : SS := if p.2.cps.toList < p.1.cps.toList then (p.2, p.1) else p
end Dk
namespace Dk
open PySem L2
theorem cut_upto (xs : List V) {j : Nat} (h : j ≤ xs.length) : cutV xs none (some ((j : Nat) : Int)) = xs.take j := by
  unfold cutV
  rw [HT.sIx_none, show HT.sIx xs.length xs.length (some ((j : Nat) : Int)) = min j xs.length from HT.sIx_nat _ _ j, Nat.min_eq_left h]
  show (xs.drop 0).take (j - 0) = _
  rw [List.drop_zero, Nat.sub_zero]
/-! ### pairs, each once -/
def onceN (l : List SS) : Nat → List SS
  | 0 => []
  | n + 1 => onceN l n ++ (match l[n]? with
    | some p => if p ∈ l.take n then [] else [p]
    | none => [])
def once (l : List SS) : List SS := onceN l l.length
/-- what the law makes of a house -/
def Prs3 (H : Hp) (p : Addr) (zs : List Str) (ds ss : List SS) : Prop :=
  ∃ (r o s : Addr) (xs us : List V), H p = some (.tup [.ref r, .ref o, .ref s]) ∧ H r = some (.lst (zs.map V.str)) ∧ H o = some (.lst xs) ∧ PL H xs (srt (once (ds.map nrm))) ∧ H s = some (.lst us) ∧ PL H us (srt ss)
theorem Prs3.same {H H' : Hp} {p : Addr} {zs : List Str} {ds ss : List SS} (h : Prs3 H p zs ds ss) (e : Same H H') : Prs3 H' p zs ds ss := by
  obtain ⟨r, o, s, xs, us, h1, h2, h3, h4, h5, h6⟩ := h
  exact ⟨r, o, s, xs, us, e _ _ h1, e _ _ h2, e _ _ h3, h4.same e, e _ _ h5, h6.same e⟩
structure Fit (zs : List Str) (ds ss : List SS) : Prop where
  names : Names zs
  eight : zs.length ≤ 8
  dg : ∀ p ∈ ds, goodP zs p
  sg : ∀ p ∈ ss, goodP zs p
  dl : ds.length ≤ 200
  sl : ss.length ≤ 200
  sn : ss.Nodup
def spMade (C : Addr) : Sp := fun vs H Q _ => ∃ (t : Addr) (zs : List Str) (ds ss : List SS), vs = [.ref t] ∧ LHouse H t zs ds ss ∧ Fit zs ds ss ∧ ∀ (H' : Hp) (x : Addr), Same H H' → H x = none → HouseAt C (newPart H H') x zs (lnk zs (both ds)) (lnk zs ss) → Q (.ref x) H'
def d3 (zs : List Str) (ds ss : List SS) : PyData := .tuple [.list (zs.map PyData.str), .list ((srt (once (ds.map nrm))).map pd), .list ((srt ss).map pd)]
end Dk
namespace Dk
open PySem L2
/-! ### eight houses by one -/
def gdn : Str := Str.ofString "garden"
abbrev H3 := List Str × List SS × List SS
def f5 (pr : SS) (ds : List SS) : List SS := ds.filter fun p => decide (p ≠ pr ∧ p ≠ (pr.2, pr.1))
def f6 (pr : SS) (ss : List SS) : List SS := ss.filter fun p => decide (p ≠ pr)
def S8 (zs : List Str) (ds ss : List SS) (pr : SS) : List H3 := [(zs ++ [gdn], ds, ss), (zs ++ [gdn], swp ds ++ ds.take 2, ss.reverse), ((zs ++ [gdn]).reverse, ds, ss), (zs, ds, ss), (zs ++ [gdn], ds ++ [pr], ss), (zs ++ [gdn], f5 pr ds, ss), (zs ++ [gdn], ds, f6 pr ss), (zs ++ [gdn], ds, f6 pr ss ++ [pr])]
theorem goodP.more {zs ws : List Str} {p : SS} (h : goodP zs p) (s : ∀ z ∈ zs, z ∈ ws) : goodP ws p := ⟨s _ h.1, s _ h.2.1, h.2.2⟩
theorem goodP.swap {zs : List Str} {a b : Str} (h : goodP zs (a, b)) : goodP zs (b, a) := ⟨h.2.1, h.1, fun e => h.2.2 e.symm⟩
/-! ### the law's list of houses -/
def SL (q : Addr) (H : Hp) (ts : List Addr) (S : List H3) : Prop := ts.length = S.length ∧ ∀ (i : Nat) (t : Addr) (h : H3), ts[i]? = some t → S[i]? = some h → LHouseN q H t h.1 h.2.1 h.2.2
theorem SL.snoc {q : Addr} {H : Hp} {ts : List Addr} {S : List H3} {t : Addr} {x : H3} (h : SL q H ts S) (n : LHouseN q H t x.1 x.2.1 x.2.2) : SL q H (ts ++ [t]) (S ++ [x]) := by
  refine ⟨by rw [List.length_append, List.length_append, h.1]; rfl, fun i t' y h1 h2 => ?_⟩
  by_cases hi : i < ts.length
  · rw [List.getElem?_append_left hi] at h1
    rw [List.getElem?_append_left (by rw [← h.1]; exact hi)] at h2
    exact h.2 i t' y h1 h2
  · rw [List.getElem?_append_right (by omega)] at h1
    rw [List.getElem?_append_right (by rw [← h.1]; omega), ← h.1] at h2
    have e : i - ts.length = 0 := by
      cases z : i - ts.length with
      | zero => rfl
      | succ k =>
        rw [z] at h1
        simp at h1
    rw [e] at h1 h2
    cases h1
    cases h2
    exact n
theorem SL.at {q : Addr} {H : Hp} {ts : List Addr} {S : List H3} {i : Nat} {x : H3} (h : SL q H ts S) (e : S[i]? = some x) : ∃ t, ts[i]? = some t ∧ LHouse H t x.1 x.2.1 x.2.2 := by
  have hi : i < S.length := (List.getElem?_eq_some_iff.mp e).1
  have hi2 : i < ts.length := by
    rw [h.1]
    exact hi
  have e2 : ts[i]? = some ts[i] := List.getElem?_eq_getElem hi2
  exact ⟨_, e2, (h.2 i _ x e2 e).of⟩
/-- the houses made of them -/
def ML (C : Addr) (H : Hp) (ms : List Addr) (S : List H3) : Prop := ms.length = S.length ∧ ∀ (i : Nat) (m : Addr) (h : H3), ms[i]? = some m → S[i]? = some h → HouseAt C H m h.1 (lnk h.1 (both h.2.1)) (lnk h.1 h.2.2)
theorem ML.same {C : Addr} {H H' : Hp} {ms : List Addr} {S : List H3} (h : ML C H ms S) (e : Same H H') : ML C H' ms S := ⟨h.1, fun i m x h1 h2 => (h.2 i m x h1 h2).same e⟩
/-- a tuple of three lists, none of them the list at q -/
theorem LHouseN.mk {q : Addr} {H : Hp} {t r d s : Addr} {zs : List Str} {ds ss : List SS} {xs us : List V} (n1 : r ≠ q) (n2 : d ≠ q) (n3 : s ≠ q) (h1 : H t = some (.tup [.ref r, .ref d, .ref s])) (h2 : H r = some (.lst (zs.map V.str))) (h3 : H d = some (.lst xs)) (h4 : PL H xs ds) (h5 : H s = some (.lst us)) (h6 : PL H us ss) : LHouseN q H t zs ds ss := ⟨r, d, s, xs, us, n1, n2, n3, h1, h2, h3, h4, h5, h6⟩
end Dk
namespace Dk
open PySem L2
/-! ### Euclid in turns -/
/-! ### least common multiples -/
/-- a test's reading passes on -/
theorem mono_test {r : R2} {ta tb : TE} (ha : ∀ σ H Q Q', (∀ v H1, Q v H1 → Q' v H1) → ta σ H Q → ta σ H Q') (hb : ∀ σ H Q Q', (∀ v H1, Q v H1 → Q' v H1) → tb σ H Q → tb σ H Q') (hr : ∀ x y H Q Q', (∀ v H1, Q v H1 → Q' v H1) → r x y H Q → r x y H Q') :
    ∀ σ H Q Q', (∀ b H1, Q b H1 → Q' b H1) → tTest (tOp r ta tb) σ H Q → tTest (tOp r ta tb) σ H Q' := by
  intro σ H Q Q' h q
  refine ha σ H _ _ (fun x H1 q1 => hb σ H1 _ _ (fun y H2 q2 => hr x y H2 _ _ (fun v H3 q3 => ?_) q2) q1) q
  obtain ⟨k, e, q4⟩ := q3
  exact ⟨k, e, h _ _ q4⟩
theorem mono_var (i : Nat) : ∀ (σ : L2.St) (H : Hp) (Q Q' : VK), (∀ v H1, Q v H1 → Q' v H1) → tVar i σ H Q → tVar i σ H Q' := by
  rintro σ H Q Q' h ⟨v, e, q⟩
  exact ⟨v, e, h _ _ q⟩
theorem mono_const (c : V) : ∀ (σ : L2.St) (H : Hp) (Q Q' : VK), (∀ v H1, Q v H1 → Q' v H1) → tC c σ H Q → tC c σ H Q' := fun σ H Q Q' h q => h _ _ q
def lcmL (ns : List Nat) : Nat := ns.foldl Nat.lcm 1
theorem lcm_eq (a b : Nat) : a / Nat.gcd a b * b = Nat.lcm a b := by
  unfold Nat.lcm
  rw [Nat.div_mul_right_comm (Nat.gcd_dvd_left a b)]
theorem foldl_pos : ∀ (ns : List Nat) {w : Nat}, 0 < w → (∀ n ∈ ns, 0 < n) → 0 < ns.foldl Nat.lcm w
  | [], _, h, _ => h
  | n :: r, _, h, hn => foldl_pos r (Nat.lcm_pos h (hn n List.mem_cons_self)) fun m hm => hn m (List.mem_cons_of_mem _ hm)
theorem lcmL_take {ns : List Nat} {i n : Nat} (h : ns[i]? = some n) : lcmL (ns.take (i + 1)) = Nat.lcm (lcmL (ns.take i)) n := by
  unfold lcmL
  rw [List.take_add_one, h, List.foldl_append]
  rfl
/-! ### numbers with two rests -/
/-! ### promises -/
def spDas : Sp := fun vs H Q _ => ∃ x y : Nat, vs = [.int (x : Int), .int (y : Int)] ∧ 0 < x ∧ x < 2 ^ 64 ∧ y < 2 ^ 64 ∧
  ∀ (H' : Hp) (t : Addr) (c q : Int), Same H H' → H t = none → H' t = some (.tup [.int (Nat.gcd x y : Nat), .int c]) → c * x = (Nat.gcd x y : Nat) + q * y → Q (.ref t) H'
def natV (n : Nat) : V := .int (n : Int)
def spWheel (K : PySem.W.Frag) : Sp := fun vs H Q _ => ∃ (p : Addr) (ns : List Nat), vs = [.ref p] ∧ Sq K H p (ns.map natV) ∧ (∀ n ∈ ns, 0 < n ∧ n < 2 ^ 64) ∧ (∀ i, lcmL (ns.take i) < 2 ^ 64) ∧ ∀ H', Same H H' → Q (.int (lcmL ns : Nat)) H'
/-- what met tells -/
def Met (H : Hp) (a b : Nat) (r s : Int) (v : V) : Prop :=
  (v = .non ∧ ∀ k : Int, k % a = r → k % b = s → False) ∨
  ∃ (t : Addr) (m : Int), v = .ref t ∧ H t = some (.tup [.int m, .int (Nat.lcm a b : Nat)]) ∧ m % a = r ∧ m % b = s ∧ 0 ≤ m ∧ m < (Nat.lcm a b : Nat)
end Dk
namespace Dk
open PySem L2
/-! ### the first multiple -/
def fls (w n i : Nat) : List Nat := ((List.range i).map fun j => w + j * w).filter fun k => k % n == 0
end Dk
namespace Dk
open PySem L2
theorem foldl_dvd : ∀ (ns : List Nat) (w m : Nat), ns.foldl Nat.lcm w ∣ m ↔ w ∣ m ∧ ∀ n ∈ ns, n ∣ m
  | [], w, m => ⟨fun h => ⟨h, fun n hn => by cases hn⟩, fun h => h.1⟩
  | n :: r, w, m => by
    show r.foldl Nat.lcm (Nat.lcm w n) ∣ m ↔ _
    rw [foldl_dvd r]
    constructor
    · rintro ⟨h1, h2⟩
      refine ⟨Nat.dvd_trans (Nat.dvd_lcm_left w n) h1, fun x hx => ?_⟩
      rcases List.mem_cons.mp hx with rfl | hx
      · exact Nat.dvd_trans (Nat.dvd_lcm_right w x) h1
      · exact h2 x hx
    · rintro ⟨h1, h2⟩
      exact ⟨Nat.lcm_dvd h1 (h2 n List.mem_cons_self), fun x hx => h2 x (List.mem_cons_of_mem _ hx)⟩
/-- what the law finds by going through all -/
def Found (H : Hp) (a b : Nat) (r s : Int) (d : V) : Prop :=
  (d = .non ∧ ∀ k : Int, 0 ≤ k → k < (Nat.lcm a b : Nat) → k % a = r → k % b = s → False) ∨
  ∃ (t : Addr) (k : Int), d = .ref t ∧ H t = some (.tup [.int k, .int (Nat.lcm a b : Nat)]) ∧ 0 ≤ k ∧ k < (Nat.lcm a b : Nat) ∧ k % a = r ∧ k % b = s
theorem Found.same {H H' : Hp} {a b : Nat} {r s : Int} {d : V} (h : Found H a b r s d) (e : Same H H') : Found H' a b r s d := by
  rcases h with h | ⟨t, k, h1, h2, h3⟩
  · exact .inl h
  · exact .inr ⟨t, k, h1, e _ _ h2, h3⟩
theorem Met.same {H H' : Hp} {a b : Nat} {r s : Int} {d : V} (h : Met H a b r s d) (e : Same H H') : Met H' a b r s d := by
  rcases h with h | ⟨t, k, h1, h2, h3⟩
  · exact .inl h
  · exact .inr ⟨t, k, h1, e _ _ h2, h3⟩
theorem Met.swap {H : Hp} {a b : Nat} {r s : Int} {d : V} (h : Met H b a s r d) : Met H a b r s d := by
  rcases h with ⟨h1, h2⟩ | ⟨t, k, h1, h2, h3, h4, h5⟩
  · exact .inl ⟨h1, fun k x y => h2 k y x⟩
  · rw [Nat.lcm_comm b a] at h2 h5
    exact .inr ⟨t, k, h1, h2, h4, h3, h5⟩
/-- the list of hits behind j numbers: its first one -/
def Hits (H : Hp) (a b : Nat) (r s : Int) (j : Nat) (ps : List V) : Prop :=
  ps.length ≤ j ∧ ((ps = [] ∧ ∀ k : Int, 0 ≤ k → k < j → k % a = r → k % b = s → False) ∨
  ∃ (t : Addr) (k : Int) (rs : List V), ps = .ref t :: rs ∧ H t = some (.tup [.int k, .int (Nat.lcm a b : Nat)]) ∧ 0 ≤ k ∧ k < j ∧ k % a = r ∧ k % b = s)
theorem Hits.keep {H H' : Hp} {a b : Nat} {r s : Int} {j : Nat} {ps : List V} (h : Hits H a b r s j ps) (e : ∀ t xs, H t = some (.tup xs) → H' t = some (.tup xs)) : Hits H' a b r s j ps := by
  obtain ⟨hl, h⟩ := h
  rcases h with h | ⟨t, k, rs, h1, h2, h3⟩
  · exact ⟨hl, .inl h⟩
  · exact ⟨hl, .inr ⟨t, k, rs, h1, e _ _ h2, h3⟩⟩
end Dk
namespace Dk
open PySem L2
/-! ### lists of things at their places -/
def AL {α : Type} (R : Hp → V → α → Prop) (H : Hp) (xs : List V) (ps : List α) : Prop := xs.length = ps.length ∧ ∀ (i : Nat) (x : V) (p : α), xs[i]? = some x → ps[i]? = some p → R H x p
section
variable {α : Type} {R : Hp → V → α → Prop} {H H' : Hp} {xs : List V} {ps : List α}
theorem AL.mono (h : AL R H xs ps) (m : ∀ x p, R H x p → R H' x p) : AL R H' xs ps := ⟨h.1, fun i x p a b => m _ _ (h.2 i x p a b)⟩
theorem AL.nil : AL R H [] [] := ⟨rfl, fun i x p h _ => by simp at h⟩
theorem AL.snoc {x : V} {p : α} (h : AL R H xs ps) (t : R H x p) : AL R H (xs ++ [x]) (ps ++ [p]) := by
  refine ⟨by rw [List.length_append, List.length_append, h.1]; rfl, fun i y q h1 h2 => ?_⟩
  by_cases hi : i < xs.length
  · rw [List.getElem?_append_left hi] at h1
    rw [List.getElem?_append_left (by rw [← h.1]; exact hi)] at h2
    exact h.2 i y q h1 h2
  · rw [List.getElem?_append_right (by omega)] at h1
    rw [List.getElem?_append_right (by rw [← h.1]; omega), ← h.1] at h2
    have e : i - xs.length = 0 := by
      cases z : i - xs.length with
      | zero => rfl
      | succ k =>
        rw [z] at h1
        simp at h1
    rw [e] at h1 h2
    cases h1
    cases h2
    exact t
theorem AL.at {i : Nat} {x : V} (h : AL R H xs ps) (e : xs[i]? = some x) : ∃ p, ps[i]? = some p ∧ R H x p := by
  have h1 : i < xs.length := (List.getElem?_eq_some_iff.mp e).1
  have h2 : i < ps.length := by rw [← h.1]; exact h1
  exact ⟨ps[i], List.getElem?_eq_getElem h2, h.2 i x _ e (List.getElem?_eq_getElem h2)⟩
theorem AL.of {i : Nat} {p : α} (h : AL R H xs ps) (e : ps[i]? = some p) : ∃ x, xs[i]? = some x ∧ R H x p := by
  have h1 : i < ps.length := (List.getElem?_eq_some_iff.mp e).1
  have h2 : i < xs.length := by rw [h.1]; exact h1
  exact ⟨xs[i], List.getElem?_eq_getElem h2, h.2 i _ p (List.getElem?_eq_getElem h2) e⟩
end
theorem take_snoc' {α : Type} {zs : List α} {i : Nat} {z : α} (e : zs[i]? = some z) : zs.take (i + 1) = zs.take i ++ [z] := by
  rw [List.take_add_one, e]
  rfl
abbrev Pst := Str × List Str × Nat
abbrev Trk := List Str × Nat
abbrev Wtc := Str × Nat
def PsA (H : Hp) (v : V) (p : Pst) : Prop := ∃ q t, v = V.ref q ∧ H q = some (.tup [.str p.1, .ref t, .int ((p.2.2 : Nat) : Int)]) ∧ H t = some (.tup (p.2.1.map V.str))
def TrA (H : Hp) (v : V) (p : Trk) : Prop := ∃ q t, v = V.ref q ∧ H q = some (.tup [.ref t, .int ((p.2 : Nat) : Int)]) ∧ H t = some (.tup (p.1.map V.str))
def WtA (H : Hp) (v : V) (p : Wtc) : Prop := ∃ q, v = V.ref q ∧ H q = some (.tup [.str p.1, .int ((p.2 : Nat) : Int)])
def NlA (H : Hp) (v : V) (o : List Nat) : Prop := ∃ q, v = V.ref q ∧ H q = some (.lst (o.map natV))
def SlA (H : Hp) (v : V) (o : List Str) : Prop := ∃ q, v = V.ref q ∧ H q = some (.lst (o.map V.str))
theorem PsA.keep {H H' : Hp} {v : V} {p : Pst} (k : KeepT H H') (h : PsA H v p) : PsA H' v p := by
  obtain ⟨q, t, e, h1, h2⟩ := h
  exact ⟨q, t, e, k _ _ h1, k _ _ h2⟩
theorem TrA.keep {H H' : Hp} {v : V} {p : Trk} (k : KeepT H H') (h : TrA H v p) : TrA H' v p := by
  obtain ⟨q, t, e, h1, h2⟩ := h
  exact ⟨q, t, e, k _ _ h1, k _ _ h2⟩
theorem WtA.keep {H H' : Hp} {v : V} {p : Wtc} (k : KeepT H H') (h : WtA H v p) : WtA H' v p := by
  obtain ⟨q, e, h1⟩ := h
  exact ⟨q, e, k _ _ h1⟩
theorem NlA.same {H H' : Hp} {v : V} {p : List Nat} (k : Same H H') (h : NlA H v p) : NlA H' v p := by
  obtain ⟨q, e, h1⟩ := h
  exact ⟨q, e, k _ _ h1⟩
theorem SlA.same {H H' : Hp} {v : V} {p : List Str} (k : Same H H') (h : SlA H v p) : SlA H' v p := by
  obtain ⟨q, e, h1⟩ := h
  exact ⟨q, e, k _ _ h1⟩
abbrev PsL := AL PsA
abbrev TrL := AL TrA
abbrev WtL := AL WtA
abbrev OrL := AL NlA
abbrev SsL := AL SlA
theorem PsL.keep {H H' : Hp} {xs : List V} {ps : List Pst} (h : PsL H xs ps) (k : KeepT H H') : PsL H' xs ps := AL.mono h fun _ _ => PsA.keep k
theorem TrL.keep {H H' : Hp} {xs : List V} {ps : List Trk} (h : TrL H xs ps) (k : KeepT H H') : TrL H' xs ps := AL.mono h fun _ _ => TrA.keep k
theorem WtL.keep {H H' : Hp} {xs : List V} {ps : List Wtc} (h : WtL H xs ps) (k : KeepT H H') : WtL H' xs ps := AL.mono h fun _ _ => WtA.keep k
theorem PsL.same {H H' : Hp} {xs : List V} {ps : List Pst} (h : PsL H xs ps) (k : Same H H') : PsL H' xs ps := PsL.keep h (KeepT.of k)
theorem TrL.same {H H' : Hp} {xs : List V} {ps : List Trk} (h : TrL H xs ps) (k : Same H H') : TrL H' xs ps := TrL.keep h (KeepT.of k)
theorem WtL.same {H H' : Hp} {xs : List V} {ps : List Wtc} (h : WtL H xs ps) (k : Same H H') : WtL H' xs ps := WtL.keep h (KeepT.of k)
theorem OrL.same {H H' : Hp} {xs : List V} {ps : List (List Nat)} (h : OrL H xs ps) (k : Same H H') : OrL H' xs ps := AL.mono h fun _ _ => NlA.same k
theorem SsL.same {H H' : Hp} {xs : List V} {ps : List (List Str)} (h : SsL H xs ps) (k : Same H H') : SsL H' xs ps := AL.mono h fun _ _ => SlA.same k
/-! ### where posts are -/
def plcS (r : List Str) (n : Int) : Str := r.getD (n % (r.length : Int)).toNat Str.empty
theorem plc_str {r : List Str} (h : 0 < r.length) (n : Int) : plc (r.map V.str) n = .str (plcS r n) := by
  obtain ⟨h1, _⟩ := modlen h n
  unfold plc plcS
  rw [List.length_map, List.getD_eq_getElem?_getD, List.getD_eq_getElem?_getD, List.getElem?_map, List.getElem?_eq_getElem h1]
  rfl
theorem plcS_mem {r : List Str} (h : 0 < r.length) (n : Int) : plcS r n ∈ r := by
  obtain ⟨h1, _⟩ := modlen h n
  unfold plcS
  rw [List.getD_eq_getElem?_getD, List.getElem?_eq_getElem h1]
  exact List.getElem_mem h1
def stnd (tr : List Trk) (b : Int) : List Str := tr.map fun p => plcS p.1 (b - ((p.2 : Nat) : Int))
theorem stnd_len (tr : List Trk) (b : Int) : (stnd tr b).length = tr.length := by
  unfold stnd
  rw [List.length_map]
theorem plcS_per {r : List Str} {s : Nat} (h : r.length ∣ s) (b : Int) : plcS r (b + (s : Nat)) = plcS r b := by
  obtain ⟨k, rfl⟩ := h
  unfold plcS
  rw [Int.natCast_mul, Int.add_mul_emod_self_left]
theorem stnd_per {tr : List Trk} {s : Nat} (h : ∀ p ∈ tr, p.1.length ∣ s) (b : Int) : stnd tr (b + (s : Nat)) = stnd tr b := by
  unfold stnd
  refine List.map_congr_left fun p hp => ?_
  rw [show b + (s : Nat) - ((p.2 : Nat) : Int) = (b - ((p.2 : Nat) : Int)) + (s : Nat) by omega]
  exact plcS_per (h p hp) _
/-! ### exchanges -/
def swN (o : List Nat) (i j : Nat) : List Nat := (o.set i (o.getD j 0)).set j (o.getD i 0)
theorem swN_len (o : List Nat) (i j : Nat) : (swN o i j).length = o.length := by
  unfold swN
  rw [List.length_set, List.length_set]
theorem swN_at {o : List Nat} {i j : Nat} (hi : i < o.length) (hj : j < o.length) (k : Nat) : (swN o i j)[k]? = if k = j then o[i]? else if k = i then o[j]? else o[k]? := by
  unfold swN
  have gi : o.getD i 0 = o[i] := by rw [List.getD_eq_getElem?_getD, List.getElem?_eq_getElem hi]; rfl
  have gj : o.getD j 0 = o[j] := by rw [List.getD_eq_getElem?_getD, List.getElem?_eq_getElem hj]; rfl
  rw [gi, gj]
  by_cases h1 : k = j
  · subst h1
    rw [if_pos rfl, List.getElem?_set_self (by rw [List.length_set]; exact hj), List.getElem?_eq_getElem hi]
  · rw [if_neg h1, List.getElem?_set_ne (fun z => h1 z.symm)]
    by_cases h2 : k = i
    · subst h2
      rw [if_pos rfl, List.getElem?_set_self hi, List.getElem?_eq_getElem hj]
    · rw [if_neg h2, List.getElem?_set_ne (fun z => h2 z.symm)]
theorem sw_sw {o : List Nat} {i j : Nat} (hi : i < o.length) (hj : j < o.length) : swN (swN o i j) i j = o := by
  refine List.ext_getElem? fun k => ?_
  rw [swN_at (by rw [swN_len]; exact hi) (by rw [swN_len]; exact hj), swN_at hi hj, swN_at hi hj, swN_at hi hj]
  by_cases h1 : k = j
  · subst h1
    rw [if_pos rfl]
    by_cases h2 : i = k
    · subst h2
      rw [if_pos rfl]
    · rw [if_neg h2, if_pos rfl]
  · rw [if_neg h1]
    by_cases h2 : k = i
    · subst h2
      rw [if_pos rfl, if_pos rfl]
    · rw [if_neg h2, if_neg h1, if_neg h2]
theorem swN_mem {o : List Nat} {i j : Nat} (hi : i < o.length) (hj : j < o.length) {x : Nat} (h : x ∈ swN o i j) : x ∈ o := by
  obtain ⟨k, hk, e⟩ := List.getElem_of_mem h
  have e2 : (swN o i j)[k]? = some x := by rw [List.getElem?_eq_getElem hk, e]
  rw [swN_at hi hj] at e2
  split at e2
  · exact List.mem_of_getElem? e2
  · split at e2
    · exact List.mem_of_getElem? e2
    · exact List.mem_of_getElem? e2
def hoIn (rs : List Str) (f : Nat) : Nat → List Nat → List Nat
  | 0, o => o
  | k + 1, o => if rs[f]? = rs[f + 1 + k]? then swN (hoIn rs f k o) f (f + 1 + k) else hoIn rs f k o
def hoUp (rs : List Str) : Nat → List Nat → List Nat
  | 0, o => o
  | f + 1, o => hoIn rs f (rs.length - (f + 1)) (hoUp rs f o)
def hoN (rs : List Str) (o : List Nat) : List Nat := hoUp rs rs.length o
theorem hoIn_len (rs : List Str) (f : Nat) (o : List Nat) : ∀ k, (hoIn rs f k o).length = o.length
  | 0 => rfl
  | k + 1 => by
    unfold hoIn
    split
    · rw [swN_len, hoIn_len rs f o k]
    · exact hoIn_len rs f o k
theorem hoUp_len (rs : List Str) (o : List Nat) : ∀ f, (hoUp rs f o).length = o.length
  | 0 => rfl
  | f + 1 => by
    unfold hoUp
    rw [hoIn_len, hoUp_len rs o f]
theorem hoN_len (rs : List Str) (o : List Nat) : (hoN rs o).length = o.length := hoUp_len rs o _
theorem hoIn_inj {rs : List Str} {f : Nat} {o u : List Nat} (hl : o.length = u.length) : ∀ {k}, f + k < o.length → hoIn rs f k o = hoIn rs f k u → o = u
  | 0, _, h => h
  | k + 1, hk, h => by
    unfold hoIn at h
    split at h
    · have h2 : swN (swN (hoIn rs f k o) f (f + 1 + k)) f (f + 1 + k) = swN (swN (hoIn rs f k u) f (f + 1 + k)) f (f + 1 + k) := by rw [h]
      rw [sw_sw (by rw [hoIn_len]; omega) (by rw [hoIn_len]; omega), sw_sw (by rw [hoIn_len]; omega) (by rw [hoIn_len]; omega)] at h2
      exact hoIn_inj hl (by omega) h2
    · exact hoIn_inj hl (by omega) h
theorem hoUp_inj {rs : List Str} {o u : List Nat} (hl : o.length = u.length) (hr : rs.length ≤ o.length) : ∀ {f}, f ≤ rs.length → hoUp rs f o = hoUp rs f u → o = u
  | 0, _, h => h
  | f + 1, hf, h => by
    unfold hoUp at h
    exact hoUp_inj hl hr (by omega) (hoIn_inj (by rw [hoUp_len, hoUp_len, hl]) (by rw [hoUp_len]; omega) h)
theorem hoIn_mem {rs : List Str} {f : Nat} {o : List Nat} {x : Nat} : ∀ {k}, f + k < o.length → x ∈ hoIn rs f k o → x ∈ o
  | 0, _, h => h
  | k + 1, hk, h => by
    unfold hoIn at h
    split at h
    · exact hoIn_mem (by omega) (swN_mem (by rw [hoIn_len]; omega) (by rw [hoIn_len]; omega) h)
    · exact hoIn_mem (by omega) h
theorem hoUp_mem {rs : List Str} {o : List Nat} {x : Nat} (hr : rs.length ≤ o.length) : ∀ {f}, f ≤ rs.length → x ∈ hoUp rs f o → x ∈ o
  | 0, _, h => h
  | f + 1, hf, h => by
    unfold hoUp at h
    exact hoUp_mem hr (by omega) (hoIn_mem (by rw [hoUp_len]; omega) h)
/-! ### reliefs -/
def relN (n p : Nat) (o : List Nat) : List Nat := (o.take n).set p (o.getD n 0) ++ o.drop (n + 1) ++ [o.getD p 0]
theorem relN_len {n p : Nat} {o : List Nat} (h : n < o.length) : (relN n p o).length = o.length := by
  unfold relN
  rw [List.length_append, List.length_append, List.length_set, List.length_take, List.length_drop]
  show min n o.length + (o.length - (n + 1)) + 1 = o.length
  omega
theorem getD_at {o : List Nat} {i : Nat} (h : i < o.length) : o[i]? = some (o.getD i 0) := by
  rw [List.getD_eq_getElem?_getD, List.getElem?_eq_getElem h]
  rfl
theorem relN_mem {n p : Nat} {o : List Nat} (hn : n < o.length) (hp : p < n) {x : Nat} (h : x ∈ relN n p o) : x ∈ o := by
  unfold relN at h
  rcases List.mem_append.mp h with h | h
  · rcases List.mem_append.mp h with h | h
    · rcases List.mem_or_eq_of_mem_set h with h | h
      · exact List.mem_of_mem_take h
      · rw [h]
        exact List.mem_of_getElem? (getD_at hn)
    · exact List.mem_of_mem_drop h
  · rw [List.mem_singleton.mp h]
    exact List.mem_of_getElem? (getD_at (by omega))
theorem relN_inj {n p : Nat} {o u : List Nat} (hl : o.length = u.length) (hn : n < o.length) (hp : p < n) (h : relN n p o = relN n p u) : o = u := by
  unfold relN at h
  obtain ⟨h1, h2⟩ := List.append_inj' h rfl
  obtain ⟨h3, h4⟩ := List.append_inj h1 (by rw [List.length_set, List.length_set, List.length_take, List.length_take, hl])
  have h5 : o.getD p 0 = u.getD p 0 := List.cons.inj h2 |>.1
  have key : ∀ k : Nat, ((o.take n).set p (o.getD n 0))[k]? = ((u.take n).set p (u.getD n 0))[k]? := fun k => by rw [h3]
  have lt : p < (o.take n).length := by
    rw [List.length_take]
    omega
  have lu : p < (u.take n).length := by
    rw [List.length_take]
    omega
  have h6 : o.getD n 0 = u.getD n 0 := by
    have := key p
    rw [List.getElem?_set_self lt, List.getElem?_set_self lu] at this
    exact Option.some.inj this
  refine List.ext_getElem? fun k => ?_
  by_cases k1 : k < n
  · by_cases k2 : k = p
    · subst k2
      rw [getD_at (by omega), getD_at (by omega), h5]
    · have := key k
      rw [List.getElem?_set_ne (fun z => k2 z.symm), List.getElem?_set_ne (fun z => k2 z.symm), List.getElem?_take_of_lt k1, List.getElem?_take_of_lt k1] at this
      exact this
  · by_cases k2 : k = n
    · subst k2
      rw [getD_at hn, getD_at (by omega), h6]
    · have e : k = n + 1 + (k - (n + 1)) := by omega
      rw [e, ← List.getElem?_drop, ← List.getElem?_drop, h4]
/-! ### from beat to beat -/
def hasR (n many rl : Nat) : Prop := 0 < rl ∧ 0 < n ∧ n < many
instance (n many rl : Nat) : Decidable (hasR n many rl) := by unfold hasR; infer_instance
def chgN (tr : List Trk) (mt : Bool) (rl : Nat) (b : Nat) (o : List Nat) : List Nat :=
  if hasR tr.length o.length rl ∧ b % rl = 0 then relN tr.length (b / rl % tr.length) (if mt = true then hoN (stnd tr b) o else o) else (if mt = true then hoN (stnd tr b) o else o)
def spanN (tr : List Trk) (many rl : Nat) : Nat := lcmL (tr.map (fun p => p.1.length) ++ (if hasR tr.length many rl then [rl * tr.length] else []))
def ordN (tr : List Trk) (many : Nat) (mt : Bool) (rl : Nat) : Nat → List Nat
  | 0 => List.range many
  | b + 1 => chgN tr mt rl (b + 1) (ordN tr many mt rl b)
def OkO (many : Nat) (o : List Nat) : Prop := o.length = many ∧ ∀ x ∈ o, x < many
theorem ho1_len (tr : List Trk) (mt : Bool) (b : Nat) (o : List Nat) : (if mt = true then hoN (stnd tr b) o else o).length = o.length := by
  split
  · exact hoN_len _ _
  · rfl
theorem chgN_len (tr : List Trk) (mt : Bool) (rl b : Nat) (o : List Nat) : (chgN tr mt rl b o).length = o.length := by
  unfold chgN
  split
  · rename_i h
    rw [relN_len (by rw [ho1_len]; exact h.1.2.2), ho1_len]
  · exact ho1_len tr mt b o
theorem chgN_ok {tr : List Trk} {mt : Bool} {rl b many : Nat} {o : List Nat} (ht : tr.length ≤ many) (h : OkO many o) : OkO many (chgN tr mt rl b o) := by
  refine ⟨by rw [chgN_len, h.1], fun x hx => ?_⟩
  have one : ∀ x ∈ (if mt = true then hoN (stnd tr b) o else o), x ∈ o := fun x hx => by
    split at hx
    · exact hoUp_mem (by rw [stnd_len, h.1]; exact ht) (Nat.le_refl _) hx
    · exact hx
  unfold chgN at hx
  split at hx
  · rename_i hr
    have h3 := hr.1.2.2
    have h2 := hr.1.2.1
    exact h.2 x (one x (relN_mem (by rw [ho1_len]; exact h3) (Nat.mod_lt _ h2) hx))
  · exact h.2 x (one x hx)
theorem chgN_inj {tr : List Trk} {mt : Bool} {rl b many : Nat} {o u : List Nat} (ht : tr.length ≤ many) (ho : OkO many o) (hu : OkO many u) (h : chgN tr mt rl b o = chgN tr mt rl b u) : o = u := by
  have one : (if mt = true then hoN (stnd tr b) o else o) = (if mt = true then hoN (stnd tr b) u else u) → o = u := fun z => by
    split at z
    · exact hoUp_inj (by rw [ho.1, hu.1]) (by rw [stnd_len, ho.1]; exact ht) (Nat.le_refl _) z
    · exact z
  unfold chgN at h
  rw [ho.1, hu.1] at h
  split at h
  · rename_i hr
    have h3 := hr.1.2.2
    have h2 := hr.1.2.1
    exact one (relN_inj (by rw [ho1_len, ho1_len, ho.1, hu.1]) (by rw [ho1_len, ho.1]; exact h3) (Nat.mod_lt _ h2) h)
  · exact one h
theorem foldl_dvd_of (ns : List Nat) (w m : Nat) (h : w ∣ m) (hn : ∀ n ∈ ns, n ∣ m) : ns.foldl Nat.lcm w ∣ m := (foldl_dvd ns w m).mpr ⟨h, hn⟩
theorem span_len {tr : List Trk} {many rl : Nat} {p : Trk} (hp : p ∈ tr) : p.1.length ∣ spanN tr many rl :=
  ((foldl_dvd _ 1 _).mp (Nat.dvd_refl _)).2 _ (List.mem_append.mpr (.inl (List.mem_map.mpr ⟨p, hp, rfl⟩)))
theorem span_rel {tr : List Trk} {many rl : Nat} (h : hasR tr.length many rl) : rl * tr.length ∣ spanN tr many rl :=
  ((foldl_dvd _ 1 _).mp (Nat.dvd_refl _)).2 _ (List.mem_append.mpr (.inr (by rw [if_pos h]; exact List.mem_singleton.mpr rfl)))
theorem chgN_per {tr : List Trk} {mt : Bool} {rl many b s : Nat} {o : List Nat} (hs : spanN tr many rl ∣ s) (h : OkO many o) : chgN tr mt rl (b + s) o = chgN tr mt rl b o := by
  have e1 : stnd tr ((b + s : Nat) : Int) = stnd tr (b : Int) := by
    rw [Int.natCast_add]
    exact stnd_per (fun p hp => Nat.dvd_trans (span_len hp) hs) _
  unfold chgN
  rw [e1, h.1]
  by_cases hr : hasR tr.length many rl
  · obtain ⟨k, hk⟩ := Nat.dvd_trans (span_rel hr) hs
    have e2 : (b + s) % rl = b % rl := by
      rw [hk, Nat.mul_assoc, Nat.add_mul_mod_self_left]
    have e3 : (b + s) / rl % tr.length = b / rl % tr.length := by
      rw [hk, Nat.mul_assoc, Nat.add_mul_div_left _ _ hr.1, Nat.add_mul_mod_self_left]
    rw [e2, e3]
  · have n1 : ¬ (hasR tr.length many rl ∧ (b + s) % rl = 0) := fun z => hr z.1
    have n2 : ¬ (hasR tr.length many rl ∧ b % rl = 0) := fun z => hr z.1
    rw [if_neg n1, if_neg n2]
theorem ordN_ok {tr : List Trk} {many : Nat} {mt : Bool} {rl : Nat} (ht : tr.length ≤ many) : ∀ b, OkO many (ordN tr many mt rl b)
  | 0 => ⟨List.length_range, fun x hx => List.mem_range.mp hx⟩
  | b + 1 => chgN_ok ht (ordN_ok ht b)
/-! ### all comes back -/
theorem nodup_le {α : Type} [BEq α] [LawfulBEq α] : ∀ {l U : List α}, l.Nodup → (∀ x ∈ l, x ∈ U) → l.length ≤ U.length
  | [], _, _, _ => Nat.zero_le _
  | x :: r, U, h, s => by
    have hx := s x List.mem_cons_self
    obtain ⟨h1, h2⟩ := List.nodup_cons.mp h
    have := nodup_le (U := U.erase x) h2 fun y hy => (List.mem_erase_of_ne (fun z => h1 (by rw [← z]; exact hy))).mpr (s y (List.mem_cons_of_mem _ hy))
    rw [List.length_erase_of_mem hx] at this
    have hU : 0 < U.length := List.length_pos_of_mem hx
    rw [List.length_cons]
    omega
theorem pigeon {α : Type} [DecidableEq α] {g : Nat → α} {U : List α} (h : ∀ k, g k ∈ U) : ∃ i j, i < j ∧ j ≤ U.length ∧ g i = g j := by
  by_cases nd : ((List.range (U.length + 1)).map g).Nodup
  · have := nodup_le nd (fun x hx => by obtain ⟨k, _, rfl⟩ := List.mem_map.mp hx; exact h k)
    rw [List.length_map, List.length_range] at this
    omega
  · apply Classical.byContradiction
    intro no
    apply nd
    refine List.pairwise_iff_getElem.mpr fun i j hi hj hij => ?_
    rw [List.length_map, List.length_range] at hi hj
    rw [List.getElem_map, List.getElem_map, List.getElem_range, List.getElem_range]
    exact fun z => no ⟨i, j, hij, by omega, z⟩
def allL (n : Nat) : Nat → List (List Nat)
  | 0 => [[]]
  | k + 1 => (allL n k).flatMap fun l => (List.range n).map fun x => x :: l
theorem allL_mem (n : Nat) : ∀ l : List Nat, (∀ x ∈ l, x < n) → l ∈ allL n l.length
  | [], _ => List.mem_singleton.mpr rfl
  | x :: r, h => List.mem_flatMap.mpr ⟨r, allL_mem n r fun y hy => h y (List.mem_cons_of_mem _ hy), List.mem_map.mpr ⟨x, List.mem_range.mpr (h x List.mem_cons_self), rfl⟩⟩
theorem flatMap_len {α β : Type} (f : α → List β) (n : Nat) (h : ∀ x, (f x).length = n) : ∀ l : List α, (l.flatMap f).length = l.length * n
  | [] => by simp
  | x :: r => by
    rw [List.flatMap_cons, List.length_append, h x, flatMap_len f n h r, List.length_cons, Nat.succ_mul, Nat.add_comm]
theorem allL_len (n : Nat) : ∀ k, (allL n k).length = n ^ k
  | 0 => rfl
  | k + 1 => by
    show ((allL n k).flatMap _).length = _
    rw [flatMap_len _ n (fun x => by rw [List.length_map, List.length_range]), allL_len n k, Nat.pow_succ]
theorem back_to {tr : List Trk} {many : Nat} {mt : Bool} {rl d : Nat} (ht : tr.length ≤ many) (hd : spanN tr many rl ∣ d) : ∀ m, ordN tr many mt rl m = ordN tr many mt rl (m + d) → ordN tr many mt rl 0 = ordN tr many mt rl d
  | 0, h => by rw [Nat.zero_add] at h; exact h
  | m + 1, h => by
    refine back_to ht hd m ?_
    rw [show m + 1 + d = (m + d) + 1 by omega] at h
    have e : ordN tr many mt rl ((m + d) + 1) = chgN tr mt rl (m + 1) (ordN tr many mt rl (m + d)) := by
      show chgN tr mt rl (m + d + 1) _ = _
      rw [show m + d + 1 = (m + 1) + d by omega, chgN_per hd (ordN_ok ht _)]
    rw [e] at h
    exact chgN_inj ht (ordN_ok ht _) (ordN_ok ht _) h
theorem pow_small {n : Nat} (h : n ≤ 6) : n ^ n ≤ 46656 := by
  have : n = 0 ∨ n = 1 ∨ n = 2 ∨ n = 3 ∨ n = 4 ∨ n = 5 ∨ n = 6 := by omega
  rcases this with rfl | rfl | rfl | rfl | rfl | rfl | rfl <;> decide
theorem come_back {tr : List Trk} {many : Nat} {mt : Bool} {rl : Nat} (ht : tr.length ≤ many) (h6 : many ≤ 6) (hs : 0 < spanN tr many rl) : ∃ T, 0 < T ∧ T ≤ spanN tr many rl * 46656 ∧ T % spanN tr many rl = 0 ∧ ordN tr many mt rl T = List.range many := by
  obtain ⟨i, j, hij, hj, e⟩ := pigeon (g := fun k => ordN tr many mt rl (k * spanN tr many rl)) (U := allL many many) fun k => by
    have := ordN_ok (mt := mt) (rl := rl) ht (k * spanN tr many rl)
    have z := allL_mem many _ this.2
    rw [this.1] at z
    exact z
  rw [allL_len] at hj
  have hp := pow_small h6
  refine ⟨(j - i) * spanN tr many rl, Nat.mul_pos (by omega) hs, ?_, Nat.mul_mod_left _ _, ?_⟩
  · rw [Nat.mul_comm]
    exact Nat.mul_le_mul_left _ (by omega)
  · refine (back_to ht ⟨j - i, Nat.mul_comm _ _⟩ (i * spanN tr many rl) ?_).symm
    rw [← Nat.add_mul, show i + (j - i) = j by omega]
    exact e
/-- the wheel -/
def IsWh (tr : List Trk) (many : Nat) (mt : Bool) (rl W : Nat) : Prop := 0 < W ∧ W < 2 ^ 24 ∧ W % spanN tr many rl = 0 ∧ ordN tr many mt rl W = List.range many ∧ ∀ c, 0 < c → c < W → ¬ (c % spanN tr many rl = 0 ∧ ordN tr many mt rl c = List.range many)
/-- tracks as scenes have them -/
structure TrOk (tr : List Trk) : Prop where
  five : tr.length ≤ 5
  pos : ∀ p ∈ tr, 0 < p.1.length
  six : ∀ p ∈ tr, p.1.length ≤ 6
theorem dvd60 {n : Nat} (h0 : 0 < n) (h : n ≤ 6) : n ∣ 60 := by
  have : n = 1 ∨ n = 2 ∨ n = 3 ∨ n = 4 ∨ n = 5 ∨ n = 6 := by omega
  rcases this with rfl | rfl | rfl | rfl | rfl | rfl <;> decide
theorem lcm60 {a b : Nat} (ha0 : 0 < a) (ha : a ≤ 4) (hb0 : 0 < b) (hb : b ≤ 5) : Nat.lcm 60 (a * b) ≤ 240 := by
  have h1 : a = 1 ∨ a = 2 ∨ a = 3 ∨ a = 4 := by omega
  have h2 : b = 1 ∨ b = 2 ∨ b = 3 ∨ b = 4 ∨ b = 5 := by omega
  rcases h1 with rfl | rfl | rfl | rfl <;> rcases h2 with rfl | rfl | rfl | rfl | rfl <;> decide
theorem span_pos {tr : List Trk} {many rl : Nat} (h : TrOk tr) : 0 < spanN tr many rl := by
  refine foldl_pos _ (by decide) fun n hn => ?_
  rcases List.mem_append.mp hn with hn | hn
  · obtain ⟨p, hp, rfl⟩ := List.mem_map.mp hn
    exact h.pos p hp
  · split at hn
    · rename_i hr
      rw [List.mem_singleton.mp hn]
      exact Nat.mul_pos hr.1 hr.2.1
    · cases hn
theorem span_le {tr : List Trk} {many rl : Nat} (h : TrOk tr) (hr : rl ≤ 4) : spanN tr many rl ≤ 240 := by
  have base : ∀ x, (∀ p ∈ tr, p.1.length ∣ Nat.lcm 60 x) := fun x p hp => Nat.dvd_trans (dvd60 (h.pos p hp) (h.six p hp)) (Nat.dvd_lcm_left 60 x)
  by_cases hh : hasR tr.length many rl
  · have d : spanN tr many rl ∣ Nat.lcm 60 (rl * tr.length) := by
      refine foldl_dvd_of _ _ _ (Nat.one_dvd _) fun n hn => ?_
      rcases List.mem_append.mp hn with hn | hn
      · obtain ⟨p, hp, rfl⟩ := List.mem_map.mp hn
        exact base _ p hp
      · rw [if_pos hh] at hn
        rw [List.mem_singleton.mp hn]
        exact Nat.dvd_lcm_right _ _
    exact Nat.le_trans (Nat.le_of_dvd (Nat.lcm_pos (by decide) (Nat.mul_pos hh.1 hh.2.1)) d) (lcm60 hh.1 hr hh.2.1 h.five)
  · have d : spanN tr many rl ∣ 60 := by
      refine foldl_dvd_of _ _ _ (Nat.one_dvd _) fun n hn => ?_
      rcases List.mem_append.mp hn with hn | hn
      · obtain ⟨p, hp, rfl⟩ := List.mem_map.mp hn
        exact dvd60 (h.pos p hp) (h.six p hp)
      · rw [if_neg hh] at hn
        cases hn
    exact Nat.le_trans (Nat.le_of_dvd (by decide) d) (by decide)
end Dk
namespace Dk
open PySem PySem.Spec PyProof.Rows L2
/-! ### enumerate of a tuple -/
abbrev enO (i : Addr) : Obj := { cls := .type "enumerate", data := .fields #[.none, .bool false, .ref i, rawInt 0, .none, .none] }
theorem enum_new {v : Value} {ob : Obj} {Hh : Heap → Prop} (B : Begins v ob Hh) :
    Meets (Builtin.«enumerate.__new__» ⟨[.type "enumerate", v], []⟩) (fun _ R s => Hh s.heap ∧ R (.ok (.ret (.ref (s.heap.push ob).objs.size))) { s with heap := (s.heap.push ob).push (enO s.heap.objs.size) }) :=
  .of_wp fun pr wo A R s hy => by
    obtain ⟨hp, g, d, tk, os⟩ := s
    obtain ⟨y1, y⟩ := hy
    have sb := sub_enumerate
    have qi : ∀ {A' : Around} {Ex : Value → Shared → Prop} {Qx : Value → Shared → Prop}, Qx (.ref hp.objs.size) ⟨hp.push ob, g, d, tk, os⟩ → wpAny (model pr wo) A' (pyIter v) Qx Ex ⟨hp, g, d, tk, os⟩ := fun q => B.iter pr wo _ _ ⟨hp, g, d, tk, os⟩ _ y1 q
    wp_walk using qi
    refine wpAny_stack_any fun zt => wpAny_pure ?_
    split
    · rename_i c _ _ _ _ _
      cases (c == Value.type "enumerate") <;> (wp_walk using qi) <;> exact ⟨_, rfl, y⟩
    · wp_walk using qi
      exact ⟨_, rfl, y⟩
section
variable {prog : Program} {w : World} {A : Around} {E : Value → Shared → Prop} {s : Shared}
theorem call_enumT {tp : Addr} {its : Array Value} {Q : Value → Shared → Prop} (hT : s.heap.IsTuple tp its)
    (k : ∀ h', IsEnum h' (s.heap.objs.size + 1) s.heap.objs.size 0 .none → h'.IsTupleIter s.heap.objs.size tp 0 → (∀ b u, s.heap.get? b = some u → h'.get? b = some u) → Q (.ref (s.heap.objs.size + 1)) { s with heap := h' }) :
    wpAny (model prog w) A (call (.type "enumerate") [.ref tp]) Q E s := by
  have B := begins_tuple tp its
  refine callType_new F.called_enumerate (by decide) (F.typeCall_enumerate_1 _) (F.newCall_enumerate_1 _) (fun ob => F.args_object_init_2 ob _) F.entry_enumerate_new (enum_new B) ⟨hT, ?_⟩
  have sz : (s.heap.push { cls := .type "tuple_iterator", data := .fields #[.ref tp, .int 0 0] }).objs.size = s.heap.objs.size + 1 := Heap.size_push ..
  show _ ∧ _
  rw [sz]
  have ie := Heap.get?_push_size (s.heap.push { cls := .type "tuple_iterator", data := .fields #[.ref tp, .int 0 0] }) (o := enO s.heap.objs.size) rfl
  rw [sz] at ie
  exact ⟨⟨_, ie, rfl⟩, k _ ie ⟨_, Heap.get?_push_of_some _ (Heap.get?_push_size _ B.free), rfl, rfl⟩ fun b u z => Heap.get?_push_of_some _ (Heap.get?_push_of_some _ z)⟩
end
def IteT (K : PySem.W.Frag) (a : Addr) : It where
  go := fun i H => ∃ (xs : List V) (x : V), SqT K H a xs ∧ xs[i]? = some x
  yld := fun i H v H' => ∃ T x, v = .ref T ∧ H T = none ∧ H' = upd H T (.tup [.int (i : Nat), x]) ∧ ∀ xs, SqT K H a xs → xs[i]? = some x
  stop := fun i H => ∃ xs : List V, SqT K H a xs ∧ xs.length ≤ i
theorem two_of {b e it : Addr} (h : b ∈ [e, it]) : b = e ∨ b = it := by simpa using h
theorem turn_enumT {P : Program} {w : World} {K : PySem.W.Frag} {elts : List Expr} {kk : Nat} {tpos : Pos} (a e it : Addr) :
    Turn P w K (.Tuple elts kk tpos) (IteT K a) [e, it] e (fun i h => (∃ old, IsEnum h e it ((i : Nat) : Int) old) ∧ h.IsTupleIter it a i ∧ e ≠ it ∧ a ≠ it ∧ e ≠ a) where
  mem := by simp
  obj := fun i h st b hb => by
    obtain ⟨⟨old, he⟩, ⟨ob, hob, _, hd⟩, _⟩ := st
    rcases two_of hb with rfl | rfl
    · exact ⟨_, he, fun v q => nomatch q⟩
    · exact ⟨ob, hob, fun v q => by rw [hd] at q; cases q⟩
  keep := fun i h h' st kk => by
    obtain ⟨⟨old, he⟩, hi, n1⟩ := st
    exact ⟨⟨old, kk e (by simp) _ he⟩, hi.at fun u q => kk it (by simp) u q, n1⟩
  item := by
    intro X hP hw hK hc i pn s st0 H Ex J hf st hg
    subst hP hw hK
    obtain ⟨⟨old, he⟩, hit, n1, n2, n3⟩ := st
    obtain ⟨xs, x, hq, hx⟩ := hg
    obtain ⟨its, rv, tt, hz⟩ := J.tuple hq
    obtain ⟨u, hu, ru⟩ := rv.get hx
    have el : e < s.heap.objs.size := Heap.lt_size he
    have il : it < s.heap.objs.size := by
      obtain ⟨_, z, _⟩ := hit
      exact Heap.lt_size z
    have lt : i < its.toArray.size := by
      have := (List.getElem?_eq_some_iff.mp hu).1
      simpa using this
    have hd0 : X.A.in1.handled = none := J.ok.hd hc
    refine wpAny_pyNext_enum_itemD (Draws.tuple hd0 it a n2 its.toArray) he ⟨hit, tt⟩ lt n1 (by simp [n1, n3]) fun x' h' tk px ho st' hT hsz hk => ?_
    have ex : x' = u := by
      have z : its.toArray[i]? = some x' := px
      have z2 : its.toArray[i]? = some u := by simpa using hu
      exact Option.some.inj (z.symm.trans z2)
    subst ex
    refine ⟨_, rfl, wpAny_letOwnedTupleGo_enum (s := { s with heap := h', toks := tk + 1 }) ho fun h2 he2 sb => ?_⟩
    have hT2 := (sb.2 _ (Nat.ne_of_gt el)).trans hT
    have nw : ObjOk X.prog X.w (upd H s.heap.objs.size (.tup [.int (i : Nat), x])) h2 s.heap.objs.size (.tup [.int (i : Nat), x]) := ⟨by show 2 ≤ sizeLine; decide, [.int i tk, x'], .cons ⟨_, rfl⟩ (.cons ru .nil), ⟨_, hT2, rfl, _, rfl⟩⟩
    have old2 : ∀ b ob, b ∉ [e, it] → s.heap.get? b = some ob → h2.get? b = some ob := fun b ob hb q => by
      have b1 : b ≠ e := fun z => hb (by simp [z])
      have b2 : b ≠ it := fun z => hb (by simp [z])
      exact (sb.2 b b1).trans (hk b ob b1 b2 q)
    have J1 := J.turnedNew (t' := tk + 1) (ch := [e, it]) old2 hf (Nat.le_refl _) nw
    refine ⟨.ref s.heap.objs.size, _, J1, rfl, ⟨_, x, rfl, J.hok.fresh (Nat.le_refl _), rfl, fun ys hy => by rw [J.tuple_inj hy hq]; exact hx⟩, ⟨⟨x', ?_⟩, st'.1.at fun ob q => (sb.2 it (Ne.symm n1)).trans q, n1, n2, n3⟩, fun b hb => ?_⟩
    · have ei : ((i + 1 : Nat) : Int) = (i : Int) + 1 := by omega
      rw [ei]
      exact he2
    · have bl : b < s.heap.objs.size := by
        rcases two_of hb with rfl | rfl
        · exact el
        · exact il
      rw [upd_ne (Nat.ne_of_lt bl)]
      exact (hf b hb).1
  done := by
    intro X hP hw hK hc i pn s st0 H Ex J hf st hg
    subst hP hw hK
    obtain ⟨⟨old, he⟩, hit, n1, n2, n3⟩ := st
    obtain ⟨xs, hq, hx⟩ := hg
    obtain ⟨its, rv, tt, hz⟩ := J.tuple hq
    obtain ⟨f0, f1, f2, f3, f4, f5⟩ := hf it (by simp)
    have hl := rv.length
    have hd0 : X.A.in1.handled = none := J.ok.hd hc
    have hT : s.TypeIs (.ref e) "enumerate" := ⟨_, he, rfl⟩
    unfold pyNext
    refine wpAny_bind (wpAny_attempt (wpAny_callSpecial?_slot (name := Str.ofString "__next__") hT F.slot_enumerate_next (wpAny_call_entry F.slot_enumerate_next hT F.entry_enumerate_next ?_ (F.args_enumerate_next_1 _))))
    show wpAny _ _ (field (.ref e) 2 >>= _) _ _ _
    refine wpAny_bind (wpAny_field he rfl (x := .ref it) rfl (wpAny_bind (wpAny_nextOf_tuple_end hd0 hit tt (by simp; omega) fun h' ex eb sx => ?_)))
    obtain ⟨ob, ho, hcl⟩ := sx
    exact wpAny_bind (wpAny_isInstance (T := "StopIteration") (b := true) ⟨ob, ho, hcl⟩ isSubtype_stop (wpAny_pure ⟨rfl, J.turned (t' := s.toks) (fun b u hb q => eb b u hb q) f0 f1 f3 f4 f5⟩))
  self := fun A i s Q Ex st h => by
    obtain ⟨⟨_, he⟩, _⟩ := st
    exact wpAny_pyIter_enum he h
def iEnumT (K : PySem.W.Frag) (ta : TA) : TI := fun st H R => ta st H fun vs H1 => ∃ a xs, vs = [.ref a] ∧ SqT K H1 a xs ∧ R (IteT K a) H1
theorem pi_enumT {X : Cx} {e : Expr} {ta : TA} {p pos tpos : Pos} {elts : List Expr} {kk : Nat} (hg : Gl X "enumerate") (hm : X.mg "enumerate" = none) (ha : PA X [e] ta) (hs : starEach [e] X.env = [(false, eval e X.env)] := by rfl) :
    PI X (.Tuple elts kk tpos) (.Call (.Name "enumerate" p) [e] [] pos) (iEnumT X.K ta) := by
  refine ⟨fun pn s st H R J h => ?_⟩
  refine Call_ (ld_blt J hg hm boot_enumerate (PyProof.Rows.callWith_type1 (thn (ha.run pos pn s st H _ J h) fun us s1 ⟨vs, H1, J1, r1, q1⟩ => ?_) hs rfl))
  obtain ⟨a, xs, ex, hq, q⟩ := q1
  subst ex
  obtain ⟨u, rfl, ru⟩ := vals1 r1
  cases ru
  obtain ⟨its, rv, tt, hz⟩ := J1.tuple hq
  obtain ⟨oT, hoT, _⟩ := id tt
  have al : a < s1.heap.objs.size := Heap.lt_size hoT
  refine call_enumT (show s1.heap.IsTuple a its.toArray from tt) fun h' he hit hk => wpAny_pyIter_enum he ?_
  have J2 := J1.kept (t' := s1.toks) hk
  refine ⟨s1.heap.objs.size + 1, [s1.heap.objs.size + 1, s1.heap.objs.size], _, _, H1, rfl, J2, turn_enumT a (s1.heap.objs.size + 1) s1.heap.objs.size, ⟨⟨.none, he⟩, hit, Nat.succ_ne_self _, Nat.ne_of_lt al, Nat.ne_of_gt (Nat.lt_succ_of_lt al)⟩, fun b hb => ?_, q⟩
  have hle : s1.heap.objs.size ≤ b := by
    rcases two_of hb with rfl | rfl
    · exact Nat.le_add_right _ _
    · exact Nat.le_refl _
  exact J1.fpOk hle (J1.hok.fresh hle)
theorem walk_enumT {K : PySem.W.Frag} {a : Addr} {xs : List V} : Walk (IteT K a) xs.length (fun H => SqT K H a xs) (YPair (fun i => some (.int (i : Nat))) (fun i => xs[i]?)) := by
  refine ⟨fun i H hi g => ⟨xs, _, g, List.getElem?_eq_getElem hi⟩, fun H g => ⟨xs, g, Nat.le_refl _⟩, fun i H v H' _ g y => ?_⟩
  obtain ⟨T, x, h1, h2, h3, h4⟩ := y
  exact ⟨T, .int (i : Nat), x, h1, h2, h3, rfl, h4 xs g⟩
end Dk
namespace Dk
open PySem L2
/-! ### rounds -/
def nxt (rs : List Str) (i : Nat) : Str := rs.getD ((i + 1) % rs.length) Str.empty
structure Rnd (zs : List Str) (bh : Str → List Str) (rs : List Str) : Prop where
  one : 1 ≤ rs.length
  six : rs.length ≤ 6
  mem : ∀ r ∈ rs, r ∈ zs
  hand : ∀ (i : Nat) (r : Str), rs[i]? = some r → nxt rs i ∈ bh r ∨ r = nxt rs i
theorem Rnd.nxt_mem {zs : List Str} {bh : Str → List Str} {rs : List Str} (h : Rnd zs bh rs) (i : Nat) : nxt rs i ∈ zs ∧ rs[(i + 1) % rs.length]? = some (nxt rs i) := by
  have hl : (i + 1) % rs.length < rs.length := Nat.mod_lt _ h.one
  have e : rs[(i + 1) % rs.length]? = some (nxt rs i) := by
    unfold nxt
    rw [List.getD_eq_getElem?_getD, List.getElem?_eq_getElem hl]
    rfl
  exact ⟨h.mem _ (List.mem_of_getElem? e), e⟩
def spHasDoor (C : Addr) : Sp := fun vs H Q _ => ∃ (h : Addr) (zs : List Str) (bh vw : Str → List Str) (a b : Str), vs = [.ref h, .str a, .str b] ∧ Hs C H h zs bh vw ∧ a ∈ zs ∧ b ∈ zs ∧ Q (.bl (decide (b ∈ bh a))) H
def spAtHand (C : Addr) : Sp := fun vs H Q _ => ∃ (h : Addr) (zs : List Str) (bh vw : Str → List Str) (a b : Str), vs = [.ref h, .str a, .str b] ∧ Hs C H h zs bh vw ∧ a ∈ zs ∧ b ∈ zs ∧ Q (.bl (decide (b ∈ bh a) || decide (a = b))) H
def spSees (C : Addr) : Sp := fun vs H Q _ => ∃ (h : Addr) (zs : List Str) (bh vw : Str → List Str) (a : Str), vs = [.ref h, .str a] ∧ Hs C H h zs bh vw ∧ a ∈ zs ∧ ∀ (H' : Hp) (p : Addr), Same H H' → H p = none → H' p = some (.lst ((vw a).map V.str)) → Q (.ref p) H'
def spNeedRound (C : Addr) : Sp := fun vs H Q _ => ∃ (h t : Addr) (zs : List Str) (bh vw : Str → List Str) (rs : List Str), vs = [.ref h, .ref t] ∧ Hs C H h zs bh vw ∧ H t = some (.tup (rs.map V.str)) ∧ Rnd zs bh rs ∧ ∀ H', Same H H' → Q .non H'
theorem Hs.nmd {C : Addr} {H : Hp} {h : Addr} {zs : List Str} {bh vw : Str → List Str} (x : Hs C H h zs bh vw) : Nmd C H h zs := by
  obtain ⟨⟨dx, n, b, v, h1, h2, _⟩, _⟩ := x
  exact ⟨dx, n, _, h1, hf_n _ _ _, hf_no _ _ _ (by decide +kernel) (by decide +kernel) (by decide +kernel), h2⟩
/-! ### promises of the changes -/
def spRoomsAt : Sp := fun vs H Q _ => ∃ (p : Addr) (xs : List V) (tr : List Trk) (b : Int), vs = [.ref p, .int b] ∧ H p = some (.lst xs) ∧ TrL H xs tr ∧ TrOk tr ∧ ∀ (H' : Hp) (q : Addr), Same H H' → H q = none → H' q = some (.lst ((stnd tr b).map V.str)) → Q (.ref q) H'
def spHasRelief : Sp := fun vs H Q _ => ∃ (p : Addr) (xs : List V) (many rl : Nat), vs = [.ref p, .int (many : Nat), .int (rl : Nat)] ∧ H p = some (.lst xs) ∧ Q (.bl (decide (hasR xs.length many rl))) H
def spSpanOf : Sp := fun vs H Q _ => ∃ (p : Addr) (xs : List V) (tr : List Trk) (many rl : Nat), vs = [.ref p, .int (many : Nat), .int (rl : Nat)] ∧ H p = some (.lst xs) ∧ TrL H xs tr ∧ TrOk tr ∧ rl ≤ 4 ∧ ∀ H', Same H H' → Q (.int (spanN tr many rl : Nat)) H'
def spHanded : Sp := fun vs H Q _ => ∃ (o r : Addr) (os : List Nat) (rs : List Str), vs = [.ref o, .ref r] ∧ H o = some (.lst (os.map natV)) ∧ H r = some (.lst (rs.map V.str)) ∧ rs.length ≤ os.length ∧ os.length ≤ 6 ∧ (∀ r ∈ rs, PyData.strOk r = true) ∧ ∀ (H' : Hp) (q : Addr), Same H H' → H q = none → H' q = some (.lst ((hoN rs os).map natV)) → Q (.ref q) H'
def spRelieved : Sp := fun vs H Q _ => ∃ (o : Addr) (os : List Nat) (n p : Nat), vs = [.ref o, .int (n : Nat), .int (p : Nat)] ∧ H o = some (.lst (os.map natV)) ∧ n < os.length ∧ p < n ∧ os.length ≤ 6 ∧ ∀ (H' : Hp) (q : Addr), Same H H' → H q = none → H' q = some (.lst ((relN n p os).map natV)) → Q (.ref q) H'
def spChanged : Sp := fun vs H Q _ => ∃ (o p : Addr) (os : List Nat) (b : Nat) (xs : List V) (tr : List Trk) (mt : Bool) (rl : Nat), vs = [.ref o, .int (b : Nat), .ref p, .bl mt, .int (rl : Nat)] ∧ H o = some (.lst (os.map natV)) ∧ H p = some (.lst xs) ∧ TrL H xs tr ∧ TrOk tr ∧ (∀ t ∈ tr, ∀ r ∈ t.1, PyData.strOk r = true) ∧ tr.length ≤ os.length ∧ os.length ≤ 6 ∧ rl ≤ 4 ∧ b < 2 ^ 25 ∧
  ∀ (H' : Hp) (q : Addr), Same H H' → H' q = some (.lst ((chgN tr mt rl b os).map natV)) → Q (.ref q) H'
def spOrders : Sp := fun vs H Q _ => ∃ (p : Addr) (xs : List V) (tr : List Trk) (many : Nat) (mt : Bool) (rl : Nat), vs = [.ref p, .int (many : Nat), .bl mt, .int (rl : Nat)] ∧ H p = some (.lst xs) ∧ TrL H xs tr ∧ TrOk tr ∧ (∀ t ∈ tr, ∀ r ∈ t.1, PyData.strOk r = true) ∧ tr.length ≤ many ∧ many ≤ 6 ∧ rl ≤ 4 ∧
  ∀ (H' : Hp) (q : Addr) (os : List V) (W : Nat), Same H H' → H q = none → IsWh tr many mt rl W → H' q = some (.lst os) → OrL H' os ((List.range W).map (ordN tr many mt rl)) → Q (.ref q) H'
theorem nat_at {o : List Nat} {i : Nat} (h : i < o.length) : (o.map natV)[i]? = some (natV (o.getD i 0)) := by
  rw [List.getElem?_map, getD_at h]
  rfl
theorem set_nat {o : List Nat} {i : Nat} {x : Nat} : (o.map natV).set i (natV x) = (o.set i x).map natV := by
  rw [List.map_set]
theorem ixN_nat {n k : Nat} (h : k < n) : ixN n ((k : Nat) : Int) = some k := by
  unfold ixN
  simp
  omega
theorem cut_to {xs : List V} {n : Nat} (h : n ≤ xs.length) : cutV xs none (some ((n : Nat) : Int)) = xs.take n := cut_upto xs h
theorem cut_of {xs : List V} {n : Nat} (h : n ≤ xs.length) : cutV xs (some ((n : Nat) : Int)) none = xs.drop n := by
  unfold cutV
  rw [HT.sIx_none, show HT.sIx xs.length 0 (some ((n : Nat) : Int)) = min n xs.length from HT.sIx_nat _ _ n, Nat.min_eq_left h, List.take_of_length_le (by rw [List.length_drop]; omega)]
theorem stnd_ok {tr : List Trk} (h : TrOk tr) (k : ∀ t ∈ tr, ∀ r ∈ t.1, PyData.strOk r = true) (b : Int) : ∀ r ∈ stnd tr b, PyData.strOk r = true := by
  intro r hr
  obtain ⟨p, hp, rfl⟩ := List.mem_map.mp hr
  exact k p hp _ (plcS_mem (h.pos p hp) _)
/-! ### lists of numbers -/
def natD (n : Nat) : PyData := .int (n : Int)
theorem dp_nats {K : PySem.W.Frag} {H : Hp} : ∀ os : List Nat, DpAll K H (os.map natV) (os.map natD)
  | [] => .nil
  | o :: r => .cons (.int _) (dp_nats r)
theorem lay_nats : ∀ os : List Nat, PyData.canLayAll0 (os.map natD) = true ∧ PyData.depthAll (os.map natD) = 0
  | [] => ⟨rfl, rfl⟩
  | o :: r => by
    obtain ⟨h1, h2⟩ := lay_nats r
    constructor
    · show ((natD o).canLay0 && PyData.canLayAll0 (r.map natD)) = true
      rw [h1]
      rfl
    · show max 0 (PyData.depthAll (r.map natD)) = 0
      rw [h2]
      rfl
theorem shaped_nats (os : List Nat) : SeqAt.shaped (.list (os.map natD)) = true := by
  obtain ⟨h1, h2⟩ := lay_nats os
  unfold SeqAt.shaped
  have e1 : (PyData.list (os.map natD)).canLay0 = true := h1
  have e2 : (PyData.list (os.map natD)).depth ≤ 64 := by
    show PyData.depthAll (os.map natD) + 1 ≤ 64
    rw [h2]
    decide
  rw [e1, decide_eq_true e2]
  rfl
theorem eqv_nats : ∀ os us : List Nat, PyData.eqvAll (os.map natD) (us.map natD) = decide (os = us)
  | [], [] => by simp [PyData.eqvAll]
  | [], _ :: _ => by simp [PyData.eqvAll]
  | _ :: _, [] => by simp [PyData.eqvAll]
  | o :: os, u :: us => by
    rw [List.map_cons, List.map_cons]
    show (PyData.eqv (natD o) (natD u) && PyData.eqvAll _ _) = _
    rw [eqv_nats os us, Bool.eq_iff_iff, Bool.and_eq_true, decide_eq_true_eq, decide_eq_true_eq, List.cons.injEq]
    simp [PyData.eqv, natD]
    intro _
    omega
theorem eqv_lnats (os us : List Nat) : PyData.eqv (.list (os.map natD)) (.list (us.map natD)) = decide (os = us) := by
  rw [← eqv_nats os us]
  simp [PyData.eqv]
theorem rg_nat (n : Nat) : rgV 0 (n : Nat) = (List.range n).map natV := by
  unfold rgV
  rw [show (((n : Nat) : Int) - 0).toNat = n by omega]
  refine List.map_congr_left fun i _ => ?_
  show V.int (0 + (i : Nat)) = V.int (i : Nat)
  rw [Int.zero_add]
/-- a list of references is no list of numbers -/
theorem ref_nat {H : Hp} {O q : Addr} {os : List V} {o : List Nat} {x : Addr} (h1 : H O = some (.lst (.ref x :: os))) (h2 : H q = some (.lst (o.map natV))) : q ≠ O := fun z => by
  rw [z, h1] at h2
  have e := HO.lst.inj (Option.some.inj h2)
  cases o with
  | nil => cases e
  | cons a r => cases (List.cons.inj e).1
theorem OrL.put {H : Hp} {O x : Addr} {xs os : List V} {ps : List (List Nat)} {u : HO} (h : OrL H xs ps) (hO : H O = some (.lst (.ref x :: os))) : OrL (upd H O u) xs ps := AL.mono h fun v p z => by
  obtain ⟨q, e, hq⟩ := z
  exact ⟨q, e, by rw [upd_ne (ref_nat hO hq)]; exact hq⟩
end Dk
namespace Dk
open PySem L2
/-! ### light and moves -/
def handN (zs : List Str) (bh : Str → List Str) (a : Str) : List Str := zs.filter fun b => decide (b ∈ bh a) || decide (a = b)
def ligs (vw : Str → List Str) : List (Str × Nat) → List Str
  | [] => []
  | p :: r => (if p.2 = 1 then vw p.1 else []) ++ ligs vw r
theorem ligs_app (vw : Str → List Str) : ∀ l m : List (Str × Nat), ligs vw (l ++ m) = ligs vw l ++ ligs vw m
  | [], _ => rfl
  | p :: r, m => by
    show (if p.2 = 1 then vw p.1 else []) ++ ligs vw (r ++ m) = _
    rw [ligs_app vw r m, ← List.append_assoc]
    rfl
theorem ligs_len {vw : Str → List Str} {n : Nat} (h : ∀ a, (vw a).length ≤ n) : ∀ l : List (Str × Nat), (ligs vw l).length ≤ l.length * n
  | [] => Nat.zero_le _
  | p :: r => by
    have := ligs_len h r
    show ((if p.2 = 1 then vw p.1 else []) ++ ligs vw r).length ≤ _
    rw [List.length_append, List.length_cons, Nat.succ_mul]
    split
    · have := h p.1
      omega
    · show 0 + _ ≤ _
      omega
def litN (zs : List Str) (vw : Str → List Str) (rs : List Str) (ks : List Nat) : List Str := zs.filter fun r => decide (r ∈ rs ++ ligs vw (rs.zip ks))
def movN (bs ns : List Str) : List SS := (bs.zip ns).filter fun p => decide (p.1 ≠ p.2)
def reachN (ws : List Wtc) (l : List Nat) : List Nat := l.map fun k => (ws.getD k (Str.empty, 0)).2
def spHands (C : Addr) : Sp := fun vs H Q _ => ∃ (h : Addr) (zs : List Str) (bh vw : Str → List Str), vs = [.ref h] ∧ Hs C H h zs bh vw ∧ ∀ (H' : Hp) (d : Addr), Same H H' → H d = none → LinkAt H' d zs (handN zs bh) → Q (.ref d) H'
def spLit (C : Addr) : Sp := fun vs H Q _ => ∃ (h r q : Addr) (zs : List Str) (bh vw : Str → List Str) (rs : List Str) (ks : List Nat), vs = [.ref h, .ref r, .ref q] ∧ Hs C H h zs bh vw ∧ H r = some (.lst (rs.map V.str)) ∧ H q = some (.lst (ks.map natV)) ∧ rs.length = ks.length ∧ rs.length ≤ 5 ∧ (∀ x ∈ rs, x ∈ zs) ∧
  ∀ (H' : Hp) (z : Addr), Same H H' → H z = none → H' z = some (.lst ((litN zs vw rs ks).map V.str)) → Q (.ref z) H'
def spMoves : Sp := fun vs H Q _ => ∃ (b n : Addr) (bs ns : List Str), vs = [.ref b, .ref n] ∧ H b = some (.lst (bs.map V.str)) ∧ H n = some (.lst (ns.map V.str)) ∧ bs.length = ns.length ∧ bs.length ≤ 5 ∧ ∀ (H' : Hp) (z : Addr) (xs : List V), Same H H' → H z = none → H' z = some (.lst xs) → PL H' xs (movN bs ns) → Q (.ref z) H'
/-! ### what a scene refuses not -/
def NmA (H : Hp) (v : V) (z : Str) : Prop := ∃ q ys, v = V.ref q ∧ H q = some (.tup (.str z :: ys))
theorem NmA.keep {H H' : Hp} {v : V} {z : Str} (k : KeepT H H') (h : NmA H v z) : NmA H' v z := by
  obtain ⟨q, ys, e, h1⟩ := h
  exact ⟨q, ys, e, k _ _ h1⟩
theorem AL.map {α β : Type} {R : Hp → V → α → Prop} {S : Hp → V → β → Prop} {H : Hp} {xs : List V} {ps : List α} (f : α → β) (h : AL R H xs ps) (m : ∀ x p, R H x p → S H x (f p)) : AL S H xs (ps.map f) := by
  refine ⟨by rw [List.length_map]; exact h.1, fun i x b h1 h2 => ?_⟩
  rw [List.getElem?_map] at h2
  cases e : ps[i]? with
  | none =>
    rw [e] at h2
    cases h2
  | some p =>
    rw [e] at h2
    cases h2
    exact m x p (h.2 i x p h1 e)
theorem PsL.names {H : Hp} {xs : List V} {ps : List Pst} (h : PsL H xs ps) : AL NmA H xs (ps.map (·.1)) := AL.map _ h fun x p ⟨q, t, e, h1, _⟩ => ⟨q, _, e, h1⟩
theorem WtL.names {H : Hp} {xs : List V} {ps : List Wtc} (h : WtL H xs ps) : AL NmA H xs (ps.map (·.1)) := AL.map _ h fun x p ⟨q, e, h1⟩ => ⟨q, _, e, h1⟩
def spNamesOf : Sp := fun vs H Q _ => ∃ (p : Addr) (xs : List V) (zs : List Str), vs = [.ref p] ∧ H p = some (.lst xs) ∧ AL NmA H xs zs ∧ xs.length ≤ 1000 ∧ ∀ (H' : Hp) (q : Addr), Same H H' → H q = none → H' q = some (.lst (zs.map V.str)) → Q (.ref q) H'
def spNeedDelay : Sp := fun vs H Q _ => ∃ (t : Addr) (rs : List Str) (d : Nat), vs = [.ref t, .int (d : Nat)] ∧ H t = some (.tup (rs.map V.str)) ∧ d < rs.length ∧ Q .non H
def spNeedReach : Sp := fun vs H Q _ => ∃ k : Nat, vs = [.int (k : Nat)] ∧ k ≤ 1 ∧ ∀ H', Same H H' → Q .non H'
def spNeedRelief : Sp := fun vs H Q _ => ∃ k : Nat, vs = [.int (k : Nat)] ∧ k ≤ 4 ∧ Q .non H
def spNeedCounts : Sp := fun vs H Q _ => ∃ (p q : Addr) (xs ys : List V), vs = [.ref p, .ref q] ∧ H p = some (.lst xs) ∧ H q = some (.lst ys) ∧ xs.length ≤ 5 ∧ ys.length ≤ 6 ∧ Q .non H
/-- posts as a house has them -/
structure PsOk (zs : List Str) (bh : Str → List Str) (ps : List Pst) : Prop where
  five : ps.length ≤ 5
  names : Names (ps.map (·.1))
  rnd : ∀ p ∈ ps, Rnd zs bh p.2.1
  dly : ∀ p ∈ ps, p.2.2 < p.2.1.length
structure WtOk (ws : List Wtc) : Prop where
  six : ws.length ≤ 6
  names : Names (ws.map (·.1))
  rch : ∀ p ∈ ws, p.2 ≤ 1
def spNewPosts (C : Addr) : Sp := fun vs H Q _ => ∃ (h p : Addr) (zs : List Str) (bh vw : Str → List Str) (xs : List V) (ps : List Pst), vs = [.ref h, .ref p] ∧ Hs C H h zs bh vw ∧ H p = some (.lst xs) ∧ PsL H xs ps ∧ PsOk zs bh ps ∧ ∀ (H' : Hp) (q : Addr) (ys : List V), Same H H' → H q = none → H' q = some (.lst ys) → PsL H' ys ps → Q (.ref q) H'
def spNewWts : Sp := fun vs H Q _ => ∃ (p : Addr) (xs : List V) (ws : List Wtc), vs = [.ref p] ∧ H p = some (.lst xs) ∧ WtL H xs ws ∧ WtOk ws ∧ ∀ (H' : Hp) (q : Addr) (ys : List V), Same H H' → H q = none → H' q = some (.lst ys) → WtL H' ys ws → Q (.ref q) H'
def spReaches (CS : Addr) : Sp := fun vs H Q _ => ∃ (s o p w dx : Addr) (fs : List (Str × V)) (xs ys : List V) (ws : List Wtc) (os : List Nat), vs = [.ref s, .ref o] ∧ H s = some (.ins CS dx fs) ∧ fs.lookup ("post_rows" : Str) = some (.ref p) ∧ fs.lookup ("watcher_rows" : Str) = some (.ref w) ∧ H p = some (.lst xs) ∧ H w = some (.lst ys) ∧ WtL H ys ws ∧ H o = some (.lst (os.map natV)) ∧ xs.length ≤ os.length ∧ os.length ≤ 6 ∧ (∀ k ∈ os, k < ws.length) ∧
  ∀ (H' : Hp) (q : Addr), Same H H' → H q = none → H' q = some (.lst ((reachN ws (os.take xs.length)).map natV)) → Q (.ref q) H'
theorem nodup_take {zs : List Str} {i : Nat} {z : Str} (h : Names zs) (e : zs[i]? = some z) : isNm z = true ∧ z ∉ zs.take i := ⟨h.2 z (List.mem_of_getElem? e), nodup_at h.1 e⟩
theorem zip_at {α β : Type} {as : List α} {bs : List β} {i : Nat} {a : α} {b : β} (h1 : as[i]? = some a) (h2 : bs[i]? = some b) : (as.zip bs)[i]? = some (a, b) := by
  rw [List.getElem?_zip_eq_some]
  exact ⟨h1, h2⟩
theorem nat_of_at {os : List Nat} {i : Nat} {x : V} (e : (os.map natV)[i]? = some x) : ∃ k, os[i]? = some k ∧ x = natV k := by
  rw [List.getElem?_map] at e
  cases h : os[i]? with
  | none =>
    rw [h] at e
    cases e
  | some k =>
    rw [h] at e
    exact ⟨k, rfl, (Option.some.inj e).symm⟩
end Dk
namespace Dk
open PySem L2
/-! ### all but the fields of s is kept -/
structure KpI (s : Addr) (H H' : Hp) : Prop where
  lst : ∀ q xs, H q = some (.lst xs) → H' q = some (.lst xs)
  tup : KeepT H H'
  dk : ∀ q m, H q = some (.dK m) → H' q = some (.dK m)
  ins : ∀ q C dx fs, q ≠ s → H q = some (.ins C dx fs) → H' q = some (.ins C dx fs)
theorem KpI.of {s : Addr} {H H' : Hp} (e : Same H H') : KpI s H H' := ⟨fun _ _ h => e _ _ h, KeepT.of e, fun _ _ h => e _ _ h, fun _ _ _ _ _ h => e _ _ h⟩
theorem KpI.trans {s : Addr} {H H1 H2 : Hp} (a : KpI s H H1) (b : KpI s H1 H2) : KpI s H H2 := ⟨fun q x h => b.lst q x (a.lst q x h), a.tup.trans b.tup, fun q x h => b.dk q x (a.dk q x h), fun q C dx fs n h => b.ins q C dx fs n (a.ins q C dx fs n h)⟩
theorem KpI.put {s C dx : Addr} {H : Hp} {fs : List (Str × V)} {o : HO} (h : H s = some (.ins C dx fs)) : KpI s H (upd H s o) :=
  ⟨fun q xs e => by rw [upd_ne (fun z => by rw [z, h] at e; cases e)]; exact e, KeepT.ins h, fun q xs e => by rw [upd_ne (fun z => by rw [z, h] at e; cases e)]; exact e, fun q C' dx' fs' n e => by rw [upd_ne n]; exact e⟩
theorem LinkAt.kpi {s d : Addr} {H H' : Hp} {zs : List Str} {f : Str → List Str} (h : LinkAt H d zs f) (k : KpI s H H') : LinkAt H' d zs f := by
  obtain ⟨as, h1, h2, h3⟩ := h
  exact ⟨as, h1, k.dk _ _ h2, fun i z p a b => k.lst _ _ (h3 i z p a b)⟩
theorem HouseAt.kpi {C s h : Addr} {H H' : Hp} {zs : List Str} {bh vw : Str → List Str} (x : HouseAt C H h zs bh vw) (n : h ≠ s) (k : KpI s H H') : HouseAt C H' h zs bh vw := by
  obtain ⟨dx, a, b, v, h1, h2, h3, h4, h5⟩ := x
  exact ⟨dx, a, b, v, k.ins _ _ _ _ n h1, k.lst _ _ h2, h3.kpi k, h4.kpi k, h5⟩
theorem OrL.kpi {s : Addr} {H H' : Hp} {xs : List V} {ps : List (List Nat)} (h : OrL H xs ps) (k : KpI s H H') : OrL H' xs ps := AL.mono h fun v p ⟨q, e, z⟩ => ⟨q, e, k.lst _ _ z⟩
theorem SsL.kpi {s : Addr} {H H' : Hp} {xs : List V} {ps : List (List Str)} (h : SsL H xs ps) (k : KpI s H H') : SsL H' xs ps := AL.mono h fun v p ⟨q, e, z⟩ => ⟨q, e, k.lst _ _ z⟩
def PLA (H : Hp) (v : V) (l : List SS) : Prop := ∃ q xs, v = V.ref q ∧ H q = some (.lst xs) ∧ PL H xs l
abbrev MvL := AL PLA
theorem MvL.kpi {s : Addr} {H H' : Hp} {xs : List V} {ps : List (List SS)} (h : MvL H xs ps) (k : KpI s H H') : MvL H' xs ps := AL.mono h fun v p ⟨q, ys, e, z, y⟩ => ⟨q, ys, e, k.lst _ _ z, y.keep k.tup⟩
theorem MvL.same {H H' : Hp} {xs : List V} {ps : List (List SS)} (h : MvL H xs ps) (k : Same H H') : MvL H' xs ps := AL.mono h fun v p ⟨q, ys, e, z, y⟩ => ⟨q, ys, e, k _ _ z, y.same k⟩
/-! ### fields -/
theorem putF_new {f : Str} {v : V} : ∀ {fs : List (Str × V)} (ks : List Str), fs.map (·.1) = ks → f ∉ ks → putF f v fs = fs ++ [(f, v)]
  | [], _, _, _ => rfl
  | (g, u) :: r, _, e, h => by
    subst e
    have h1 : ¬ g = f := fun z => h (by rw [← z]; exact List.mem_cons_self)
    show (if g = f then _ else (g, u) :: putF f v r) = _
    rw [if_neg h1, putF_new (r.map (·.1)) rfl (fun z => h (List.mem_cons_of_mem _ z))]
    rfl
theorem lk_none {f : Str} : ∀ {fs : List (Str × V)} (ks : List Str), fs.map (·.1) = ks → f ∉ ks → fs.lookup f = none
  | [], _, _, _ => rfl
  | (g, u) :: r, _, e, h => by
    subst e
    have h1 : ¬ f = g := fun z => h (by rw [z]; exact List.mem_cons_self)
    have e1 : (f == g) = false := by simpa using h1
    rw [List.lookup_cons, e1]
    exact lk_none (r.map (·.1)) rfl (fun z => h (List.mem_cons_of_mem _ z))
theorem lk_at {f : Str} {v : V} : ∀ {fs : List (Str × V)} (i : Nat) (ks : List Str), (fs.take i).map (·.1) = ks → f ∉ ks → fs[i]? = some (f, v) → fs.lookup f = some v
  | [], _, _, _, _, h => by simp at h
  | (g, u) :: r, 0, _, _, _, h => by
    have e := Option.some.inj h
    rw [(Prod.mk.inj e).1, (Prod.mk.inj e).2]
    exact List.lookup_cons_self
  | (g, u) :: r, i + 1, _, e, n, h => by
    subst e
    have h1 : ¬ f = g := fun z => n (by rw [z]; exact List.mem_cons_self)
    have e1 : (f == g) = false := by simpa using h1
    rw [List.lookup_cons, e1]
    exact lk_at i _ rfl (fun z => n (List.mem_cons_of_mem _ z)) h
/-! ### a house copied -/
theorem dAll_mem {zs : List Str} {bh : Str → List Str} {a b : Str} : (a, b) ∈ dAll zs bh ↔ ∃ i, zs[i]? = some a ∧ b ∈ zs.drop (i + 1) ∧ b ∈ bh a := by
  constructor
  · intro h
    obtain ⟨i, hi, hp⟩ := mem_flat h
    have e : zs[i]? = some zs[i] := List.getElem?_eq_getElem hi
    rw [dAt_some e] at hp
    obtain ⟨c, hc, ec⟩ := List.mem_map.mp hp
    obtain ⟨e1, e2⟩ := Prod.mk.inj ec
    subst e1
    subst e2
    exact ⟨i, e, (List.mem_filter.mp hc).1, of_decide_eq_true (List.mem_filter.mp hc).2⟩
  · rintro ⟨i, e, h1, h2⟩
    refine List.mem_flatten.mpr ⟨dAt zs bh i, List.mem_map.mpr ⟨i, List.mem_range.mpr (List.getElem?_eq_some_iff.mp e).1, rfl⟩, ?_⟩
    rw [dAt_some e]
    exact List.mem_map.mpr ⟨b, List.mem_filter.mpr ⟨h1, decide_eq_true h2⟩, rfl⟩
theorem sAll_mem {zs : List Str} {vw : Str → List Str} {a b : Str} : (a, b) ∈ sAll zs vw ↔ a ∈ zs ∧ b ∈ vw a := by
  constructor
  · intro h
    obtain ⟨i, hi, hp⟩ := mem_flat h
    have e : zs[i]? = some zs[i] := List.getElem?_eq_getElem hi
    rw [sAt_some e] at hp
    obtain ⟨c, hc, ec⟩ := List.mem_map.mp hp
    obtain ⟨e1, e2⟩ := Prod.mk.inj ec
    subst e1
    subst e2
    exact ⟨List.getElem_mem hi, hc⟩
  · rintro ⟨h1, h2⟩
    obtain ⟨i, hi, e⟩ := List.getElem_of_mem h1
    have e' : zs[i]? = some a := by rw [List.getElem?_eq_getElem hi, e]
    refine List.mem_flatten.mpr ⟨sAt zs vw i, List.mem_map.mpr ⟨i, List.mem_range.mpr hi, rfl⟩, ?_⟩
    rw [sAt_some e']
    exact List.mem_map.mpr ⟨b, h2, rfl⟩
theorem drop_of {zs : List Str} {i j : Nat} {b : Str} (e : zs[j]? = some b) (h : i < j) : b ∈ zs.drop (i + 1) := by
  refine List.mem_of_getElem? (i := j - (i + 1)) ?_
  rw [List.getElem?_drop, show i + 1 + (j - (i + 1)) = j by omega]
  exact e
theorem both_good {zs : List Str} {ds : List SS} (g : ∀ p ∈ ds, goodP zs p) {a b : Str} (h : (a, b) ∈ both ds) : goodP zs (a, b) := by
  rcases (both_iff ds a b).mp h with m | m
  · exact g _ m
  · exact (g _ m).swap
theorem lnk_mem {zs : List Str} {ps : List SS} {a b : Str} : b ∈ lnk zs ps a ↔ b ∈ zs ∧ (a, b) ∈ ps := by
  unfold lnk
  rw [List.mem_filter, decide_eq_true_eq]
theorem lnk_dAll {zs : List Str} {ds : List SS} (g : ∀ p ∈ ds, goodP zs p) : lnk zs (both (dAll zs (lnk zs (both ds)))) = lnk zs (both ds) := by
  refine lnk_congr fun a b => ?_
  have sub : ∀ {a b : Str}, (a, b) ∈ dAll zs (lnk zs (both ds)) → (a, b) ∈ both ds := fun {a b} h => by
    obtain ⟨i, _, _, h3⟩ := dAll_mem.mp h
    exact (lnk_mem.mp h3).2
  have sw : ∀ {a b : Str}, (a, b) ∈ both ds → (b, a) ∈ both ds := fun {a b} h => (both_iff ds b a).mpr ((both_iff ds a b).mp h).symm
  constructor
  · intro h
    rcases (both_iff _ a b).mp h with m | m
    · exact sub m
    · exact sw (sub m)
  · intro h
    obtain ⟨g1, g2, g3⟩ := both_good g h
    obtain ⟨i, hi, ei⟩ := List.getElem_of_mem g1
    obtain ⟨j, hj, ej⟩ := List.getElem_of_mem g2
    have ea : zs[i]? = some a := by rw [List.getElem?_eq_getElem hi, ei]
    have eb : zs[j]? = some b := by rw [List.getElem?_eq_getElem hj, ej]
    rcases Nat.lt_trichotomy i j with z | z | z
    · exact (both_iff _ a b).mpr (.inl (dAll_mem.mpr ⟨i, ea, drop_of eb z, lnk_mem.mpr ⟨g2, h⟩⟩))
    · subst z
      exact absurd (Option.some.inj (ea.symm.trans eb)) g3
    · exact (both_iff _ a b).mpr (.inr (dAll_mem.mpr ⟨j, eb, drop_of ea z, lnk_mem.mpr ⟨g1, sw h⟩⟩))
theorem lnk_sAll {zs : List Str} {ss : List SS} (g : ∀ p ∈ ss, goodP zs p) : lnk zs (sAll zs (lnk zs ss)) = lnk zs ss := by
  refine lnk_congr fun a b => ?_
  rw [sAll_mem, lnk_mem]
  exact ⟨fun h => h.2.2, fun h => ⟨(g _ h).1, (g _ h).2.1, h⟩⟩
theorem dAll_good {zs : List Str} {ds : List SS} (g : ∀ p ∈ ds, goodP zs p) : ∀ p ∈ dAll zs (lnk zs (both ds)), goodP zs p := by
  rintro ⟨a, b⟩ h
  obtain ⟨i, _, _, h3⟩ := dAll_mem.mp h
  exact both_good g (lnk_mem.mp h3).2
theorem sAll_good {zs : List Str} {ss : List SS} (g : ∀ p ∈ ss, goodP zs p) : ∀ p ∈ sAll zs (lnk zs ss), goodP zs p := by
  rintro ⟨a, b⟩ h
  exact g _ (lnk_mem.mp (sAll_mem.mp h).2).2
/-! ### a scene -/
def litAt (zs : List Str) (vw : Str → List Str) (tr : List Trk) (ws : List Wtc) (mt : Bool) (rl r : Nat) : List Str := litN zs vw (stnd tr (r : Nat)) (reachN ws ((ordN tr ws.length mt rl r).take tr.length))
def movAt (tr : List Trk) (r : Nat) : List SS := movN (stnd tr ((r : Int) - 1)) (stnd tr (r : Nat))
def sf (h p w o hd l m : Addr) (mt : Bool) (rl sp : Nat) : List (Str × V) := [("home", .ref h), ("post_rows", .ref p), ("watcher_rows", .ref w), ("has_meet", .bl mt), ("relief_beats", .int (rl : Nat)), ("span_beats", .int (sp : Nat)), ("orders", .ref o), ("hands", .ref hd), ("lights", .ref l), ("moves", .ref m)]
/-- a whole scene -/
structure ScA (C CS : Addr) (H : Hp) (s : Addr) (zs : List Str) (ds ss : List SS) (ps : List Pst) (ws : List Wtc) (mt : Bool) (rl W : Nat) (dx h p w o hd l m : Addr) (xs ys os ls ms : List V) : Prop where
  obj : H s = some (.ins CS dx (sf h p w o hd l m mt rl (spanN (ps.map (·.2)) ws.length rl)))
  fh : HouseAt C H h zs (lnk zs (both ds)) (lnk zs ss)
  fp : H p = some (.lst xs)
  fps : PsL H xs ps
  fw : H w = some (.lst ys)
  fws : WtL H ys ws
  fo : H o = some (.lst os)
  fos : OrL H os ((List.range W).map (ordN (ps.map (·.2)) ws.length mt rl))
  fhd : LinkAt H hd zs (handN zs (lnk zs (both ds)))
  fl : H l = some (.lst ls)
  fls : SsL H ls ((List.range W).map (litAt zs (lnk zs ss) (ps.map (·.2)) ws mt rl))
  fm : H m = some (.lst ms)
  fms : MvL H ms ((List.range W).map (movAt (ps.map (·.2))))
  fwh : IsWh (ps.map (·.2)) ws.length mt rl W
structure ScOk (zs : List Str) (ds ss : List SS) (ps : List Pst) (ws : List Wtc) (rl : Nat) : Prop where
  names : Names zs
  eight : zs.length ≤ 8
  dg : ∀ p ∈ ds, goodP zs p
  sg : ∀ p ∈ ss, goodP zs p
  pok : PsOk zs (lnk zs (both ds)) ps
  wok : WtOk ws
  bare : ps.length ≤ ws.length
  rl4 : rl ≤ 4
def SceneAt (C CS : Addr) (H : Hp) (s : Addr) (zs : List Str) (ds ss : List SS) (ps : List Pst) (ws : List Wtc) (mt : Bool) (rl W : Nat) : Prop := ScOk zs ds ss ps ws rl ∧ ∃ dx h p w o hd l m xs ys os ls ms, ScA C CS H s zs ds ss ps ws mt rl W dx h p w o hd l m xs ys os ls ms
theorem ScA.same {C CS : Addr} {H H' : Hp} {s : Addr} {zs : List Str} {ds ss : List SS} {ps : List Pst} {ws : List Wtc} {mt : Bool} {rl W : Nat} {dx h p w o hd l m : Addr} {xs ys os ls ms : List V} (a : ScA C CS H s zs ds ss ps ws mt rl W dx h p w o hd l m xs ys os ls ms) (e : Same H H') : ScA C CS H' s zs ds ss ps ws mt rl W dx h p w o hd l m xs ys os ls ms :=
  ⟨e _ _ a.obj, a.fh.same e, e _ _ a.fp, PsL.same a.fps e, e _ _ a.fw, WtL.same a.fws e, e _ _ a.fo, OrL.same a.fos e, a.fhd.same e, e _ _ a.fl, SsL.same a.fls e, e _ _ a.fm, MvL.same a.fms e, a.fwh⟩
theorem SceneAt.same {C CS : Addr} {H H' : Hp} {s : Addr} {zs : List Str} {ds ss : List SS} {ps : List Pst} {ws : List Wtc} {mt : Bool} {rl W : Nat} (a : SceneAt C CS H s zs ds ss ps ws mt rl W) (e : Same H H') : SceneAt C CS H' s zs ds ss ps ws mt rl W := by
  obtain ⟨h1, dx, h, p, w, o, hd, l, m, xs, ys, os, ls, ms, h2⟩ := a
  exact ⟨h1, dx, h, p, w, o, hd, l, m, xs, ys, os, ls, ms, h2.same e⟩
theorem ScOk.tr {zs : List Str} {ds ss : List SS} {ps : List Pst} {ws : List Wtc} {rl : Nat} (h : ScOk zs ds ss ps ws rl) : TrOk (ps.map (·.2)) := by
  refine ⟨by rw [List.length_map]; exact h.pok.five, fun p hp => ?_, fun p hp => ?_⟩
  · obtain ⟨q, hq, rfl⟩ := List.mem_map.mp hp
    exact (h.pok.rnd q hq).one
  · obtain ⟨q, hq, rfl⟩ := List.mem_map.mp hp
    exact (h.pok.rnd q hq).six
theorem ScOk.trIn {zs : List Str} {ds ss : List SS} {ps : List Pst} {ws : List Wtc} {rl : Nat} (h : ScOk zs ds ss ps ws rl) : ∀ t ∈ ps.map (·.2), ∀ r ∈ t.1, r ∈ zs := by
  intro t ht r hr
  obtain ⟨q, hq, rfl⟩ := List.mem_map.mp ht
  exact (h.pok.rnd q hq).mem r hr
theorem ScOk.trStr {zs : List Str} {ds ss : List SS} {ps : List Pst} {ws : List Wtc} {rl : Nat} (h : ScOk zs ds ss ps ws rl) : ∀ t ∈ ps.map (·.2), ∀ r ∈ t.1, PyData.strOk r = true := fun t ht r hr => nm_ok (h.names.2 r (h.trIn t ht r hr))
def spScInit (C CS : Addr) : Sp := fun vs H Q _ => ∃ (H0 : Hp) (s dx h p w : Addr) (zs : List Str) (ds ss : List SS) (xs ys : List V) (ps : List Pst) (ws : List Wtc) (mt : Bool) (rl : Nat), vs = [.ref s, .ref h, .ref p, .ref w, .bl mt, .int (rl : Nat)] ∧ Same H0 H ∧ H0 s = none ∧ H s = some (.ins CS dx []) ∧ HouseAt C H0 h zs (lnk zs (both ds)) (lnk zs ss) ∧ H0 p = some (.lst xs) ∧ PsL H0 xs ps ∧ H0 w = some (.lst ys) ∧ WtL H0 ys ws ∧ ScOk zs ds ss ps ws rl ∧
  ∀ (H' : Hp) (W : Nat), Same H0 H' → SceneAt C CS H' s zs ds ss ps ws mt rl W → Q .non H'
end Dk
namespace Dk
open PySem L2
/-! ### the law's rounds -/
def spLawHand : Sp := fun vs H Q _ => ∃ (t : Addr) (zs : List Str) (ds ss : List SS) (z : Str), vs = [.ref t, .str z] ∧ LHouse H t zs ds ss ∧ Good zs ds ss ∧ z ∈ zs ∧ ∀ (H' : Hp) (p : Addr), Same H H' → H p = none → H' p = some (.lst ((handN zs (lnk zs (both ds)) z).map V.str)) → Q (.ref p) H'
def spLawRound : Sp := fun vs H Q _ => ∃ (b l t : Addr) (m : Int) (zs : List Str) (ds ss : List SS), vs = [.ref b, .ref t, .int m] ∧ Box H b l ∧ LHouseN b H t zs ds ss ∧ Good zs ds ss ∧ 1 ≤ m ∧ m ≤ 6 ∧
  ∀ (H' : Hp) (p : Addr) (rs : List Str), Sav b H H' → Box H' b l → H p = none → H' p = some (.tup (rs.map V.str)) → Rnd zs (lnk zs (both ds)) rs → (rs.length : Int) ≤ m → Q (.ref p) H'
def adj (bh : Str → List Str) (x y : Str) : Prop := y ∈ bh x ∨ x = y
theorem adj_sym {zs : List Str} {ds : List SS} {x y : Str} (hx : x ∈ zs) (h : adj (lnk zs (both ds)) x y) : adj (lnk zs (both ds)) y x := by
  rcases h with h | h
  · exact .inl (lnk_mem.mpr ⟨hx, (both_iff ds y x).mpr ((both_iff ds x y).mp (lnk_mem.mp h).2).symm⟩)
  · exact .inr h.symm
theorem hand_iff {zs : List Str} {bh : Str → List Str} {x y : Str} : y ∈ handN zs bh x ↔ y ∈ zs ∧ adj bh x y := by
  unfold handN adj
  rw [List.mem_filter, Bool.or_eq_true, decide_eq_true_eq, decide_eq_true_eq]
/-- a walk through doors and stays -/
def Walk1 (zs : List Str) (bh : Str → List Str) (w : List Str) : Prop := (∀ r ∈ w, r ∈ zs) ∧ ∀ (i : Nat) (x y : Str), w[i]? = some x → w[i + 1]? = some y → adj bh x y
theorem Walk1.one {zs : List Str} {bh : Str → List Str} {x : Str} (h : x ∈ zs) : Walk1 zs bh [x] := ⟨fun r hr => by rw [List.mem_singleton.mp hr]; exact h, fun i a b _ h2 => by simp at h2⟩
theorem Walk1.snoc {zs : List Str} {bh : Str → List Str} {w : List Str} {x y : Str} (h : Walk1 zs bh w) (hl : w[w.length - 1]? = some x) (hy : y ∈ zs) (ha : adj bh x y) : Walk1 zs bh (w ++ [y]) := by
  have w0 : 0 < w.length := by
    have := (List.getElem?_eq_some_iff.mp hl).1
    omega
  refine ⟨fun r hr => ?_, fun i a b h1 h2 => ?_⟩
  · rcases List.mem_append.mp hr with z | z
    · exact h.1 r z
    · rw [List.mem_singleton.mp z]
      exact hy
  · have hb : i + 1 < (w ++ [y]).length := (List.getElem?_eq_some_iff.mp h2).1
    rw [List.length_append] at hb
    have hb' : i + 1 < w.length + 1 := hb
    rw [List.getElem?_append_left (by omega)] at h1
    by_cases hi : i + 1 < w.length
    · rw [List.getElem?_append_left hi] at h2
      exact h.2 i a b h1 h2
    · have e : i = w.length - 1 := by omega
      rw [List.getElem?_append_right (by omega), show i + 1 - w.length = 0 by omega] at h2
      have e2 : y = b := Option.some.inj h2
      rw [e, hl] at h1
      rw [← Option.some.inj h1, ← e2]
      exact ha
theorem Walk1.take {zs : List Str} {bh : Str → List Str} {w : List Str} (h : Walk1 zs bh w) (n : Nat) : Walk1 zs bh (w.take n) := by
  refine ⟨fun r hr => h.1 r (List.mem_of_mem_take hr), fun i a b h1 h2 => ?_⟩
  rw [List.getElem?_take] at h1 h2
  split at h1
  · split at h2
    · exact h.2 i a b h1 h2
    · cases h2
  · cases h1
theorem rnd_of {zs : List Str} {bh : Str → List Str} {rs : List Str} (h1 : 1 ≤ rs.length) (h6 : rs.length ≤ 6) (hm : ∀ r ∈ rs, r ∈ zs) (ha : ∀ i x y, rs[i]? = some x → rs[(i + 1) % rs.length]? = some y → adj bh x y) : Rnd zs bh rs := by
  refine ⟨h1, h6, hm, fun i r hr => ?_⟩
  have e : rs[(i + 1) % rs.length]? = some (nxt rs i) := by
    unfold nxt
    rw [List.getD_eq_getElem?_getD, List.getElem?_eq_getElem (Nat.mod_lt _ h1)]
    rfl
  exact ha i r _ hr e
/-- a walk that can be closed is a round -/
theorem walk_rnd {zs : List Str} {bh : Str → List Str} {w : List Str} (h : Walk1 zs bh w) (h1 : 1 ≤ w.length) (h6 : w.length ≤ 6) {x y : Str} (hl : w[w.length - 1]? = some x) (h0 : w[0]? = some y) (hc : adj bh x y) : Rnd zs bh w := by
  refine rnd_of h1 h6 h.1 fun i a b ea eb => ?_
  have hi : i < w.length := (List.getElem?_eq_some_iff.mp ea).1
  by_cases z : i + 1 < w.length
  · rw [Nat.mod_eq_of_lt z] at eb
    exact h.2 i a b ea eb
  · have e : i + 1 = w.length := by omega
    rw [e, Nat.mod_self] at eb
    have e2 : i = w.length - 1 := by omega
    rw [e2, hl] at ea
    rw [h0] at eb
    rw [← Option.some.inj ea, ← Option.some.inj eb]
    exact hc
def bnc (w : List Str) : List Str := w ++ ((w.drop 1).take (w.length - 2)).reverse
theorem bnc_len {w : List Str} (h : 2 ≤ w.length) : (bnc w).length = 2 * w.length - 2 := by
  unfold bnc
  rw [List.length_append, List.length_reverse, List.length_take, List.length_drop]
  omega
theorem bnc_at {w : List Str} (h : 2 ≤ w.length) {i : Nat} (hi : i < 2 * w.length - 2) : (bnc w)[i]? = w[if i < w.length then i else 2 * w.length - 2 - i]? := by
  unfold bnc
  by_cases z : i < w.length
  · rw [if_pos z, List.getElem?_append_left z]
  · have ll : ((w.drop 1).take (w.length - 2)).length = w.length - 2 := by
      rw [List.length_take, List.length_drop]
      omega
    rw [if_neg z, List.getElem?_append_right (by omega), List.getElem?_reverse (by rw [ll]; omega), ll, List.getElem?_take_of_lt (by omega), List.getElem?_drop]
    congr 1
    omega
theorem bnc_rnd {zs : List Str} {ds : List SS} {w : List Str} (h : Walk1 zs (lnk zs (both ds)) w) (h2 : 2 ≤ w.length) (h6 : w.length ≤ 4) : Rnd zs (lnk zs (both ds)) (bnc w) := by
  have ln := bnc_len h2
  refine rnd_of (by omega) (by omega) (fun r hr => ?_) fun i a b ea eb => ?_
  · unfold bnc at hr
    rcases List.mem_append.mp hr with z | z
    · exact h.1 r z
    · exact h.1 r (List.mem_of_mem_drop (List.mem_of_mem_take (List.mem_reverse.mp z)))
  · have hi : i < 2 * w.length - 2 := by
      rw [← ln]
      exact (List.getElem?_eq_some_iff.mp ea).1
    rw [ln] at eb
    have hj : (i + 1) % (2 * w.length - 2) < 2 * w.length - 2 := Nat.mod_lt _ (by omega)
    have ej : (i + 1) % (2 * w.length - 2) = if i + 1 = 2 * w.length - 2 then 0 else i + 1 := by
      split
      · rename_i z
        rw [z, Nat.mod_self]
      · exact Nat.mod_eq_of_lt (by omega)
    rw [bnc_at h2 hi] at ea
    rw [bnc_at h2 hj] at eb
    generalize hp : (if i < w.length then i else 2 * w.length - 2 - i) = p at ea
    generalize hq : (if (i + 1) % (2 * w.length - 2) < w.length then (i + 1) % (2 * w.length - 2) else 2 * w.length - 2 - (i + 1) % (2 * w.length - 2)) = q at eb
    rw [ej] at hq
    have key : q = p + 1 ∨ p = q + 1 := by
      split at hp <;> split at hq <;> split at hq <;> omega
    rcases key with z | z
    · rw [z] at eb
      exact h.2 p a b ea eb
    · rw [z] at ea
      exact adj_sym (h.1 b (List.mem_of_getElem? eb)) (h.2 q b a eb ea)
theorem cut_mid {xs : List V} (h : 2 ≤ xs.length) : cutV xs (some 1) (some (-1)) = (xs.drop 1).take (xs.length - 2) := by
  unfold cutV
  have e1 : HT.sIx xs.length 0 (some 1) = 1 := by
    rw [show HT.sIx xs.length 0 (some 1) = min 1 xs.length from HT.sIx_nat _ 0 1]
    omega
  have e2 : HT.sIx xs.length xs.length (some (-1)) = xs.length - 1 := by
    unfold HT.sIx
    simp
    try omega
  rw [e1, e2]
  congr 1
theorem at_last {xs : List V} {x : V} (h : xs[xs.length - 1]? = some x) : atI xs (-1) = some x := by
  have hl := (List.getElem?_eq_some_iff.mp h).1
  unfold atI ixN
  rw [if_neg (by decide), if_pos (by omega)]
  show xs[((-1 : Int) + (xs.length : Nat)).toNat]? = some x
  rw [show ((-1 : Int) + (xs.length : Nat)).toNat = xs.length - 1 by omega]
  exact h
/-! ### the law's own scene -/
def mkv (t f lm : Addr) (mt : Bool) (rl : Nat) : List (Key × V) := [(.inr "house", .ref t), (.inr "posts", .ref f), (.inr "lamps", .ref lm), (.inr "meet", .bl mt), (.inr "relief", .int (rl : Nat))]
structure MA (b : Addr) (H : Hp) (m t f lm : Addr) (zs : List Str) (ds ss : List SS) (xs ys : List V) (ps : List Pst) (ws : List Wtc) (mt : Bool) (rl : Nat) : Prop where
  md : H m = some (.dK (mkv t f lm mt rl))
  nm : m ≠ b
  nf : f ≠ b
  nl : lm ≠ b
  lh : LHouseN b H t zs ds ss
  fp : H f = some (.lst xs)
  fps : PsL H xs ps
  fl : H lm = some (.lst ys)
  fls : WtL H ys ws
  good : Good zs ds ss
  ok : ScOk zs ds ss ps ws rl
theorem MA.sav {b l : Addr} {H H' : Hp} {m t f lm : Addr} {zs : List Str} {ds ss : List SS} {xs ys : List V} {ps : List Pst} {ws : List Wtc} {mt : Bool} {rl : Nat} (a : MA b H m t f lm zs ds ss xs ys ps ws mt rl) (hB : Box H b l) (v : Sav b H H') : MA b H' m t f lm zs ds ss xs ys ps ws mt rl :=
  ⟨v _ _ a.nm a.md, a.nm, a.nf, a.nl, a.lh.sav hB v, v _ _ a.nf a.fp, PsL.keep a.fps (v.keepT hB), v _ _ a.nl a.fl, WtL.keep a.fls (v.keepT hB), a.good, a.ok⟩
theorem LHouseN.same {b : Addr} {H H' : Hp} {t : Addr} {zs : List Str} {ds ss : List SS} (h : LHouseN b H t zs ds ss) (e : Same H H') : LHouseN b H' t zs ds ss := by
  obtain ⟨r, d, s, xs, us, n1, n2, n3, h1, h2, h3, h4, h5, h6⟩ := h
  exact ⟨r, d, s, xs, us, n1, n2, n3, e _ _ h1, e _ _ h2, e _ _ h3, h4.same e, e _ _ h5, h6.same e⟩
theorem MA.same {b : Addr} {H H' : Hp} {m t f lm : Addr} {zs : List Str} {ds ss : List SS} {xs ys : List V} {ps : List Pst} {ws : List Wtc} {mt : Bool} {rl : Nat} (a : MA b H m t f lm zs ds ss xs ys ps ws mt rl) (e : Same H H') : MA b H' m t f lm zs ds ss xs ys ps ws mt rl :=
  ⟨e _ _ a.md, a.nm, a.nf, a.nl, a.lh.same e, e _ _ a.fp, PsL.same a.fps e, e _ _ a.fl, WtL.same a.fls e, a.good, a.ok⟩
theorem Good.fit {zs : List Str} {ds ss : List SS} (g : Good zs ds ss) : Fit zs ds ss := ⟨g.names, g.eight, g.dg, g.sg, by have := g.dl; omega, by have := g.sl; omega, g.sn⟩
theorem Names.take {zs : List Str} (h : Names zs) (n : Nat) : Names (zs.take n) := ⟨h.1.sublist (List.take_sublist n zs), fun z hz => h.2 z (List.mem_of_mem_take hz)⟩
/-- all but two, and all tuples -/
structure Sv2 (b q : Addr) (A B : Hp) : Prop where
  tup : KeepT A B
  old : ∀ x o, x ≠ b → x ≠ q → A x = some o → B x = some o
theorem Sv2.sav {b l q : Addr} {A B : Hp} (v : Sav b A B) (hB : Box A b l) : Sv2 b q A B := ⟨v.keepT hB, fun x o n _ h => v x o n h⟩
theorem Sv2.of {b q : Addr} {A B : Hp} (e : Same A B) : Sv2 b q A B := ⟨KeepT.of e, fun x o _ _ h => e x o h⟩
theorem Sv2.trans {b q : Addr} {A B C : Hp} (x : Sv2 b q A B) (y : Sv2 b q B C) : Sv2 b q A C := ⟨x.tup.trans y.tup, fun z o n1 n2 h => y.old z o n1 n2 (x.old z o n1 n2 h)⟩
theorem Sv2.put {b q : Addr} {A : Hp} {xs : List V} {o : HO} (h : A q = some (.lst xs)) : Sv2 b q A (upd A q o) := ⟨KeepT.lst h, fun x u _ n e => by rw [upd_ne n]; exact e⟩
/-- a law's house whose lists are none of two -/
structure LH2 (b q : Addr) (H : Hp) (t r d s : Addr) (zs : List Str) (ds ss : List SS) (xs us : List V) : Prop where
  rb : r ≠ b
  db : d ≠ b
  sb : s ≠ b
  rq : r ≠ q
  dq : d ≠ q
  sq : s ≠ q
  h1 : H t = some (.tup [.ref r, .ref d, .ref s])
  h2 : H r = some (.lst (zs.map V.str))
  h3 : H d = some (.lst xs)
  h4 : PL H xs ds
  h5 : H s = some (.lst us)
  h6 : PL H us ss
theorem LH2.mv {b q : Addr} {H H' : Hp} {t r d s : Addr} {zs : List Str} {ds ss : List SS} {xs us : List V} (a : LH2 b q H t r d s zs ds ss xs us) (v : Sv2 b q H H') : LH2 b q H' t r d s zs ds ss xs us :=
  ⟨a.rb, a.db, a.sb, a.rq, a.dq, a.sq, v.tup _ _ a.h1, v.old _ _ a.rb a.rq a.h2, v.old _ _ a.db a.dq a.h3, a.h4.keep v.tup, v.old _ _ a.sb a.sq a.h5, a.h6.keep v.tup⟩
theorem LH2.lh {b q : Addr} {H : Hp} {t r d s : Addr} {zs : List Str} {ds ss : List SS} {xs us : List V} (a : LH2 b q H t r d s zs ds ss xs us) : LHouseN b H t zs ds ss := ⟨r, d, s, xs, us, a.rb, a.db, a.sb, a.h1, a.h2, a.h3, a.h4, a.h5, a.h6⟩
theorem Names.eq {zs ws : List Str} (e : ws = zs) (h : Names zs) : Names ws := by rw [e]; exact h
theorem key_no {f : Str} {ks : List Str} (h : f ∉ ks) : (Sum.inr f : Key) ∉ ks.map (fun z => (Sum.inr z : Key)) := fun m => by
  obtain ⟨z, hz, e⟩ := List.mem_map.mp m
  exact h (by rw [← Sum.inr.inj e]; exact hz)
theorem putK_str {kvs : List (Key × V)} {f : Str} {v : V} (ks : List Str) (e : kvs.map (·.1) = ks.map (fun z => (Sum.inr z : Key))) (h : f ∉ ks) : putK kvs (Sum.inr f : Key) v = kvs ++ [((Sum.inr f : Key), v)] := by
  unfold putK
  rw [if_neg]
  intro z
  obtain ⟨p, hp, hq⟩ := List.any_eq_true.mp z
  apply key_no h
  rw [← e, ← of_decide_eq_true hq]
  exact List.mem_map.mpr ⟨p, hp, rfl⟩
theorem valK_in {k : Key} {v : V} : ∀ {kvs : List (Key × V)} (i : Nat) (ks : List Key), (kvs.take i).map (·.1) = ks → k ∉ ks → kvs[i]? = some (k, v) → valV kvs k = some v
  | [], _, _, _, _, h => by simp at h
  | (g, u) :: r, 0, _, _, _, h => by
    have e := Option.some.inj h
    rw [(Prod.mk.inj e).1, (Prod.mk.inj e).2]
    exact valV_pos (p := (k, v)) rfl
  | (g, u) :: r, i + 1, _, e, n, h => by
    subst e
    have h1 : ¬ g = k := fun z => n (by rw [← z]; exact List.mem_cons_self)
    rw [valV_neg (p := (g, u)) h1]
    exact valK_in i _ rfl (fun z => n (List.mem_cons_of_mem _ z)) h
theorem valK_at {f : Str} {v : V} {kvs : List (Key × V)} (i : Nat) (ks : List Str) (e : (kvs.take i).map (·.1) = ks.map (fun z => (Sum.inr z : Key))) (h : f ∉ ks) (g : kvs[i]? = some ((Sum.inr f : Key), v)) : valV kvs (Sum.inr f : Key) = some v := valK_in i _ e (key_no h) g
end Dk
namespace Dk
open PySem L2
/-! ### the fields of a scene -/
section
variable {h p w o hd l m : Addr} {mt : Bool} {rl sp : Nat}
theorem sfl_home : (sf h p w o hd l m mt rl sp).lookup ("home" : Str) = some (.ref h) := lk_at 0 [] rfl (by simp) rfl
theorem sfl_orders : (sf h p w o hd l m mt rl sp).lookup ("orders" : Str) = some (.ref o) := lk_at 6 ["home", "post_rows", "watcher_rows", "has_meet", "relief_beats", "span_beats"] rfl (by decide +kernel) rfl
theorem sfl_hands : (sf h p w o hd l m mt rl sp).lookup ("hands" : Str) = some (.ref hd) := lk_at 7 ["home", "post_rows", "watcher_rows", "has_meet", "relief_beats", "span_beats", "orders"] rfl (by decide +kernel) rfl
theorem sfl_lights : (sf h p w o hd l m mt rl sp).lookup ("lights" : Str) = some (.ref l) := lk_at 8 ["home", "post_rows", "watcher_rows", "has_meet", "relief_beats", "span_beats", "orders", "hands"] rfl (by decide +kernel) rfl
theorem sfl_moves : (sf h p w o hd l m mt rl sp).lookup ("moves" : Str) = some (.ref m) := lk_at 9 ["home", "post_rows", "watcher_rows", "has_meet", "relief_beats", "span_beats", "orders", "hands", "lights"] rfl (by decide +kernel) rfl
theorem sf_no {f : Str} (n : f ∉ (["home", "post_rows", "watcher_rows", "has_meet", "relief_beats", "span_beats", "orders", "hands", "lights", "moves"] : List Str)) : (sf h p w o hd l m mt rl sp).lookup f = none := lk_none _ rfl n
end
structure STxt (K : PySem.W.Frag) (CS : Addr) : Prop where
  cl : Cls K CS
  n_home : NoAttr K CS "home"
  n_post_rows : NoAttr K CS "post_rows"
  n_watcher_rows : NoAttr K CS "watcher_rows"
  n_has_meet : NoAttr K CS "has_meet"
  n_relief_beats : NoAttr K CS "relief_beats"
  n_span_beats : NoAttr K CS "span_beats"
  n_orders : NoAttr K CS "orders"
  n_hands : NoAttr K CS "hands"
  n_lights : NoAttr K CS "lights"
  n_moves : NoAttr K CS "moves"
/-! ### what a scene tells -/
def beatOk (b : Int) : Prop := -1000000000 ≤ b ∧ b ≤ 1000000000
def spIsBeat : Sp := fun vs H Q _ => ∃ b : Int, vs = [.int b] ∧ beatOk b ∧ Q (.bl true) H
def spNeedBeat : Sp := fun vs H Q _ => ∃ b : Int, vs = [.int b] ∧ beatOk b ∧ Q .non H
end Dk
namespace Dk
open PySem L2
/-! ### a scene stays while the box is drawn from -/
section
variable {b l : Addr} {H H' : Hp}
theorem Box.str {q : Addr} {zs : List Str} (hB : Box H b l) (h : H q = some (.lst (zs.map V.str))) : q ≠ b := fun z => by
  obtain ⟨ns, i, c, s, t, h1, _⟩ := hB
  rw [z, h1] at h
  cases zs with
  | nil => cases HO.lst.inj (Option.some.inj h)
  | cons x r => cases (List.cons.inj (HO.lst.inj (Option.some.inj h))).1
theorem Box.nat {q : Addr} {os : List Nat} (hB : Box H b l) (h : H q = some (.lst (os.map natV))) : q ≠ b := fun z => by
  obtain ⟨ns, i, c, s, t, h1, _⟩ := hB
  rw [z, h1] at h
  cases os with
  | nil => cases HO.lst.inj (Option.some.inj h)
  | cons x r => cases (List.cons.inj (HO.lst.inj (Option.some.inj h))).1
theorem Box.refs {α : Type} {R : Hp → V → α → Prop} {q : Addr} {xs : List V} {ps : List α} (hB : Box H b l) (h : H q = some (.lst xs)) (a : AL R H xs ps) (m : ∀ x p, R H x p → ∃ r, x = V.ref r) : q ≠ b := fun z => by
  obtain ⟨ns, i, c, s, t, h1, _⟩ := hB
  rw [z, h1] at h
  have e : bxv l i c s t = xs := HO.lst.inj (Option.some.inj h)
  have e1 : xs[1]? = some (.int i) := by rw [← e]; rfl
  obtain ⟨p, _, hp⟩ := a.at e1
  obtain ⟨r, hr⟩ := m _ _ hp
  cases hr
theorem Box.ndk {q : Addr} {m : List (Key × V)} (hB : Box H b l) (h : H q = some (.dK m)) : q ≠ b := fun z => by
  obtain ⟨ns, i, c, s, t, h1, _⟩ := hB
  rw [z, h1] at h
  cases h
theorem Box.nins {q C dx : Addr} {fs : List (Str × V)} (hB : Box H b l) (h : H q = some (.ins C dx fs)) : q ≠ b := fun z => by
  obtain ⟨ns, i, c, s, t, h1, _⟩ := hB
  rw [z, h1] at h
  cases h
theorem LinkAt.sav {d : Addr} {zs : List Str} {f : Str → List Str} (a : LinkAt H d zs f) (hB : Box H b l) (v : Sav b H H') : LinkAt H' d zs f := by
  obtain ⟨as, h1, h2, h3⟩ := a
  exact ⟨as, h1, v _ _ (hB.ndk h2) h2, fun i z p x y => v _ _ (hB.str (h3 i z p x y)) (h3 i z p x y)⟩
theorem HouseAt.sav {C h : Addr} {zs : List Str} {bh vw : Str → List Str} (a : HouseAt C H h zs bh vw) (hB : Box H b l) (v : Sav b H H') : HouseAt C H' h zs bh vw := by
  obtain ⟨dx, n, bx, vx, h1, h2, h3, h4, h5⟩ := a
  exact ⟨dx, n, bx, vx, v _ _ (hB.nins h1) h1, v _ _ (hB.str h2) h2, h3.sav hB v, h4.sav hB v, h5⟩
theorem OrL.sav {xs : List V} {ps : List (List Nat)} (h : OrL H xs ps) (hB : Box H b l) (v : Sav b H H') : OrL H' xs ps := AL.mono h fun x p ⟨q, e, z⟩ => ⟨q, e, v _ _ (hB.nat z) z⟩
theorem SsL.sav {xs : List V} {ps : List (List Str)} (h : SsL H xs ps) (hB : Box H b l) (v : Sav b H H') : SsL H' xs ps := AL.mono h fun x p ⟨q, e, z⟩ => ⟨q, e, v _ _ (hB.str z) z⟩
theorem PL.refs {xs : List V} {ps : List SS} (h : PL H xs ps) : AL Pr H xs ps := h
theorem MvL.sav {xs : List V} {ps : List (List SS)} (h : MvL H xs ps) (hB : Box H b l) (v : Sav b H H') : MvL H' xs ps := AL.mono h fun x p ⟨q, ys, e, z, y⟩ => ⟨q, ys, e, v _ _ (hB.refs z (PL.refs y) fun _ _ ⟨r, e, _⟩ => ⟨r, e⟩) z, y.keep (v.keepT hB)⟩
theorem ScA.sav {C CS : Addr} {s : Addr} {zs : List Str} {ds ss : List SS} {ps : List Pst} {ws : List Wtc} {mt : Bool} {rl W : Nat} {dx h p w o hd lg m : Addr} {xs ys os ls ms : List V} (a : ScA C CS H s zs ds ss ps ws mt rl W dx h p w o hd lg m xs ys os ls ms) (hB : Box H b l) (v : Sav b H H') : ScA C CS H' s zs ds ss ps ws mt rl W dx h p w o hd lg m xs ys os ls ms :=
  ⟨v _ _ (hB.nins a.obj) a.obj, a.fh.sav hB v, v _ _ (hB.refs a.fp a.fps fun _ _ ⟨q, t, e, _⟩ => ⟨q, e⟩) a.fp, PsL.keep a.fps (v.keepT hB), v _ _ (hB.refs a.fw a.fws fun _ _ ⟨q, e, _⟩ => ⟨q, e⟩) a.fw, WtL.keep a.fws (v.keepT hB), v _ _ (hB.refs a.fo a.fos fun _ _ ⟨q, e, _⟩ => ⟨q, e⟩) a.fo, OrL.sav a.fos hB v, a.fhd.sav hB v, v _ _ (hB.refs a.fl a.fls fun _ _ ⟨q, e, _⟩ => ⟨q, e⟩) a.fl, SsL.sav a.fls hB v, v _ _ (hB.refs a.fm a.fms fun _ _ ⟨q, _, e, _⟩ => ⟨q, e⟩) a.fm, MvL.sav a.fms hB v, a.fwh⟩
theorem SceneAt.sav {C CS : Addr} {s : Addr} {zs : List Str} {ds ss : List SS} {ps : List Pst} {ws : List Wtc} {mt : Bool} {rl W : Nat} (a : SceneAt C CS H s zs ds ss ps ws mt rl W) (hB : Box H b l) (v : Sav b H H') : SceneAt C CS H' s zs ds ss ps ws mt rl W := by
  obtain ⟨h1, dx, h, p, w, o, hd, lg, m, xs, ys, os, ls, ms, h2⟩ := a
  exact ⟨h1, dx, h, p, w, o, hd, lg, m, xs, ys, os, ls, ms, h2.sav hB v⟩
end
theorem MA.posts {b : Addr} {H H' : Hp} {m t f lm : Addr} {zs : List Str} {ds ss : List SS} {xs ys : List V} {ps : List Pst} {ws : List Wtc} {mt : Bool} {rl : Nat} (a : MA b H m t f lm zs ds ss xs ys ps ws mt rl) (e : Same H H') : DGet H' m (.str "posts") (some (.ref f)) := by
  have h : valV (mkv t f lm mt rl) (Sum.inr "posts" : Key) = some (.ref f) := valK_at 1 ["house"] rfl (by decide +kernel) rfl
  rw [← h]
  exact DGet.k (k := (Sum.inr "posts" : Key)) (e _ _ a.md)
theorem MA.lamps {b : Addr} {H H' : Hp} {m t f lm : Addr} {zs : List Str} {ds ss : List SS} {xs ys : List V} {ps : List Pst} {ws : List Wtc} {mt : Bool} {rl : Nat} (a : MA b H m t f lm zs ds ss xs ys ps ws mt rl) (e : Same H H') : DGet H' m (.str "lamps") (some (.ref lm)) := by
  have h : valV (mkv t f lm mt rl) (Sum.inr "lamps" : Key) = some (.ref lm) := valK_at 2 ["house", "posts"] rfl (by decide +kernel) rfl
  rw [← h]
  exact DGet.k (k := (Sum.inr "lamps" : Key)) (e _ _ a.md)
end Dk
namespace Dk
open PySem L2
/-! ### each watcher stands at one place -/
def Inj (o : List Nat) : Prop := ∀ (i j x : Nat), o[i]? = some x → o[j]? = some x → i = j
theorem Inj.nodup {o : List Nat} (h : Inj o) : o.Nodup := by
  refine List.pairwise_iff_getElem.mpr fun i j hi hj hij e => ?_
  have := h i j o[i] (List.getElem?_eq_getElem hi) (by rw [List.getElem?_eq_getElem hj, e])
  omega
theorem inj_range (n : Nat) : Inj (List.range n) := fun i j x h1 h2 => by
  have a := (List.getElem?_eq_some_iff.mp h1)
  have b := (List.getElem?_eq_some_iff.mp h2)
  obtain ⟨_, e1⟩ := a
  obtain ⟨_, e2⟩ := b
  rw [List.getElem_range] at e1 e2
  omega
theorem inj_map {o u : List Nat} {f : Nat → Nat} (h : Inj o) (hu : ∀ k x, u[k]? = some x → o[f k]? = some x) (hf : ∀ i j, i < u.length → j < u.length → f i = f j → i = j) : Inj u := fun i j x h1 h2 =>
  hf i j (List.getElem?_eq_some_iff.mp h1).1 (List.getElem?_eq_some_iff.mp h2).1 (h _ _ x (hu i x h1) (hu j x h2))
theorem inj_sw {o : List Nat} {i j : Nat} (h : Inj o) (hi : i < o.length) (hj : j < o.length) : Inj (swN o i j) := by
  refine inj_map (f := fun k => if k = j then i else if k = i then j else k) h (fun k x e => ?_) (fun a b _ _ e => ?_)
  · rw [swN_at hi hj] at e
    show o[if k = j then i else if k = i then j else k]? = some x
    split
    · rename_i z
      rw [if_pos z] at e
      exact e
    · rename_i z
      rw [if_neg z] at e
      split
      · rename_i y
        rw [if_pos y] at e
        exact e
      · rename_i y
        rw [if_neg y] at e
        exact e
  · split at e <;> split at e <;> (try split at e) <;> (try split at e) <;> omega
theorem inj_hoIn {rs : List Str} {f : Nat} {o : List Nat} (h : Inj o) : ∀ {k}, f + k < o.length → Inj (hoIn rs f k o)
  | 0, _ => h
  | k + 1, hk => by
    unfold hoIn
    split
    · exact inj_sw (inj_hoIn h (by omega)) (by rw [hoIn_len]; omega) (by rw [hoIn_len]; omega)
    · exact inj_hoIn h (by omega)
theorem inj_hoUp {rs : List Str} {o : List Nat} (h : Inj o) (hr : rs.length ≤ o.length) : ∀ {f}, f ≤ rs.length → Inj (hoUp rs f o)
  | 0, _ => h
  | f + 1, hf => by
    unfold hoUp
    exact inj_hoIn (inj_hoUp h hr (by omega)) (by rw [hoUp_len]; omega)
theorem relN_at {n p : Nat} {o : List Nat} (hn : n < o.length) (hp : p < n) {k : Nat} (hk : k < o.length) : (relN n p o)[k]? = o[if k = p then n else if k < n then k else if k + 1 < o.length then k + 1 else p]? := by
  have l1 : ((o.take n).set p (o.getD n 0)).length = n := by
    rw [List.length_set, List.length_take]
    omega
  have l2 : (o.drop (n + 1)).length = o.length - (n + 1) := List.length_drop ..
  unfold relN
  by_cases k1 : k < n
  · rw [List.getElem?_append_left (by rw [List.length_append, l1]; omega), List.getElem?_append_left (by rw [l1]; exact k1)]
    by_cases k2 : k = p
    · subst k2
      rw [if_pos rfl, List.getElem?_set_self (by rw [List.length_take]; omega), getD_at hn]
    · rw [if_neg k2, if_pos k1, List.getElem?_set_ne (fun z => k2 z.symm), List.getElem?_take_of_lt k1]
  · rw [if_neg (by omega), if_neg k1]
    by_cases k3 : k + 1 < o.length
    · rw [if_pos k3, List.getElem?_append_left (by rw [List.length_append, l1, l2]; omega), List.getElem?_append_right (by rw [l1]; omega), l1, List.getElem?_drop]
      congr 1
      omega
    · have ez : k - ((o.take n).set p (o.getD n 0) ++ o.drop (n + 1)).length = 0 := by
        rw [List.length_append, l1, l2]
        omega
      rw [if_neg k3, List.getElem?_append_right (by rw [List.length_append, l1, l2]; omega), ez, getD_at (o := o) (i := p) (by omega)]
      rfl
theorem inj_rel {n p : Nat} {o : List Nat} (h : Inj o) (hn : n < o.length) (hp : p < n) : Inj (relN n p o) := by
  refine inj_map (f := fun k => if k = p then n else if k < n then k else if k + 1 < o.length then k + 1 else p) h (fun k x e => ?_) (fun a b ha hb e => ?_)
  · have hk : k < o.length := by
      rw [← relN_len (p := p) hn]
      exact (List.getElem?_eq_some_iff.mp e).1
    rw [relN_at hn hp hk] at e
    exact e
  · rw [relN_len hn] at ha hb
    split at e <;> (try split at e) <;> (try split at e) <;> (try split at e) <;> (try split at e) <;> (try split at e) <;> omega
theorem inj_chg {tr : List Trk} {mt : Bool} {rl b : Nat} {o : List Nat} (h : Inj o) (ht : tr.length ≤ o.length) : Inj (chgN tr mt rl b o) := by
  have one : Inj (if mt = true then hoN (stnd tr b) o else o) := by
    split
    · exact inj_hoUp h (by rw [stnd_len]; exact ht) (Nat.le_refl _)
    · exact h
  unfold chgN
  split
  · rename_i hr
    have h2 := hr.1.2.1
    exact inj_rel one (by rw [ho1_len]; exact hr.1.2.2) (Nat.mod_lt _ h2)
  · exact one
theorem inj_ord {tr : List Trk} {many : Nat} {mt : Bool} {rl : Nat} (ht : tr.length ≤ many) : ∀ b, Inj (ordN tr many mt rl b)
  | 0 => inj_range many
  | b + 1 => inj_chg (inj_ord ht b) (by rw [(ordN_ok ht b).1]; exact ht)
theorem all_in {many : Nat} {o : List Nat} (h : OkO many o) (i : Inj o) {k : Nat} (hk : k < many) : k ∈ o := by
  apply Classical.byContradiction
  intro no
  have := nodup_le (U := (List.range many).erase k) i.nodup fun x hx => (List.mem_erase_of_ne (fun z => no (by rw [← z]; exact hx))).mpr (List.mem_range.mpr (h.2 x hx))
  rw [List.length_erase_of_mem (List.mem_range.mpr hk), List.length_range, h.1] at this
  omega
/-! ### who bears, and what -/
def rest (b : Int) (W : Nat) : Nat := (b % (W : Int)).toNat
theorem rest_lt {W : Nat} (h : 0 < W) (b : Int) : rest b W < W ∧ ((rest b W : Nat) : Int) = b % (W : Int) := modlen h b
def spWheelM (C CS : Addr) : Sp := fun vs H Q _ => ∃ (s : Addr) (zs : List Str) (ds ss : List SS) (ps : List Pst) (ws : List Wtc) (mt : Bool) (rl W : Nat), vs = [.ref s] ∧ SceneAt C CS H s zs ds ss ps ws mt rl W ∧ Q (.int (W : Nat)) H
theorem ScA.order {C CS : Addr} {H : Hp} {s : Addr} {zs : List Str} {ds ss : List SS} {ps : List Pst} {ws : List Wtc} {mt : Bool} {rl W : Nat} {dx h p w o hd lg m : Addr} {xs ys os ls ms : List V} (a : ScA C CS H s zs ds ss ps ws mt rl W dx h p w o hd lg m xs ys os ls ms) (b : Int) : os.length = W ∧ ∃ q, atI os (b % ((W : Nat) : Int)) = some (V.ref q) ∧ H q = some (.lst ((ordN (ps.map (·.2)) ws.length mt rl (rest b W)).map natV)) := by
  have ol : os.length = W := by
    have := a.fos.1
    rw [List.length_map, List.length_range] at this
    exact this
  obtain ⟨h1, h2⟩ := rest_lt a.fwh.1 b
  have e : ((List.range W).map (ordN (ps.map (·.2)) ws.length mt rl))[rest b W]? = some (ordN (ps.map (·.2)) ws.length mt rl (rest b W)) := by
    rw [List.getElem?_map, List.getElem?_range h1]
    rfl
  obtain ⟨x, ex, q, rfl, hq⟩ := a.fos.of e
  exact ⟨ol, q, by rw [← h2]; exact atI_nat ex, hq⟩
end Dk
namespace Dk
open PySem L2
/-! ### meetings -/
def posOf : List Nat → Nat → Nat
  | [], _ => 0
  | x :: r, i => if x = i then 0 else posOf r i + 1
theorem posOf_at : ∀ {o : List Nat} {i : Nat}, i ∈ o → o[posOf o i]? = some i
  | [], _, h => by cases h
  | x :: r, i, h => by
    unfold posOf
    by_cases e : x = i
    · rw [if_pos e, e]
      rfl
    · rw [if_neg e, List.getElem?_cons_succ]
      exact posOf_at ((List.mem_cons.mp h).resolve_left fun z => e z.symm)
theorem SceneAt.pos {C CS : Addr} {H : Hp} {s : Addr} {zs : List Str} {ds ss : List SS} {ps : List Pst} {ws : List Wtc} {mt : Bool} {rl W : Nat} (a : SceneAt C CS H s zs ds ss ps ws mt rl W) {i : Nat} (hi : i < ws.length) (b : Int) : (ordN (ps.map (·.2)) ws.length mt rl (rest b W))[posOf (ordN (ps.map (·.2)) ws.length mt rl (rest b W)) i]? = some i :=
  posOf_at (all_in (ordN_ok (by rw [List.length_map]; exact a.1.bare) _) (inj_ord (by rw [List.length_map]; exact a.1.bare) _) hi)
theorem plcS_rest {r : List Str} {w : Nat} (h : r.length ∣ w) (hw : 0 < w) (b : Int) (d : Nat) : plcS r (((rest b w : Nat) : Int) - (d : Nat)) = plcS r (b - (d : Nat)) := by
  obtain ⟨_, e⟩ := rest_lt hw b
  obtain ⟨k, hk⟩ := h
  unfold plcS
  congr 2
  rw [e]
  have : (w : Int) = (r.length : Int) * (k : Int) := by rw [hk, Int.natCast_mul]
  have e2 := Int.emod_add_mul_ediv b (w : Int)
  have e3 : b - (d : Nat) = b % (w : Int) - (d : Nat) + (r.length : Int) * ((k : Int) * (b / (w : Int))) := by
    rw [← Int.mul_assoc, ← this]
    omega
  rw [e3, Int.add_mul_emod_self_left]
/-! ### posts and watchers as data -/
end Dk
namespace Dk
open PySem L2
/-! ### rows of names, changed by the law's own steps -/
/-- whether the law relieves at a beat -/
def relB (n many rl : Nat) (b : Int) : Bool := decide (0 < rl) && (decide (b % (rl : Int) = 0) && (decide (0 < n) && decide (n < many)))
/-- the change at a beat, which may lie below nought -/
def chgI (tr : List Trk) (mt : Bool) (rl : Nat) (b : Int) (o : List Nat) : List Nat :=
  if relB tr.length o.length rl b = true then relN tr.length (b / (rl : Int) % (tr.length : Int)).toNat (if mt = true then hoN (stnd tr b) o else o) else (if mt = true then hoN (stnd tr b) o else o)
def nmW (ws : List Wtc) (i : Nat) : Str := (ws.map (·.1)).getD i Str.empty
/-- rows of names for the beats from lo to hi -/
def RowsIn (H H' : Hp) (D : Addr) (ws : List Wtc) (od : Int → List Nat) (lo hi : Int) : Prop := ∃ kvs : List (Key × V), H' D = some (.dK kvs) ∧ (kvs.length : Int) ≤ hi - lo + 1 ∧ ∀ b, lo ≤ b → b ≤ hi → ∃ p, valV kvs (Sum.inl b : Key) = some (.ref p) ∧ H p = none ∧ p ≠ D ∧ H' p = some (.lst (((od b).map (nmW ws)).map V.str))
theorem RowsIn.put {H H' : Hp} {D : Addr} {ws : List Wtc} {od : Int → List Nat} {lo hi b : Int} {kvs : List (Key × V)} {p : Addr} (hl : (kvs.length : Int) ≤ hi - lo + 1) (h : ∀ c, lo ≤ c → c ≤ hi → ∃ p, valV kvs (Sum.inl c : Key) = some (.ref p) ∧ H p = none ∧ p ≠ D ∧ H' p = some (.lst (((od c).map (nmW ws)).map V.str))) (np : H p = none) (nD : p ≠ D) (hp : H' p = some (.lst (((od b).map (nmW ws)).map V.str))) {lo' hi' : Int} (hw : hi' - lo' = hi - lo + 1) (hh : ∀ c, lo' ≤ c → c ≤ hi' → c = b ∨ (lo ≤ c ∧ c ≤ hi)) : RowsIn H (upd H' D (.dK (putK kvs (Sum.inl b : Key) (.ref p)))) D ws od lo' hi' := by
  refine ⟨_, upd_same, ?_, fun c h1 h2 => ?_⟩
  · unfold putK
    split
    · rw [List.length_map]
      omega
    · rw [List.length_append]
      show ((_ + 1 : Nat) : Int) ≤ _
      omega
  · rw [valV_put]
    by_cases e : c = b
    · rw [if_pos (by rw [e])]
      exact ⟨p, rfl, np, nD, by rw [upd_ne nD, hp, e]⟩
    · rw [if_neg (by intro z; injection z; contradiction)]
      obtain ⟨q, a1, a2, a3, a4⟩ := h c ((hh c h1 h2).resolve_left e).1 ((hh c h1 h2).resolve_left e).2
      exact ⟨q, a1, a2, a3, by rw [upd_ne a3, a4]⟩
end Dk
namespace Dk
open PySem L2
theorem chgI_nat {tr : List Trk} {mt : Bool} {rl : Nat} (b : Nat) (o : List Nat) : chgI tr mt rl ((b : Nat) : Int) o = chgN tr mt rl b o := by
  unfold chgI chgN
  have e : relB tr.length o.length rl ((b : Nat) : Int) = decide (hasR tr.length o.length rl ∧ b % rl = 0) := by
    rw [Bool.eq_iff_iff]
    unfold relB hasR
    simp only [Bool.and_eq_true, decide_eq_true_eq]
    have : ((b : Int) % (rl : Int) = 0) ↔ b % rl = 0 := by omega
    rw [this]
    constructor
    · rintro ⟨a, b, c, d⟩
      exact ⟨⟨a, c, d⟩, b⟩
    · rintro ⟨⟨a, c, d⟩, b⟩
      exact ⟨a, b, c, d⟩
  rw [e]
  have e2 : ((b : Int) / (rl : Int) % (tr.length : Int)).toNat = b / rl % tr.length := by
    rw [← Int.natCast_ediv, ← Int.natCast_emod]
    rfl
  rw [e2]
  by_cases z : hasR tr.length o.length rl ∧ b % rl = 0
  · rw [if_pos (decide_eq_true z), if_pos z]
  · rw [if_neg (by rw [decide_eq_false z]; decide), if_neg z]
theorem chgI_rest {tr : List Trk} {mt : Bool} {rl W : Nat} {o : List Nat} (hW : 0 < W) (hd : ∀ p ∈ tr, p.1.length ∣ W) (hr : hasR tr.length o.length rl → rl * tr.length ∣ W) (b : Int) : chgI tr mt rl ((rest b W : Nat) : Int) o = chgI tr mt rl b o := by
  obtain ⟨_, e⟩ := rest_lt hW b
  have es : stnd tr ((rest b W : Nat) : Int) = stnd tr b := by
    unfold stnd
    apply List.map_congr_left
    intro p hp
    exact plcS_rest (hd p hp) hW b p.2
  unfold chgI
  rw [es]
  by_cases z : hasR tr.length o.length rl
  · obtain ⟨k, hk⟩ := hr z
    obtain ⟨z1, z2, z3⟩ := z
    have e2 := Int.emod_add_mul_ediv b (W : Int)
    have e3 : b = ((rest b W : Nat) : Int) + (rl : Int) * ((tr.length : Int) * ((k : Int) * (b / (W : Int)))) := by
      rw [← Int.mul_assoc, ← Int.mul_assoc, ← Int.natCast_mul, ← Int.natCast_mul, ← hk, e]
      omega
    have f1 : b % (rl : Int) = ((rest b W : Nat) : Int) % (rl : Int) := by
      conv => lhs; rw [e3]
      rw [Int.add_mul_emod_self_left]
    have f2 : b / (rl : Int) % (tr.length : Int) = ((rest b W : Nat) : Int) / (rl : Int) % (tr.length : Int) := by
      conv => lhs; rw [e3]
      rw [Int.add_mul_ediv_left _ _ (by omega), Int.add_mul_emod_self_left]
    unfold relB
    rw [f1, f2]
  · have n : ∀ c : Int, relB tr.length o.length rl c = false := fun c => by
      rw [← Bool.not_eq_true]
      intro y
      unfold relB at y
      simp only [Bool.and_eq_true, decide_eq_true_eq] at y
      exact z ⟨y.1, y.2.2.1, y.2.2.2⟩
    rw [n, n]
    generalize (if mt = true then hoN (stnd tr b) o else o) = oo
    rfl
theorem RowsIn.same {H H' H2 : Hp} {D : Addr} {ws : List Wtc} {od : Int → List Nat} {lo hi : Int} (h : RowsIn H H' D ws od lo hi) (s : Same H' H2) : RowsIn H H2 D ws od lo hi := by
  obtain ⟨kvs, h1, h2, h3⟩ := h
  refine ⟨kvs, s _ _ h1, h2, fun b a1 a2 => ?_⟩
  obtain ⟨p, e1, e2, e3, e4⟩ := h3 b a1 a2
  exact ⟨p, e1, e2, e3, s _ _ e4⟩
end Dk
namespace Dk
open PySem PySem.Spec PyProof.Rows L2
/-! ### a list gone through forth or back, by a step that is reckoned -/
def fb (z : Bool) (xs : List V) : List V := if z = true then xs.reverse else xs
end Dk
namespace Dk
open PySem L2
/-! ### sightings and what they leave -/
abbrev Sgt := Int × Str × Bool
def SgA (H : Hp) (v : V) (s : Sgt) : Prop := ∃ q, v = V.ref q ∧ H q = some (.tup [.int s.1, .str s.2.1, .bl s.2.2])
abbrev SgL := AL SgA
theorem SgA.keep {H H' : Hp} {v : V} {s : Sgt} (k : KeepT H H') (h : SgA H v s) : SgA H' v s := by
  obtain ⟨q, e, h⟩ := h
  exact ⟨q, e, k _ _ h⟩
theorem SgL.keep {H H' : Hp} {xs : List V} {sg : List Sgt} (h : SgL H xs sg) (k : KeepT H H') : SgL H' xs sg := AL.mono h fun _ _ => SgA.keep k
theorem SgL.same {H H' : Hp} {xs : List V} {sg : List Sgt} (h : SgL H xs sg) (k : Same H H') : SgL H' xs sg := SgL.keep h (KeepT.of k)
structure SgOk (zs : List Str) (sg : List Sgt) : Prop where
  bt : ∀ s ∈ sg, beatOk s.1
  rm : ∀ s ∈ sg, s.2.1 ∈ zs
  ln : sg.length ≤ 40
def hnd (bh : Str → List Str) (a b : Str) : Bool := decide (b ∈ bh a) || decide (a = b)
def nxtT (bh : Str → List Str) (ah rs : List Str) : List Str := rs.filter fun r => ah.any fun o => hnd bh o r
def trlAt (bh : Str → List Str) (lf : List (List Str)) (f : Str) : Nat → List Str
  | 0 => (lf.getD 0 []).filter fun r => decide (r = f)
  | i + 1 => nxtT bh (trlAt bh lf f i) (lf.getD (i + 1) [])
def trlN (bh : Str → List Str) (lf : List (List Str)) (f : Str) : List (List Str) := (List.range lf.length).map (trlAt bh lf f)
def rowAt (bh : Str → List Str) (rv : List (List Str)) (e : Str) : Nat → Str
  | 0 => e
  | j + 1 => (nxtT bh [rowAt bh rv e j] (rv.getD j [])).headD Str.empty
def alongN (bh : Str → List Str) (ts : List (List Str)) : Option (List Str) :=
  match nxtT bh (ts.getD 0 []) (ts.getD (ts.length - 1) []) with
  | [] => none
  | e :: _ => some ((List.range ts.length).map (rowAt bh (ts.take (ts.length - 1)).reverse e)).reverse
def someN (zs : List Str) (bh : Str → List Str) (lf : List (List Str)) : Option (List Str) := zs.findSome? fun f => alongN bh (trlN bh lf f)
structure LfOk (zs : List Str) (lf : List (List Str)) : Prop where
  one : 1 ≤ lf.length
  six : lf.length ≤ 6
  mem : ∀ t ∈ lf, ∀ r ∈ t, r ∈ zs
  eight : ∀ t ∈ lf, t.length ≤ 8
theorem getD_mem' {α : Type} {l : List α} {i : Nat} {d : α} (h : i < l.length) : l.getD i d ∈ l := by
  rw [List.getD_eq_getElem?_getD, List.getElem?_eq_getElem h]
  exact List.getElem_mem h
theorem getD_some {α : Type} {l : List α} {i : Nat} {d x : α} (h : l[i]? = some x) : l.getD i d = x := by
  rw [List.getD_eq_getElem?_getD, h]
  rfl
theorem LfOk.memD {zs : List Str} {lf : List (List Str)} (h : LfOk zs lf) (i : Nat) : ∀ r ∈ lf.getD i [], r ∈ zs := by
  intro r hr
  by_cases e : i < lf.length
  · exact h.mem _ (getD_mem' e) r hr
  · rw [List.getD_eq_getElem?_getD, List.getElem?_eq_none (by omega)] at hr
    simp at hr
theorem trlN_len (bh : Str → List Str) (lf : List (List Str)) (f : Str) : (trlN bh lf f).length = lf.length := by unfold trlN; rw [List.length_map, List.length_range]
theorem trlN_get {bh : Str → List Str} {lf : List (List Str)} {f : Str} {i : Nat} (h : i < lf.length) : (trlN bh lf f)[i]? = some (trlAt bh lf f i) := by
  unfold trlN
  rw [List.getElem?_map, List.getElem?_range h]
  rfl
def SymH (zs : List Str) (bh : Str → List Str) : Prop := ∀ a ∈ zs, ∀ b ∈ zs, hnd bh a b = hnd bh b a
/-! ### the law's counting -/
theorem sum_nn : ∀ {l : List Int}, (∀ x ∈ l, 0 ≤ x) → 0 ≤ l.sum ∧ (0 < l.sum ↔ ∃ x ∈ l, 0 < x)
  | [], _ => ⟨by simp, by simp⟩
  | x :: l, h => by
    obtain ⟨a, b⟩ := sum_nn (l := l) fun y hy => h y (List.mem_cons_of_mem _ hy)
    have hx := h x (List.mem_cons_self ..)
    rw [List.sum_cons]
    refine ⟨by omega, ⟨fun p => ?_, fun ⟨y, hy, py⟩ => ?_⟩⟩
    · by_cases e : 0 < x
      · exact ⟨x, List.mem_cons_self .., e⟩
      · obtain ⟨y, hy, py⟩ := b.mp (by omega)
        exact ⟨y, List.mem_cons_of_mem _ hy, py⟩
    · rcases List.mem_cons.mp hy with rfl | hy
      · omega
      · have := b.mpr ⟨y, hy, py⟩
        omega
end Dk
namespace Dk
open PySem L2
/-! ### a comprehension over a list or a tuple -/
/-! ### rows of rows whose places have some property -/
def SlX (N : Addr → Prop) (H : Hp) (v : V) (o : List Str) : Prop := ∃ q, N q ∧ v = V.ref q ∧ H q = some (.lst (o.map V.str))
abbrev SxL (N : Addr → Prop) := AL (SlX N)
theorem SxL.same {N : Addr → Prop} {H H' : Hp} {xs : List V} {ps : List (List Str)} (h : SxL N H xs ps) (k : Same H H') : SxL N H' xs ps := AL.mono h fun _ _ ⟨q, n, e, h⟩ => ⟨q, n, e, k _ _ h⟩
theorem SxL.put {N : Addr → Prop} {H : Hp} {xs : List V} {ps : List (List Str)} {D : Addr} {o : HO} (h : SxL N H xs ps) (k : ¬ N D) : SxL N (upd H D o) xs ps := ⟨h.1, fun i x p a b => by
  obtain ⟨q, n, e, z⟩ := h.2 i x p a b
  exact ⟨q, n, e, by rw [upd_ne (show q ≠ D from fun y => k (y ▸ n))]; exact z⟩⟩
theorem SxL.of {N : Addr → Prop} {H : Hp} {xs : List V} {ps : List (List Str)} (h : SxL N H xs ps) : SsL H xs ps := ⟨h.1, fun i x p a b => by
  obtain ⟨q, n, e, z⟩ := h.2 i x p a b
  exact ⟨q, e, z⟩⟩
theorem SxL.mono {N M : Addr → Prop} {H : Hp} {xs : List V} {ps : List (List Str)} (h : SxL N H xs ps) (k : ∀ q, N q → M q) : SxL M H xs ps := ⟨h.1, fun i x p a b => by
  obtain ⟨q, n, e, z⟩ := h.2 i x p a b
  exact ⟨q, k q n, e, z⟩⟩
theorem filter_takeG' {α : Type} {zs : List α} {f : α → Bool} {b : α} {i : Nat} (e : zs[i]? = some b) : (zs.take (i + 1)).filter f = (zs.take i).filter f ++ (if f b = true then [b] else []) := by
  rw [take_snoc' e, List.filter_append]
  cases h : f b <;> simp [h]
/-! ### promises -/
end Dk
namespace Dk
open PySem L2
theorem cut_dropV (xs : List V) (i : Nat) : cutV xs (some ((i : Nat) : Int)) none = xs.drop i := by
  unfold cutV
  rw [show HT.sIx xs.length 0 (some ((i : Nat) : Int)) = min i xs.length from HT.sIx_nat _ 0 i, HT.sIx_none]
  by_cases h : i ≤ xs.length
  · rw [Nat.min_eq_left h, List.take_of_length_le (by rw [List.length_drop]; omega)]
  · rw [Nat.min_eq_right (by omega), List.drop_of_length_le (Nat.le_refl _), List.drop_of_length_le (by omega)]
    simp
theorem SsL.get {H : Hp} {xs : List V} {lf : List (List Str)} (h : SsL H xs lf) {i : Nat} (hi : i < lf.length) : ∃ q, xs[i]? = some (V.ref q) ∧ H q = some (.lst ((lf.getD i []).map V.str)) := by
  obtain ⟨x, ex, q, rfl, hq⟩ := AL.of h (List.getElem?_eq_getElem hi)
  refine ⟨q, ex, ?_⟩
  rw [hq, getD_some (List.getElem?_eq_getElem hi)]
theorem SsL.drop {H : Hp} {xs : List V} {lf : List (List Str)} (h : SsL H xs lf) (n : Nat) : SsL H (xs.drop n) (lf.drop n) := ⟨by rw [List.length_drop, List.length_drop, h.1], fun i x p a b => h.2 (n + i) x p (by rw [← List.getElem?_drop]; exact a) (by rw [← List.getElem?_drop]; exact b)⟩
theorem take_get {α : Type} {l : List α} {n i : Nat} {x : α} (h : (l.take n)[i]? = some x) : l[i]? = some x := by
  rw [List.getElem?_take] at h
  split at h
  · exact h
  · cases h
theorem SsL.take {H : Hp} {xs : List V} {lf : List (List Str)} (h : SsL H xs lf) (n : Nat) : SsL H (xs.take n) (lf.take n) := ⟨by rw [List.length_take, List.length_take, h.1], fun i x p a b => h.2 i x p (take_get a) (take_get b)⟩
theorem SsL.append {H : Hp} {xs ys : List V} {lf lg : List (List Str)} (h : SsL H xs lf) (g : SsL H ys lg) : SsL H (xs ++ ys) (lf ++ lg) := by
  refine ⟨by rw [List.length_append, List.length_append, h.1, g.1], fun i x p a b => ?_⟩
  by_cases e : i < xs.length
  · rw [List.getElem?_append_left e] at a
    rw [List.getElem?_append_left (by rw [← h.1]; exact e)] at b
    exact h.2 i x p a b
  · rw [List.getElem?_append_right (by omega)] at a
    rw [List.getElem?_append_right (by rw [← h.1]; omega), ← h.1] at b
    exact g.2 _ x p a b
theorem SsL.reverse {H : Hp} {xs : List V} {lf : List (List Str)} (h : SsL H xs lf) : SsL H xs.reverse lf.reverse := by
  refine ⟨by rw [List.length_reverse, List.length_reverse, h.1], fun i x p a b => ?_⟩
  have hi : i < xs.length := by
    have := (List.getElem?_eq_some_iff.mp a).1
    rw [List.length_reverse] at this
    exact this
  rw [List.getElem?_reverse hi] at a
  rw [List.getElem?_reverse (by rw [← h.1]; exact hi), ← h.1] at b
  exact h.2 _ x p a b
end Dk
namespace Dk
open PySem L2
/-! ### lists of things cut and joined -/
section
variable {α : Type} {R : Hp → V → α → Prop} {H : Hp} {xs ys : List V} {ps qs : List α}
theorem AL.take' (h : AL R H xs ps) (n : Nat) : AL R H (xs.take n) (ps.take n) := ⟨by rw [List.length_take, List.length_take, h.1], fun i x p a b => h.2 i x p (take_get a) (take_get b)⟩
theorem AL.drop' (h : AL R H xs ps) (n : Nat) : AL R H (xs.drop n) (ps.drop n) := ⟨by rw [List.length_drop, List.length_drop, h.1], fun i x p a b => h.2 (n + i) x p (by rw [← List.getElem?_drop]; exact a) (by rw [← List.getElem?_drop]; exact b)⟩
theorem AL.app (h : AL R H xs ps) (g : AL R H ys qs) : AL R H (xs ++ ys) (ps ++ qs) := by
  refine ⟨by rw [List.length_append, List.length_append, h.1, g.1], fun i x p a b => ?_⟩
  by_cases e : i < xs.length
  · rw [List.getElem?_append_left e] at a
    rw [List.getElem?_append_left (by rw [← h.1]; exact e)] at b
    exact h.2 i x p a b
  · rw [List.getElem?_append_right (by omega)] at a
    rw [List.getElem?_append_right (by rw [← h.1]; omega), ← h.1] at b
    exact g.2 _ x p a b
end
theorem SgOk.put {zs : List Str} {sg : List Sgt} {x : Sgt} {i : Nat} (h : SgOk zs sg) (l : sg.length < 40) (hb : beatOk x.1) (hr : x.2.1 ∈ zs) : SgOk zs (sg.take i ++ [x] ++ sg.drop i) := by
  have hm : ∀ s ∈ sg.take i ++ [x] ++ sg.drop i, s = x ∨ s ∈ sg := fun s hs => by
    rcases List.mem_append.mp hs with h1 | h1
    · rcases List.mem_append.mp h1 with h2 | h2
      · exact .inr (List.mem_of_mem_take h2)
      · exact .inl (List.mem_singleton.mp h2)
    · exact .inr (List.mem_of_mem_drop h1)
  refine ⟨fun s hs => ?_, fun s hs => ?_, ?_⟩
  · rcases hm s hs with rfl | h1
    · exact hb
    · exact h.bt s h1
  · rcases hm s hs with rfl | h1
    · exact hr
    · exact h.rm s h1
  · rw [List.length_append, List.length_append, List.length_take, List.length_drop, List.length_singleton]
    omega
theorem SgOk.take {zs : List Str} {sg : List Sgt} (h : SgOk zs sg) (n : Nat) : SgOk zs (sg.take n) := ⟨fun s hs => h.bt s (List.mem_of_mem_take hs), fun s hs => h.rm s (List.mem_of_mem_take hs), by rw [List.length_take]; have := h.ln; omega⟩
theorem SgOk.nil {zs : List Str} : SgOk zs [] := ⟨(fun s hs => absurd hs (List.not_mem_nil)), (fun s hs => absurd hs (List.not_mem_nil)), (by show 0 ≤ 40; decide)⟩
theorem SgOk.snoc {zs : List Str} {sg : List Sgt} {x : Sgt} (h : SgOk zs sg) (l : sg.length < 40) (hb : beatOk x.1) (hr : x.2.1 ∈ zs) : SgOk zs (sg ++ [x]) := by
  have := h.put (i := sg.length) (x := x) l hb hr
  rw [List.take_length, List.drop_length, List.append_nil] at this
  exact this
/-! ### promises of the law's parts -/
/-- pairs of a room and a number -/
def CpA (H : Hp) (v : V) (p : Str × Int) : Prop := ∃ q, v = V.ref q ∧ H q = some (.tup [.str p.1, .int p.2])
abbrev CpL := AL CpA
theorem CpL.keep {H H' : Hp} {xs : List V} {ps : List (Str × Int)} (h : CpL H xs ps) (k : KeepT H H') : CpL H' xs ps := AL.mono h fun _ _ ⟨q, e, z⟩ => ⟨q, e, k _ _ z⟩
theorem CpL.same {H H' : Hp} {xs : List V} {ps : List (Str × Int)} (h : CpL H xs ps) (k : Same H H') : CpL H' xs ps := CpL.keep h (KeepT.of k)
end Dk
namespace Dk
open PySem L2
theorem cut_takeV (xs : List V) (i : Nat) : cutV xs none (some ((i : Nat) : Int)) = xs.take i := by
  by_cases h : i ≤ xs.length
  · exact cut_upto xs h
  · unfold cutV
    rw [show HT.sIx xs.length xs.length (some ((i : Nat) : Int)) = min i xs.length from HT.sIx_nat _ _ i, HT.sIx_none]
    rw [Nat.min_eq_right (by omega), List.drop_zero, Nat.sub_zero, List.take_length, List.take_of_length_le (by omega)]
end Dk
namespace Dk
open PySem L2
theorem KeepT.dk {H : Hp} {p : Addr} {o : HO} {m : List (Key × V)} (h : H p = some (.dK m)) : KeepT H (upd H p o) := fun t ys e => by
  rw [upd_ne (fun z => by rw [z, h] at e; cases e)]
  exact e
/-- the law's drawn scene with some of its keys set anew -/
theorem MA.put {b : Addr} {H : Hp} {m t f lm lm2 : Addr} {zs : List Str} {ds ss : List SS} {xs ys ys2 : List V} {ps : List Pst} {ws ws2 : List Wtc} {mt mt2 : Bool} {rl rl2 : Nat} (a : MA b H m t f lm zs ds ss xs ys ps ws mt rl) (n2 : lm2 ≠ b) (h2 : H lm2 = some (.lst ys2)) (w2 : WtL H ys2 ws2) (ok : ScOk zs ds ss ps ws2 rl2) : MA b (upd H m (.dK (mkv t f lm2 mt2 rl2))) m t f lm2 zs ds ss xs ys2 ps ws2 mt2 rl2 := by
  have k := KeepT.dk (o := .dK (mkv t f lm2 mt2 rl2)) a.md
  have nl : ∀ {q : Addr} {us : List V}, H q = some (.lst us) → (upd H m (.dK (mkv t f lm2 mt2 rl2))) q = some (.lst us) := fun h => by
    rw [upd_ne (fun z => by rw [z, a.md] at h; cases h)]
    exact h
  obtain ⟨r, d, s, xs', us, m1, m2, m3, g1, g2, g3, g4, g5, g6⟩ := a.lh
  exact ⟨upd_same, a.nm, a.nf, n2, ⟨r, d, s, xs', us, m1, m2, m3, k _ _ g1, nl g2, nl g3, g4.keep k, nl g5, g6.keep k⟩, nl a.fp, a.fps.keep k, nl h2, WtL.keep w2 k, a.good, ok⟩
theorem mkv_lamps {t f lm lm2 : Addr} {mt : Bool} {rl : Nat} : putK (mkv t f lm mt rl) (Sum.inr "lamps" : Key) (.ref lm2) = mkv t f lm2 mt rl := rfl
theorem mkv_meet {t f lm : Addr} {mt mt2 : Bool} {rl : Nat} : putK (mkv t f lm mt rl) (Sum.inr "meet" : Key) (.bl mt2) = mkv t f lm mt2 rl := rfl
theorem mkv_relief {t f lm : Addr} {mt : Bool} {rl rl2 : Nat} : putK (mkv t f lm mt rl) (Sum.inr "relief" : Key) (.int (rl2 : Nat)) = mkv t f lm mt rl2 := rfl
theorem Box.ndl {b l q : Addr} {H : Hp} {m : List (Key × V)} (hB : Box H b l) (h : H q = some (.dK m)) : q ≠ l := by
  obtain ⟨ns, i, c, s0, t, h1, h2, r⟩ := hB
  exact fun e => by
    rw [e, h2] at h
    cases h
theorem idx_at {o : List Nat} {j : Nat} (h : j ∈ o) : o[o.idxOf j]? = some j := by
  have l := List.idxOf_lt_length_of_mem h
  rw [List.getElem?_eq_getElem l, List.getElem_idxOf l]
end Dk
namespace Dk
open PySem L2
/-! ### what is lit, as the program tells it -/
def spDarkM (C CS : Addr) : Sp := fun vs H Q _ => ∃ (s : Addr) (zs : List Str) (ds ss : List SS) (ps : List Pst) (ws : List Wtc) (mt : Bool) (rl W : Nat) (z : Str) (b : Int), vs = [.ref s, .str z, .int b] ∧ SceneAt C CS H s zs ds ss ps ws mt rl W ∧ z ∈ zs ∧ beatOk b ∧
  ∀ H', Same H H' → Q (.bl (!decide (z ∈ litAt zs (lnk zs ss) (ps.map (·.2)) ws mt rl (rest b W)))) H'
theorem ScA.light {C CS : Addr} {H : Hp} {s : Addr} {zs : List Str} {ds ss : List SS} {ps : List Pst} {ws : List Wtc} {mt : Bool} {rl W : Nat} {dx h p w o hd lg m : Addr} {xs ys os ls ms : List V} (a : ScA C CS H s zs ds ss ps ws mt rl W dx h p w o hd lg m xs ys os ls ms) (b : Int) : ∃ q, atI ls (b % ((W : Nat) : Int)) = some (V.ref q) ∧ H q = some (.lst ((litAt zs (lnk zs ss) (ps.map (·.2)) ws mt rl (rest b W)).map V.str)) := by
  obtain ⟨h1, h2⟩ := rest_lt a.fwh.1 b
  have e : ((List.range W).map (litAt zs (lnk zs ss) (ps.map (·.2)) ws mt rl))[rest b W]? = some (litAt zs (lnk zs ss) (ps.map (·.2)) ws mt rl (rest b W)) := by
    rw [List.getElem?_map, List.getElem?_range h1]
    rfl
  obtain ⟨x, ex, q, rfl, hq⟩ := a.fls.of e
  exact ⟨q, by rw [← h2]; exact atI_nat ex, hq⟩
/-! ### and by the law's own steps -/
def rmN (ps : List Pst) (b : Int) (n : Nat) : Str := plcS (ps.getD n (Str.empty, [], 0)).2.1 (b - (((ps.getD n (Str.empty, [], 0)).2.2 : Nat) : Int))
def rcN (ws : List Wtc) (o : List Nat) (n : Nat) : Nat := (ws.getD (o.getD n 0) (Str.empty, 0)).2
def lf (vw : Str → List Str) (ps : List Pst) (ws : List Wtc) (o : List Nat) (b : Int) : Nat → List Str
  | 0 => []
  | n + 1 => lf vw ps ws o b n ++ [rmN ps b n] ++ (if rcN ws o n = 1 then vw (rmN ps b n) else [])
theorem mem_ligs {vw : Str → List Str} {r : Str} : ∀ l : List (Str × Nat), r ∈ ligs vw l ↔ ∃ p ∈ l, p.2 = 1 ∧ r ∈ vw p.1
  | [] => by
    constructor
    · intro h
      cases h
    · rintro ⟨p, h, _⟩
      cases h
  | q :: l => by
    show r ∈ (if q.2 = 1 then vw q.1 else []) ++ ligs vw l ↔ _
    rw [List.mem_append, mem_ligs l]
    constructor
    · rintro (h | ⟨p, h1, h2⟩)
      · by_cases c : q.2 = 1
        · rw [if_pos c] at h
          exact ⟨q, List.mem_cons_self, c, h⟩
        · rw [if_neg c] at h
          cases h
      · exact ⟨p, List.mem_cons_of_mem _ h1, h2⟩
    · rintro ⟨p, h1, c, h⟩
      rcases List.mem_cons.mp h1 with e | e
      · subst e
        exact .inl (by rw [if_pos c]; exact h)
      · exact .inr ⟨p, e, c, h⟩
/-! ### a dict of the lamps -/
theorem MA.house {b : Addr} {H H' : Hp} {m t f lm : Addr} {zs : List Str} {ds ss : List SS} {xs ys : List V} {ps : List Pst} {ws : List Wtc} {mt : Bool} {rl : Nat} (a : MA b H m t f lm zs ds ss xs ys ps ws mt rl) (e : Same H H') : DGet H' m (.str "house") (some (.ref t)) := by
  have h : valV (mkv t f lm mt rl) (Sum.inr "house" : Key) = some (.ref t) := valK_at 0 [] rfl (by simp) rfl
  rw [← h]
  exact DGet.k (k := (Sum.inr "house" : Key)) (e _ _ a.md)
end Dk
namespace Dk
open PySem L2
/-! ### a drawn scene copied -/
theorem MA.copy {b : Addr} {H : Hp} {m t f lm q : Addr} {zs : List Str} {ds ss : List SS} {xs ys : List V} {ps : List Pst} {ws : List Wtc} {mt : Bool} {rl : Nat} (a : MA b H m t f lm zs ds ss xs ys ps ws mt rl) (n : H q = none) (nb : q ≠ b) : MA b (upd H q (.dK (mkv t f lm mt rl))) q t f lm zs ds ss xs ys ps ws mt rl := by
  have e := a.same (same_new (o := .dK (mkv t f lm mt rl)) n)
  exact ⟨upd_same, nb, e.nf, e.nl, e.lh, e.fp, e.fps, e.fl, e.fls, e.good, e.ok⟩
/-- nothing that stood is changed by a put into a dict that did not stand -/
def spPlain : Sp := fun vs H Q _ => ∃ (b l m t f lm : Addr) (zs : List Str) (ds ss : List SS) (xs ys : List V) (ps : List Pst) (ws : List Wtc) (mt : Bool) (rl : Nat), vs = [.ref m] ∧ Box H b l ∧ MA b H m t f lm zs ds ss xs ys ps ws mt rl ∧
  ∀ (H' : Hp) (q : Addr), Same H H' → H q = none → MA b H' q t f lm zs ds ss xs ys ps ws false 0 → Q (.ref q) H'
/-! ### barred steps -/
theorem ScA.move {C CS : Addr} {H : Hp} {s : Addr} {zs : List Str} {ds ss : List SS} {ps : List Pst} {ws : List Wtc} {mt : Bool} {rl W : Nat} {dx h p w o hd lg m : Addr} {xs ys os ls ms : List V} (a : ScA C CS H s zs ds ss ps ws mt rl W dx h p w o hd lg m xs ys os ls ms) (b : Int) : ∃ q us, atI ms (b % ((W : Nat) : Int)) = some (V.ref q) ∧ H q = some (.lst us) ∧ PL H us (movAt (ps.map (·.2)) (rest b W)) := by
  obtain ⟨h1, h2⟩ := rest_lt a.fwh.1 b
  have e : ((List.range W).map (movAt (ps.map (·.2))))[rest b W]? = some (movAt (ps.map (·.2)) (rest b W)) := by
    rw [List.getElem?_map, List.getElem?_range h1]
    rfl
  obtain ⟨x, ex, q, us, rfl, hq, hu⟩ := a.fms.of e
  exact ⟨q, us, by rw [← h2]; exact atI_nat ex, hq, hu⟩
theorem stnd_mem {zs : List Str} {tr : List Trk} (hp : ∀ t ∈ tr, 0 < t.1.length) (hz : ∀ t ∈ tr, ∀ r ∈ t.1, r ∈ zs) (b : Int) : ∀ z ∈ stnd tr b, z ∈ zs := fun z h => by
  obtain ⟨t, ht, rfl⟩ := List.mem_map.mp h
  exact hz t ht _ (plcS_mem (hp t ht) _)
theorem mov_ok {zs : List Str} {tr : List Trk} (hn : Names zs) (hp : ∀ t ∈ tr, 0 < t.1.length) (hz : ∀ t ∈ tr, ∀ r ∈ t.1, r ∈ zs) (r : Nat) : ∀ p ∈ movAt tr r, okP p := fun p h => by
  have h1 := (List.mem_filter.mp h).1
  obtain ⟨j, hj, e⟩ := List.mem_iff_getElem.mp h1
  have e2 : ((stnd tr ((r : Int) - 1)).zip (stnd tr (r : Nat)))[j]? = some p := by rw [List.getElem?_eq_getElem hj, e]
  obtain ⟨e3, e4⟩ := List.getElem?_zip_eq_some.mp e2
  exact ⟨nm_ok (hn.2 _ (stnd_mem hp hz _ _ (List.mem_of_getElem? e3))), nm_ok (hn.2 _ (stnd_mem hp hz _ _ (List.mem_of_getElem? e4)))⟩
theorem stnd_rest {tr : List Trk} {W : Nat} (hW : 0 < W) (hd : ∀ p ∈ tr, p.1.length ∣ W) (b : Int) : stnd tr ((rest b W : Nat) : Int) = stnd tr b := by
  unfold stnd
  apply List.map_congr_left
  intro p hp
  exact plcS_rest (hd p hp) hW b p.2
theorem stnd_rest1 {tr : List Trk} {W : Nat} (hW : 0 < W) (hd : ∀ p ∈ tr, p.1.length ∣ W) (b : Int) : stnd tr (((rest b W : Nat) : Int) - 1) = stnd tr (b - 1) := by
  unfold stnd
  apply List.map_congr_left
  intro p hp
  have := plcS_rest (hd p hp) hW b (p.2 + 1)
  rw [show ((rest b W : Nat) : Int) - 1 - ((p.2 : Nat) : Int) = ((rest b W : Nat) : Int) - ((p.2 + 1 : Nat) : Int) by omega, this]
  congr 1
  omega
theorem IsWh.dvd {tr : List Trk} {many : Nat} {mt : Bool} {rl W : Nat} (h : IsWh tr many mt rl W) : ∀ p ∈ tr, p.1.length ∣ W := fun p hp => Nat.dvd_trans (span_len hp) (Nat.dvd_of_mod_eq_zero h.2.2.1)
/-- from y to x, from the beat ahead to the beat -/
def mvd (tr : List Trk) (b : Int) (y x : Str) : Prop := y ≠ x ∧ ∃ i : Nat, (stnd tr (b - 1))[i]? = some y ∧ (stnd tr b)[i]? = some x
theorem mem_mov {tr : List Trk} {many : Nat} {mt : Bool} {rl W : Nat} (h : IsWh tr many mt rl W) (b : Int) (y x : Str) : (y, x) ∈ movAt tr (rest b W) ↔ mvd tr b y x := by
  unfold movAt movN mvd
  rw [stnd_rest h.1 h.dvd, stnd_rest1 h.1 h.dvd, List.mem_filter]
  constructor
  · rintro ⟨h1, h2⟩
    obtain ⟨j, hj, e⟩ := List.mem_iff_getElem.mp h1
    have e2 : ((stnd tr (b - 1)).zip (stnd tr b))[j]? = some (y, x) := by rw [List.getElem?_eq_getElem hj, e]
    obtain ⟨e3, e4⟩ := List.getElem?_zip_eq_some.mp e2
    exact ⟨of_decide_eq_true h2, j, e3, e4⟩
  · rintro ⟨h1, j, h2, h3⟩
    exact ⟨List.mem_of_getElem? (i := j) (List.getElem?_zip_eq_some.mpr ⟨h2, h3⟩), decide_eq_true h1⟩
open Classical in
noncomputable def mvB (tr : List Trk) (b : Int) (y x : Str) : Bool := decide (mvd tr b y x)
theorem mvB_iff {tr : List Trk} {b : Int} {y x : Str} : mvB tr b y x = true ↔ mvd tr b y x := by
  unfold mvB
  exact @decide_eq_true_iff _ (_)
theorem mvB_mov {tr : List Trk} {many : Nat} {mt : Bool} {rl W : Nat} (h : IsWh tr many mt rl W) (b : Int) (y x : Str) : decide ((y, x) ∈ movAt tr (rest b W)) = mvB tr b y x := by
  rw [Bool.eq_iff_iff, decide_eq_true_eq, mvB_iff]
  exact mem_mov h b y x
theorem filter_takeG {α : Type} {p : α → Bool} {l : List α} {i : Nat} {x : α} (e : l[i]? = some x) : (l.take (i + 1)).filter p = (l.take i).filter p ++ (if p x = true then [x] else []) := by
  rw [take_snoc' e, List.filter_append]
  cases h : p x <;> simp [h]
/-! ### nobody changes -/
theorem ord_plain {tr : List Trk} {many : Nat} : ∀ b, ordN tr many false 0 b = List.range many
  | 0 => rfl
  | b + 1 => by
    show chgN tr false 0 (b + 1) (ordN tr many false 0 b) = _
    rw [ord_plain b]
    unfold chgN
    rw [if_neg (fun h => absurd h.1.1 (by decide))]
    rfl
theorem lit_plain {zs : List Str} {vw : Str → List Str} {tr : List Trk} {ws : List Wtc} {W : Nat} (h : IsWh tr ws.length false 0 W) (b : Int) : litAt zs vw tr ws false 0 (rest b W) = litN zs vw (stnd tr b) (reachN ws ((List.range ws.length).take tr.length)) := by
  unfold litAt
  rw [ord_plain, stnd_rest h.1 h.dvd]
/-! ### rounds turned about -/
/-! ### rows of truth values -/
end Dk
namespace Dk
open PySem L2
/-! ### steps -/
noncomputable def stpN (zs : List Str) (ds ss : List SS) (tr : List Trk) (ks : List Nat) (b : Int) (z : Str) : List Str := (handN zs (lnk zs (both ds)) z).filter fun o => !decide (o ∈ litN zs (lnk zs ss) (stnd tr b) ks) && !mvB tr b o z
def spSteps (C CS : Addr) : Sp := fun vs H Q _ => ∃ (s : Addr) (zs : List Str) (ds ss : List SS) (ps : List Pst) (ws : List Wtc) (mt : Bool) (rl W : Nat) (z : Str) (b : Int), vs = [.ref s, .str z, .int b] ∧ SceneAt C CS H s zs ds ss ps ws mt rl W ∧ z ∈ zs ∧ beatOk b ∧
  ∀ (H' : Hp) (q : Addr), Same H H' → H q = none → H' q = some (.lst ((stpN zs ds ss (ps.map (·.2)) (reachN ws ((ordN (ps.map (·.2)) ws.length mt rl (rest (b + 1) W)).take (ps.map (·.2)).length)) (b + 1) z).map V.str)) → Q (.ref q) H'
theorem stp_len {zs : List Str} {ds ss : List SS} {tr : List Trk} {ks : List Nat} {b : Int} {z : Str} : (stpN zs ds ss tr ks b z).length ≤ zs.length := Nat.le_trans (List.length_filter_le ..) (List.length_filter_le ..)
theorem stp_mem {zs : List Str} {ds ss : List SS} {tr : List Trk} {ks : List Nat} {b : Int} {z : Str} : ∀ o ∈ stpN zs ds ss tr ks b z, o ∈ zs := fun o h => (List.mem_filter.mp (List.mem_filter.mp h).1).1
/-! ### rows of texts told equal -/
/-! ### later by some beats -/
end Dk
namespace Dk
open PySem L2
/-! ### all lamps of one reach -/
theorem WtL.take {H : Hp} {xs : List V} {ws : List Wtc} (h : WtL H xs ws) (n : Nat) : WtL H (xs.take n) (ws.take n) := by
  refine ⟨by rw [List.length_take, List.length_take, h.1], fun i x p a b => ?_⟩
  by_cases l : i < n
  · rw [List.getElem?_take_of_lt l] at a b
    exact h.2 i x p a b
  · rw [List.getElem?_eq_none (by rw [List.length_take]; omega)] at a
    cases a
theorem WtOk.take {ws : List Wtc} (h : WtOk ws) (n : Nat) : WtOk (ws.take n) := ⟨by rw [List.length_take]; have := h.six; omega, by rw [List.map_take]; exact h.names.take n, fun p hp => h.rch p (List.mem_of_mem_take hp)⟩
/-! ### rows of rows of texts -/
end Dk
namespace Dk
open PySem L2
/-! ### changes look at places alone -/
theorem getD_map {g : Nat → Nat} {o : List Nat} {i : Nat} (h : i < o.length) : (o.map g).getD i 0 = g (o.getD i 0) := by
  rw [List.getD_eq_getElem?_getD, List.getD_eq_getElem?_getD, List.getElem?_map, List.getElem?_eq_getElem h]
  rfl
theorem sw_map (g : Nat → Nat) {o : List Nat} {i j : Nat} (hi : i < o.length) (hj : j < o.length) : swN (o.map g) i j = (swN o i j).map g := by
  unfold swN
  rw [getD_map hi, getD_map hj, List.map_set, List.map_set]
theorem hoIn_map (g : Nat → Nat) {rs : List Str} {f : Nat} {o : List Nat} : ∀ {k}, f + k < o.length → hoIn rs f k (o.map g) = (hoIn rs f k o).map g
  | 0, _ => rfl
  | k + 1, h => by
    show (if rs[f]? = rs[f + 1 + k]? then swN (hoIn rs f k (o.map g)) f (f + 1 + k) else hoIn rs f k (o.map g)) = (if rs[f]? = rs[f + 1 + k]? then swN (hoIn rs f k o) f (f + 1 + k) else hoIn rs f k o).map g
    rw [hoIn_map g (k := k) (by omega)]
    split
    · exact sw_map g (by rw [hoIn_len]; omega) (by rw [hoIn_len]; omega)
    · rfl
theorem hoUp_map (g : Nat → Nat) {rs : List Str} {o : List Nat} (hr : rs.length ≤ o.length) : ∀ {f}, f ≤ rs.length → hoUp rs f (o.map g) = (hoUp rs f o).map g
  | 0, _ => rfl
  | f + 1, h => by
    show hoIn rs f (rs.length - (f + 1)) (hoUp rs f (o.map g)) = (hoIn rs f (rs.length - (f + 1)) (hoUp rs f o)).map g
    rw [hoUp_map g hr (f := f) (by omega)]
    exact hoIn_map g (by rw [hoUp_len]; omega)
theorem rel_map (g : Nat → Nat) {n p : Nat} {o : List Nat} (hn : n < o.length) (hp : p < n) : relN n p (o.map g) = (relN n p o).map g := by
  unfold relN
  rw [getD_map hn, getD_map (by omega), List.map_append, List.map_append, List.map_set, List.map_take, List.map_drop]
  rfl
theorem chg_map (g : Nat → Nat) {tr : List Trk} {mt : Bool} {rl b : Nat} {o : List Nat} (ht : tr.length ≤ o.length) : chgN tr mt rl b (o.map g) = (chgN tr mt rl b o).map g := by
  have e : (if mt = true then hoN (stnd tr b) (o.map g) else o.map g) = (if mt = true then hoN (stnd tr b) o else o).map g := by
    split
    · exact hoUp_map g (by rw [stnd_len]; exact ht) (Nat.le_refl _)
    · rfl
  unfold chgN
  rw [e, List.length_map]
  split
  · rename_i h
    exact rel_map g (by rw [ho1_len]; exact h.1.2.2) (Nat.mod_lt _ h.1.2.1)
  · rfl
theorem chg_span {tr : List Trk} {many : Nat} {mt : Bool} {rl b : Nat} {o : List Nat} (ho : o.length = many) (h0 : 0 < spanN tr many rl) : chgN tr mt rl (spanN tr many rl + b) o = chgN tr mt rl b o := by
  have hd : ∀ p ∈ tr, p.1.length ∣ spanN tr many rl := fun p hp => span_len hp
  have hr : hasR tr.length o.length rl → rl * tr.length ∣ spanN tr many rl := fun z => span_rel (by rw [← ho]; exact z)
  rw [← chgI_nat, ← chgI_nat, ← chgI_rest h0 hd hr, ← chgI_rest h0 hd hr ((b : Nat) : Int)]
  congr 2
  unfold rest
  rw [Int.natCast_add, Int.add_comm, Int.add_emod_right]
theorem ord_span {tr : List Trk} {many : Nat} {mt : Bool} {rl : Nat} (ht : tr.length ≤ many) (h0 : 0 < spanN tr many rl) : ∀ b, ordN tr many mt rl (spanN tr many rl + b) = (ordN tr many mt rl b).map fun i => (ordN tr many mt rl (spanN tr many rl)).getD i 0
  | 0 => by
    have l := (ordN_ok (tr := tr) (many := many) (mt := mt) (rl := rl) ht (spanN tr many rl)).1
    apply List.ext_getElem?
    intro i
    show (ordN tr many mt rl (spanN tr many rl))[i]? = ((List.range many).map fun i => (ordN tr many mt rl (spanN tr many rl)).getD i 0)[i]?
    rw [List.getElem?_map]
    by_cases h : i < many
    · rw [List.getElem?_range h]
      exact getD_at (by omega)
    · rw [List.getElem?_eq_none (by omega), List.getElem?_eq_none (by rw [List.length_range]; omega)]
      rfl
  | b + 1 => by
    have l := (ordN_ok (tr := tr) (many := many) (mt := mt) (rl := rl) ht b).1
    show chgN tr mt rl (spanN tr many rl + b + 1) (ordN tr many mt rl (spanN tr many rl + b)) = (chgN tr mt rl (b + 1) (ordN tr many mt rl b)).map _
    rw [ord_span ht h0 b, show spanN tr many rl + b + 1 = spanN tr many rl + (b + 1) by omega, chg_span (by rw [List.length_map]; exact l) h0]
    exact chg_map _ (by omega)
/-! ### done again and again -/
def pw (n : Nat) (o : List Nat) : Nat → List Nat
  | 0 => List.range n
  | k + 1 => (pw n o k).map fun i => o.getD i 0
theorem ord_pw {tr : List Trk} {many : Nat} {mt : Bool} {rl : Nat} (ht : tr.length ≤ many) (h0 : 0 < spanN tr many rl) : ∀ k, ordN tr many mt rl (spanN tr many rl * k) = pw many (ordN tr many mt rl (spanN tr many rl)) k
  | 0 => rfl
  | k + 1 => by
    rw [Nat.mul_succ, Nat.add_comm, ord_span ht h0, ord_pw ht h0 k]
    rfl
def itr (f : Nat → Nat) : Nat → Nat → Nat
  | 0, x => x
  | t + 1, x => f (itr f t x)
theorem itr_in (f : Nat → Nat) : ∀ t x, itr f (t + 1) x = itr f t (f x)
  | 0, _ => rfl
  | t + 1, x => by
    show f (itr f (t + 1) x) = f (itr f t (f x))
    rw [itr_in f t x]
theorem pw_itr (n : Nat) (o : List Nat) : ∀ k, pw n o k = (List.range n).map (itr (fun i => o.getD i 0) k)
  | 0 => by
    show List.range n = (List.range n).map fun x => x
    rw [List.map_id']
  | k + 1 => by
    show (pw n o k).map _ = _
    rw [pw_itr n o k, List.map_map]
    rfl
theorem pw_id {n : Nat} {o : List Nat} {k : Nat} : pw n o k = List.range n ↔ ∀ x, x < n → itr (fun i => o.getD i 0) k x = x := by
  rw [pw_itr]
  constructor
  · intro h x hx
    have e : ((List.range n).map (itr (fun i => o.getD i 0) k))[x]? = (List.range n)[x]? := by rw [h]
    rw [List.getElem?_map, List.getElem?_range hx] at e
    exact Option.some.inj e
  · intro h
    conv => rhs; rw [← List.map_id (List.range n)]
    apply List.map_congr_left
    intro x hx
    exact h x (List.mem_range.mp hx)
/-- there and back -/
theorem itr_back {f g : Nat → Nat} {n : Nat} (hf : ∀ x, x < n → f x < n) (hg : ∀ x, x < n → g (f x) = x) : ∀ t x, x < n → itr g t (itr f t x) = x ∧ itr f t x < n
  | 0, x, h => ⟨rfl, h⟩
  | t + 1, x, h => by
    obtain ⟨h1, h2⟩ := itr_back hf hg t x h
    refine ⟨?_, hf _ h2⟩
    show itr g (t + 1) (f (itr f t x)) = x
    rw [itr_in, hg _ h2, h1]
/-- where each stands -/
def plcN (o : List Nat) : List Nat := (List.range o.length).map fun p => o.idxOf p
theorem plcN_at {n : Nat} {o : List Nat} (h : OkO n o) (hi : Inj o) {x : Nat} (hx : x < n) : (plcN o).getD x 0 < n ∧ o.getD ((plcN o).getD x 0) 0 = x ∧ (plcN o).getD (o.getD x 0) 0 = x := by
  have e1 : (plcN o).getD x 0 = o.idxOf x := by
    unfold plcN
    rw [List.getD_eq_getElem?_getD, List.getElem?_map, List.getElem?_range (by rw [h.1]; exact hx)]
    rfl
  have m := all_in h hi hx
  have a := idx_at m
  have l := List.idxOf_lt_length_of_mem m
  have b : o[x]? = some (o.getD x 0) := getD_at (by rw [h.1]; exact hx)
  have c : o.getD x 0 < n := h.2 _ (List.mem_of_getElem? b)
  refine ⟨by rw [e1, ← h.1]; exact l, by rw [e1, List.getD_eq_getElem?_getD, a]; rfl, ?_⟩
  have e2 : (plcN o).getD (o.getD x 0) 0 = o.idxOf (o.getD x 0) := by
    unfold plcN
    rw [List.getD_eq_getElem?_getD, List.getElem?_map, List.getElem?_range (by rw [h.1]; exact c)]
    rfl
  rw [e2]
  exact hi _ _ _ (idx_at (List.mem_of_getElem? b)) b
theorem pw_plc {n : Nat} {o : List Nat} (h : OkO n o) (hi : Inj o) (k : Nat) : pw n (plcN o) k = List.range n ↔ pw n o k = List.range n := by
  rw [pw_id, pw_id]
  have A : ∀ x, x < n → o.getD x 0 < n := fun x hx => h.2 _ (List.mem_of_getElem? (getD_at (by rw [h.1]; exact hx)))
  constructor
  · intro z x hx
    have q := (itr_back (f := fun i => o.getD i 0) (g := fun i => (plcN o).getD i 0) A (fun y hy => (plcN_at h hi hy).2.2) k x hx)
    rw [z _ q.2] at q
    exact q.1
  · intro z x hx
    have q := (itr_back (f := fun i => (plcN o).getD i 0) (g := fun i => o.getD i 0) (fun y hy => (plcN_at h hi hy).1) (fun y hy => (plcN_at h hi hy).2.1) k x hx)
    rw [z _ q.2] at q
    exact q.1
/-! ### six are all back behind six times at most -/
def sel : List Nat → Nat → List (List Nat)
  | _, 0 => [[]]
  | S, k + 1 => S.flatMap fun a => (sel (S.erase a) k).map (a :: ·)
theorem mem_sel : ∀ (o S : List Nat), o.Nodup → (∀ x ∈ o, x ∈ S) → o ∈ sel S o.length
  | [], _, _, _ => List.mem_singleton.mpr rfl
  | a :: r, S, nd, h => by
    rw [List.nodup_cons] at nd
    show a :: r ∈ S.flatMap fun a => (sel (S.erase a) r.length).map (a :: ·)
    rw [List.mem_flatMap]
    refine ⟨a, h a List.mem_cons_self, List.mem_map.mpr ⟨r, mem_sel r (S.erase a) nd.2 fun x hx => ?_, rfl⟩⟩
    exact (List.mem_erase_of_ne (fun e => nd.1 (by rw [← e]; exact hx))).mpr (h x (List.mem_cons_of_mem _ hx))
def backB (n : Nat) (o : List Nat) : Bool := (List.range 6).any fun t => pw n o (t + 1) == List.range n
theorem six_back : ((List.range 7).all fun n => (sel (List.range n) n).all fun o => backB n o) = true := by decide +kernel
theorem back_six {n : Nat} {o : List Nat} (h : OkO n o) (hi : Inj o) (h6 : n ≤ 6) : ∃ t, 1 ≤ t ∧ t ≤ 6 ∧ pw n o t = List.range n := by
  have a := List.all_eq_true.mp (List.all_eq_true.mp six_back n (List.mem_range.mpr (by omega))) o (by
    have := mem_sel o (List.range n) hi.nodup fun x hx => List.mem_range.mpr (h.2 x hx)
    rw [h.1] at this
    exact this)
  obtain ⟨t, ht, e⟩ := List.any_eq_true.mp a
  exact ⟨t + 1, by omega, by have := List.mem_range.mp ht; omega, eq_of_beq e⟩
/-- the wheel is the span so often, at most six times -/
theorem wheel_times {tr : List Trk} {many : Nat} {mt : Bool} {rl W : Nat} (ht : tr.length ≤ many) (h6 : many ≤ 6) (h : IsWh tr many mt rl W) : ∃ T, 1 ≤ T ∧ T ≤ 6 ∧ W = spanN tr many rl * T ∧ pw many (plcN (ordN tr many mt rl (spanN tr many rl))) T = List.range many ∧ ∀ c, 0 < c → c < T → pw many (plcN (ordN tr many mt rl (spanN tr many rl))) c ≠ List.range many := by
  obtain ⟨h0, _, h2, h3, h4⟩ := h
  obtain ⟨T, rfl⟩ := Nat.dvd_of_mod_eq_zero h2
  have s0 : 0 < spanN tr many rl := Nat.pos_of_mul_pos_right h0
  have ok := ordN_ok (tr := tr) (many := many) (mt := mt) (rl := rl) ht (spanN tr many rl)
  have ij := inj_ord (tr := tr) (many := many) (mt := mt) (rl := rl) ht (spanN tr many rl)
  have T0 : 0 < T := Nat.pos_of_mul_pos_left h0
  have low : ∀ c, 0 < c → c < T → pw many (ordN tr many mt rl (spanN tr many rl)) c ≠ List.range many := fun c c0 cT e => by
    refine h4 (spanN tr many rl * c) (Nat.mul_pos s0 c0) (Nat.mul_lt_mul_of_pos_left cT s0) ⟨Nat.mul_mod_right _ _, ?_⟩
    rw [ord_pw ht s0]
    exact e
  refine ⟨T, T0, ?_, rfl, ?_, fun c c0 cT e => low c c0 cT ((pw_plc ok ij c).mp e)⟩
  · obtain ⟨t, t1, t6, e⟩ := back_six ok ij h6
    by_cases z : t < T
    · exact absurd e (low t (by omega) z)
    · omega
  · rw [pw_plc ok ij]
    rw [ord_pw ht s0] at h3
    exact h3
end Dk
namespace Dk
open PySem L2
/-! ### least ways from cell to cell -/
abbrev Cell := Str × Nat
section
variable (nx : Cell → List Cell) (B : List Cell) (en : Cell → Bool)
/-- a row of cells, the last one first, each come to from the one behind it -/
def Rp : List Cell → Prop
  | [] => False
  | [c] => c ∈ B
  | c :: p :: t => c ∈ nx p ∧ Rp (p :: t)
/-- the least number of steps to an end -/
def IsL : Option Nat → Prop
  | none => ∀ c t, Rp nx B (c :: t) → en c = false
  | some n => (∃ c t, Rp nx B (c :: t) ∧ en c = true ∧ t.length = n) ∧ ∀ c t, Rp nx B (c :: t) → en c = true → n ≤ t.length
end
section
variable {nx : Cell → List Cell} {B : List Cell} {en : Cell → Bool}
theorem IsL.uniq {o u : Option Nat} (h : IsL nx B en o) (g : IsL nx B en u) : o = u := by
  cases o with
  | none =>
    cases u with
    | none => rfl
    | some m =>
      obtain ⟨⟨c, t, h1, h2, _⟩, _⟩ := g
      rw [h c t h1] at h2
      cases h2
  | some n =>
    obtain ⟨⟨c, t, h1, h2, h3⟩, hn⟩ := h
    cases u with
    | none =>
      rw [g c t h1] at h2
      cases h2
    | some m =>
      obtain ⟨⟨c', t', g1, g2, g3⟩, gm⟩ := g
      have a := hn c' t' g1 g2
      have b := gm c t h1 h2
      congr 1
      omega
/-- cells come to, each with the row behind it; the first n are gone through -/
structure Bfs (nx : Cell → List Cell) (B : List Cell) (en : Cell → Bool) (ps : List (Cell × List Cell)) (n : Nat) : Prop where
  nd : (ps.map (·.1)).Nodup
  par : ∀ e ∈ ps, (e.2 = [] ∧ e.1 ∈ B) ∨ ∃ e' ∈ ps, e.2 = e'.1 :: e'.2 ∧ e.1 ∈ nx e'.1
  srt : ∀ (i j : Nat) (a b : Cell × List Cell), i ≤ j → ps[i]? = some a → ps[j]? = some b → a.2.length ≤ b.2.length
  noe : ∀ (i : Nat) (a : Cell × List Cell), i < n → ps[i]? = some a → en a.1 = false
  cld : ∀ (i : Nat) (a : Cell × List Cell), i < n → ps[i]? = some a → ∀ o ∈ nx a.1, ∃ e ∈ ps, e.1 = o ∧ e.2.length ≤ a.2.length + 1
  beg : ∀ b ∈ B, (b, []) ∈ ps
  lt : ∀ (i : Nat) (a : Cell × List Cell), ps[i]? = some a → a.2.length ≤ i
  top : ∀ (i : Nat) (a : Cell × List Cell), n ≤ i → ps[i]? = some a → ∀ e ∈ ps, e.2.length ≤ a.2.length + 1
theorem Bfs.rp {ps : List (Cell × List Cell)} {n : Nat} (h : Bfs nx B en ps n) : ∀ (m : Nat) (e : Cell × List Cell), e.2.length = m → e ∈ ps → Rp nx B (e.1 :: e.2)
  | m, e, hm, he => by
    rcases h.par e he with ⟨z, hb⟩ | ⟨e', he', z, hx⟩
    · rw [z]
      exact hb
    · rw [z]
      refine ⟨hx, ?_⟩
      have hl : e'.2.length < m := by
        rw [← hm, z]
        show e'.2.length < e'.2.length + 1
        omega
      exact h.rp e'.2.length e' rfl he'
termination_by m => m
theorem Bfs.low {ps : List (Cell × List Cell)} {n : Nat} (h : Bfs nx B en ps n) : ∀ (t : List Cell) (c : Cell), Rp nx B (c :: t) → (∃ i a, i < n ∧ ps[i]? = some a ∧ a.1 = c ∧ a.2.length ≤ t.length) ∨ (∃ j b, n ≤ j ∧ ps[j]? = some b ∧ b.2.length ≤ t.length)
  | [], c, r => by
    obtain ⟨i, hi, e⟩ := List.getElem_of_mem (h.beg c r)
    have e' : ps[i]? = some (c, []) := by rw [List.getElem?_eq_getElem hi, e]
    by_cases z : i < n
    · exact .inl ⟨i, _, z, e', rfl, Nat.le_refl _⟩
    · exact .inr ⟨i, _, by omega, e', Nat.le_refl _⟩
  | p :: t, c, r => by
    rcases h.low t p r.2 with ⟨i, a, hi, ea, rfl, la⟩ | ⟨j, b, hj, eb, lb⟩
    · obtain ⟨e, he, rfl, le⟩ := h.cld i a hi ea c r.1
      obtain ⟨j, hj, ej⟩ := List.getElem_of_mem he
      have e' : ps[j]? = some e := by rw [List.getElem?_eq_getElem hj, ej]
      have l2 : e.2.length ≤ (a.1 :: t).length := by
        show e.2.length ≤ t.length + 1
        omega
      by_cases z : j < n
      · exact .inl ⟨j, e, z, e', rfl, l2⟩
      · exact .inr ⟨j, e, by omega, e', l2⟩
    · exact .inr ⟨j, b, hj, eb, by show b.2.length ≤ t.length + 1; omega⟩
theorem Bfs.found {ps : List (Cell × List Cell)} {n : Nat} {e : Cell × List Cell} (h : Bfs nx B en ps n) (he : ps[n]? = some e) (hn : en e.1 = true) : IsL nx B en (some e.2.length) := by
  refine ⟨⟨e.1, e.2, h.rp _ e rfl (List.mem_of_getElem? he), hn, rfl⟩, fun c t r hc => ?_⟩
  rcases h.low t c r with ⟨i, a, hi, ea, rfl, la⟩ | ⟨j, b, hj, eb, lb⟩
  · rw [h.noe i a hi ea] at hc
    cases hc
  · exact Nat.le_trans (h.srt n j e b hj he eb) lb
theorem Bfs.none_ {ps : List (Cell × List Cell)} {n : Nat} (h : Bfs nx B en ps n) (he : ps.length ≤ n) : IsL nx B en none := fun c t r => by
  rcases h.low t c r with ⟨i, a, hi, ea, rfl, la⟩ | ⟨j, b, hj, eb, lb⟩
  · exact h.noe i a hi ea
  · rw [List.getElem?_eq_none (by omega)] at eb
    cases eb
theorem Bfs.start (hB : B.Nodup) : Bfs nx B en (B.map fun b => (b, [])) 0 := by
  have e : ∀ x ∈ B.map fun b => ((b, []) : Cell × List Cell), x.2 = [] ∧ x.1 ∈ B := fun x hx => by
    obtain ⟨b, hb, rfl⟩ := List.mem_map.mp hx
    exact ⟨rfl, hb⟩
  refine ⟨?_, fun x hx => .inl (e x hx), fun i j a b _ h1 h2 => ?_, fun i a h => by omega, fun i a h => by omega, fun b hb => List.mem_map.mpr ⟨b, hb, rfl⟩, fun i a h1 => by rw [(e a (List.mem_of_getElem? h1)).1]; exact Nat.zero_le _, fun i a _ h1 x hx => ?_⟩
  · rw [List.map_map]
    show (B.map fun b => b).Nodup
    rw [List.map_id']
    exact hB
  · rw [(e a (List.mem_of_getElem? h1)).1]
    exact Nat.zero_le _
  · rw [(e x hx).1]
    exact Nat.zero_le _
/-- one that is no end is gone through: its steps, so far those of the first j, are come to -/
structure BfsIn (nx : Cell → List Cell) (B : List Cell) (en : Cell → Bool) (ps : List (Cell × List Cell)) (n : Nat) (e : Cell × List Cell) (j : Nat) : Prop extends Bfs nx B en ps n where
  at_ : ps[n]? = some e
  ne : en e.1 = false
  hv : ∀ o ∈ (nx e.1).take j, ∃ x ∈ ps, x.1 = o ∧ x.2.length ≤ e.2.length + 1
theorem Bfs.into {ps : List (Cell × List Cell)} {n : Nat} {e : Cell × List Cell} (h : Bfs nx B en ps n) (he : ps[n]? = some e) (hn : en e.1 = false) : BfsIn nx B en ps n e 0 := ⟨h, he, hn, fun o ho => by simp at ho⟩
theorem BfsIn.there {ps : List (Cell × List Cell)} {n j : Nat} {e : Cell × List Cell} {o : Cell} (h : BfsIn nx B en ps n e j) (ho : (nx e.1)[j]? = some o) (hm : o ∈ ps.map (·.1)) : BfsIn nx B en ps n e (j + 1) := by
  refine ⟨h.toBfs, h.at_, h.ne, fun x hx => ?_⟩
  rw [take_snoc' ho] at hx
  rcases List.mem_append.mp hx with z | z
  · exact h.hv x z
  · rw [List.mem_singleton.mp z]
    obtain ⟨y, hy, ey⟩ := List.mem_map.mp hm
    exact ⟨y, hy, ey, h.top n e (by omega) h.at_ y hy⟩
theorem get_snoc {α : Type} {l : List α} {x y : α} {i : Nat} (h : (l ++ [x])[i]? = some y) : l[i]? = some y ∨ (i = l.length ∧ y = x) := by
  by_cases z : i < l.length
  · rw [List.getElem?_append_left z] at h
    exact .inl h
  · rw [List.getElem?_append_right (by omega)] at h
    have : i - l.length = 0 := by
      cases e : i - l.length with
      | zero => rfl
      | succ k =>
        rw [e] at h
        simp at h
    rw [this] at h
    exact .inr ⟨by omega, (Option.some.inj h).symm⟩
theorem BfsIn.more {ps : List (Cell × List Cell)} {n j : Nat} {e : Cell × List Cell} {o : Cell} (h : BfsIn nx B en ps n e j) (ho : (nx e.1)[j]? = some o) (hm : o ∉ ps.map (·.1)) : BfsIn nx B en (ps ++ [(o, e.1 :: e.2)]) n e (j + 1) := by
  have nl : n < ps.length := (List.getElem?_eq_some_iff.mp h.at_).1
  have mem : ∀ x ∈ ps ++ [(o, e.1 :: e.2)], x ∈ ps ∨ x = (o, e.1 :: e.2) := fun x hx => (List.mem_append.mp hx).imp id List.mem_singleton.mp
  have up : ∀ x ∈ ps, x ∈ ps ++ [(o, e.1 :: e.2)] := fun x hx => List.mem_append.mpr (.inl hx)
  have em := List.mem_of_getElem? h.at_
  have at' : (ps ++ [(o, e.1 :: e.2)])[n]? = some e := by rw [List.getElem?_append_left nl]; exact h.at_
  refine ⟨⟨?_, fun x hx => ?_, fun i j' a b hij h1 h2 => ?_, fun i a hi h1 => ?_, fun i a hi h1 y hy => ?_, fun b hb => up _ (h.beg b hb), fun i a h1 => ?_, fun i a hi h1 x hx => ?_⟩, at', h.ne, fun x hx => ?_⟩
  · rw [List.map_append]
    exact nodup_snoc h.nd hm
  · rcases mem x hx with z | rfl
    · rcases h.par x z with y | ⟨e', he', y⟩
      · exact .inl y
      · exact .inr ⟨e', up _ he', y⟩
    · exact .inr ⟨e, up _ em, rfl, List.mem_of_getElem? ho⟩
  · rcases get_snoc h1 with z1 | ⟨z1, rfl⟩
    · rcases get_snoc h2 with z2 | ⟨z2, rfl⟩
      · exact h.srt i j' a b hij z1 z2
      · exact h.top n e (by omega) h.at_ a (List.mem_of_getElem? z1)
    · rcases get_snoc h2 with z2 | ⟨z2, rfl⟩
      · have := (List.getElem?_eq_some_iff.mp z2).1
        omega
      · exact Nat.le_refl _
  · rcases get_snoc h1 with z1 | ⟨z1, rfl⟩
    · exact h.noe i a hi z1
    · omega
  · rcases get_snoc h1 with z1 | ⟨z1, rfl⟩
    · obtain ⟨w, hw, y⟩ := h.cld i a hi z1 y hy
      exact ⟨w, up _ hw, y⟩
    · omega
  · rcases get_snoc h1 with z1 | ⟨z1, rfl⟩
    · exact h.lt i a z1
    · have := h.lt n e h.at_
      show e.2.length + 1 ≤ i
      omega
  · have la : e.2.length ≤ a.2.length := by
      rcases get_snoc h1 with z1 | ⟨z1, rfl⟩
      · exact h.srt n i e a hi h.at_ z1
      · show e.2.length ≤ e.2.length + 1
        omega
    rcases mem x hx with z | rfl
    · have := h.top n e (by omega) h.at_ x z
      omega
    · show e.2.length + 1 ≤ a.2.length + 1
      omega
  · rw [take_snoc' ho] at hx
    rcases List.mem_append.mp hx with z | z
    · obtain ⟨w, hw, y⟩ := h.hv x z
      exact ⟨w, up _ hw, y⟩
    · rw [List.mem_singleton.mp z]
      exact ⟨_, List.mem_append.mpr (.inr (List.mem_singleton.mpr rfl)), rfl, Nat.le_refl _⟩
theorem BfsIn.done {ps : List (Cell × List Cell)} {n : Nat} {e : Cell × List Cell} (h : BfsIn nx B en ps n e (nx e.1).length) : Bfs nx B en ps (n + 1) := by
  have em := List.mem_of_getElem? h.at_
  refine ⟨h.nd, h.par, h.srt, fun i a hi h1 => ?_, fun i a hi h1 y hy => ?_, h.beg, h.lt, fun i a hi h1 x hx => ?_⟩
  · by_cases c : i < n
    · exact h.noe i a c h1
    · have : i = n := by omega
      subst this
      rw [h.at_] at h1
      rw [← Option.some.inj h1]
      exact h.ne
  · by_cases c : i < n
    · exact h.cld i a c h1 y hy
    · have : i = n := by omega
      subst this
      rw [h.at_] at h1
      rw [← Option.some.inj h1] at hy ⊢
      exact h.hv y (by rw [List.take_length]; exact hy)
  · exact h.top i a (by omega) h1 x hx
end
/-! ### cells in the heap -/
def CeA (H : Hp) (v : V) (c : Cell) : Prop := ∃ q, v = V.ref q ∧ H q = some (.tup [.str c.1, .int ((c.2 : Nat) : Int)])
abbrev CeL := AL CeA
theorem CeA.keep {H H' : Hp} {v : V} {c : Cell} (k : KeepT H H') (h : CeA H v c) : CeA H' v c := by
  obtain ⟨q, e, h⟩ := h
  exact ⟨q, e, k _ _ h⟩
theorem CeL.keep {H H' : Hp} {xs : List V} {cs : List Cell} (h : CeL H xs cs) (k : KeepT H H') : CeL H' xs cs := AL.mono h fun _ _ => CeA.keep k
theorem CeL.same {H H' : Hp} {xs : List V} {cs : List Cell} (h : CeL H xs cs) (k : Same H H') : CeL H' xs cs := CeL.keep h (KeepT.of k)
def ckey (c : Cell) : List Key := [.inr c.1, .inl ((c.2 : Nat) : Int)]
theorem ckey_inj {a b : Cell} (h : ckey a = ckey b) : a = b := by
  obtain ⟨x, n⟩ := a
  obtain ⟨y, m⟩ := b
  have h1 := (List.cons.inj h).1
  have h2 := (List.cons.inj (List.cons.inj h).2).1
  have e1 : x = y := Sum.inr.inj h1
  have e2 : ((n : Nat) : Int) = ((m : Nat) : Int) := Sum.inl.inj h2
  rw [e1, show n = m by omega]
/-- each cell's key, and from which cell it was come to -/
def AhA (H : Hp) (kv : List Key × V) (e : Cell × List Cell) : Prop := kv.1 = ckey e.1 ∧ ((e.2 = [] ∧ kv.2 = .non) ∨ ∃ p t, e.2 = p :: t ∧ CeA H kv.2 p)
def AhL (H : Hp) (ms : List (List Key × V)) (ps : List (Cell × List Cell)) : Prop := ms.length = ps.length ∧ ∀ (i : Nat) (kv : List Key × V) (e : Cell × List Cell), ms[i]? = some kv → ps[i]? = some e → AhA H kv e
theorem AhL.keep {H H' : Hp} {ms : List (List Key × V)} {ps : List (Cell × List Cell)} (h : AhL H ms ps) (k : KeepT H H') : AhL H' ms ps := ⟨h.1, fun i kv e a b => by
  obtain ⟨h1, h2⟩ := h.2 i kv e a b
  refine ⟨h1, h2.imp id ?_⟩
  rintro ⟨p, t, e1, e2⟩
  exact ⟨p, t, e1, e2.keep k⟩⟩
theorem AhL.nil {H : Hp} : AhL H [] [] := ⟨rfl, fun i kv e a _ => by simp at a⟩
theorem AhL.snoc {H : Hp} {ms : List (List Key × V)} {ps : List (Cell × List Cell)} {kv : List Key × V} {e : Cell × List Cell} (h : AhL H ms ps) (g : AhA H kv e) : AhL H (ms ++ [kv]) (ps ++ [e]) := by
  refine ⟨by rw [List.length_append, List.length_append, h.1]; rfl, fun i kv' e' a b => ?_⟩
  rcases get_snoc a with z | ⟨z, rfl⟩
  · rcases get_snoc b with y | ⟨y, rfl⟩
    · exact h.2 i kv' e' z y
    · have := (List.getElem?_eq_some_iff.mp z).1
      have := h.1
      omega
  · rcases get_snoc b with y | ⟨y, rfl⟩
    · have := (List.getElem?_eq_some_iff.mp y).1
      have := h.1
      omega
    · exact g
theorem AhL.keys {H : Hp} {ms : List (List Key × V)} {ps : List (Cell × List Cell)} (h : AhL H ms ps) : ms.map (·.1) = ps.map fun e => ckey e.1 := by
  apply List.ext_getElem?
  intro i
  rw [List.getElem?_map, List.getElem?_map]
  cases e : ms[i]? with
  | none =>
    have : ps[i]? = none := by
      rw [List.getElem?_eq_none_iff] at e ⊢
      rw [← h.1]
      exact e
    rw [this]
    rfl
  | some kv =>
    have hi := (List.getElem?_eq_some_iff.mp e).1
    have e2 : ps[i]? = some (ps[i]'(by rw [← h.1]; exact hi)) := List.getElem?_eq_getElem (by rw [← h.1]; exact hi)
    rw [e2]
    exact congrArg some (h.2 i kv _ e e2).1
theorem AhL.no {H : Hp} {ms : List (List Key × V)} {ps : List (Cell × List Cell)} {c : Cell} (h : AhL H ms ps) (n : c ∉ ps.map (·.1)) : valV ms (ckey c) = none := by
  cases e : valV ms (ckey c) with
  | none => rfl
  | some v =>
    have m := valV_in e
    rw [h.keys] at m
    obtain ⟨x, hx, ex⟩ := List.mem_map.mp m
    exact absurd (List.mem_map.mpr ⟨x, hx, ckey_inj ex⟩) n
theorem valV_at {ms : List (List Key × V)} {k : List Key} {v : V} : ∀ {i : Nat}, (ms.map (·.1)).Nodup → ms[i]? = some (k, v) → valV ms k = some v := by
  induction ms with
  | nil => intro i _ h; simp at h
  | cons p r ih =>
    intro i nd h
    rw [List.map_cons, List.nodup_cons] at nd
    cases i with
    | zero =>
      have : p = (k, v) := Option.some.inj h
      rw [this]
      exact valV_pos rfl
    | succ i =>
      have hm : k ∈ r.map (·.1) := List.mem_map.mpr ⟨(k, v), List.mem_of_getElem? h, rfl⟩
      rw [valV_neg (fun z => nd.1 (z ▸ hm))]
      exact ih nd.2 h
theorem map_key_nodup {ps : List (Cell × List Cell)} (h : (ps.map (·.1)).Nodup) : (ps.map fun e => ckey e.1).Nodup := by
  have e : (ps.map fun e => ckey e.1) = (ps.map (·.1)).map ckey := by rw [List.map_map]; rfl
  rw [e]
  exact List.Pairwise.map ckey (fun a b n z => n (ckey_inj z)) h
theorem AhL.get {H : Hp} {ms : List (List Key × V)} {ps : List (Cell × List Cell)} {e : Cell × List Cell} (h : AhL H ms ps) (nd : (ps.map (·.1)).Nodup) (he : e ∈ ps) : ∃ v, valV ms (ckey e.1) = some v ∧ ((e.2 = [] ∧ v = .non) ∨ ∃ p t, e.2 = p :: t ∧ CeA H v p) := by
  obtain ⟨i, hi, ei⟩ := List.getElem_of_mem he
  have e2 : ps[i]? = some e := by rw [List.getElem?_eq_getElem hi, ei]
  have hi' : i < ms.length := by rw [h.1]; exact hi
  have e1 : ms[i]? = some ms[i] := List.getElem?_eq_getElem hi'
  obtain ⟨a, b⟩ := h.2 i _ e e1 e2
  refine ⟨(ms[i]).2, ?_, b⟩
  exact valV_at (i := i) (by rw [h.keys]; exact map_key_nodup nd) (by rw [e1, ← a])
end Dk
namespace Dk
open PySem PySem.Spec PyProof.Rows L2 LamX NdefX
/-! ### a function that was handed in -/
def HF (P : Program) (w : World) (K : PySem.W.Frag) (mg : Str → Option Value) (base : Heap) (k : Nat) (ps : List Str) (s : Shared) (H : Hp) (f : Addr) (sp : Sp) : Prop :=
  ∃ (F : NF) (be : Expr) (fr : List Str) (ws : List (Option V)) (spw : List (Option V) → Sp), LOk P w K mg base CX0 k f F be ps fr spw ∧ CellsAt F.cl fr ws s.heap H ∧ H f = some (LmO f F be) ∧ H F.c = some (CodeO F.c F.qual) ∧ ∀ vs G Q, sp vs G Q E0 → spw ws vs G Q E0
def tHF (H0 : Hp) (i : Nat) (f : Addr) (sp : Sp) (t : TA) : TE := fun σ H Q => σ[i]? = some (some (.ref f)) ∧ Same H0 H ∧ t σ H fun vs H1 => Same H0 H1 ∧ sp vs H1 Q E0
theorem pe_hf {X : Cx} {k i : Nat} {f : Addr} {ps : List Str} {sp : Sp} {x : Str} {e : Expr} {es : List Expr} {t : TA} {p pos : Pos} (h : HF X.prog X.w X.K X.mg X.base k ps X.s_0 X.H_0 f sp) (hx : X.ex = []) (hr : Room k X.A) (hN : X.N[i]? = some x) (hv : Vis X.env.scope x) (ha : PA X (e :: es) t)
    (d1 : (x == ("__debug__" : Str)) = false := by decide) (d2 : (x == ("__classdict__" : Str)) = false := by decide)
    (he : starEach (e :: es) X.env = (false, eval e X.env) :: starEach es X.env := by rfl) (hpl : (backTo pos (starEach es X.env)).any (·.1) = false := by rfl) : PE X (.Call (.Name x p) (e :: es) [] pos) (tHF X.H_0 i f sp t) := by
  obtain ⟨F, be, fr, ws, spw, L, C, h1, h2, im⟩ := h
  constructor
  intro pins s σ H Q J q
  obtain ⟨hs, q2, ht⟩ := q
  refine wpAny_Call_Name_kw (thn ((pe_var (pos := p) hN hv d1 d2).run pins s σ H (fun v G => v = .ref f ∧ G = H) J ⟨.ref f, hs, rfl, rfl⟩) fun u s1 hu => ?_)
  obtain ⟨v, G, J1, ru, rfl, rfl⟩ := hu
  obtain rfl : u = Value.ref f := ru
  have fnAt : ∀ {s2 : Shared} {H2 : Hp}, Inv X pins σ H2 s2 → H2 f = some (LmO f F be) → PySem.W.FnAt f s2.heap := fun J2 z => by
    obtain ⟨dx, sl, m, ct, ho⟩ := lm_at J2.hok z
    exact ⟨_, dx, _, sl, ho⟩
  refine PySem.W.callWith_F (first := []) (fnAt J1 (q2 _ _ h1)) (thn (ha.run pos pins s1 σ _ _ J1 ht) fun us s2 hu => ?_) he hpl
  obtain ⟨vs, H2, J2, rv, z1, z⟩ := hu
  refine ⟨fnAt J2 (z1 _ _ h1), ?_⟩
  show wpAny _ _ (call (.ref f) us) _ _ _
  refine wpAny_call (codeAny_mono (L.run X.A X.stack s2 H2 us vs ws Q E0 hr J2.env0 (z1 _ _ h1) (z1 _ _ h2) (cells_go C hx J2) rv (im vs H2 Q z)) fun r s3 z => ?_)
  match r, z with
  | .error e, z => exact z.elim
  | .ok (.ret u), z => exact J2.after z
/-! ### promises of the search -/
def spBh (H0 : Hp) (nx : Cell → List Cell) (ok : Cell → Prop) : Sp := fun vs H Q _ => ∃ (q : Addr) (c : Cell), vs = [.ref q] ∧ Same H0 H ∧ H q = some (.tup [.str c.1, .int ((c.2 : Nat) : Int)]) ∧ ok c ∧ ∀ (H' : Hp) (p : Addr) (xs : List V), Same H H' → H p = none → H' p = some (.lst xs) → CeL H' xs (nx c) → Q (.ref p) H'
def spEn (H0 : Hp) (en : Cell → Bool) (ok : Cell → Prop) : Sp := fun vs H Q _ => ∃ (q : Addr) (c : Cell), vs = [.ref q] ∧ Same H0 H ∧ H q = some (.tup [.str c.1, .int ((c.2 : Nat) : Int)]) ∧ ok c ∧ ∀ H', Same H H' → Q (.bl (en c)) H'
def spTraced : Sp := fun vs H Q _ => ∃ (a q : Addr) (ms : List (List Key × V)) (ps : List (Cell × List Cell)) (e : Cell × List Cell), vs = [.ref a, .ref q] ∧ H a = some (.dT ms) ∧ AhL H ms ps ∧ (ps.map (·.1)).Nodup ∧ (∀ e ∈ ps, e.2 = [] ∨ ∃ e' ∈ ps, e.2 = e'.1 :: e'.2) ∧ e ∈ ps ∧ H q = some (.tup [.str e.1.1, .int ((e.1.2 : Nat) : Int)]) ∧ e.2.length < 1000000 ∧
  ∀ (H' : Hp) (p : Addr) (xs : List V), Same H H' → H p = none → H' p = some (.lst xs) → CeL H' xs (e.1 :: e.2).reverse → Q (.ref p) H'
theorem AL.rev' {α : Type} {R : Hp → V → α → Prop} {H : Hp} {xs : List V} {ps : List α} (h : AL R H xs ps) : AL R H xs.reverse ps.reverse := by
  refine ⟨by rw [List.length_reverse, List.length_reverse, h.1], fun i x p a b => ?_⟩
  have hi : i < xs.length := by
    have := (List.getElem?_eq_some_iff.mp a).1
    rw [List.length_reverse] at this
    exact this
  rw [List.getElem?_reverse hi] at a
  rw [List.getElem?_reverse (by rw [← h.1]; exact hi), ← h.1] at b
  exact h.2 _ x p a b
theorem Bfs.tails {nx : Cell → List Cell} {B : List Cell} {en : Cell → Bool} {ps : List (Cell × List Cell)} {n : Nat} (h : Bfs nx B en ps n) : ∀ e ∈ ps, e.2 = [] ∨ ∃ e' ∈ ps, e.2 = e'.1 :: e'.2 := fun e he => (h.par e he).imp (fun z => z.1) fun ⟨e', h1, h2, _⟩ => ⟨e', h1, h2⟩
/-! ### promises of the scene's cells -/
noncomputable def stpS (zs : List Str) (ds ss : List SS) (ps : List Pst) (ws : List Wtc) (mt : Bool) (rl W : Nat) (b : Int) (z : Str) : List Str := stpN zs ds ss (ps.map (·.2)) (reachN ws ((ordN (ps.map (·.2)) ws.length mt rl (rest (b + 1) W)).take (ps.map (·.2)).length)) (b + 1) z
noncomputable def nxS (zs : List Str) (ds ss : List SS) (ps : List Pst) (ws : List Wtc) (mt : Bool) (rl W : Nat) (c : Cell) : List Cell := (stpS zs ds ss ps ws mt rl W ((c.2 : Nat) : Int) c.1).map fun o => (o, (c.2 + 1) % W)
def spNextCells (C CS : Addr) : Sp := fun vs H Q _ => ∃ (s q : Addr) (zs : List Str) (ds ss : List SS) (ps : List Pst) (ws : List Wtc) (mt : Bool) (rl W : Nat) (c : Cell), vs = [.ref s, .ref q] ∧ SceneAt C CS H s zs ds ss ps ws mt rl W ∧ H q = some (.tup [.str c.1, .int ((c.2 : Nat) : Int)]) ∧ c.1 ∈ zs ∧ c.2 < W ∧
  ∀ (H' : Hp) (p : Addr) (xs : List V), Same H H' → H p = none → H' p = some (.lst xs) → CeL H' xs (nxS zs ds ss ps ws mt rl W c) → Q (.ref p) H'
def spHouseM (C CS : Addr) : Sp := fun vs H Q _ => ∃ (s : Addr) (zs : List Str) (ds ss : List SS) (ps : List Pst) (ws : List Wtc) (mt : Bool) (rl W : Nat), vs = [.ref s] ∧ SceneAt C CS H s zs ds ss ps ws mt rl W ∧ ∀ h, HouseAt C H h zs (lnk zs (both ds)) (lnk zs ss) → Q (.ref h) H
def optI : Option Int → V
  | none => .non
  | some b => .int b
def begOk (o : Option Int) : Prop := ∀ b, o = some b → beatOk b
def spNeedAsked (C CS : Addr) : Sp := fun vs H Q _ => ∃ (s a g : Addr) (zs : List Str) (ds ss : List SS) (ps : List Pst) (ws : List Wtc) (mt : Bool) (rl W : Nat) (st gl : List Str) (o : Option Int), vs = [.ref s, .ref a, .ref g, optI o] ∧ SceneAt C CS H s zs ds ss ps ws mt rl W ∧ H a = some (.lst (st.map V.str)) ∧ H g = some (.lst (gl.map V.str)) ∧ (∀ z ∈ st, z ∈ zs) ∧ (∀ z ∈ gl, z ∈ zs) ∧ st.length ≤ 100 ∧ gl.length ≤ 100 ∧ begOk o ∧ ∀ H', Same H H' → Q .non H'
def rsts (W : Nat) : Option Int → List Nat
  | none => List.range W
  | some b => [rest b W]
noncomputable def begS (zs : List Str) (ss : List SS) (ps : List Pst) (ws : List Wtc) (mt : Bool) (rl W : Nat) (st : List Str) (r : Nat) : List Cell := (zs.filter fun z => decide (z ∈ st) && !decide (z ∈ litAt zs (lnk zs ss) (ps.map (·.2)) ws mt rl r)).map fun z => (z, r)
noncomputable def begAll (zs : List Str) (ss : List SS) (ps : List Pst) (ws : List Wtc) (mt : Bool) (rl W : Nat) (st : List Str) (o : Option Int) : List Cell := ((rsts W o).map (begS zs ss ps ws mt rl W st)).flatten
def spTold : Sp := fun vs H Q _ => ∃ (a : Addr) (xs : List V) (cs : List Cell) (c : Cell) (r : List Cell) (o : Option Int), vs = [.ref a, optI o] ∧ H a = some (.lst xs) ∧ CeL H xs (c :: r) ∧ cs = c :: r ∧ cs.length ≤ 1000000 ∧
  ∀ (H' : Hp) (tp rp : Addr), Same H H' → H tp = none → H' tp = some (.tup [.str "way", .int (o.getD ((c.2 : Nat) : Int)), .ref rp]) → H' rp = some (.tup ((cs.map (·.1)).map V.str)) → Q (.ref tp) H'
/-- all but the tables stays; what is free was free -/
structure Ex (H H' : Hp) : Prop where
  ex : ExtN H H'
  mono : ∀ b, H' b = none → H b = none
theorem Ex.refl (H : Hp) : Ex H H := ⟨ExtN.refl H, fun _ h => h⟩
theorem Ex.of {H H' : Hp} (e : Same H H') : Ex H H' := ⟨ExtN.of e, fun _ h => e.free h⟩
theorem Ex.trans {H H1 H2 : Hp} (a : Ex H H1) (b : Ex H1 H2) : Ex H H2 := ⟨a.ex.trans b.ex, fun x h => a.mono x (b.mono x h)⟩
theorem wheel_small {tr : List Trk} {many : Nat} {mt : Bool} {rl W : Nat} (ht : tr.length ≤ many) (h6 : many ≤ 6) (h4 : rl ≤ 4) (ok : TrOk tr) (h : IsWh tr many mt rl W) : W ≤ 1440 := by
  obtain ⟨T, h1, h2, h3, _⟩ := wheel_times ht h6 h
  have := span_le (tr := tr) (many := many) (rl := rl) ok h4
  rw [h3]
  calc spanN tr many rl * T ≤ 240 * 6 := Nat.mul_le_mul this h2
    _ = 1440 := rfl
end Dk
namespace Dk
open PySem L2
/-! ### the beginnings: each once, all of the scene -/
theorem begS_mem {zs : List Str} {ss : List SS} {ps : List Pst} {ws : List Wtc} {mt : Bool} {rl W : Nat} {st : List Str} {r : Nat} {c : Cell} (h : c ∈ begS zs ss ps ws mt rl W st r) : c.1 ∈ zs ∧ c.2 = r := by
  obtain ⟨z, hz, rfl⟩ := List.mem_map.mp h
  exact ⟨(List.mem_filter.mp hz).1, rfl⟩
theorem begS_nodup {zs : List Str} {ss : List SS} {ps : List Pst} {ws : List Wtc} {mt : Bool} {rl W : Nat} {st : List Str} {r : Nat} (h : zs.Nodup) : (begS zs ss ps ws mt rl W st r).Nodup := by
  unfold begS
  exact List.Pairwise.map _ (fun a b n z => n (congrArg Prod.fst z)) (h.filter _)
theorem begL_nodup {zs : List Str} {ss : List SS} {ps : List Pst} {ws : List Wtc} {mt : Bool} {rl W : Nat} {st : List Str} (h : zs.Nodup) : ∀ {l : List Nat}, l.Nodup → ((l.map (begS zs ss ps ws mt rl W st)).flatten).Nodup
  | [], _ => List.nodup_nil
  | r :: l, hl => by
    rw [List.map_cons, List.flatten_cons, List.nodup_append]
    refine ⟨begS_nodup h, begL_nodup h (List.nodup_cons.mp hl).2, fun a ha b hb e => ?_⟩
    subst e
    obtain ⟨x, hx, hax⟩ := List.mem_flatten.mp hb
    obtain ⟨r', hr', rfl⟩ := List.mem_map.mp hx
    have e1 := (begS_mem ha).2
    have e2 := (begS_mem hax).2
    exact (List.nodup_cons.mp hl).1 (by rw [← e1, e2]; exact hr')
theorem begAll_nodup {zs : List Str} {ss : List SS} {ps : List Pst} {ws : List Wtc} {mt : Bool} {rl W : Nat} {st : List Str} {o : Option Int} (h : zs.Nodup) : (begAll zs ss ps ws mt rl W st o).Nodup := by
  refine begL_nodup h ?_
  cases o with
  | none => exact List.nodup_range
  | some b => exact List.nodup_cons.mpr ⟨List.not_mem_nil, List.nodup_nil⟩
theorem rsts_lt {W : Nat} (h : 0 < W) {o : Option Int} : ∀ r ∈ rsts W o, r < W := by
  cases o with
  | none => exact fun r hr => List.mem_range.mp hr
  | some b => exact fun r hr => by rw [List.mem_singleton.mp hr]; exact (rest_lt h b).1
theorem begAll_ok {zs : List Str} {ss : List SS} {ps : List Pst} {ws : List Wtc} {mt : Bool} {rl W : Nat} {st : List Str} {o : Option Int} (h : 0 < W) : ∀ c ∈ begAll zs ss ps ws mt rl W st o, c.1 ∈ zs ∧ c.2 < W := fun c hc => by
  obtain ⟨x, hx, hcx⟩ := List.mem_flatten.mp hc
  obtain ⟨r, hr, rfl⟩ := List.mem_map.mp hx
  obtain ⟨h1, h2⟩ := begS_mem hcx
  exact ⟨h1, by rw [h2]; exact rsts_lt h r hr⟩
theorem nxS_ok {zs : List Str} {ds ss : List SS} {ps : List Pst} {ws : List Wtc} {mt : Bool} {rl W : Nat} (h : 0 < W) (c : Cell) : ∀ o ∈ nxS zs ds ss ps ws mt rl W c, o.1 ∈ zs ∧ o.2 < W := fun o ho => by
  obtain ⟨z, hz, rfl⟩ := List.mem_map.mp ho
  exact ⟨stp_mem z hz, Nat.mod_lt _ h⟩
def cellU (zs : List Str) (W : Nat) : List Cell := zs.flatMap fun z => (List.range W).map fun r => (z, r)
theorem cellU_mem {zs : List Str} {W : Nat} {c : Cell} (h : c.1 ∈ zs ∧ c.2 < W) : c ∈ cellU zs W := List.mem_flatMap.mpr ⟨c.1, h.1, List.mem_map.mpr ⟨c.2, List.mem_range.mpr h.2, rfl⟩⟩
theorem cellU_len (zs : List Str) (W : Nat) : (cellU zs W).length = zs.length * W := by
  unfold cellU
  exact flatMap_len _ W (fun z => by rw [List.length_map, List.length_range]) zs
/-- the code object of a def -/
def codeA (K : PySem.W.Frag) (f : Addr) : Option Addr := match K.lookup f with
  | some ⟨_, _, .func fd, _⟩ => (match fd.code with
    | .ref c => some c
    | _ => none)
  | _ => none
theorem codeA_of {K : PySem.W.Frag} {f c : Addr} {oc : Value} {od : Option Addr} {fd : FuncData} {sl : Array (Option Value)} (l : K.lookup f = some ⟨oc, od, .func fd, sl⟩) (h : codeA K f = some c) : fd.code = .ref c := by
  unfold codeA at h
  rw [l] at h
  dsimp only at h
  split at h
  · rename_i e
    rw [e, Option.some.inj h]
  · cases h
def wayQ : Str := "way.<locals>.<lambda>"
theorem Ex.put {H H' : Hp} {p : Addr} {o : HO} (e : Ex H H') (n : H' p = none) : Ex H (upd H' p o) := e.trans (Ex.of (same_new n))
theorem ExtN.keepT {H H' : Hp} (e : LamX.ExtN H H') : KeepT H H' := fun t xs h => e t _ h (fun _ z => by cases z)
theorem KpI.ofN {s : Addr} {H H' : Hp} (e : LamX.ExtN H H') : KpI s H H' := ⟨fun _ _ h => e _ _ h (fun _ z => by cases z), ExtN.keepT e, fun _ _ h => e _ _ h (fun _ z => by cases z), fun _ _ _ _ _ h => e _ _ h (fun _ z => by cases z)⟩
theorem ScA.ext {C CS : Addr} {H H' : Hp} {s : Addr} {zs : List Str} {ds ss : List SS} {ps : List Pst} {ws : List Wtc} {mt : Bool} {rl W : Nat} {dx h p w o hd l m : Addr} {xs ys os ls ms : List V} (a : ScA C CS H s zs ds ss ps ws mt rl W dx h p w o hd l m xs ys os ls ms) (e : LamX.ExtN H H') : ScA C CS H' s zs ds ss ps ws mt rl W dx h p w o hd l m xs ys os ls ms := by
  have k : ∀ x, KpI x H H' := fun x => KpI.ofN e
  exact ⟨e _ _ a.obj (fun _ z => by cases z), a.fh.kpi (s := h + 1) (fun z => absurd z (Nat.ne_of_lt (Nat.lt_succ_self _))) (k _), (k 0).lst _ _ a.fp, PsL.keep a.fps (k 0).tup, (k 0).lst _ _ a.fw, WtL.keep a.fws (k 0).tup, (k 0).lst _ _ a.fo, a.fos.kpi (k 0), a.fhd.kpi (k 0), (k 0).lst _ _ a.fl, SsL.kpi a.fls (k 0), (k 0).lst _ _ a.fm, MvL.kpi a.fms (k 0), a.fwh⟩
theorem SceneAt.ext {C CS : Addr} {H H' : Hp} {s : Addr} {zs : List Str} {ds ss : List SS} {ps : List Pst} {ws : List Wtc} {mt : Bool} {rl W : Nat} (a : SceneAt C CS H s zs ds ss ps ws mt rl W) (e : LamX.ExtN H H') : SceneAt C CS H' s zs ds ss ps ws mt rl W := by
  obtain ⟨ok, dx, h, p, w, o, hd, l, m, xs, ys, os, ls, ms, a⟩ := a
  exact ⟨ok, dx, h, p, w, o, hd, l, m, xs, ys, os, ls, ms, a.ext e⟩
theorem SceneAt.small {C CS : Addr} {H : Hp} {s : Addr} {zs : List Str} {ds ss : List SS} {ps : List Pst} {ws : List Wtc} {mt : Bool} {rl W : Nat} (a : SceneAt C CS H s zs ds ss ps ws mt rl W) : W ≤ 1440 := by
  obtain ⟨ok, dx, h, p, w, o, hd, l, m, xs, ys, os, ls, ms, a⟩ := a
  exact wheel_small (by rw [List.length_map]; exact ok.bare) ok.wok.six ok.rl4 ok.tr a.fwh
end Dk
namespace Dk
open PySem L2 LamX
/-! ### heaps between which only tables grow -/
theorem Ex.put' {G H : Hp} {D : Addr} {o : HO} (e : Ex G H) (n : G D = none) : Ex G (upd H D o) := ⟨fun q u h t => by rw [upd_ne (ne_of_none h n)]; exact e.ex q u h t, fun b hb => by
  by_cases z : b = D
  · rw [z]
    exact n
  · rw [upd_ne z] at hb
    exact e.mono b hb⟩
theorem Ex.lst {H H' : Hp} {q : Addr} {xs : List V} (e : Ex H H') (h : H q = some (.lst xs)) : H' q = some (.lst xs) := e.ex _ _ h (fun _ z => by cases z)
theorem Ex.tup {H H' : Hp} {q : Addr} {xs : List V} (e : Ex H H') (h : H q = some (.tup xs)) : H' q = some (.tup xs) := e.ex _ _ h (fun _ z => by cases z)
theorem Box.ex {H H' : Hp} {b l : Addr} (h : Box H b l) (e : Ex H H') : Box H' b l := by
  obtain ⟨ns, i, c, s, t, h1, h2, r⟩ := h
  exact ⟨ns, i, c, s, t, e.lst h1, e.lst h2, r⟩
theorem Tabs.put {T : List (Addr × Str)} {H : Hp} {D : Addr} {xs : List V} {o : HO} (h : Tabs T H) (hD : H D = some (.lst xs)) : Tabs T (upd H D o) := fun p hp => by
  obtain ⟨ps, h1, h2, h3⟩ := h p hp
  refine ⟨ps, by rw [upd_ne (fun z => by rw [z, hD] at h1; cases h1)]; exact h1, h2, fun pos cv hc => ?_⟩
  obtain ⟨c, e1, e2⟩ := h3 pos cv hc
  refine ⟨c, e1, ?_⟩
  rw [upd_ne (fun z => by rw [z, hD] at e2; unfold CodeO at e2; cases e2)]
  exact e2
theorem Tabs.sav {T : List (Addr × Str)} {H H' : Hp} {b l : Addr} (h : Tabs T H) (hB : Box H b l) (v : Sav b H H') : Tabs T H' := fun p hp => by
  obtain ⟨ns, i, c, s, t, hb, _⟩ := hB
  obtain ⟨ps, h1, h2, h3⟩ := h p hp
  refine ⟨ps, v _ _ (fun z => by rw [z, hb] at h1; cases h1) h1, h2, fun pos cv hc => ?_⟩
  obtain ⟨c', e1, e2⟩ := h3 pos cv hc
  exact ⟨c', e1, v _ _ (fun z => by rw [z, hb] at e2; unfold CodeO at e2; cases e2) e2⟩
theorem LHouseN.ext {b : Addr} {H H' : Hp} {t : Addr} {zs : List Str} {ds ss : List SS} (h : LHouseN b H t zs ds ss) (e : Ex H H') : LHouseN b H' t zs ds ss := by
  obtain ⟨r, d, s, xs, us, n1, n2, n3, h1, h2, h3, h4, h5, h6⟩ := h
  have kt := ExtN.keepT e.ex
  exact ⟨r, d, s, xs, us, n1, n2, n3, e.tup h1, e.lst h2, e.lst h3, h4.keep kt, e.lst h5, h6.keep kt⟩
theorem MA.ext {b : Addr} {H H' : Hp} {m t f lm : Addr} {zs : List Str} {ds ss : List SS} {xs ys : List V} {ps : List Pst} {ws : List Wtc} {mt : Bool} {rl : Nat} (a : MA b H m t f lm zs ds ss xs ys ps ws mt rl) (e : Ex H H') : MA b H' m t f lm zs ds ss xs ys ps ws mt rl := by
  have kt := ExtN.keepT e.ex
  exact ⟨e.ex _ _ a.md (fun _ z => by cases z), a.nm, a.nf, a.nl, a.lh.ext e, e.lst a.fp, PsL.keep a.fps kt, e.lst a.fl, WtL.keep a.fls kt, a.good, a.ok⟩
/-! ### where ways begin and end -/
section
variable {zs : List Str} {ds ss : List SS} {ps : List Pst} {ws : List Wtc} {mt : Bool} {rl W : Nat} {st gl : List Str} {o : Option Int} {nx : Cell → List Cell}
theorem mem_beg {c : Cell} : c ∈ begAll zs ss ps ws mt rl W st o ↔ c.2 ∈ rsts W o ∧ c.1 ∈ zs ∧ c.1 ∈ st ∧ c.1 ∉ litAt zs (lnk zs ss) (ps.map (·.2)) ws mt rl c.2 := by
  unfold begAll
  rw [List.mem_flatten]
  constructor
  · rintro ⟨l, hl, hc⟩
    obtain ⟨r, hr, rfl⟩ := List.mem_map.mp hl
    obtain ⟨z, hz, rfl⟩ := List.mem_map.mp hc
    obtain ⟨h1, h2⟩ := List.mem_filter.mp hz
    obtain ⟨h3, h4⟩ := Bool.and_eq_true_iff.mp h2
    exact ⟨hr, h1, of_decide_eq_true h3, by simpa using h4⟩
  · rintro ⟨h1, h2, h3, h4⟩
    refine ⟨_, List.mem_map.mpr ⟨c.2, h1, rfl⟩, List.mem_map.mpr ⟨c.1, List.mem_filter.mpr ⟨h2, ?_⟩, rfl⟩⟩
    rw [decide_eq_true h3, decide_eq_false h4]
    rfl
theorem Rp.mono {B B' : List Cell} (h : ∀ c ∈ B, c ∈ B') : ∀ {r : List Cell}, Rp nx B r → Rp nx B' r
  | [], x => x
  | [c], x => h c x
  | c :: p :: t, x => ⟨x.1, Rp.mono h (r := p :: t) x.2⟩
end
/-! ### promises of the law's parts -/
def optN : Option Nat → V
  | none => .non
  | some n => .int ((n : Nat) : Int)
end Dk
namespace Dk
open PySem L2 LamX
/-! ### the ways between single rooms, and the ways between many -/
def Cov {ι : Type} (I : ι → Prop) (R : ι → Option Nat → Prop) (os : List (Option Nat)) : Prop := (∀ i, I i → ∃ x ∈ os, R i x) ∧ ∀ x ∈ os, ∃ i, I i ∧ R i x
theorem Cov.nil {ι : Type} {I : ι → Prop} {R : ι → Option Nat → Prop} (h : ∀ i, ¬ I i) : Cov I R [] := ⟨fun i hi => absurd hi (h i), fun x hx => by cases hx⟩
theorem Cov.one {ι : Type} {R : ι → Option Nat → Prop} {i : ι} {x : Option Nat} (h : R i x) : Cov (fun j => j = i) R [x] := ⟨fun j hj => ⟨x, List.mem_cons_self .., hj ▸ h⟩, fun y hy => ⟨i, rfl, by rw [List.mem_singleton.mp hy]; exact h⟩⟩
end Dk
namespace Dk
open PySem L2 LamX
/-! ### ways with the beat that they begin at -/
def ToldC (H : Hp) (tp : Addr) (bt : Int) : Option Nat → Prop
  | some n => ∃ (rp : Addr) (rs : List Str), H tp = some (.tup [.str "way", .int bt, .ref rp]) ∧ H rp = some (.tup (rs.map V.str)) ∧ rs.length = n + 1
  | none => ∃ cp, H tp = some (.tup [.str "closed", .ref cp])
theorem ToldC.ext {H H' : Hp} {tp : Addr} {bt : Int} {u : Option Nat} (h : ToldC H tp bt u) (e : Ex H H') : ToldC H' tp bt u := by
  cases u with
  | none =>
    obtain ⟨cp, h⟩ := h
    exact ⟨cp, e.tup h⟩
  | some n =>
    obtain ⟨rp, rs, h1, h2, h3⟩ := h
    exact ⟨rp, rs, e.tup h1, e.tup h2, h3⟩
section
variable {zs : List Str} {ds ss : List SS} {ps : List Pst} {ws : List Wtc} {mt : Bool} {rl W : Nat} {st gl : List Str} {o : Option Int} {nx : Cell → List Cell}
theorem rest_nat {j : Nat} (h : j < W) : rest ((j : Nat) : Int) W = j := by
  unfold rest
  rw [Int.emod_eq_of_lt (by omega) (by omega)]
  exact Int.toNat_natCast j
end
end Dk
namespace Dk
open PySem L2 LamX
/-! ### the law's own count of beats: rooms that can be come to, beat by beat -/
section
variable {nx : Cell → List Cell} {B U : List Cell} {en : Cell → Bool}
def AtN (nx : Cell → List Cell) (B : List Cell) (n : Nat) (c : Cell) : Prop := ∃ t, t.length = n ∧ Rp nx B (c :: t)
theorem at_zero {c : Cell} : AtN nx B 0 c ↔ c ∈ B := by
  constructor
  · rintro ⟨t, h, r⟩
    rw [List.length_eq_zero_iff.mp h] at r
    exact r
  · intro h
    exact ⟨[], rfl, h⟩
theorem at_succ {n : Nat} {c : Cell} : AtN nx B (n + 1) c ↔ ∃ p, AtN nx B n p ∧ c ∈ nx p := by
  constructor
  · rintro ⟨t, h, r⟩
    match t, h, r with
    | p :: t, h, r => exact ⟨p, ⟨t, by simpa using h, r.2⟩, r.1⟩
  · rintro ⟨p, ⟨t, h, r⟩, hc⟩
    exact ⟨p :: t, by simp [h], hc, r⟩
theorem Rp.tail {a : Cell} {r : List Cell} : ∀ {l : List Cell}, Rp nx B (l ++ a :: r) → Rp nx B (a :: r)
  | [], h => h
  | [c], h => h.2
  | c :: d :: l, h => Rp.tail (l := d :: l) h.2
end
section
variable {zs : List Str} {ds ss : List SS} {ps : List Pst} {ws : List Wtc} {mt : Bool} {rl W : Nat} {st gl : List Str} {bt : Int}
theorem rest_add {W : Nat} (h : 0 < W) (b : Int) : (rest b W + 1) % W = rest (b + 1) W := by
  obtain ⟨h1, h2⟩ := rest_lt h b
  have h3 := (rest_lt h (b + 1)).2
  have e : (((rest b W + 1) % W : Nat) : Int) = ((rest (b + 1) W : Nat) : Int) := by
    rw [h3, Int.natCast_emod, Int.natCast_add, h2]
    show (b % (W : Int) + 1) % (W : Int) = _
    rw [Int.emod_add_emod]
  omega
theorem rp_cells (h : 0 < W) {o : Option Int} : ∀ r, Rp (nxS zs ds ss ps ws mt rl W) (begAll zs ss ps ws mt rl W st o) r → ∀ c ∈ r, c ∈ cellU zs W
  | [], x, _, _ => x.elim
  | [c], x, d, hd => by
    rw [List.mem_singleton.mp hd]
    exact cellU_mem (begAll_ok h c x)
  | c :: p :: t, x, d, hd => by
    rcases List.mem_cons.mp hd with q | q
    · rw [q]
      exact cellU_mem (nxS_ok h p c x.1)
    · exact rp_cells h (p :: t) x.2 d q
end
/-! ### a table of lists -/
def TbL (f : Cell → List Str) (H : Hp) (ms : List (List Key × V)) (cs : List Cell) : Prop := ms.map (·.1) = cs.map ckey ∧ ∀ p ∈ ms, ∃ c q, p = (ckey c, V.ref q) ∧ H q = some (.lst ((f c).map V.str))
theorem valV_mem {κ : Type} [DecidableEq κ] {k : κ} : ∀ {ms : List (κ × V)}, k ∈ ms.map (·.1) → ∃ v, valV ms k = some v ∧ (k, v) ∈ ms
  | [], h => by cases h
  | p :: r, h => by
    by_cases e : p.1 = k
    · exact ⟨p.2, valV_pos e, by rw [← e]; exact List.mem_cons_self ..⟩
    · rw [valV_neg e]
      rcases List.mem_cons.mp h with q | q
      · exact absurd q.symm e
      · obtain ⟨v, h1, h2⟩ := valV_mem q
        exact ⟨v, h1, List.mem_cons_of_mem _ h2⟩
section
variable {f : Cell → List Str} {H H' : Hp} {ms : List (List Key × V)} {cs : List Cell}
theorem TbL.nil : TbL f H [] [] := ⟨rfl, fun p hp => by cases hp⟩
theorem TbL.len (h : TbL f H ms cs) : ms.length = cs.length := by
  have := congrArg List.length h.1
  rwa [List.length_map, List.length_map] at this
theorem TbL.get (h : TbL f H ms cs) {c : Cell} (hc : c ∈ cs) : ∃ q, valV ms (ckey c) = some (.ref q) ∧ H q = some (.lst ((f c).map V.str)) := by
  obtain ⟨v, h1, h2⟩ := valV_mem (k := ckey c) (ms := ms) (by rw [h.1]; exact List.mem_map.mpr ⟨c, hc, rfl⟩)
  obtain ⟨c', q, e, hq⟩ := h.2 _ h2
  have e1 : ckey c = ckey c' := congrArg Prod.fst e
  have e2 : v = .ref q := congrArg Prod.snd e
  rw [ckey_inj e1]
  exact ⟨q, by rw [← e2, ← ckey_inj e1]; exact h1, hq⟩
theorem TbL.no (h : TbL f H ms cs) {c : Cell} (hc : c ∉ cs) : valV ms (ckey c) = none := by
  cases e : valV ms (ckey c) with
  | none => rfl
  | some v =>
    have := valV_in e
    rw [h.1] at this
    obtain ⟨c', h1, h2⟩ := List.mem_map.mp this
    exact absurd (ckey_inj h2 ▸ h1) hc
theorem TbL.keep (h : TbL f H ms cs) (k : ∀ q xs, H q = some (.lst xs) → H' q = some (.lst xs)) : TbL f H' ms cs := ⟨h.1, fun p hp => by
  obtain ⟨c, q, e, hq⟩ := h.2 p hp
  exact ⟨c, q, e, k _ _ hq⟩⟩
theorem TbL.snoc (h : TbL f H ms cs) {c : Cell} {q : Addr} (hq : H q = some (.lst ((f c).map V.str))) : TbL f H (ms ++ [(ckey c, V.ref q)]) (cs ++ [c]) := ⟨by rw [List.map_append, List.map_append, h.1]; rfl, fun p hp => by
  rcases List.mem_append.mp hp with z | z
  · exact h.2 p z
  · exact ⟨c, q, List.mem_singleton.mp z, hq⟩⟩
end
/-! ### promises -/
end Dk
namespace Dk
open PySem L2
theorem putK_keys {κ : Type} [DecidableEq κ] {kvs : List (κ × V)} {k : κ} {v : V} (h : k ∈ kvs.map (·.1)) : (putK kvs k v).map (·.1) = kvs.map (·.1) := by
  obtain ⟨u, h1, _⟩ := valV_mem h
  have ha : (kvs.any fun kv => decide (kv.1 = k)) = true := by rw [valV_any, h1]; rfl
  unfold putK
  rw [if_pos ha, List.map_map]
  refine List.map_congr_left fun p _ => ?_
  show (if p.1 = k then (p.1, v) else p).1 = p.1
  split <;> rfl
/-- the names that are a dict's keys -/
def KyS (kvs : List (Key × V)) (us : List Str) : Prop := kvs.map (·.1) = us.map (fun z => (Sum.inr z : Key)) ∧ us.Nodup
theorem KyS.len {kvs : List (Key × V)} {us : List Str} (h : KyS kvs us) : kvs.length = us.length := by
  have := congrArg List.length h.1
  rwa [List.length_map, List.length_map] at this
theorem KyS.put {kvs : List (Key × V)} {us : List Str} (h : KyS kvs us) (o : Str) (v : V) : ∃ us', KyS (putK kvs (Sum.inr o : Key) v) us' ∧ ∀ z, z ∈ us' ↔ z ∈ us ∨ z = o := by
  by_cases m : o ∈ us
  · refine ⟨us, ⟨?_, h.2⟩, fun z => ⟨.inl, fun q => ?_⟩⟩
    · rw [putK_keys (by rw [h.1]; exact List.mem_map.mpr ⟨o, m, rfl⟩), h.1]
    · rcases q with q | rfl
      · exact q
      · exact m
  · refine ⟨us ++ [o], ⟨?_, ?_⟩, fun z => by rw [List.mem_append, List.mem_singleton]⟩
    · rw [putK_str us h.1 m, List.map_append, List.map_append, h.1]
      rfl
    · rw [List.nodup_append]
      exact ⟨h.2, List.nodup_cons.mpr ⟨by simp, List.nodup_nil⟩, fun a ha b hb e => m (by rw [← List.mem_singleton.mp hb, ← e]; exact ha)⟩
end Dk
namespace Dk
open PySem L2
/-! ### walks told by beats, forth and back -/
section
variable {dk dk' : Int → Str → Prop} {hd hd' : Int → Str → Str → Prop}
def Wk (dk : Int → Str → Prop) (hd : Int → Str → Str → Prop) : List Str → Int → Prop
  | [], _ => False
  | [z], b => dk b z
  | z :: o :: t, b => dk b z ∧ hd b z o ∧ Wk dk hd (o :: t) (b + 1)
theorem wk_snoc : ∀ (l : List Str) (b : Int) (z y : Str), Wk dk hd (l ++ [z] ++ [y]) b ↔ Wk dk hd (l ++ [z]) b ∧ hd (b + ((l.length : Nat) : Int)) z y ∧ dk (b + ((l.length : Nat) : Int) + 1) y
  | [], b, z, y => by
    show dk b z ∧ hd b z y ∧ dk (b + 1) y ↔ dk b z ∧ hd (b + 0) z y ∧ dk (b + 0 + 1) y
    rw [Int.add_zero]
  | [a], b, z, y => by
    show dk b a ∧ hd b a z ∧ dk (b + 1) z ∧ hd (b + 1) z y ∧ dk (b + 1 + 1) y ↔ (dk b a ∧ hd b a z ∧ dk (b + 1) z) ∧ hd (b + 1) z y ∧ dk (b + 1 + 1) y
    exact ⟨fun ⟨h1, h2, h3, h4, h5⟩ => ⟨⟨h1, h2, h3⟩, h4, h5⟩, fun ⟨⟨h1, h2, h3⟩, h4, h5⟩ => ⟨h1, h2, h3, h4, h5⟩⟩
  | a :: c :: r, b, z, y => by
    have ih := wk_snoc (c :: r) (b + 1) z y
    have e : b + 1 + (((c :: r).length : Nat) : Int) = b + (((a :: c :: r).length : Nat) : Int) := by
      simp only [List.length_cons]
      omega
    rw [e] at ih
    show dk b a ∧ hd b a c ∧ Wk dk hd (c :: r ++ [z] ++ [y]) (b + 1) ↔ (dk b a ∧ hd b a c ∧ Wk dk hd (c :: r ++ [z]) (b + 1)) ∧ _
    rw [ih]
    exact ⟨fun ⟨h1, h2, h3, h4⟩ => ⟨⟨h1, h2, h3⟩, h4⟩, fun ⟨⟨h1, h2, h3⟩, h4⟩ => ⟨h1, h2, h3, h4⟩⟩
theorem wk_last : ∀ (l : List Str) (b : Int) (z : Str), Wk dk hd (l ++ [z]) b → dk (b + ((l.length : Nat) : Int)) z
  | [], b, z, h => by
    rw [show b + ((([] : List Str).length : Nat) : Int) = b from Int.add_zero b]
    exact h
  | [a], b, z, h => h.2.2
  | a :: c :: r, b, z, h => by
    have := wk_last (c :: r) (b + 1) z h.2.2
    have e : b + 1 + (((c :: r).length : Nat) : Int) = b + (((a :: c :: r).length : Nat) : Int) := by
      simp only [List.length_cons]
      omega
    rwa [e] at this
structure Rev (dk dk' : Int → Str → Prop) (hd hd' : Int → Str → Str → Prop) : Prop where
  d : ∀ b z, dk' (-b) z ↔ dk b z
  h : ∀ b z o, hd' (-(b + 1)) o z ↔ hd b z o
theorem Rev.symm (r : Rev dk dk' hd hd') : Rev dk' dk hd' hd := ⟨fun b z => by rw [← r.d (-b) z, Int.neg_neg], fun b z o => by
  rw [← r.h (-(b + 1)) o z, show -(-(b + 1) + 1) = b by omega]⟩
end
/-! ### the rooms and steps of a scene where nobody meets -/
section
variable (zs : List Str) (ds ss : List SS) (ps : List Pst) (ws : List Wtc)
def dkS (b : Int) (z : Str) : Prop := z ∈ zs ∧ z ∉ litN zs (lnk zs ss) (stnd (ps.map (·.2)) b) (reachN ws ((List.range ws.length).take (ps.map (·.2)).length))
def hdS (b : Int) (z o : Str) : Prop := z ∈ zs ∧ o ∈ handN zs (lnk zs (both ds)) z ∧ mvB (ps.map (·.2)) (b + 1) o z = false
end
section
variable {zs : List Str} {ds ss : List SS} {ps : List Pst} {ws : List Wtc} {W : Nat} {st gl : List Str} {o : Option Int}
theorem stnd_same {tr : List Trk} {b c : Int} (hW : 0 < W) (hd : ∀ p ∈ tr, p.1.length ∣ W) (e : rest b W = rest c W) : stnd tr b = stnd tr c := by
  rw [← stnd_rest hW hd b, e, stnd_rest hW hd c]
theorem rest_succ (hW : 0 < W) (x : Int) : rest (((rest x W : Nat) : Int) + 1) W = rest (x + 1) W := by
  rw [← rest_add hW x]
  have e : rest (((rest x W : Nat) : Int) + 1) W = (rest ((rest x W : Nat) : Int) W + 1) % W := (rest_add hW _).symm
  rw [e, rest_nat (rest_lt hW x).1]
theorem stp_abs (h : IsWh (ps.map (·.2)) ws.length false 0 W) (x : Int) (z y : Str) (hz : z ∈ zs) : y ∈ stpS zs ds ss ps ws false 0 W ((rest x W : Nat) : Int) z ↔ hdS zs ds ps x z y ∧ dkS zs ss ps ws (x + 1) y := by
  have e1 := rest_succ h.1 x
  have e2 : stnd (ps.map (·.2)) (((rest x W : Nat) : Int) + 1) = stnd (ps.map (·.2)) (x + 1) := stnd_same h.1 h.dvd e1
  have e3 : mvB (ps.map (·.2)) (((rest x W : Nat) : Int) + 1) y z = mvB (ps.map (·.2)) (x + 1) y z := by
    rw [← mvB_mov h, ← mvB_mov h, e1]
  unfold stpS stpN hdS dkS
  rw [List.mem_filter, ord_plain, e2, e3, Bool.and_eq_true_iff]
  have hs : ∀ y, y ∈ handN zs (lnk zs (both ds)) z → y ∈ zs := fun y hy => (List.mem_filter.mp hy).1
  constructor
  · rintro ⟨h1, h2, h3⟩
    exact ⟨⟨hz, h1, by simpa using h3⟩, hs y h1, by simpa using h2⟩
  · rintro ⟨⟨_, h1, h3⟩, _, h2⟩
    exact ⟨h1, by simpa using h2, by simpa using h3⟩
def okB (o : Option Int) (b : Int) : Prop := ∀ c, o = some c → b = c
theorem at_wk (h : IsWh (ps.map (·.2)) ws.length false 0 W) : ∀ {n : Nat} {c : Cell}, AtN (nxS zs ds ss ps ws false 0 W) (begAll zs ss ps ws false 0 W st o) n c ↔ ∃ (b : Int) (l : List Str) (f : Str), l.length = n ∧ okB o b ∧ (l ++ [c.1]).head? = some f ∧ f ∈ st ∧ Wk (dkS zs ss ps ws) (hdS zs ds ps) (l ++ [c.1]) b ∧ c.2 = rest (b + ((n : Nat) : Int)) W
  | 0, c => by
    rw [at_zero, mem_beg]
    constructor
    · rintro ⟨h1, h2, h3, h4⟩
      cases o with
      | none =>
        have hr : c.2 < W := List.mem_range.mp h1
        refine ⟨((c.2 : Nat) : Int), [], c.1, rfl, fun c e => (by cases e), rfl, h3, ?_, by rw [show ((c.2 : Nat) : Int) + ((0 : Nat) : Int) = ((c.2 : Nat) : Int) from Int.add_zero _, rest_nat hr]⟩
        refine ⟨h2, ?_⟩
        rw [← lit_plain h, rest_nat hr]
        exact h4
      | some b =>
        have e : c.2 = rest b W := List.mem_singleton.mp h1
        refine ⟨b, [], c.1, rfl, fun c e => Option.some.inj e, rfl, h3, ⟨h2, ?_⟩, by rw [show b + ((0 : Nat) : Int) = b from Int.add_zero _]; exact e⟩
        rw [← lit_plain h, ← e]
        exact h4
    · rintro ⟨b, l, f, hl, hb, hf, hs, hw, hc⟩
      obtain rfl := List.length_eq_zero_iff.mp hl
      obtain rfl : c.1 = f := Option.some.inj hf
      rw [show b + ((0 : Nat) : Int) = b from Int.add_zero _] at hc
      have hw' : dkS zs ss ps ws b c.1 := hw
      refine ⟨?_, hw'.1, hs, ?_⟩
      · cases o with
        | none =>
          rw [hc]
          exact List.mem_range.mpr (rest_lt h.1 b).1
        | some b' =>
          obtain rfl := hb b' rfl
          exact List.mem_singleton.mpr hc
      · rw [hc, lit_plain h]
        exact hw'.2
  | n + 1, c => by
    rw [at_succ]
    constructor
    · rintro ⟨p, ap, hc⟩
      obtain ⟨b, l, f, hl, hb, hf, hs, hw, hp⟩ := (at_wk h).mp ap
      unfold nxS at hc
      obtain ⟨y, hy, rfl⟩ := List.mem_map.mp hc
      have dp := wk_last _ _ _ hw
      rw [hp, stp_abs h _ _ _ dp.1] at hy
      refine ⟨b, l ++ [p.1], f, by rw [List.length_append, hl]; rfl, hb, ?_, hs, ?_, ?_⟩
      · rw [List.head?_append, hf]
        rfl
      · rw [wk_snoc, hl]
        exact ⟨hw, hy.1, hy.2⟩
      · show (p.2 + 1) % W = _
        rw [hp, rest_add h.1]
        congr 1
        omega
    · rintro ⟨b, l, f, hl, hb, hf, hs, hw, hc⟩
      obtain ⟨l', z, rfl⟩ : ∃ l' z, l = l' ++ [z] := by
        have ne : l ≠ [] := fun e => by rw [e] at hl; cases hl
        exact ⟨l.dropLast, l.getLast ne, (List.dropLast_concat_getLast ne).symm⟩
      have ll : l'.length = n := by simpa using hl
      rw [wk_snoc, ll] at hw
      obtain ⟨w1, w2, w3⟩ := hw
      refine ⟨(z, rest (b + ((n : Nat) : Int)) W), (at_wk h).mpr ⟨b, l', f, ll, hb, ?_, hs, w1, rfl⟩, ?_⟩
      · show (l' ++ [z]).head? = some f
        have e : (l' ++ [z]).head? = (l' ++ [z] ++ [c.1]).head? := by
          cases l' <;> rfl
        rw [e]
        exact hf
      · unfold nxS
        have dz : z ∈ zs := w2.1
        refine List.mem_map.mpr ⟨c.1, (stp_abs h _ _ _ dz).mpr ⟨w2, w3⟩, ?_⟩
        have e : (rest (b + ((n : Nat) : Int)) W + 1) % W = c.2 := by
          rw [hc, rest_add h.1]
          congr 1
          omega
        show (c.1, (rest (b + ((n : Nat) : Int)) W + 1) % W) = c
        rw [e]
end
end Dk
namespace Dk
open PySem L2
/-! ### more light, less way -/
theorem wk_mono {dk dk' : Int → Str → Prop} {hd hd' : Int → Str → Str → Prop} (h1 : ∀ b z, dk' b z → dk b z) (h2 : ∀ b z o, hd' b z o → hd b z o) : ∀ (l : List Str) (b : Int), Wk dk' hd' l b → Wk dk hd l b
  | [], _, h => h
  | [z], b, h => h1 b z h
  | z :: o :: t, b, h => ⟨h1 b z h.1, h2 b z o h.2.1, wk_mono h1 h2 (o :: t) (b + 1) h.2.2⟩
theorem Rnd.more {zs : List Str} {ds ds' : List SS} {rs : List Str} (h : ∀ p ∈ ds, p ∈ ds') (r : Rnd zs (lnk zs (both ds)) rs) : Rnd zs (lnk zs (both ds')) rs :=
  ⟨r.one, r.six, r.mem, fun i z e => (r.hand i z e).imp (fun q => by
    obtain ⟨a1, a2⟩ := lnk_mem.mp q
    exact lnk_mem.mpr ⟨a1, (both_iff ds' _ _).mpr (((both_iff ds _ _).mp a2).imp (h _) (h _))⟩) id⟩
/-! ### the law's promises -/
def xtr : Str := "extra"
theorem xtr_nm : isNm xtr = true := by decide +kernel
theorem xtr_no {l : List Str} (h : ∀ z ∈ l, LenOk z) : xtr ∉ l := fun m => (h _ m).2.2.1 (by decide +kernel)
theorem Names.snoc {l : List Str} {z : Str} (h : Names l) (n : z ∉ l) (g : isNm z = true) : Names (l ++ [z]) := by
  refine ⟨List.nodup_append.mpr ⟨h.1, by simp, fun a ha b hb e => n (by rw [← List.mem_singleton.mp hb, ← e]; exact ha)⟩, fun y hy => ?_⟩
  rcases List.mem_append.mp hy with q | q
  · exact h.2 y q
  · rw [List.mem_singleton.mp q]
    exact g
def spLawHouseX : Sp := fun vs H Q _ => ∃ (b l : Addr) (m : Int), vs = [.ref b, .int m] ∧ Box H b l ∧ 1 ≤ m ∧ m ≤ 8 ∧
  ∀ (H' : Hp) (t : Addr) (zs : List Str) (ds ss : List SS), Sav b H H' → Box H' b l → H t = none → LHouseN b H' t zs ds ss → Good zs ds ss → (zs.length : Int) ≤ m → ds.length ≤ zs.length * 8 → Q (.ref t) H'
def spLawSceneX : Sp := fun vs H Q _ => ∃ (b l : Addr) (r p s : Int), vs = [.ref b, .int r, .int p, .int s] ∧ Box H b l ∧ 1 ≤ r ∧ r ≤ 8 ∧ 0 ≤ p ∧ p ≤ 5 ∧ 1 ≤ s ∧ s ≤ 6 ∧
  ∀ (H' : Hp) (m t f lm : Addr) (zs : List Str) (ds ss : List SS) (xs ys : List V) (ps : List Pst) (ws : List Wtc) (mt : Bool) (rl : Nat), Sav b H H' → Box H' b l → H m = none → MA b H' m t f lm zs ds ss xs ys ps ws mt rl → (zs.length : Int) ≤ r → (ps.length : Int) ≤ p → (∀ q ∈ ps, (q.2.1.length : Int) ≤ s) →
    (∀ z ∈ ps.map (·.1), LenOk z) → (∀ z ∈ ws.map (·.1), LenOk z) → ds.length ≤ zs.length * 8 → Q (.ref m) H'
theorem PL.drop {H : Hp} {xs : List V} {ps : List SS} (h : PL H xs ps) (n : Nat) : PL H (xs.drop n) (ps.drop n) := ⟨by rw [List.length_drop, List.length_drop, h.1], fun i x p a b => h.2 (n + i) x p (by rw [← List.getElem?_drop]; exact a) (by rw [← List.getElem?_drop]; exact b)⟩
end Dk
namespace Dk
open PySem PySem.Spec PyProof.Rows L2 HotX
/-! ### a comprehension over zip of two lists while an exception is handled -/
abbrev ZFp (n : Addr) : List Addr := [n + 4, n + 2, n + 3, n, n + 1]
end Dk
namespace Dk
open PySem PySem.Spec PyProof.Rows L2 L2H HotX
/-! ### a def that is handed the exception that is handled -/
section
variable {X : Cx} {p : Addr × Obj} {C d : Addr} {pins : List (Addr × Obj)} {σ : L2.St} {H : Hp} {s : Shared} {fs : List (PySem.Str × V)}
/-- isinstance of it, one class -/
def rIsP (K : PySem.W.Frag) (p : Addr × Obj) (C d : Addr) : List V → Hp → VK → Prop := fun xs H Q => ∃ (c : V) (cv : Value) (b : Bool) (fs : List (PySem.Str × V)), xs = [.ref p.1, c] ∧ ClsV c cv ∧ H d = some (.xd fs) ∧ PySem.W.kitOne K (.ref C) cv = some b ∧ Q (.bl b) H
end
end Dk
namespace Dk
open PySem PySem.Spec PyProof.Rows L2 L2H HotX
/-! ### own exceptions over any built-in one, their __init__ walked as defs -/
/-- what the written part says of the class -/
structure OxC (K : PySem.W.Frag) (bmB : List Value) (newId : String) (C : Addr) : Prop where
  ini : PySem.W.excInitIn K C bmB newId = true
  ovr : PySem.W.excOver K C bmB = true
  hd : PySem.W.hasDictIn K C = true
  sa : PySem.W.findIn K (.ref C) "__setattr__" = some (some (.builtin "object.__setattr__"))
  exC : PySem.W.subIn K (.ref C) (.type "BaseException") = some true
  tyC : PySem.W.typeIn K (.ref C) = some (.type "type")
  kC : PySem.W.keepIn K (.ref C) = true
theorem taker_none {K : PySem.W.Frag} {C : Addr} {f : PySem.Str} (h : PySem.W.findIn K (.ref C) f = some none) : PySem.W.takerIn K C f = some none := by
  unfold PySem.W.takerIn
  rw [h] <;> rfl
section
variable {X : Cx} {pins : List (Addr × Obj)} {σ : L2.St} {H : Hp} {s : Shared} {a C dx : Addr} {f : PySem.Str} {y : V} {u : Value} {fs : List (PySem.Str × V)} {Q : Unit → Shared → Prop} {E : Value → Shared → Prop} {A : Around} {B newId initId : String} {bmB : List Value}
theorem xset_new (SF : StoreFacts B bmB "object.__setattr__" "object") (T : OxC X.K bmB newId C) (I : Inv X pins σ H s) (e : H a = some (exo a C none)) (hno : PySem.W.findIn X.K (.ref C) f = some none) (ry : RelV y u)
    (h : ∀ dx s', H dx = none → dx ≠ a → Inv X pins σ (upd (upd H dx (exd dx [(f, y)])) a (exo a C (some dx))) s' → Q () s') : wpAny (model X.prog X.w) A (setAttr (.ref a) f u) Q E s := by
  obtain ⟨t1, ho⟩ := exo_at I.hok e
  obtain ⟨hp, g, d, t, os⟩ := s
  have ho : hp.get? a = some ({ cls := .ref C, dict := none, data := .fields #[.ref t1, .none, .none, .none, .bool false, .none] } : Obj) := ho
  have kin : X.K.In hp := I.kIn
  have J : PySem.W.InstAt hp a { cls := .ref C, dict := none, data := .fields #[.ref t1, .none, .none, .none, .bool false, .none] } C none := ⟨ho, rfl, rfl, trivial⟩
  refine PySem.W.set_plain kin J T.sa (PySem.W.osa_openX SF kin J T.ovr (taker_none hno) fun b => ?_)
  obtain ⟨cd, hc, hh⟩ := PySem.W.any_some T.hd
  have hcls : PySem.W.Looks (model X.prog X.w) hp (classData C) cd := PySem.W.looks_clsIn kin hc
  have hxs : a ≠ hp.objs.size := Nat.ne_of_lt (Heap.lt_size ho)
  obtain ⟨nm, bs, mro, ns, qn, hd, sn, sb, ab, col, dl⟩ := cd
  dsimp only at hh
  subst hh
  show wpAny _ _ (Builtin.ObjectAttr.storeInOwnDict (.ref a) (.ref C) (.str f t) f u b) _ _ _
  unfold Builtin.ObjectAttr.storeInOwnDict Builtin.ObjectAttr.ownDictForStores
  repeat (first | with_reducible refine PySem.HandSPX.store_in_new ?_ ?_ | with_reducible refine wpAny_loadPart_at ho ?_ | with_reducible refine hcls.at ?_ | wp_step)
  · exact ⟨_, #[], _, (Heap.get?_update_ne _ _ _ _ hxs.symm).trans (Heap.get?_push_at rfl rfl), rfl, fun e he => absurd he (by simp), fun _ => rfl⟩
  · intro h' tk' hn hs
    have hx1 : (hp.push { cls := .type "dict", data := .dict #[] }).get? a = some ({ cls := .ref C, dict := none, data := .fields #[.ref t1, .none, .none, .none, .bool false, .none] } : Obj) := Heap.get?_push_of_some _ ho
    have k : ∀ b o, b ≠ a → hp.get? b = some o → h'.get? b = some o := fun b o hb q => (hs.2 b (Nat.ne_of_lt (Heap.lt_size q))).trans ((Heap.get?_update_ne _ _ _ _ hb).trans (Heap.get?_push_of_some _ q))
    have hx : h'.get? a = some ({ cls := .ref C, dict := some hp.objs.size, data := .fields #[.ref t1, .none, .none, .none, .bool false, .none] } : Obj) := (hs.2 a hxs).trans (Heap.get?_update_self _ hx1 rfl)
    have nd : H hp.objs.size = none := I.hok.fresh (Nat.le_refl _)
    have na : ∀ {b : Addr}, H b = none → b ≠ a := fun {b} n z => by rw [z, e] at n; cases n
    have keepN : ∀ {b : Addr} {o : HO}, H b = some o → o ≠ exo a C none → upd (upd H hp.objs.size (exd hp.objs.size [(f, y)])) a (exo a C (some hp.objs.size)) b = some o := fun {b o} q ne => by
      rw [upd_ne (fun z => ne (by rw [z, e] at q; exact (Option.some.inj q).symm)), upd_ne (ne_of_none q nd)]
      exact q
    have U : Un X.fs [] H (upd (upd H hp.objs.size (exd hp.objs.size [(f, y)])) a (exo a C (some hp.objs.size))) hp h' := {
      keep := fun b o q n _ _ => k b o (na n) q
      slot := fun b o q n _ _ => ⟨o.slots, k b o (na n) q⟩
      free := fun b o q n _ => by rw [upd_ne (na n), upd_ne (Nat.ne_of_lt (Heap.lt_size q))]; exact n
      there := fun b o q _ => (Decidable.em (b = a)).elim (fun z => Exists.intro _ (show h'.get? b = some _ from z.symm ▸ hx)) fun z => ⟨o, k b o z q⟩
      tups := fun b xs q => keepN q fun z => exo_tup z.symm
      frzs := fun b o v q => keepN q fun z => exo_frz z.symm
      tbls := fun b ps q => ⟨#[], by rw [keepN q fun z => exo_tbl z.symm]; simp⟩ }
    refine h hp.objs.size _ nd hxs.symm (I.un (t' := tk') U fun b o q => ?_)
    by_cases hb : b = a
    · subst hb
      rw [upd_same] at q
      cases q
      exact exo_ok hx
    · rw [upd_ne hb] at q
      by_cases hd : b = hp.objs.size
      · subst hd
        rw [upd_same] at q
        cases q
        exact exd_ok hn (relO_put (fs := []) ry fun g => True.intro)
      · rw [upd_ne hd] at q
        exact (I.hok b o q).stay (fun c v hc z => k c v (hc.elim (fun w => by rw [w]; exact hb) fun w => at_ne e w exo_own) z) (fun c hc => keepN hc fun z => exo_own z.symm) (fun c xs hc => keepN hc fun z => exo_tup z.symm)
theorem xset_old (SF : StoreFacts B bmB "object.__setattr__" "object") (T : OxC X.K bmB newId C) (I : Inv X pins σ H s) (e : H a = some (exo a C (some dx))) (ed : H dx = some (exd dx fs)) (hl : fs.length ≤ 900) (hno : PySem.W.findIn X.K (.ref C) f = some none) (ry : RelV y u)
    (h : ∀ s', Inv X pins σ (upd H dx (exd dx ((f, y) :: fs))) s' → Q () s') : wpAny (model X.prog X.w) A (setAttr (.ref a) f u) Q E s := by
  obtain ⟨t1, ho⟩ := exo_at I.hok e
  obtain ⟨mA, hns, rel⟩ := exd_at I.hok ed
  have hw := within_of rel
  obtain ⟨hp, g, d, t, os⟩ := s
  have ho : hp.get? a = some ({ cls := .ref C, dict := some dx, data := .fields #[.ref t1, .none, .none, .none, .bool false, .none] } : Obj) := ho
  have hns : hp.Ns1 dx mA := hns
  have kin : X.K.In hp := I.kIn
  obtain ⟨oD, _, _, hoD, _, _⟩ := hns.count hw
  have J : PySem.W.InstAt hp a { cls := .ref C, dict := some dx, data := .fields #[.ref t1, .none, .none, .none, .bool false, .none] } C (some oD) := ⟨ho, rfl, rfl, hoD⟩
  refine PySem.W.set_plain kin J T.sa (PySem.W.osa_openX SF kin J T.ovr (taker_none hno) fun b => ?_)
  obtain ⟨cd, hc, hh⟩ := PySem.W.any_some T.hd
  have hcls : PySem.W.Looks (model X.prog X.w) hp (classData C) cd := PySem.W.looks_clsIn kin hc
  obtain ⟨nm, bs, mro, ns, qn, hd, sn, sb, ab, col, dl⟩ := cd
  dsimp only at hh
  subst hh
  show wpAny _ _ (Builtin.ObjectAttr.storeInOwnDict (.ref a) (.ref C) (.str f t) f u b) _ _ _
  unfold Builtin.ObjectAttr.storeInOwnDict Builtin.ObjectAttr.ownDictForStores
  repeat (first | with_reducible refine PySem.OEX.store_in_old hns hw (by rw [List.length_map]; omega) ?_ | with_reducible refine wpAny_loadPart_at ho ?_ | with_reducible refine hcls.at ?_ | wp_step)
  intro h' tk' hn hs
  have hd' : ∃ o, h'.get? dx = some o := by obtain ⟨o, _, _, e', _⟩ := hn; exact ⟨o, e'⟩
  exact h _ (I.write (t' := tk') (x := dx) (e := dx) (o := exd dx ((f, y) :: fs)) (by rw [ed]; exact True.intro) (.inl rfl) (fun b o hb q => (hs.2 b hb).trans q) hd' (exd_ok hn (relO_put ry rel)))
theorem xinit_ok {us : List Value} {Q : Value → Shared → Prop} (FB : ExcBaseFacts B newId initId bmB) (T : OxC X.K bmB newId C) (I : Inv X pins σ H s) (e : H a = some (exo a C none)) (hl : us.length ≤ sizeLine) (h : ∀ s', Inv X pins σ H s' → Q .none s') :
    wpAny (model X.prog X.w) A (call (.builtin initId) (.ref a :: us)) Q E s := by
  obtain ⟨t1, ho⟩ := exo_at I.hok e
  obtain ⟨nm, N', qn, bs, bm, hdct, sn, sub, ab, col, dd, k0, k1, k2, k3, k5, hC, hT⟩ := PySem.W.excInit_of I.kIn T.ini
  obtain ⟨hp, g, d, t, os⟩ := s
  refine wpAny_call (PySem.HandSPX.init_base FB hT hC ho hl fun h' t2 k hx => ?_)
  have J := I.write (t' := t) (x := a) (e := a) (o := exo a C none) (by rw [e]; exact True.intro) (.inl rfl) k ⟨_, hx⟩ (exo_ok hx)
  rw [show upd H a (exo a C none) = H from funext fun b => (Decidable.em (b = a)).elim (fun z => by rw [z, upd_same, e]) fun z => upd_ne z] at J
  exact h _ J
/-- Base.__init__(self, ..) of the built-in base -/
def tXbI (K : PySem.W.Frag) (bmB : List Value) (newId : String) (ta : TA) : TE := fun σ H Q => ta σ H fun vs H1 => ∃ (a C : Addr) (ws : List V), vs = .ref a :: ws ∧ ws.length ≤ 1000 ∧ OxC K bmB newId C ∧ H1 a = some (exo a C none) ∧ Q .non H1
theorem pe_xbinit {x : PySem.Str} {T : String} {ex : Expr} {es : List Expr} {ta : TA} {p1 p2 pos : Pos} {pl : Sem Bool} (FB : ExcBaseFacts B newId initId bmB) (hg : Gl X x) (hm : X.mg x = none) (hbt : bootBuiltins x = some (.type T)) (ty : typeOf (.type T) = pure (.type "type")) (msl : Manifest.isStub T = false)
    (vV : PySem.W.findCls X.K (.type T) (.type "type") "__init__" = some (.val (.builtin initId))) (hh : PySem.W.handedIn (.builtin initId) = true) (ha : PA X (ex :: es) ta) (hn : x ≠ "__name__" := by decide) (hdb : (x == ("__debug__" : PySem.Str)) = false := by decide)
    (hc : eval (.Call (.Attribute (.Name x p1) "__init__" p2) (ex :: es) [] pos) X.env = (do
      let ov ← eval (.Name x p1) X.env
      standAt p2.atName
      let (f, first) ← holding [ov] (getMethod ov "__init__" pl)
      callWith pos f first (backTo pos (starEach (ex :: es) X.env)) (backToKw pos (keywordEach [] X.env))) := by rfl)
    (he : starEach (ex :: es) X.env = (false, eval ex X.env) :: starEach es X.env := by rfl) (hpl : (backTo pos (starEach es X.env)).any (·.1) = false := by rfl) :
    PE X (.Call (.Attribute (.Name x p1) "__init__" p2) (ex :: es) [] pos) (tXbI X.K bmB newId ta) := by
  refine ⟨fun pins s σ H Q I h => ?_⟩
  refine PySem.W.methodCall_KW (ld_blt I hg hm hbt ?_ hn hdb) hc
  obtain ⟨m, fr⟩ := I.fr
  refine PySem.W.method_type fr I.ok.mod.kin ty msl vV hh ?_
  show wpAny _ _ (callWith pos (Value.builtin initId) [] (backTo pos (starEach (ex :: es) X.env)) []) _ _ _
  refine PyProof.Rows.callWith_method1 (thn (ha.run pos pins _ σ H _ (I.tok _) h) fun us s1 ⟨vs, H1, I1, r1, a, C, ws, ev, hl, T, ea, q⟩ => ?_) he hpl
  subst ev
  cases r1 with
  | @cons _ u0 _ ur ra rw' =>
    obtain rfl : u0 = Value.ref a := ra
    exact xinit_ok FB T I1 ea (by rw [← Paired.length rw', sizeLine_eq]; omega) fun s' J => ⟨.non, H1, J, rfl, q⟩
/-- self.f = e of an exception that is being made -/
def tXst (K : PySem.W.Frag) (bmB : List Value) (newId : String) (f : PySem.Str) (to te : TE) : TS := fun D σ H => te σ H fun y H1 => to σ H1 fun x H2 => ∃ a C : Addr, x = .ref a ∧ OxC K bmB newId C ∧ PySem.W.findIn K (.ref C) f = some none ∧
  ((H2 a = some (exo a C none) ∧ ∀ dx, H2 dx = none → dx ≠ a → D.nx σ (upd (upd H2 dx (exd dx [(f, y)])) a (exo a C (some dx)))) ∨
    ∃ (dx : Addr) (fs : List (PySem.Str × V)), H2 a = some (exo a C (some dx)) ∧ H2 dx = some (exd dx fs) ∧ fs.length ≤ 900 ∧ D.nx σ (upd H2 dx (exd dx ((f, y) :: fs))))
theorem ps_xst {o ex : Expr} {to te : TE} {p' pos : Pos} (SF : StoreFacts B bmB "object.__setattr__" "object") (ho : PE X o to) (he : PE X ex te) (hs : swapsWith ex (some (.Attribute o f p')) pos.line X.env = pure false := by rfl) : PS X (.Assign [.Attribute o f p'] ex pos) (tXst X.K bmB newId f to te) := by
  refine ⟨fun pins s σ H D I h => ?_⟩
  refine plainObj_wpAny_Assign_Attribute (thn (he.run pins s σ H _ I h) fun v s1 ⟨y, H1, I1, r1, q1⟩ => thn (ho.run pins s1 σ H1 _ I1 q1) fun u s2 ⟨x, H2, I2, r2, a, C, ex, T, hno, q⟩ => ?_) hs
  subst ex
  obtain rfl : u = Value.ref a := r2
  rcases q with ⟨ea, q⟩ | ⟨dx, fs, ea, ed, hl, q⟩
  · exact xset_new SF T I2 ea hno r1 fun dx s' n ne J => ⟨σ, _, J, q dx n ne⟩
  · exact xset_old SF T I2 ea ed hl hno r1 fun s' J => ⟨σ, _, J, q⟩
/-- C.m(e, ..), m a def of the own class C -/
theorem pe_clsfn {CX : CXT} {x m : PySem.Str} {ex : Expr} {es : List Expr} {ta : TA} {p1 p2 pos : Pos} {pl : Sem Bool} {D fI : Addr} {k : Nat} {fd : FuncData} {ps : List PySem.Str} {sp : Sp} {ds : List Value} {dvs : List V} {E : XK}
    (hga : PySem.W.specialIn X.K (.ref D) "__getattribute__" = some (some (.builtin "type.__getattribute__"))) (hr1 : PySem.W.readsIn X.K D (.type "type") = true) (hf : PySem.W.findCls X.K (.ref D) (.type "type") m = some (.val (.ref fI)))
    (F1 : FnOk X.prog X.w X.K X.mg X.base CX k fI fd ps sp) (hr : Room k X.A) (hk : PySem.W.keepIn X.K (.ref fI) = true) (hb : Binds X.K fd ps ds) (hd : Vals dvs ds) (hx : Passes CX X E) (hg : Gl X x) (hm : X.mg x = some (.ref D)) (ha : PA X (ex :: es) ta) (hdb : (x == ("__debug__" : PySem.Str)) = false := by decide)
    (hc : eval (.Call (.Attribute (.Name x p1) m p2) (ex :: es) [] pos) X.env = (do
      let ov ← eval (.Name x p1) X.env
      standAt p2.atName
      let (f, first) ← holding [ov] (getMethod ov m pl)
      callWith pos f first (backTo pos (starEach (ex :: es) X.env)) (backToKw pos (keywordEach [] X.env))) := by rfl)
    (he : starEach (ex :: es) X.env = (false, eval ex X.env) :: starEach es X.env := by rfl) (hpl : (backTo pos (starEach es X.env)).any (·.1) = false := by rfl) :
    PE X (.Call (.Attribute (.Name x p1) m p2) (ex :: es) [] pos) (tCall sp dvs E ta) := by
  refine ⟨fun pins s σ H Q I h => ?_⟩
  refine PySem.W.methodCall_KW (ld_glob I hg hm ?_ hdb) hc
  refine PySem.W.method_cls I.kIn hga (PySem.W.cls_value I.kIn hr1 hf rfl ?_)
  show wpAny _ _ (callWith pos (Value.ref fI) [] (backTo pos (starEach (ex :: es) X.env)) []) _ _ _
  exact PySem.W.callWith_K (h₀ := X.base) I.ok.mod.kin hk (thn (ha.run pos pins _ σ H _ (I.tok _) h) fun us s1 ⟨vs, H1, I1, r, q⟩ => ⟨I1.kIn, run_fn F1 hr hb hd hx I1 r q⟩) he hpl
/-- C(e, ..), told by the promise of its __init__ -/
theorem pmk_x {CX : CXT} {x : PySem.Str} {ex : Expr} {es : List Expr} {ta : TA} {p pos : Pos} {fI : Addr} {k : Nat} {fd : FuncData} {ps : List PySem.Str} {sp : Sp} {ds : List Value} {dvs : List V} (FB : ExcBaseFacts B newId initId bmB) (T : OxC X.K bmB newId C) (iC : PySem.W.findIn X.K (.ref C) "__init__" = some (some (.ref fI))) (tI : PySem.W.typeIn X.K (.ref fI) = some (.type "function"))
    (F1 : FnOk X.prog X.w X.K X.mg X.base CX k fI fd ps sp) (hr : Room (k + 1) X.A) (hb : Binds X.K fd ps ds) (hd : Vals dvs ds) (hx : Passes CX X (fun _ _ _ => False)) (hg : Gl X x) (hm : X.mg x = some (.ref C)) (ha : PA X (ex :: es) ta)
    (hdb : (x == ("__debug__" : PySem.Str)) = false := by decide) (he : starEach (ex :: es) X.env = (false, eval ex X.env) :: starEach es X.env := by rfl) (hpl : (backTo pos (starEach es X.env)).any (·.1) = false := by rfl) :
    L2N.PMk X (.Call (.Name x p) (ex :: es) [] pos) (tMkO C sp dvs ta) := by
  intro pins s σ H Q I h
  refine wpAny_Call_Name_kw (ld_glob I hg hm ?_ hdb)
  refine PySem.W.callWith_K (h₀ := X.base) I.ok.mod.kin T.kC (thn (ha.run pos pins s σ H _ I h) fun us s1 ⟨vs, H1, I1, r1, hz, q1⟩ => ⟨I1.kIn, ?_⟩) he hpl
  show wpAny _ _ (call (.ref C) us) _ _ _
  obtain ⟨nm, N', qn, bs, bm, hdct, sn, sub, ab, col, dd, k0, k1, k2, k3, k5, hC, hT⟩ := PySem.W.excInit_of I1.kIn T.ini
  obtain ⟨hp, g, dr, tk, os⟩ := s1
  have le : hp.objs.size ≤ hp.objs.size + 1 := Nat.le_succ _
  have hq := q1 (hp.objs.size + 1) (I1.hok.fresh le)
  have kk : ∀ b o, hp.get? b = some o → ((hp.push (PySem.W.kdv_tup us)).push (PySem.HandSPX.excO C hp.objs.size)).get? b = some o := fun b o e => Heap.get?_push_of_some _ (Heap.get?_push_of_some _ e)
  have at_ : ((hp.push (PySem.W.kdv_tup us)).push (PySem.HandSPX.excO C hp.objs.size)).get? (hp.objs.size + 1) = some (PySem.HandSPX.excO C hp.objs.size) := by heap_get
  have I2 : Inv X pins σ (upd H1 (hp.objs.size + 1) (exo (hp.objs.size + 1) C none)) ⟨(hp.push (PySem.W.kdv_tup us)).push (PySem.HandSPX.excO C hp.objs.size), g, dr, tk, os⟩ :=
    I1.laid (t' := tk) (a := hp.objs.size + 1) (o := exo (hp.objs.size + 1) C none) (h' := (hp.push (PySem.W.kdv_tup us)).push (PySem.HandSPX.excO C hp.objs.size)) kk le (exo_ok at_)
  have r2 : Vals (V.ref (hp.objs.size + 1) :: (vs ++ dvs)) (Value.ref (hp.objs.size + 1) :: (us ++ ds)) := .cons rfl (r1.append hd)
  have hl : (Value.ref (hp.objs.size + 1) :: us ++ ds).length = ps.length := r2.length.symm.trans (F1.len _ _ _ _ hq)
  refine wpAny_call (PySem.HandSPX.call_own FB hT hC (PySem.W.looks_findIn I1.kIn iC) (fun self => PySem.W.bind_fn I1.kIn self tI) (by rw [← Paired.length r1, sizeLine_eq]; omega)
    (codeAny_mono (F1.run _ X.stack _ _ ⟨Value.ref (hp.objs.size + 1) :: us, []⟩ (Value.ref (hp.objs.size + 1) :: (us ++ ds)) _ _ (fun _ _ _ => False) (hr.make C us []) (I2.env0.make C us []) (hb _ (Value.ref (hp.objs.size + 1) :: us) I2.kIn hl) r2 hq) fun r s' hq' => ?_))
  cases r with
  | error er => exact hx pins σ _ _ er s' I2 hq'
  | ok fl =>
    cases fl with
    | ret u =>
      obtain ⟨v, H2, os2, bare2, un2, hok2, rv, ev, d, fs, ea, ed, hd1, q2⟩ := hq'
      subst ev
      obtain ⟨h2, g2, d2, t2, os'⟩ := s'
      obtain ⟨t0, G, J, kG, ge, hoe, na⟩ := mk_end0 (d2 := d2) (t2 := t2) I1 le kk un2 hok2 os2 bare2 ea ed hd1
      exact ⟨rv, hp.objs.size + 1, _, _, ⟨G, g2, d2, t2, os'⟩, _, .ref C, some d, rfl, J, kG, ge, hoe, ⟨rfl, rfl, fun vs e => by cases e; rfl⟩, rfl, rfl, na, rfl, bare2, raises_own T.exC T.tyC, q2⟩
    | next => exact False.elim hq'
    | brk => exact False.elim hq'
    | cont => exact False.elim hq'
end
end Dk
namespace Dk
open PySem L2
/-- one isinstance in a row -/
theorem is1 {K : PySem.W.Frag} {p : Addr × Obj} {C c d : Addr} {fs : List (Str × V)} {b : Bool} {t : TA} {σ : L2.St} {H : Hp} {R : List V → Hp → Prop} (hv : σ[0]? = some (some (.ref p.1))) (hd : H d = some (.xd fs)) (hk : PySem.W.kitOne K (.ref C) (.ref c) = some b)
    (h : t σ H fun vs H1 => R (.bl b :: vs) H1) : tCons (tCB (rIsP K p C d) (tCons (tVar 0) (tCons (tC (.ref c)) tNil))) t σ H R :=
  ⟨_, hv, _, _, b, fs, rfl, .own _, hd, hk, h⟩
/-- the field that tells more, by the class -/
def fieldOf (j : Nat) : Option Str := if j ∈ [0, 1, 2, 16, 17, 18, 19] then some "name" else if j = 3 then some "asked" else if j ∈ [4, 5] then some "at" else if j = 6 then some "many" else if j = 7 then some "row" else none
end Dk
namespace Dk
open PySem L2
/-! ### the __init__ of the program's exceptions -/
/-- the two bases: what is told of it, and its word -/
def spXBase (K : PySem.W.Frag) (bmB : List Value) (newId : String) : Sp := fun vs H Q _ => ∃ (a C : Addr) (ab wd : Str), vs = [.ref a, .str ab, .str wd] ∧ ab.length ≤ 1000 ∧ OxC K bmB newId C ∧ PySem.W.findIn K (.ref C) "word" = some none ∧ H a = some (exo a C none) ∧
  ∀ dx, H dx = none → dx ≠ a → Q .non (upd (upd H dx (exd dx [("word", .str wd)])) a (exo a C (some dx)))
end Dk
namespace Dk
open PySem PySem.Spec PyProof.Rows L2
/-- what is raised for a name that is not there: of the class cN, told by the name -/
def Lost (cN : Addr) (n wd : Str) (H : Hp) (E : XK) : Prop := ∀ d H', Same H H' → H' d = some (.xd [("name", .str n), ("word", .str wd)]) → E (.ref cN) (some d) H'
theorem lost_same {H H1 H2 : Hp} {a dx : Addr} {o1 o2 : HO} (s1 : Same H H1) (na : H1 a = none) (nd : upd H1 a o1 dx = none) (ne : dx ≠ a) (kp : ∀ b o, b ≠ a → upd H1 a o1 b = some o → H2 b = some o) : Same H (upd (L2.del H2 a) dx o2) := fun b o e => by
  have e1 := s1 b o e
  have nb : b ≠ a := ne_of_none e1 na
  rw [upd_ne ne] at nd
  rw [upd_ne (ne_of_none e1 nd), L2.del_ne nb]
  exact kp b o nb (by rw [upd_ne nb]; exact e1)
/-- a def that may raise, by its body -/
theorem fun_okN {P : Program} {w : World} {K : PySem.W.Frag} {mg : Str → Option Value} {base : Heap} {x qual : Str} {st : Stmt} {f : Addr} {fd : FuncData} {N ps : List Str} {k : Nat} {sp : Sp} (F : Fun K x qual st f fd) (S : FnScope N ps (defScope st)) (len : ∀ vs H Q E, sp vs H Q E → vs.length = ps.length)
    (hbody : ∀ (cdv : Value) (A : Around) (outer : List Env) (s : Shared) (H : Hp) (vs : List V) (Q : VK) (E : XK), Room k (A.deeper (envOfC qual (defScope st) s.heap.objs.size f cdv)) → sp vs H Q E →
      L2N.Takes (cxOf (L2N.CX P w) P w K mg base N qual (defScope st) f cdv A outer s H E) (fun cls d _ H' => E cls d H') →
      ∃ t, PSs (cxOf (L2N.CX P w) P w K mg base N qual (defScope st) f cdv A outer s H E) (defBody st) t ∧ t { nx := fun _ H' => Q .non H', rt := Q } (start N vs) H) : FnOk P w K mg base (L2N.CX P w) (k + 1) f fd ps sp := by
  obtain ⟨oc, od, kV, doc, pm, an, cdv, ct, osl, rfl, lk, hcd⟩ := F.ex
  exact fn_of lk hcd S len fun A outer s H vs Q E hr hsp => hbody cdv A outer s H vs Q E hr hsp (L2N.takes_of rfl rfl rfl rfl)
theorem Lost.same {cN : Addr} {n wd : Str} {H H' : Hp} {E : XK} (h : Lost cN n wd H E) (s : Same H H') : Lost cN n wd H' E := fun d H2 s2 e => h d H2 (fun b o z => s2 b o (s b o z)) e
end Dk
namespace Dk
open PySem PySem.Spec PyProof.Rows L2 LamX NdefX
/-! ### a lambda with one default -/
/-- the function of such a lambda -/
abbrev dfn (name qual : Str) (as : Arguments) (be : Expr) (sc : Scope) (cl : List (Str × Addr)) (m cdv ct : Value) (T : Addr) : FuncData := { PySem.W.kla_fn name qual as be sc cl m cdv ct with defaults := .ref T }
/-- at f lies such a lambda; T: its defaults -/
def LmD (f : Addr) (F : NF) (be : Expr) (T : Addr) : HO := .ext fun g => ∃ (dx : Option Addr) (sl : Array (Option Value)) (m ct : Value), g.get? f = some (⟨.type "function", dx, .func (dfn F.name F.qual F.params be F.scope F.cl m (.ref F.c) ct T), sl⟩ : Obj)
theorem lmd_tbl {f : Addr} {F : NF} {be : Expr} {T : Addr} (qs : Array Value) : LmD f F be T ≠ .tbl qs := by
  unfold LmD
  intro e
  cases e
end Dk
namespace Dk
open PySem PySem.Spec PyProof.Rows L2 LamX NdefX
/-! ### what can be called with nothing handed in -/
structure COk (P : Program) (w : World) (K : PySem.W.Frag) (mg : Str → Option Value) (base : Heap) (CX : CXT) (k : Nat) (f : Addr) (cl : List (Str × Addr)) (fr : List Str) (ok : Hp → Prop) (sp : List (Option V) → Sp) : Prop where
  fn : ∀ (H : Hp) (g : Heap), HOk P w H g → ok H → PySem.W.FnAt f g
  run : ∀ (A : Around) (out : List Env) (s : Shared) (H : Hp) (ws : List (Option V)) (Q : VK) (E : XK), Room k A → Env0 P w K mg base A out s H → ok H → CellsAt cl fr ws s.heap H → sp ws [] H Q E → codeAny (model P w) A (.call (.ref f) ⟨[], []⟩) (CR CX out P w H s Q E) s
def okLm (f : Addr) (F : NF) (be : Expr) : Hp → Prop := fun H => H f = some (LmO f F be) ∧ H F.c = some (CodeO F.c F.qual)
def okLd (f : Addr) (F : NF) (be : Expr) (D : Addr) : Hp → Prop := fun H => H f = some (LmD f F be D) ∧ H F.c = some (CodeO F.c F.qual) ∧ H D = some (.tup [.int 0])
theorem okLm.mono {f : Addr} {F : NF} {be : Expr} {H H' : Hp} (h : okLm f F be H) (e : ExtN H H') : okLm f F be H' := ⟨e _ _ h.1 lm_tbl, e _ _ h.2 codeO_ne⟩
theorem okLd.mono {f : Addr} {F : NF} {be : Expr} {D : Addr} {H H' : Hp} (h : okLd f F be D H) (e : ExtN H H') : okLd f F be D H' := ⟨e _ _ h.1 lmd_tbl, e _ _ h.2.1 codeO_ne, e _ _ h.2.2 (fun _ z => by cases z)⟩
end Dk
namespace Dk
open PySem PySem.Spec PyProof.Rows L2 L2H HotX
/-! ### refusals by their number -/
/-- the j-th refusal leaves, its field v -/
def Rsd (cs : Nat → Addr) (j : Nat) (v : V) (H : Hp) (E : XK) : Prop := ∀ (d : Addr) (fs : List (PySem.Str × V)) (H' : Hp), Same H H' → H' d = some (.xd fs) → (∀ n, fieldOf j = some n → fs.lookup n = some v) → (fieldOf j = none → v = .non) → E (.ref (cs j)) (some d) H'
theorem Rsd.same {cs : Nat → Addr} {j : Nat} {v : V} {H H' : Hp} {E : XK} (h : Rsd cs j v H E) (s : Same H H') : Rsd cs j v H' E := fun d fs H2 s2 e a b => h d fs H2 (fun b o z => s2 b o (s b o z)) e a b
def okT (v : V) : Prop := ∃ n : PySem.Str, v = .str n ∧ (reprText n).length ≤ 900
def okI (v : V) : Prop := ∃ i : Int, v = .int i ∧ i.natAbs < 10 ^ 30
/-- one over a base, with one field -/
def spXV (K : PySem.W.Frag) (bmB : List Value) (newId : String) (fl wd : PySem.Str) (okv : V → Prop) : Sp := fun vs H Q _ => ∃ (a C : Addr) (v : V), vs = [.ref a, v] ∧ okv v ∧ OxC K bmB newId C ∧ PySem.W.findIn K (.ref C) "word" = some none ∧ PySem.W.findIn K (.ref C) fl = some none ∧ H a = some (exo a C none) ∧
  ∀ dx H', H dx = none → dx ≠ a → (∀ b o, b ≠ a → H b = some o → H' b = some o) → H' a = some (exo a C (some dx)) → H' dx = some (exd dx [(fl, v), ("word", .str wd)]) → (∀ b, b ≠ a → b ≠ dx → H b = none → H' b = none) → Q .non H'
/-- what the raising of the j-th asks for -/
structure RaF (K : PySem.W.Frag) (mg : PySem.Str → Option Value) (cs : Nat → Addr) (j : Nat) (n : PySem.Str) (B newId initId : String) (bmB : List Value) (fI : Addr) : Prop where
  fb : ExcBaseFacts B newId initId bmB
  ox : OxC K bmB newId (cs j)
  ini : PySem.W.findIn K (.ref (cs j)) "__init__" = some (some (.ref fI))
  ty : PySem.W.typeIn K (.ref fI) = some (.type "function")
  g : mg n = some (.ref (cs j))
  w : PySem.W.findIn K (.ref (cs j)) "word" = some none
/-- the j-th can be raised with a field -/
def Rai (P : Program) (w : World) (K : PySem.W.Frag) (mg : PySem.Str → Option Value) (base : Heap) (cs : Nat → Addr) (j : Nat) (n fl : PySem.Str) (okv : V → Prop) : Prop := ∃ (B newId initId : String) (bmB : List Value) (fI : Addr) (dI : FuncData), RaF K mg cs j n B newId initId bmB fI ∧ fieldOf j = some fl ∧ PySem.W.findIn K (.ref (cs j)) fl = some none ∧ Binds K dI ["self", fl] [] ∧ FnOk P w K mg base CX0 2 fI dI ["self", fl] (spXV K bmB newId fl n okv)
def tRai (cs : Nat → Addr) (j : Nat) (okv : V → Prop) (E : XK) (te : TE) : TS := fun _ σ H => te σ H fun v H1 => okv v ∧ Rsd cs j v H1 E
section
variable {X : Cx} {cs : Nat → Addr} {j : Nat} {n fl : PySem.Str} {okv : V → Prop} {E : XK} {te : TE} {e : Expr} {p pos pos' : Pos}
theorem ps_rai (R : Rai X.prog X.w X.K X.mg X.base cs j n fl okv) (hc : X.calm = true) (tk : L2N.Takes X (fun cls d _ H' => E cls d H')) (hr : Room 3 X.A) (hx : Passes CX0 X (fun _ _ _ => False)) (hg : Gl X n) (he : PE X e te)
    (hdb : (n == ("__debug__" : PySem.Str)) = false := by decide) (hs : starEach [e] X.env = (false, eval e X.env) :: starEach [] X.env := by rfl) : PS X (.Raise (some (.Call (.Name n p) [e] [] pos)) none pos') (tRai cs j okv E te) := by
  obtain ⟨B, newId, initId, bmB, fI, dI, R, hf, w2, hb, G⟩ := R
  refine ⟨fun pins s σ H D I h => (L2N.ps_raise (W := fun cls d _ H' => E cls d H') hc tk (pmk_x (CX := CX0) R.fb R.ox R.ini R.ty G hr hb .nil hx hg R.g (pa_cons (pe_mid he) pa_nil hs) hdb hs rfl)).run pins s σ H D I ?_⟩
  refine ⟨fun v H1 => okv v ∧ Rsd cs j v H1 E, h, fun v H1 q => ?_⟩
  obtain ⟨ok, k⟩ := q
  refine ⟨by show 1 ≤ 1000; decide, fun a na => ⟨a, cs j, v, rfl, ok, R.ox, R.w, w2, upd_same, fun dx H' nd nde kp ea ed nn => ⟨rfl, dx, _, ea, ed, by rw [upd_ne nde] at nd; exact nd, ?_⟩⟩⟩
  refine k dx _ _ (lost_same (fun _ _ z => z) na nd nde kp) upd_same (fun n' hn' => ?_) fun z => by rw [hf] at z; cases z
  rw [hf] at hn'
  cases hn'
  show List.lookup fl ((fl, v) :: _) = some v
  rw [List.lookup_cons]
  simp
end
/-! ### promises of the inits -/
theorem int_log {i : Int} (h : i.natAbs < 10 ^ 30) : i.natAbs.log2 < 1920 := by
  by_cases e : i.natAbs = 0
  · rw [e]
    decide
  · exact (Nat.log2_lt e).mpr (Nat.lt_of_lt_of_le h (Nat.le_trans (show 10 ^ 30 ≤ 2 ^ 100 by decide) (Nat.pow_le_pow_right (Nat.succ_pos 1) (Nat.le_of_ble_eq_true rfl))))
theorem int_text {i : Int} (h : i.natAbs < 10 ^ 30) : (Str.ofString (toString i)).length ≤ 31 := by
  have e := PySem.int_text_length_le10 (k := 30) (by decide) h
  rw [PySem.ofString_length]
  exact e
end Dk
namespace Dk
open PySem PySem.Spec PyProof.Rows L2 L2H HotX LamX NdefX
/-- a promise whose ends may be weaker -/
def wkL (sp : List (Option V) → Sp) : List (Option V) → Sp := fun ws vs H Q E => ∃ (Q0 : VK) (E1 : XK), (∀ v H1, Q0 v H1 → Q v H1) ∧ (∀ c d H1, E1 c d H1 → E c d H1) ∧ sp ws vs H Q0 E1
theorem LOk.wk {P : Program} {w : World} {K : PySem.W.Frag} {mg : PySem.Str → Option Value} {base : Heap} {k : Nat} {f : Addr} {F : NF} {be : Expr} {ps fr : List PySem.Str} {sp : List (Option V) → Sp} (L : LOk P w K mg base (L2N.CX P w) k f F be ps fr sp) : LOk P w K mg base (L2N.CX P w) k f F be ps fr (wkL sp) := by
  refine ⟨fun ws vs H Q E ⟨_, _, _, _, h⟩ => L.len ws vs H _ _ h, fun A out s H us vs ws Q E hr e0 hf hc C rv ⟨Q0, E1, q1, q2, h⟩ => codeAny_mono (L.run A out s H us vs ws Q0 E1 hr e0 hf hc C rv h) fun r s' z => ?_⟩
  match r, z with
  | .error e, z =>
    obtain ⟨a, B, H', cls, d, y1, y2, y3, y4, y5, y6, y7, y8⟩ := z
    exact ⟨a, B, H', cls, d, y1, y2, y3, y4, y5, y6, y7, q2 _ _ _ y8⟩
  | .ok (.ret u), z =>
    obtain ⟨v, H', y1, y2, y3, y4, y5, y6⟩ := z
    exact ⟨v, H', y1, y2, y3, y4, y5, q1 _ _ y6⟩
/-! ### where a lambda stands in a def -/
section
variable {X : Cx} {T : List (Addr × PySem.Str)} {c P f0 : Addr} {fd : FuncData} {cs : Nat → Addr} {as : Arguments} {be : Expr} {sc : Scope} {pos p pos' : Pos} {fr : List PySem.Str} {js : List Nat} {spL : List (Option V) → Sp}
theorem COk.wk {P : Program} {w : World} {K : PySem.W.Frag} {mg : PySem.Str → Option Value} {base : Heap} {k : Nat} {f : Addr} {cl : List (PySem.Str × Addr)} {fr : List PySem.Str} {ok : Hp → Prop} {sp : List (Option V) → Sp} (L : COk P w K mg base (L2N.CX P w) k f cl fr ok sp) : COk P w K mg base (L2N.CX P w) k f cl fr ok (wkL sp) := by
  refine ⟨L.fn, fun A out s H ws Q E hr e0 h C ⟨Q0, E1, q1, q2, q⟩ => codeAny_mono (L.run A out s H ws Q0 E1 hr e0 h C q) fun r s' z => ?_⟩
  match r, z with
  | .error e, z =>
    obtain ⟨a, B, H', cls, d, y1, y2, y3, y4, y5, y6, y7, y8⟩ := z
    exact ⟨a, B, H', cls, d, y1, y2, y3, y4, y5, y6, y7, q2 _ _ _ y8⟩
  | .ok (.ret u), z =>
    obtain ⟨v, H', y1, y2, y3, y4, y5, y6⟩ := z
    exact ⟨v, H', y1, y2, y3, y4, y5, q1 _ _ y6⟩
end
end Dk
namespace Dk
open PySem L2
/-! ### rounds judged -/
def spNeedX (C : Addr) (cs : Nat → Addr) : Sp := fun vs H Q E => ∃ (h : Addr) (zs : List Str) (z : Str), vs = [.ref h, .str z] ∧ Nmd C H h zs ∧ (z ∈ zs → Q .non H) ∧ (z ∉ zs → (PySem.reprText z).length ≤ 900 ∧ Rsd cs 16 (.str z) H E)
/-! ### texts that can be told -/
theorem repr_small {z : Str} (h : ∀ c ∈ z.cps.toList, c < 16 ^ 8) (l : z.length ≤ 80) : (PySem.reprText z).length ≤ 900 := by
  have := PySem.StrLaws.reprText_len z h
  omega
theorem abc_lt : ∀ c ∈ abc.cps.toList, c < 16 ^ 8 := by decide +kernel
theorem nm_repr {z : Str} (h : isNm z = true) : (PySem.reprText z).length ≤ 900 := by
  unfold isNm at h
  rw [Bool.and_eq_true, decide_eq_true_eq, List.all_eq_true] at h
  exact repr_small (fun c hc => abc_lt c (of_decide_eq_true (h.2 c hc))) (by omega)
def okR (z : Str) : Prop := PyData.strOk z = true ∧ (PySem.reprText z).length ≤ 900
theorem nm_okR {z : Str} (h : isNm z = true) : okR z := ⟨nm_ok h, nm_repr h⟩
theorem HouseAt.ext {C : Addr} {H H' : Hp} {h : Addr} {zs : List Str} {bh vw : Str → List Str} (x : HouseAt C H h zs bh vw) (e : Ex H H') : HouseAt C H' h zs bh vw := x.kpi (s := h + 1) (fun z => absurd z (Nat.ne_of_lt (Nat.lt_succ_self _))) (KpI.ofN e.ex)
theorem Box.ext {H H' : Hp} {b l : Addr} (h : Box H b l) (e : Ex H H') : Box H' b l := by
  obtain ⟨ns, i, c, s0, t, h1, h2, r⟩ := h
  exact ⟨ns, i, c, s0, t, e.lst h1, e.lst h2, r⟩
end Dk
namespace Dk
open PySem PySem.Spec PyProof.Rows L2
/-! ### watchers that are not there; longer rows of names -/
/-- rows of names by their beats, in a dict -/
def RowsG (G : Hp) (D : Addr) (ws : List Wtc) (od : Int → List Nat) (lo hi : Int) : Prop := ∃ kvs : List (Key × V), G D = some (.dK kvs) ∧ ∀ b, lo ≤ b → b ≤ hi → ∃ p, valV kvs (Sum.inl b : Key) = some (.ref p) ∧ G p = some (.lst (((od b).map (nmW ws)).map V.str))
theorem RowsIn.g {H G : Hp} {D : Addr} {ws : List Wtc} {od : Int → List Nat} {lo hi : Int} (h : RowsIn H G D ws od lo hi) : RowsG G D ws od lo hi := by
  obtain ⟨kvs, a, _, c⟩ := h
  exact ⟨kvs, a, fun b h1 h2 => by obtain ⟨p, e, _, _, f⟩ := c b h1 h2; exact ⟨p, e, f⟩⟩
theorem RowsG.same {G G' : Hp} {D : Addr} {ws : List Wtc} {od : Int → List Nat} {lo hi : Int} (h : RowsG G D ws od lo hi) (s : Same G G') : RowsG G' D ws od lo hi := by
  obtain ⟨kvs, a, c⟩ := h
  exact ⟨kvs, s _ _ a, fun b h1 h2 => by obtain ⟨p, e, f⟩ := c b h1 h2; exact ⟨p, e, s _ _ f⟩⟩
theorem RowsG.ext {G G' : Hp} {D : Addr} {ws : List Wtc} {od : Int → List Nat} {lo hi : Int} (h : RowsG G D ws od lo hi) (s : Ex G G') : RowsG G' D ws od lo hi := by
  obtain ⟨kvs, a, c⟩ := h
  exact ⟨kvs, s.ex _ _ a (fun _ z => by cases z), fun b h1 h2 => by obtain ⟨p, e, f⟩ := c b h1 h2; exact ⟨p, e, s.lst f⟩⟩
theorem RowsG.get {G : Hp} {D : Addr} {ws : List Wtc} {od : Int → List Nat} {lo hi : Int} (h : RowsG G D ws od lo hi) {b : Int} (h1 : lo ≤ b) (h2 : b ≤ hi) : ∃ p, DGet G D (.int b) (some (.ref p)) ∧ G p = some (.lst (((od b).map (nmW ws)).map V.str)) := by
  obtain ⟨kvs, a, c⟩ := h
  obtain ⟨p, e, f⟩ := c b h1 h2
  exact ⟨p, by rw [← e]; exact DGet.k (k := (Sum.inl b : Key)) a, f⟩
end Dk
namespace Dk
open PySem L2
/-! ### how long one can go on -/
section
variable (nx : Cell → List Cell)
def Stp : Nat → Cell → Prop
  | 0, _ => True
  | n + 1, c => ∃ o ∈ nx c, Stp n o
def Lg (c : Cell) : Option Nat → Prop
  | some n => Stp nx n c ∧ ¬ Stp nx (n + 1) c
  | none => ∀ n, Stp nx n c
end
section
variable {nx : Cell → List Cell} {c : Cell}
theorem stp_down : ∀ {n : Nat} {c : Cell}, Stp nx (n + 1) c → Stp nx n c
  | 0, _, _ => trivial
  | n + 1, _, ⟨o, ho, h⟩ => ⟨o, ho, stp_down h⟩
theorem stp_le {m n : Nat} (h : m ≤ n) : ∀ {c : Cell}, Stp nx n c → Stp nx m c := by
  induction n with
  | zero =>
    intro c s
    obtain rfl : m = 0 := by omega
    exact s
  | succ n ih =>
    intro c s
    by_cases e : m = n + 1
    · rw [e]
      exact s
    · exact ih (by omega) (stp_down s)
theorem Lg.uniq {u v : Option Nat} (a : Lg nx c u) (b : Lg nx c v) : u = v := by
  cases u with
  | none =>
    cases v with
    | none => rfl
    | some n => exact absurd (a (n + 1)) b.2
  | some m =>
    cases v with
    | none => exact absurd (b (m + 1)) a.2
    | some n =>
      congr 1
      rcases Nat.lt_trichotomy m n with h | h | h
      · exact absurd (stp_le h b.1) a.2
      · exact h
      · exact absurd (stp_le h a.1) b.2
theorem lg_total (nx : Cell → List Cell) (c : Cell) : ∃ u, Lg nx c u := by
  by_cases h : ∀ n, Stp nx n c
  · exact ⟨none, h⟩
  · obtain ⟨n, hn⟩ := Classical.not_forall.mp h
    have : ∃ m, m < n ∧ Stp nx m c ∧ ¬ Stp nx (m + 1) c := by
      induction n with
      | zero => exact absurd trivial hn
      | succ n ih =>
        by_cases e : Stp nx n c
        · exact ⟨n, by omega, e, hn⟩
        · obtain ⟨m, h1, h2⟩ := ih e
          exact ⟨m, by omega, h2⟩
    obtain ⟨m, _, h1, h2⟩ := this
    exact ⟨some m, h1, h2⟩
theorem lg_zero (h : nx c = []) : Lg nx c (some 0) := ⟨trivial, fun ⟨o, ho, _⟩ => by rw [h] at ho; cases ho⟩
theorem lg_some_step {n : Nat} (h : Lg nx c (some n)) : (∀ o ∈ nx c, ∃ k, k < n ∧ Lg nx o (some k)) ∧ (n = 0 ∨ ∃ o ∈ nx c, Lg nx o (some (n - 1))) := by
  have all : ∀ o ∈ nx c, ∃ k, k < n ∧ Lg nx o (some k) := fun o ho => by
    obtain ⟨u, hu⟩ := lg_total nx o
    cases u with
    | none => exact absurd ⟨o, ho, hu n⟩ h.2
    | some k =>
      refine ⟨k, ?_, hu⟩
      rcases Nat.lt_or_ge k n with z | z
      · exact z
      · exact absurd ⟨o, ho, stp_le z hu.1⟩ h.2
  refine ⟨all, ?_⟩
  cases n with
  | zero => exact .inl rfl
  | succ m =>
    obtain ⟨o, ho, s⟩ := h.1
    obtain ⟨k, hk, hL⟩ := all o ho
    have : k = m := by
      rcases Nat.lt_or_ge k m with z | z
      · exact absurd (stp_le z s) hL.2
      · omega
    exact .inr ⟨o, ho, by rw [Nat.add_sub_cancel, ← this]; exact hL⟩
/-! a walk longer than there are cells goes round -/
def Pth (nx : Cell → List Cell) : List Cell → Prop
  | [] => False
  | [_] => True
  | c :: o :: t => o ∈ nx c ∧ Pth nx (o :: t)
theorem Pth.tail : ∀ {l : List Cell} {a : Cell} {r : List Cell}, Pth nx (l ++ a :: r) → Pth nx (a :: r)
  | [], _, _, h => h
  | [_], _, _, h => h.2
  | _ :: y :: l, _, _, h => Pth.tail (l := y :: l) h.2
end
/-! ### dicts by cells -/
/-- the lists of cells that a dict leads to -/
def LkI (H : Hp) (nx : Cell → List Cell) (q : Cell → Addr) (cs : List Cell) : Prop := ∀ c ∈ cs, ∃ xs, H (q c) = some (.lst xs) ∧ CeL H xs (nx c)
theorem LkI.same {H H' : Hp} {nx : Cell → List Cell} {q : Cell → Addr} {cs : List Cell} (h : LkI H nx q cs) (s : Same H H') : LkI H' nx q cs := fun c hc => by
  obtain ⟨xs, a, b⟩ := h c hc
  exact ⟨xs, s _ _ a, CeL.same b s⟩
end Dk
namespace Dk
open PySem L2
/-! ### ranks, from the ends on -/
def cnt (l A : List Cell) : Nat := (l.filter fun o => decide (o ∉ A)).length
theorem cnt_zero {l A : List Cell} : cnt l A = 0 ↔ ∀ o ∈ l, o ∈ A := by
  unfold cnt
  rw [List.length_eq_zero_iff, List.filter_eq_nil_iff]
  constructor
  · intro h o ho
    have := h o ho
    by_cases z : o ∈ A
    · exact z
    · exact absurd (decide_eq_true z) this
  · intro h o ho q
    exact (of_decide_eq_true q) (h o ho)
theorem cnt_nil (l : List Cell) : cnt l [] = l.length := by
  unfold cnt
  rw [List.filter_eq_self.mpr fun o _ => decide_eq_true (by simp)]
theorem cnt_not {l A : List Cell} {x : Cell} (h : x ∉ l) : cnt l (A ++ [x]) = cnt l A := by
  unfold cnt
  congr 1
  refine List.filter_congr fun o ho => ?_
  have : o ≠ x := fun z => h (z ▸ ho)
  simp [this]
structure RkOk (nx : Cell → List Cell) (cs en : List Cell) (R : Cell → Nat) : Prop where
  nd : en.Nodup
  sub : ∀ c ∈ en, c ∈ cs
  lg : ∀ c ∈ en, Lg nx c (some (R c))
  cl : ∀ c ∈ en, ∀ o ∈ nx c, o ∈ en
  out : ∀ c ∈ cs, c ∉ en → ∃ o ∈ nx c, o ∉ en
/-- k of the ended ones have been looked at; un: how many steps lead to others -/
structure Kah (nx : Cell → List Cell) (cs en : List Cell) (R un : Cell → Nat) (k : Nat) : Prop where
  nd : en.Nodup
  sub : ∀ c ∈ en, c ∈ cs
  lg : ∀ c ∈ en, Lg nx c (some (R c))
  uq : ∀ c ∈ cs, un c = cnt (nx c) (en.take k)
  iff_ : ∀ c ∈ cs, c ∈ en ↔ un c = 0
  kl : k ≤ en.length
theorem Kah.done {nx : Cell → List Cell} {cs en : List Cell} {R un : Cell → Nat} {k : Nat} (h : Kah nx cs en R un k) (e : k = en.length) : RkOk nx cs en R := by
  subst e
  refine ⟨h.nd, h.sub, h.lg, fun c hc o ho => ?_, fun c hc hn => ?_⟩
  · have z := (h.iff_ c (h.sub c hc)).mp hc
    rw [h.uq c (h.sub c hc), List.take_length] at z
    exact cnt_zero.mp z o ho
  · have z : un c ≠ 0 := fun z => hn ((h.iff_ c hc).mpr z)
    rw [h.uq c hc, List.take_length] at z
    by_cases g : ∃ o ∈ nx c, o ∉ en
    · exact g
    · exact absurd (cnt_zero.mpr fun o ho => Classical.byContradiction fun w => g ⟨o, ho, w⟩) z
/-- j of the sources of the cell x have been gone through -/
structure KaI (nx : Cell → List Cell) (cs en : List Cell) (R un : Cell → Nat) (k : Nat) (x : Cell) (L : List Cell) (j : Nat) : Prop where
  nd : en.Nodup
  sub : ∀ c ∈ en, c ∈ cs
  lg : ∀ c ∈ en, Lg nx c (some (R c))
  uq : ∀ c ∈ cs, un c = if c ∈ L.take j then cnt (nx c) (en.take (k + 1)) else cnt (nx c) (en.take k)
  iff_ : ∀ c ∈ cs, c ∈ en ↔ un c = 0
  at_ : en[k]? = some x
theorem Kah.into {nx : Cell → List Cell} {cs en : List Cell} {R un : Cell → Nat} {k : Nat} {x : Cell} {L : List Cell} (h : Kah nx cs en R un k) (e : en[k]? = some x) : KaI nx cs en R un k x L 0 := ⟨h.nd, h.sub, h.lg, fun c hc => by rw [List.take_zero, if_neg (by simp)]; exact h.uq c hc, h.iff_, e⟩
theorem KaI.done {nx : Cell → List Cell} {cs en : List Cell} {R un : Cell → Nat} {k : Nat} {x : Cell} {L : List Cell} (h : KaI nx cs en R un k x L L.length) (hL : ∀ c, c ∈ L ↔ c ∈ cs ∧ x ∈ nx c) : Kah nx cs en R un (k + 1) := by
  have kl := (List.getElem?_eq_some_iff.mp h.at_).1
  refine ⟨h.nd, h.sub, h.lg, fun c hc => ?_, h.iff_, by omega⟩
  rw [h.uq c hc, List.take_length]
  split
  · rfl
  · rename_i hn
    rw [take_snoc' h.at_, cnt_not (fun z => hn ((hL c).mpr ⟨hc, z⟩))]
theorem Kah.start {nx : Cell → List Cell} {cs : List Cell} (nd : cs.Nodup) : Kah nx cs (cs.filter fun c => decide ((nx c).length = 0)) (fun _ => 0) (fun c => (nx c).length) 0 := by
  refine ⟨nd.filter _, fun c hc => (List.mem_filter.mp hc).1, fun c hc => ?_, fun c _ => ?_, fun c hc => ?_, Nat.zero_le _⟩
  · exact lg_zero (List.length_eq_zero_iff.mp (of_decide_eq_true (List.mem_filter.mp hc).2))
  · rw [List.take_zero, cnt_nil]
  · rw [List.mem_filter]
    exact ⟨fun z => of_decide_eq_true z.2, fun z => ⟨hc, decide_eq_true z⟩⟩
end Dk
namespace Dk
open PySem L2
theorem RkOk.next {nx : Cell → List Cell} {cs en : List Cell} {R : Cell → Nat} (h : RkOk nx cs en R) {c : Cell} (hc : c ∈ en) (hr : 0 < R c) : ∃ o ∈ nx c, R o = R c - 1 := by
  obtain ⟨_, z | ⟨o, ho, hL⟩⟩ := lg_some_step (h.lg c hc)
  · omega
  · exact ⟨o, ho, Option.some.inj ((h.lg o (h.cl c hc o ho)).uniq hL)⟩
end Dk
namespace Dk
open PySem L2
/-! ### the words of the steps -/
def UsOk (nx : Cell → List Cell) (os : List Str) (r : Nat) (us : List (Option Nat)) : Prop := us.length = os.length ∧ ∀ (i : Nat) (o : Str) (u : Option Nat), os[i]? = some o → us[i]? = some u → Lg nx (o, r) u
section
variable {nx : Cell → List Cell} {c : Cell} {os : List Str} {r : Nat} {us : List (Option Nat)}
theorem UsOk.of (h : UsOk nx os r us) (e : nx c = os.map fun o => (o, r)) {o : Cell} (ho : o ∈ nx c) : ∃ u ∈ us, Lg nx o u := by
  rw [e] at ho
  obtain ⟨y, hy, rfl⟩ := List.mem_map.mp ho
  obtain ⟨i, hi, ei⟩ := List.mem_iff_getElem.mp hy
  have e1 : os[i]? = some y := by rw [List.getElem?_eq_getElem hi, ei]
  have hu : i < us.length := by rw [h.1]; exact hi
  exact ⟨us[i], List.getElem_mem hu, h.2 i y _ e1 (List.getElem?_eq_getElem hu)⟩
theorem UsOk.at (h : UsOk nx os r us) (e : nx c = os.map fun o => (o, r)) {u : Option Nat} (hu : u ∈ us) : ∃ o ∈ nx c, Lg nx o u := by
  obtain ⟨i, hi, ei⟩ := List.mem_iff_getElem.mp hu
  have ho : i < os.length := by rw [← h.1]; exact hi
  refine ⟨(os[i], r), ?_, h.2 i _ _ (List.getElem?_eq_getElem ho) (by rw [List.getElem?_eq_getElem hi, ei])⟩
  rw [e]
  exact List.mem_map.mpr ⟨_, List.getElem_mem ho, rfl⟩
end
end Dk
namespace Dk
open PySem L2
/-! ### rounds that fit -/
abbrev at0 (w : List Str) (i : Nat) : Str := w.getD i Str.empty
structure Rd (bh : Str → List Str) (lf : List (List Str)) (w : List Str) : Prop where
  len : w.length = lf.length
  mem : ∀ i, i < lf.length → at0 w i ∈ lf.getD i []
  stp : ∀ i, i + 1 < lf.length → hnd bh (at0 w i) (at0 w (i + 1)) = true
  cls : hnd bh (at0 w (lf.length - 1)) (at0 w 0) = true
section
variable {zs : List Str} {bh : Str → List Str} {lf lf' : List (List Str)} {w : List Str}
theorem Rd.trl (R : Rd bh lf w) : ∀ i, i < lf.length → at0 w i ∈ trlAt bh lf (at0 w 0) i
  | 0, h => List.mem_filter.mpr ⟨R.mem 0 h, decide_eq_true rfl⟩
  | i + 1, h => List.mem_filter.mpr ⟨R.mem (i + 1) h, List.any_eq_true.mpr ⟨_, Rd.trl R i (by omega), R.stp i h⟩⟩
/-- where a round fits, one is found -/
theorem Rd.some (L : LfOk zs lf) (sy : SymH zs bh) (R : Rd bh lf w) : (someN zs bh lf).isSome = true := by
  have l1 := L.one
  have m0 := R.mem 0 (by omega)
  have ml := R.mem (lf.length - 1) (by omega)
  unfold someN
  rw [List.isSome_findSome?, List.any_eq_true]
  refine ⟨at0 w 0, L.memD _ _ m0, ?_⟩
  unfold alongN
  rw [trlN_len, getD_some (trlN_get (show 0 < lf.length by omega)), getD_some (trlN_get (show lf.length - 1 < lf.length by omega))]
  have h : at0 w (lf.length - 1) ∈ nxtT bh (trlAt bh lf (at0 w 0) 0) (trlAt bh lf (at0 w 0) (lf.length - 1)) := List.mem_filter.mpr ⟨R.trl _ (by omega), List.any_eq_true.mpr ⟨at0 w 0, R.trl 0 (by omega), by rw [sy _ (L.memD _ _ m0) _ (L.memD _ _ ml)]; exact R.cls⟩⟩
  generalize nxtT bh (trlAt bh lf (at0 w 0) 0) (trlAt bh lf (at0 w 0) (lf.length - 1)) = l at h
  cases l with
  | nil => cases h
  | cons y r => rfl
/-! ### how many fit -/
def rwA (lf : List (List Str)) (f : Str) (i : Nat) : List Str := if i = 0 then (lf.getD 0 []).filter fun r => decide (r = f) else lf.getD i []
def vAt (bh : Str → List Str) (lf : List (List Str)) (f : Str) : Nat → Str → Int
  | 0, _ => 1
  | i + 1, r => (((rwA lf f i).filter fun o => hnd bh o r).map (vAt bh lf f i)).sum
def pFin (bh : Str → List Str) (lf : List (List Str)) (f : Str) : Int := (((rwA lf f (lf.length - 1)).filter fun o => hnd bh o f).map (vAt bh lf f (lf.length - 1))).sum
def fitN (zs : List Str) (bh : Str → List Str) (lf : List (List Str)) : Int := (zs.map (pFin bh lf)).sum
theorem sum_pos {l : List Int} (h : ∀ x ∈ l, 0 ≤ x) : 0 ≤ l.sum := (sum_nn h).1
theorem vAt_nn (bh : Str → List Str) (lf : List (List Str)) (f : Str) : ∀ i r, 0 ≤ vAt bh lf f i r
  | 0, _ => by show (0 : Int) ≤ 1; decide
  | i + 1, r => sum_pos fun x hx => by
    obtain ⟨o, _, rfl⟩ := List.mem_map.mp hx
    exact vAt_nn bh lf f i o
theorem sum_sub {p : Str → Bool} {g g' : Str → Int} (nn : ∀ r, 0 ≤ g r) (le : ∀ r, g' r ≤ g r) : ∀ {l' l : List Str}, l'.Sublist l → ((l'.filter p).map g').sum ≤ ((l.filter p).map g).sum
  | _, _, .slnil => Int.le_refl _
  | _, _, .cons (l₂ := l) a s => by
    have ih := sum_sub (p := p) nn le s
    rw [List.filter_cons]
    split
    · rw [List.map_cons, List.sum_cons]
      have := nn a
      omega
    · exact ih
  | _, _, .cons₂ (l₂ := l) a s => by
    have ih := sum_sub (p := p) nn le s
    rw [List.filter_cons, List.filter_cons]
    split
    · rw [List.map_cons, List.sum_cons, List.map_cons, List.sum_cons]
      have := le a
      omega
    · exact ih
theorem pFin_nn (f : Str) : 0 ≤ pFin bh lf f := sum_pos fun x hx => by
  obtain ⟨o, _, rfl⟩ := List.mem_map.mp hx
  exact vAt_nn bh lf f _ o
theorem one_in {p : Str → Bool} {g : Str → Int} (nn : ∀ r, 0 ≤ g r) {l : List Str} {r : Str} (h : r ∈ l) (hp : p r = true) : g r ≤ ((l.filter p).map g).sum := by
  have := sum_sub (p := p) (g := g) (g' := g) nn (fun _ => Int.le_refl _) (List.singleton_sublist.mpr h)
  rw [List.filter_cons, if_pos hp, List.filter_nil, List.map_cons, List.map_nil, List.sum_cons, List.sum_nil] at this
  omega
theorem Rd.rw (R : Rd bh lf w) {i : Nat} (hi : i < lf.length) : at0 w i ∈ rwA lf (at0 w 0) i := by
  unfold rwA
  split
  · rename_i e
    subst e
    exact List.mem_filter.mpr ⟨R.mem 0 hi, decide_eq_true rfl⟩
  · exact R.mem i hi
theorem Rd.val (R : Rd bh lf w) : ∀ i, i < lf.length → 1 ≤ vAt bh lf (at0 w 0) i (at0 w i)
  | 0, _ => Int.le_refl _
  | i + 1, h => Int.le_trans (Rd.val R i (by omega)) (one_in (p := fun o => hnd bh o (at0 w (i + 1))) (vAt_nn bh lf _ i) (R.rw (by omega)) (R.stp i h))
theorem Rd.fit (L : LfOk zs lf) (R : Rd bh lf w) : 0 < fitN zs bh lf := by
  have l1 := L.one
  have h : 1 ≤ pFin bh lf (at0 w 0) := Int.le_trans (R.val (lf.length - 1) (by omega)) (one_in (p := fun o => hnd bh o (at0 w 0)) (vAt_nn bh lf _ _) (R.rw (by omega)) R.cls)
  have hz : at0 w 0 ∈ zs := L.memD _ _ (R.mem 0 (by omega))
  refine (sum_nn fun x hx => ?_).2.mpr ⟨_, List.mem_map.mpr ⟨_, hz, rfl⟩, by omega⟩
  obtain ⟨f, _, rfl⟩ := List.mem_map.mp hx
  exact pFin_nn f
end
/-! ### the promises -/
def TbA (bh : Str → List Str) (lf : List (List Str)) (N : Addr → Prop) (H : Hp) (v : V) (f : Str) : Prop := ∃ q ys, N q ∧ v = V.ref q ∧ H q = some (.lst ys) ∧ SxL N H ys (trlN bh lf f)
end Dk
namespace Dk
open PySem L2
theorem TbA.same {bh : Str → List Str} {lf : List (List Str)} {N : Addr → Prop} {H H' : Hp} {v : V} {f : Str} (h : TbA bh lf N H v f) (s : Same H H') : TbA bh lf N H' v f := by
  obtain ⟨q, ys, n, e, g, x⟩ := h
  exact ⟨q, ys, n, e, s _ _ g, SxL.same x s⟩
theorem TbA.put {bh : Str → List Str} {lf : List (List Str)} {N : Addr → Prop} {H : Hp} {D : Addr} {o : HO} {v : V} {f : Str} (h : TbA bh lf N H v f) (k : ¬ N D) : TbA bh lf N (upd H D o) v f := by
  obtain ⟨q, ys, n, e, g, x⟩ := h
  exact ⟨q, ys, n, e, by rw [upd_ne (show q ≠ D from fun z => k (by rw [← z]; exact n))]; exact g, SxL.put x k⟩
end Dk
namespace Dk
open PySem L2
theorem Lk.one {H : Hp} {a b p q : Addr} {rs : List Str} (ha : H a = some (.tup [.str "one", .ref p])) (hb : H b = some (.tup [.str "one", .ref q])) (hp : H p = some (.tup (rs.map V.str))) (hq : H q = some (.tup (rs.map V.str))) (hl : rs.length ≤ 1000) : Lk 4 H (.ref a) (.ref b) := by
  refine .inr ⟨a, b, [.str "one", .ref p], [.str "one", .ref q], rfl, rfl, rfl, by show 2 ≤ 1000; decide, .inr ⟨ha, hb⟩, fun i x y hx hy => ?_⟩
  match i with
  | 0 =>
    obtain rfl := Option.some.inj hx
    obtain rfl := Option.some.inj hy
    exact Lk.flat rfl
  | 1 =>
    obtain rfl := Option.some.inj hx
    obtain rfl := Option.some.inj hy
    exact Lk.tup hp hq (by rw [List.length_map]; exact hl) flat_strs
  | n + 2 => simp at hx
end Dk
namespace Dk
open PySem PySem.Spec PyProof.Rows L2
/-! ### beats refused -/
instance (b : Int) : Decidable (beatOk b) := by unfold beatOk; infer_instance
def spIsBeatA : Sp := fun vs H Q _ => ∃ b : Int, vs = [.int b] ∧ Q (.bl (decide (beatOk b))) H
def spNeedBeatX (cs : Nat → Addr) : Sp := fun vs H Q E => ∃ b : Int, vs = [.int b] ∧ (beatOk b → Q .non H) ∧ (¬ beatOk b → b.natAbs < 10 ^ 30 ∧ Rsd cs 3 (.int b) H E)
/-- a def that is never come to -/
def spNo : Sp := fun _ _ _ _ => False
theorem fn_no {P : Program} {w : World} {K : PySem.W.Frag} {mg : PySem.Str → Option Value} {base : Heap} {CX : CXT} {k : Nat} {f : Addr} {fd : FuncData} {ps : List PySem.Str} : FnOk P w K mg base CX k f fd ps spNo :=
  ⟨fun _ _ _ _ h => False.elim h, fun _ _ _ _ _ _ _ _ _ _ _ _ _ h => False.elim h⟩
/-! ### sightings refused -/
end Dk
set_option maxHeartbeats 3200000
namespace Dk
open PySem L2
theorem ifF {c : Bool} {p q : Prop} (h : c = false) (x : q) : if c = true then p else q := by
  rw [if_neg (by rw [h]; decide)]
  exact x
end Dk
namespace Dk
open PySem L2 LamX
section
variable {dk : Int → Str → Prop} {hd : Int → Str → Str → Prop}
theorem wk_at : ∀ {l : List Str} {b : Int} {i : Nat} {x : Str}, Wk dk hd l b → l[i]? = some x → dk (b + ((i : Nat) : Int)) x ∧ ∀ y, l[i + 1]? = some y → hd (b + ((i : Nat) : Int)) x y ∧ dk (b + ((i : Nat) : Int) + 1) y
  | [], b, i, x, h, _ => h.elim
  | [z], b, 0, x, h, e => by
    have e' : z = x := Option.some.inj e
    rw [show b + ((0 : Nat) : Int) = b from Int.add_zero b, ← e']
    exact ⟨h, fun y q => (by cases q)⟩
  | [z], b, i + 1, x, h, e => by simp at e
  | z :: o :: t, b, 0, x, h, e => by
    have e' : z = x := Option.some.inj e
    rw [show b + ((0 : Nat) : Int) = b from Int.add_zero b, ← e']
    refine ⟨h.1, fun y q => ?_⟩
    have q' : o = y := Option.some.inj q
    rw [← q']
    refine ⟨h.2.1, ?_⟩
    cases t with
    | nil => exact h.2.2
    | cons a t => exact h.2.2.1
  | z :: o :: t, b, i + 1, x, h, e => by
    have := wk_at (i := i) h.2.2 (by simpa using e)
    rw [show b + 1 + ((i : Nat) : Int) = b + ((i + 1 : Nat) : Int) by omega] at this
    exact ⟨this.1, fun y q => this.2 y (by simpa using q)⟩
theorem wk_ne {l : List Str} {b : Int} (h : Wk dk hd l b) : 0 < l.length := by
  cases l with
  | nil => exact h.elim
  | cons z t => exact Nat.succ_pos _
end
section
variable {zs : List Str} {ds ss : List SS} {ps : List Pst} {ws : List Wtc} {W : Nat} {st gl : List Str}
theorem rp_wk (h : IsWh (ps.map (·.2)) ws.length false 0 W) : ∀ {t : List Cell} {c : Cell}, Rp (nxS zs ds ss ps ws false 0 W) (begAll zs ss ps ws false 0 W st none) (c :: t) → ∃ b : Nat, Wk (dkS zs ss ps ws) (hdS zs ds ps) ((c :: t).reverse.map (·.1)) ((b : Nat) : Int) ∧ (∃ f, (c :: t).reverse.head? = some (f, b) ∧ f ∈ st) ∧ b < W ∧ c.2 = rest (((b : Nat) : Int) + ((t.length : Nat) : Int)) W
  | [], c, r => by
    obtain ⟨h1, h2, h3, h4⟩ := mem_beg.mp r
    have hr : c.2 < W := List.mem_range.mp h1
    refine ⟨c.2, ⟨h2, ?_⟩, ⟨c.1, rfl, h3⟩, hr, by rw [show ((c.2 : Nat) : Int) + ((([] : List Cell).length : Nat) : Int) = ((c.2 : Nat) : Int) from Int.add_zero _, rest_nat hr]⟩
    rw [← lit_plain h, rest_nat hr]
    exact h4
  | p :: t, c, r => by
    obtain ⟨b, hw, ⟨f, hf, hs⟩, hb, hp⟩ := rp_wk h r.2
    have hc := r.1
    unfold nxS at hc
    obtain ⟨y, hy, rfl⟩ := List.mem_map.mp hc
    have e0 : (p :: t).reverse.map (·.1) = t.reverse.map (·.1) ++ [p.1] := by simp
    rw [e0] at hw
    have dp := wk_last _ _ _ hw
    have lt : (t.reverse.map (·.1)).length = t.length := by simp
    rw [lt] at dp
    rw [hp, stp_abs h _ _ _ dp.1] at hy
    refine ⟨b, ?_, ⟨f, ?_, hs⟩, hb, ?_⟩
    · rw [show ((y, (p.2 + 1) % W) :: p :: t).reverse.map (·.1) = t.reverse.map (·.1) ++ [p.1] ++ [y] by simp, wk_snoc, lt]
      exact ⟨hw, hy.1, hy.2⟩
    · rw [List.reverse_cons, List.head?_append, hf]
      rfl
    · show (p.2 + 1) % W = _
      rw [hp, rest_add h.1]
      congr 1
      all_goals (simp only [List.length_cons]; omega)
end
/-! ### promises -/
def spIsWalk (C CS : Addr) : Sp := fun vs H Q _ => ∃ (s rp : Addr) (zs : List Str) (ds ss : List SS) (ps : List Pst) (ws : List Wtc) (W : Nat) (rs : List Str) (b : Int), vs = [.ref s, .int b, .ref rp] ∧ SceneAt C CS H s zs ds ss ps ws false 0 W ∧ H rp = some (.tup (rs.map V.str)) ∧ rs.length ≤ 100000 ∧ beatOk b ∧ Wk (dkS zs ss ps ws) (hdS zs ds ps) rs b ∧ ∀ H', Same H H' → Q (.bl true) H'
def spIsWay (C CS : Addr) : Sp := fun vs H Q _ => ∃ (s a g rp : Addr) (zs : List Str) (ds ss : List SS) (ps : List Pst) (ws : List Wtc) (W : Nat) (st gl rs : List Str) (b : Int) (f z : Str) (l : List Str), vs = [.ref s, .ref a, .ref g, .int b, .ref rp] ∧ SceneAt C CS H s zs ds ss ps ws false 0 W ∧ H a = some (.lst (st.map V.str)) ∧ H g = some (.lst (gl.map V.str)) ∧ (∀ z ∈ st, z ∈ zs) ∧ (∀ z ∈ gl, z ∈ zs) ∧ st.length ≤ 100 ∧ gl.length ≤ 100 ∧ H rp = some (.tup (rs.map V.str)) ∧ rs.length ≤ 100000 ∧ beatOk b ∧ Wk (dkS zs ss ps ws) (hdS zs ds ps) rs b ∧ rs.head? = some f ∧ f ∈ st ∧ rs = l ++ [z] ∧ z ∈ gl ∧ ∀ H', Same H H' → Q (.bl true) H'
def ToldD (zs : List Str) (ds ss : List SS) (ps : List Pst) (ws : List Wtc) (st gl : List Str) (H : Hp) (tp : Addr) : Option Nat → Prop
  | some n => ∃ (b : Nat) (rp : Addr) (rs : List Str) (f z : Str) (l : List Str), H tp = some (.tup [.str "way", .int ((b : Nat) : Int), .ref rp]) ∧ H rp = some (.tup (rs.map V.str)) ∧ rs.length = n + 1 ∧ b < 1440 ∧ n ≤ 11520 ∧ Wk (dkS zs ss ps ws) (hdS zs ds ps) rs ((b : Nat) : Int) ∧ rs.head? = some f ∧ f ∈ st ∧ rs = l ++ [z] ∧ z ∈ gl
  | none => ∃ cp, H tp = some (.tup [.str "closed", .ref cp])
theorem ToldD.ext {zs : List Str} {ds ss : List SS} {ps : List Pst} {ws : List Wtc} {st gl : List Str} {H H' : Hp} {tp : Addr} {u : Option Nat} (h : ToldD zs ds ss ps ws st gl H tp u) (e : Ex H H') : ToldD zs ds ss ps ws st gl H' tp u := by
  cases u with
  | none =>
    obtain ⟨cp, h⟩ := h
    exact ⟨cp, e.tup h⟩
  | some n =>
    obtain ⟨b, rp, rs, f, z, l, h1, h2, h3⟩ := h
    exact ⟨b, rp, rs, f, z, l, e.tup h1, e.tup h2, h3⟩
end Dk
namespace Dk
open PySem PySem.Spec PyProof.Rows L2
/-! ### walks judged -/
theorem len5 {n : Nat} (h : n ≤ 100000) : n < sizeLine := by rw [sizeLine_eq]; omega
def strW (zs : List Str) : List Str → Option (Nat × V)
  | [] => none
  | z :: r => if z ∉ zs then some (16, .str z) else strW zs r
def begW (o : Option Int) : Option (Nat × V) := match o with
  | some b => if beatOk b then none else some (3, .int b)
  | none => none
def askW (zs : List Str) (l : List Str) (o : Option Int) : Option (Nat × V) := match strW zs l with
  | some x => some x
  | none => begW o
theorem strW_none {zs : List Str} : ∀ {l : List Str}, strW zs l = none ↔ ∀ z ∈ l, z ∈ zs
  | [] => ⟨fun _ z hz => (by cases hz), fun _ => rfl⟩
  | z :: r => by
    unfold strW
    by_cases h : z ∈ zs
    · rw [if_neg (fun n => n h), strW_none]
      exact ⟨fun k y hy => (List.mem_cons.mp hy).elim (fun e => e ▸ h) (k y), fun k y hy => k y (List.mem_cons_of_mem _ hy)⟩
    · rw [if_pos h]
      exact ⟨fun k => (by cases k), fun k => absurd (k z (List.mem_cons_self ..)) h⟩
def okb (o : Option Int) : Prop := ∀ b, o = some b → b.natAbs < 10 ^ 30
def spNeedAskedX (K : PySem.W.Frag) (C CS : Addr) (cs : Nat → Addr) : Sp := fun vs H Q E => ∃ (s a g : Addr) (zs : List Str) (ds ss : List SS) (ps : List Pst) (ws : List Wtc) (mt : Bool) (rl W : Nat) (st gl : List Str) (o : Option Int), vs = [.ref s, .ref a, .ref g, optI o] ∧ SceneAt C CS H s zs ds ss ps ws mt rl W ∧ Sq K H a (st.map V.str) ∧ Sq K H g (gl.map V.str) ∧ (∀ z ∈ st, okR z) ∧ (∀ z ∈ gl, okR z) ∧ st.length ≤ 100 ∧ gl.length ≤ 100 ∧ okb o ∧
  (askW zs (st ++ gl) o = none → ∀ H', Same H H' → Q .non H') ∧ ∀ j v, askW zs (st ++ gl) o = some (j, v) → Rsd cs j v H E
/-! ### the law's own -/
def GlA (H : Hp) (g : Addr) (us : List V) (zs : List Str) (ss : List SS) (ps : List Pst) (ws : List Wtc) (mt : Bool) (rl W : Nat) : Prop := H g = some (.lst us) ∧ SsL H us ((List.range W).map (litAt zs (lnk zs ss) (ps.map (·.2)) ws mt rl))
theorem GlA.same {H H' : Hp} {g : Addr} {us : List V} {zs : List Str} {ss : List SS} {ps : List Pst} {ws : List Wtc} {mt : Bool} {rl W : Nat} (h : GlA H g us zs ss ps ws mt rl W) (s : Same H H') : GlA H' g us zs ss ps ws mt rl W := ⟨s _ _ h.1, SsL.same h.2 s⟩
theorem GlA.len {H : Hp} {g : Addr} {us : List V} {zs : List Str} {ss : List SS} {ps : List Pst} {ws : List Wtc} {mt : Bool} {rl W : Nat} (h : GlA H g us zs ss ps ws mt rl W) : us.length = W := by
  have := h.2.1
  rw [List.length_map, List.length_range] at this
  exact this
theorem GlA.at {H : Hp} {g : Addr} {us : List V} {zs : List Str} {ss : List SS} {ps : List Pst} {ws : List Wtc} {mt : Bool} {rl W : Nat} (h : GlA H g us zs ss ps ws mt rl W) (W0 : 0 < W) (c : Int) : ∃ lq : Addr, atI us (c % (us.length : Int)) = some (V.ref lq) ∧ H lq = some (.lst ((litAt zs (lnk zs ss) (ps.map (·.2)) ws mt rl (rest c W)).map V.str)) := by
  obtain ⟨h1, h2⟩ := rest_lt W0 c
  have eg : ((List.range W).map (litAt zs (lnk zs ss) (ps.map (·.2)) ws mt rl))[rest c W]? = some (litAt zs (lnk zs ss) (ps.map (·.2)) ws mt rl (rest c W)) := by
    rw [List.getElem?_map, List.getElem?_range h1]
    rfl
  obtain ⟨x0, ex, lq, rfl, hlq⟩ := h.2.of eg
  exact ⟨lq, by rw [h.len, ← h2]; exact atI_nat ex, hlq⟩
end Dk
namespace Dk
open PySem PySem.Spec PyProof.Rows L2
/-- what refuses nothing when nothing is wished of a refusal -/
def spCalm (sp : Sp) : Sp := fun vs H Q _ => sp vs H Q fun _ _ _ => False
theorem fn_calm {P : Program} {w : World} {K : PySem.W.Frag} {mg : PySem.Str → Option Value} {base : Heap} {k : Nat} {f : Addr} {fd : FuncData} {ps : List PySem.Str} {sp : Sp} (L : FnOk P w K mg base (L2N.CX P w) k f fd ps sp) : FnOk P w K mg base CX0 k f fd ps (spCalm sp) := by
  refine ⟨fun vs H Q E h => L.len vs H Q _ h, fun A out s H args us vs Q E hr e0 hb r h => codeAny_mono (L.run A out s H args us vs Q (fun _ _ _ => False) hr e0 hb r h) fun o s' z => ?_⟩
  match o, z with
  | .ok (.ret u), z => exact z
  | .error e, z =>
    have z : L2N.CX P w out H s (fun _ _ _ => False) e s' := z
    unfold L2N.CX at z
    obtain ⟨_, _, _, _, _, _, _, _, _, _, _, _, z⟩ := z
    exact z.elim
theorem beat_small {b : Int} (h : beatOk b) : b.natAbs < 10 ^ 30 := by
  have h1 := h.1
  have h2 := h.2
  have e : (10 : Nat) ^ 30 = 1000000000000000000000000000000 := by decide
  omega
end Dk
namespace Dk
open PySem PySem.Spec PyProof.Rows L2
/-! ### dict(xs) of pairs whose keys are tuples -/
/-- a pair of a tuple and a value -/
def TPr (H : Hp) (p : Addr) (kv : List Key × V) : Prop := ∃ t : Addr, H p = some (.tup [.ref t, kv.2]) ∧ H t = some (.tup (kv.1.map kV))
end Dk
namespace Dk
open PySem PySem.Spec PyProof.Rows L2
/-! ### lots judged -/
abbrev GCell := Str × Int
def gkey (g : GCell) : List Key := [.inr g.1, .inl g.2]
def toG (c : Cell) : GCell := (c.1, ((c.2 : Nat) : Int))
def GcA (H : Hp) (v : V) (g : GCell) : Prop := ∃ q, v = V.ref q ∧ H q = some (.tup [.str g.1, .int g.2])
abbrev GcL := AL GcA
theorem GcL.keep {H H' : Hp} {xs : List V} {gs : List GCell} (h : GcL H xs gs) (k : KeepT H H') : GcL H' xs gs := AL.mono h fun _ _ ⟨q, e, z⟩ => ⟨q, e, k _ _ z⟩
theorem GcL.same {H H' : Hp} {xs : List V} {gs : List GCell} (h : GcL H xs gs) (k : Same H H') : GcL H' xs gs := h.keep (KeepT.of k)
theorem CeL.g {H : Hp} {xs : List V} {cs : List Cell} (h : CeL H xs cs) : GcL H xs (cs.map toG) := ⟨by rw [List.length_map]; exact h.1, fun i x g a b => by
  rw [List.getElem?_map] at b
  cases e : cs[i]? with
  | none => rw [e] at b; cases b
  | some c =>
    rw [e] at b
    cases b
    obtain ⟨q, e1, e2⟩ := h.2 i x c a e
    exact ⟨q, e1, e2⟩⟩
theorem iteTX {c : Bool} {p q : Prop} (h : c = true) (x : p) : if c = true then p else q := by rw [if_pos h]; exact x
theorem iteFX {c : Bool} {p q : Prop} (h : c = false) (x : q) : if c = true then p else q := by rw [if_neg (by rw [h]; exact Bool.false_ne_true)]; exact x
def spBeginQ (K : PySem.W.Frag) (C CS : Addr) : Sp := fun vs H Q _ => ∃ (s a : Addr) (zs : List Str) (ds ss : List SS) (ps : List Pst) (ws : List Wtc) (mt : Bool) (rl W : Nat) (st : List Str) (o : Option Int), vs = [.ref s, .ref a, optI o] ∧ SceneAt C CS H s zs ds ss ps ws mt rl W ∧ W ≤ 1440 ∧ Sq K H a (st.map V.str) ∧
  ∀ (H' : Hp) (p : Addr) (xs : List V), Same H H' → H p = none → H' p = some (.lst xs) → CeL H' xs (begAll zs ss ps ws mt rl W st o) → Q (.ref p) H'
/-! ### the closed lot that a search tells -/
structure Lot (nx : Cell → List Cell) (B : List Cell) (en : Cell → Bool) (cs : List Cell) : Prop where
  nd : cs.Nodup
  beg : ∀ b ∈ B, b ∈ cs
  cl : ∀ c ∈ cs, ∀ o ∈ nx c, o ∈ cs
  noe : ∀ c ∈ cs, en c = false
theorem Bfs.lot {nx : Cell → List Cell} {B : List Cell} {en : Cell → Bool} {ps : List (Cell × List Cell)} {n : Nat} (h : Bfs nx B en ps n) (hn : ps.length ≤ n) : Lot nx B en (ps.map (·.1)) := by
  have at_ : ∀ c ∈ ps.map (·.1), ∃ (i : Nat) (e : Cell × List Cell), i < n ∧ ps[i]? = some e ∧ e.1 = c := fun c hc => by
    obtain ⟨e, he, rfl⟩ := List.mem_map.mp hc
    obtain ⟨i, hi, ei⟩ := List.getElem_of_mem he
    exact ⟨i, e, by omega, by rw [List.getElem?_eq_getElem hi, ei], rfl⟩
  refine ⟨h.nd, fun b hb => List.mem_map.mpr ⟨_, h.beg b hb, rfl⟩, fun c hc o ho => ?_, fun c hc => ?_⟩
  · obtain ⟨i, e, hi, ee, rfl⟩ := at_ c hc
    obtain ⟨x, hx, ex, _⟩ := h.cld i e hi ee o ho
    exact List.mem_map.mpr ⟨x, hx, ex⟩
  · obtain ⟨i, e, hi, ee, rfl⟩ := at_ c hc
    exact h.noe i e hi ee
/-! ### a lot bent -/
theorem GcL.sav {b l : Addr} {H H' : Hp} {xs : List V} {gs : List GCell} (h : GcL H xs gs) (v : Sav b H H') (hB : Box H b l) : GcL H' xs gs := h.keep (v.keepT hB)
/-! ### the law's own judging of a lot -/
def PtA (H : Hp) (v : V) (g : GCell) : Prop := ∃ p, v = V.ref p ∧ TPr H p (gkey g, .bl true)
theorem PtA.keep {H H' : Hp} {v : V} {g : GCell} (h : PtA H v g) (k : KeepT H H') : PtA H' v g := by
  obtain ⟨p, e, t, h1, h2⟩ := h
  exact ⟨p, e, t, k _ _ h1, k _ _ h2⟩
end Dk
namespace Dk
open PySem PySem.Spec PyProof.Rows L2
/-! ### staying unseen, told in full -/
/-- a room, a rest, a rank -/
abbrev Tri := Str × Int × Int
def TriA (H : Hp) (v : V) (t : Tri) : Prop := ∃ q, v = V.ref q ∧ H q = some (.tup [.str t.1, .int t.2.1, .int t.2.2])
abbrev TriL := AL TriA
theorem TriL.keep {H H' : Hp} {xs : List V} {ts : List Tri} (h : TriL H xs ts) (k : KeepT H H') : TriL H' xs ts := AL.mono h fun _ _ ⟨q, e, z⟩ => ⟨q, e, k _ _ z⟩
theorem TriL.same {H H' : Hp} {xs : List V} {ts : List Tri} (h : TriL H xs ts) (k : Same H H') : TriL H' xs ts := h.keep (KeepT.of k)
theorem TriL.sav {b l : Addr} {H H' : Hp} {xs : List V} {ts : List Tri} (h : TriL H xs ts) (v : Sav b H H') (hB : Box H b l) : TriL H' xs ts := h.keep (v.keepT hB)
end Dk
set_option maxHeartbeats 2000000
namespace Dk
open PySem PySem.Spec PyProof.Rows L2
/-! ### dict() of ranks -/
def PtG (H : Hp) (v : V) (kv : List Key × V) : Prop := ∃ p, v = V.ref p ∧ TPr H p kv
theorem PtG.keep {H H' : Hp} {v : V} {kv : List Key × V} (h : PtG H v kv) (k : KeepT H H') : PtG H' v kv := by
  obtain ⟨p, e, t, h1, h2⟩ := h
  exact ⟨p, e, t, k _ _ h1, k _ _ h2⟩
end Dk
namespace Dk
open PySem PySem.Spec PyProof.Rows L2
/-! ### the search goes alike each time -/
section
variable {nx : Cell → List Cell} {B : List Cell} {en : Cell → Bool}
def stpB (e : Cell × List Cell) (ps : List (Cell × List Cell)) (os : List Cell) : List (Cell × List Cell) := os.foldl (fun ps o => if o ∈ ps.map (·.1) then ps else ps ++ [(o, e.1 :: e.2)]) ps
theorem stpB_snoc (e : Cell × List Cell) (ps : List (Cell × List Cell)) (os : List Cell) (o : Cell) : stpB e ps (os ++ [o]) = if o ∈ (stpB e ps os).map (·.1) then stpB e ps os else stpB e ps os ++ [(o, e.1 :: e.2)] := by
  unfold stpB
  rw [List.foldl_append]
  rfl
def bst (nx : Cell → List Cell) (B : List Cell) : Nat → List (Cell × List Cell)
  | 0 => B.map fun b => (b, [])
  | n + 1 => match (bst nx B n)[n]? with
    | some e => stpB e (bst nx B n) (nx e.1)
    | none => bst nx B n
theorem bst_step {n : Nat} {e : Cell × List Cell} (h : (bst nx B n)[n]? = some e) : bst nx B (n + 1) = stpB e (bst nx B n) (nx e.1) := by
  show (match (bst nx B n)[n]? with | some e => stpB e (bst nx B n) (nx e.1) | none => bst nx B n) = _
  rw [h]
structure BfsD (nx : Cell → List Cell) (B : List Cell) (en : Cell → Bool) (ps : List (Cell × List Cell)) (n : Nat) : Prop extends Bfs nx B en ps n where
  eq : ps = bst nx B n
structure BfsInD (nx : Cell → List Cell) (B : List Cell) (en : Cell → Bool) (ps : List (Cell × List Cell)) (n : Nat) (e : Cell × List Cell) (j : Nat) : Prop extends BfsIn nx B en ps n e j where
  pre : (bst nx B n)[n]? = some e
  eq : ps = stpB e (bst nx B n) ((nx e.1).take j)
theorem BfsD.start (hB : B.Nodup) : BfsD nx B en (B.map fun b => (b, [])) 0 := ⟨Bfs.start hB, rfl⟩
theorem BfsD.into {ps : List (Cell × List Cell)} {n : Nat} {e : Cell × List Cell} (h : BfsD nx B en ps n) (he : ps[n]? = some e) (hn : en e.1 = false) : BfsInD nx B en ps n e 0 := ⟨h.toBfs.into he hn, by rw [← h.eq]; exact he, h.eq⟩
theorem BfsInD.there {ps : List (Cell × List Cell)} {n j : Nat} {e : Cell × List Cell} {o : Cell} (h : BfsInD nx B en ps n e j) (ho : (nx e.1)[j]? = some o) (hm : o ∈ ps.map (·.1)) : BfsInD nx B en ps n e (j + 1) :=
  ⟨h.toBfsIn.there ho hm, h.pre, by rw [take_snoc' ho, stpB_snoc, ← h.eq, if_pos hm]⟩
theorem BfsInD.more {ps : List (Cell × List Cell)} {n j : Nat} {e : Cell × List Cell} {o : Cell} (h : BfsInD nx B en ps n e j) (ho : (nx e.1)[j]? = some o) (hm : o ∉ ps.map (·.1)) : BfsInD nx B en (ps ++ [(o, e.1 :: e.2)]) n e (j + 1) :=
  ⟨h.toBfsIn.more ho hm, h.pre, by rw [take_snoc' ho, stpB_snoc, ← h.eq, if_neg hm]⟩
theorem BfsInD.done {ps : List (Cell × List Cell)} {n : Nat} {e : Cell × List Cell} (h : BfsInD nx B en ps n e (nx e.1).length) : BfsD nx B en ps (n + 1) :=
  ⟨h.toBfsIn.done, by rw [bst_step h.pre, h.eq, List.take_length]⟩
/-- the way that is found: the walk back from its end -/
def WayD (nx : Cell → List Cell) (B : List Cell) (en : Cell → Bool) (c : Cell) (t : List Cell) : Prop := ∃ ps n, BfsD nx B en ps n ∧ ps[n]? = some (c, t) ∧ en c = true
/-- the lot that is closed -/
def LotD (nx : Cell → List Cell) (B : List Cell) (en : Cell → Bool) (cs : List Cell) : Prop := ∃ ps n, BfsD nx B en ps n ∧ ps.length ≤ n ∧ cs = ps.map (·.1)
end
section
open LamX NdefX
def spSearchedU (P : Program) (w : World) (K : PySem.W.Frag) (mg : Str → Option Value) (base : Heap) : Shared → Sp := fun s vs H Q _ => ∃ (bg f1 f2 : Addr) (xs : List V) (B U : List Cell) (nx : Cell → List Cell) (en : Cell → Bool) (ok : Cell → Prop), vs = [.ref bg, .ref f1, .ref f2] ∧
  HF P w K mg base 5 ["cell"] s H f1 (spBh H nx ok) ∧ HF P w K mg base 5 ["cell"] s H f2 (spEn H en ok) ∧ H bg = some (.lst xs) ∧ CeL H xs B ∧ B.Nodup ∧ (∀ b ∈ B, ok b) ∧ (∀ c, ok c → ∀ o ∈ nx c, ok o) ∧ (∀ c, ok c → c ∈ U) ∧ U.length ≤ 100000 ∧
  (∀ (H' : Hp) (tp rp cp : Addr) (ys : List V) (c : Cell) (t : List Cell), Same H H' → H tp = none → H' tp = some (.tup [.ref rp, .ref cp]) → H' rp = some (.lst ys) → CeL H' ys (c :: t).reverse → Rp nx B (c :: t) → en c = true → IsL nx B en (some t.length) → t.length < 100000 → WayD nx B en c t → Q (.ref tp) H') ∧
  (∀ (H' : Hp) (tp cp : Addr) (ys : List V) (cs : List Cell), Same H H' → H tp = none → H' tp = some (.tup [.non, .ref cp]) → H cp = none → H' cp = some (.lst ys) → CeL H' ys cs → Lot nx B en cs → (∀ c ∈ cs, ok c) → IsL nx B en none → LotD nx B en cs → Q (.ref tp) H')
end
end Dk
namespace Dk
open PySem PySem.Spec PyProof.Rows L2
/-! ### a way and a lot are as the law asks -/
section
variable {zs : List Str} {ds ss : List SS} {ps : List Pst} {ws : List Wtc} {mt : Bool} {rl W : Nat}
theorem bfs_small {B : List Cell} {en : Cell → Bool} {st : List Str} {o : Option Int} {qs : List (Cell × List Cell)} {n : Nat} (W0 : 0 < W) (W4 : W ≤ 1440) (z8 : zs.length ≤ 8) (h : Bfs (nxS zs ds ss ps ws mt rl W) (begAll zs ss ps ws mt rl W st o) en qs n) : qs.length ≤ 11520 := by
  have a := nodup_le h.nd (U := cellU zs W) fun c hc => by
    obtain ⟨e, he, rfl⟩ := List.mem_map.mp hc
    exact rp_cells W0 _ (h.rp _ e rfl he) _ List.mem_cons_self
  rw [List.length_map, cellU_len] at a
  calc qs.length ≤ zs.length * W := a
    _ ≤ 8 * 1440 := Nat.mul_le_mul z8 W4
    _ = 11520 := rfl
theorem way_small {en : Cell → Bool} {st : List Str} {o : Option Int} {c : Cell} {t : List Cell} (W0 : 0 < W) (W4 : W ≤ 1440) (z8 : zs.length ≤ 8) (h : WayD (nxS zs ds ss ps ws mt rl W) (begAll zs ss ps ws mt rl W st o) en c t) : (c :: t).length ≤ 12000 := by
  obtain ⟨qs, n, h1, h2, _⟩ := h
  have a := bfs_small (B := []) W0 W4 z8 h1.toBfs
  have b := h1.toBfs.lt n _ h2
  have l := (List.getElem?_eq_some_iff.mp h2).1
  show t.length + 1 ≤ 12000
  have b' : t.length ≤ n := b
  omega
end
/-- what way tells -/
def ToldWy (zs : List Str) (W : Nat) (nx : Cell → List Cell) (B : List Cell) (gl : List Str) (o : Option Int) (H0 H : Hp) (tp : Addr) : Prop :=
  (∃ (rp : Addr) (c b : Cell) (t : List Cell), H tp = some (.tup [.str "way", .int (o.getD ((b.2 : Nat) : Int)), .ref rp]) ∧ H rp = some (.tup (((c :: t).reverse.map (·.1)).map V.str)) ∧ (c :: t).reverse.head? = some b ∧ Rp nx B (c :: t) ∧ c.1 ∈ gl ∧ WayD nx B (fun c => decide (c.1 ∈ gl)) c t) ∨
  (∃ (cp : Addr) (ys : List V) (cs : List Cell), H tp = some (.tup [.str "closed", .ref cp]) ∧ H0 cp = none ∧ H cp = some (.lst ys) ∧ CeL H ys cs ∧ Lot nx B (fun c => decide (c.1 ∈ gl)) cs ∧ (∀ c ∈ cs, c.1 ∈ zs ∧ c.2 < W) ∧ LotD nx B (fun c => decide (c.1 ∈ gl)) cs)
theorem Sq.exN {K : PySem.W.Frag} {H H' : Hp} {a : Addr} {xs : List V} (h : Sq K H a xs) (e : Ex H H') : Sq K H' a xs := by
  rcases h with ((h | ⟨o, h⟩) | h) | ((h | ⟨o, h⟩) | h)
  · exact .inl (.inl (.inl (e.lst h)))
  · exact .inl (.inl (.inr ⟨o, e.ex _ _ h (fun _ z => by cases z)⟩))
  · exact .inl (.inr h)
  · exact .inr (.inl (.inl (e.tup h)))
  · exact .inr (.inl (.inr ⟨o, e.ex _ _ h (fun _ z => by cases z)⟩))
  · exact .inr (.inr h)
/-- way, of lists or tuples of rooms -/
def spWayQ (K : PySem.W.Frag) (C CS : Addr) (T : List (Addr × Str)) : Sp := fun vs H Q _ => ∃ (s a g : Addr) (zs : List Str) (ds ss : List SS) (ps : List Pst) (ws : List Wtc) (mt : Bool) (rl W : Nat) (st gl : List Str) (o : Option Int), vs = [.ref s, .ref a, .ref g, optI o] ∧ LamX.Tabs T H ∧ SceneAt C CS H s zs ds ss ps ws mt rl W ∧ Sq K H a (st.map V.str) ∧ Sq K H g (gl.map V.str) ∧ (∀ z ∈ st, z ∈ zs) ∧ (∀ z ∈ gl, z ∈ zs) ∧ (∀ z ∈ zs, okR z) ∧ st.length ≤ 100 ∧ gl.length ≤ 100 ∧ begOk o ∧
  ∀ (H' : Hp) (tp : Addr), Ex H H' → LamX.Tabs T H' → ToldWy zs W (nxS zs ds ss ps ws mt rl W) (begAll zs ss ps ws mt rl W st o) gl o H H' tp → Q (.ref tp) H'
end Dk
namespace Dk
open PySem PySem.Spec PyProof.Rows L2
theorem askW_calm {zs l : List Str} {o : Option Int} (h : ∀ z ∈ l, z ∈ zs) (hb : begOk o) : askW zs l o = none := by
  unfold askW
  rw [strW_none.mpr h]
  cases o with
  | none => rfl
  | some b =>
    show begW (some b) = none
    unfold begW
    exact if_pos (hb b rfl)
end Dk
namespace Dk
open PySem PySem.Spec PyProof.Rows L2
theorem ToldWy.same {zs : List Str} {W : Nat} {nx : Cell → List Cell} {B : List Cell} {gl : List Str} {o : Option Int} {H0 H H' : Hp} {tp : Addr} (h : ToldWy zs W nx B gl o H0 H tp) (s : Same H H') : ToldWy zs W nx B gl o H0 H' tp := by
  rcases h with ⟨rp, c, b, t, ht, hr, hb', hR, hg, wd⟩ | ⟨cp, ys, cs, ht, n, hc, hX, lot, ok, ld⟩
  · exact .inl ⟨rp, c, b, t, s _ _ ht, s _ _ hr, hb', hR, hg, wd⟩
  · exact .inr ⟨cp, ys, cs, s _ _ ht, n, s _ _ hc, CeL.same hX s, lot, ok, ld⟩
end Dk
namespace Dk
open PySem PySem.Spec PyProof.Rows L2
/-! ### guards: a post and its watcher's reach -/
abbrev Gd := Pst × Nat
def gps (gs : List Gd) : List Pst := gs.map (·.1)
def gws (gs : List Gd) : List Wtc := gs.map fun g => (g.1.1, g.2)
def gpl (g : Gd) (b : Int) : Str := plcS g.1.2.1 (b - ((g.1.2.2 : Nat) : Int))
theorem g_stnd (gs : List Gd) (b : Int) : stnd ((gps gs).map (·.2)) b = gs.map fun g => gpl g b := by
  unfold stnd gps gpl
  rw [List.map_map, List.map_map]
  rfl
theorem g_reach (gs : List Gd) : reachN (gws gs) ((List.range (gws gs).length).take ((gps gs).map (·.2)).length) = gs.map (·.2) := by
  have e1 : (gws gs).length = gs.length := List.length_map ..
  have e2 : ((gps gs).map (·.2)).length = gs.length := by unfold gps; rw [List.length_map, List.length_map]
  rw [e1, e2, List.take_of_length_le (by rw [List.length_range]; exact Nat.le_refl _)]
  unfold reachN gws
  refine List.ext_getElem? fun i => ?_
  rw [List.getElem?_map, List.getElem?_map]
  by_cases h : i < gs.length
  · rw [List.getElem?_range h, List.getElem?_eq_getElem h]
    show some _ = some _
    congr 1
    show (((gs.map fun g => (g.1.1, g.2)).getD i (Str.empty, 0))).2 = _
    rw [List.getD_eq_getElem?_getD, List.getElem?_map, List.getElem?_eq_getElem h]
    rfl
  · rw [List.getElem?_eq_none (by rw [List.length_range]; omega), List.getElem?_eq_none (by omega)]
    rfl
section
variable {zs : List Str} {ds ss : List SS}
theorem g_dk {gs : List Gd} {b : Int} {z : Str} : dkS zs ss (gps gs) (gws gs) b z ↔ z ∈ zs ∧ ∀ g ∈ gs, z ≠ gpl g b ∧ (g.2 = 1 → z ∉ lnk zs ss (gpl g b)) := by
  unfold dkS litN
  rw [g_stnd, g_reach]
  have e : (gs.map fun g => gpl g b).zip (gs.map (·.2)) = gs.map fun g => (gpl g b, g.2) := by
    rw [List.zip_map_left, List.zip_map_right, List.map_map, List.zip_eq_zipWith, List.zipWith_self, List.map_map]
    rfl
  rw [e, List.mem_filter, decide_eq_true_eq, List.mem_append, mem_ligs]
  constructor
  · rintro ⟨h1, h2⟩
    refine ⟨h1, fun g hg => ⟨fun e => h2 ⟨h1, .inl (List.mem_map.mpr ⟨g, hg, e.symm⟩)⟩, fun e m => h2 ⟨h1, .inr ⟨_, List.mem_map.mpr ⟨g, hg, rfl⟩, e, m⟩⟩⟩⟩
  · rintro ⟨h1, h2⟩
    refine ⟨h1, ?_⟩
    rintro ⟨_, h | ⟨p, hp, e1, e2⟩⟩
    · obtain ⟨g, hg, e⟩ := List.mem_map.mp h
      exact (h2 g hg).1 e.symm
    · obtain ⟨g, hg, rfl⟩ := List.mem_map.mp hp
      exact (h2 g hg).2 e1 e2
theorem g_hd {gs : List Gd} {b : Int} {z o : Str} : hdS zs ds (gps gs) b z o ↔ z ∈ zs ∧ o ∈ handN zs (lnk zs (both ds)) z ∧ ∀ g ∈ gs, ¬ (o ≠ z ∧ gpl g b = o ∧ gpl g (b + 1) = z) := by
  unfold hdS
  have key : mvB ((gps gs).map (·.2)) (b + 1) o z = false ↔ ∀ g ∈ gs, ¬ (o ≠ z ∧ gpl g b = o ∧ gpl g (b + 1) = z) := by
    rw [← Bool.not_eq_true, mvB_iff]
    unfold mvd
    rw [g_stnd, g_stnd, show b + 1 - 1 = b by omega]
    constructor
    · rintro h g hg ⟨h1, h2, h3⟩
      obtain ⟨i, hi, e⟩ := List.mem_iff_getElem.mp hg
      have e2 := List.getElem?_eq_getElem hi
      rw [e] at e2
      exact h ⟨h1, i, by rw [List.getElem?_map, e2]; exact congrArg some h2, by rw [List.getElem?_map, e2]; exact congrArg some h3⟩
    · rintro h ⟨h1, i, h2, h3⟩
      rw [List.getElem?_map] at h2 h3
      obtain ⟨g, hg, e2⟩ := Option.map_eq_some_iff.mp h2
      rw [hg] at h3
      exact h g (List.mem_of_getElem? hg) ⟨h1, e2, Option.some.inj h3⟩
  rw [key]
/-- each of the first also stands in the second, with no shorter a lamp -/
def Dim (gs gs' : List Gd) : Prop := ∀ g ∈ gs, ∃ g' ∈ gs', g'.1.2 = g.1.2 ∧ (g.2 = 1 → g'.2 = 1)
theorem Dim.pl {g g' : Gd} (h : g'.1.2 = g.1.2) (b : Int) : gpl g' b = gpl g b := by unfold gpl; rw [h]
theorem Dim.dk {gs gs' : List Gd} (h : Dim gs gs') (b : Int) (z : Str) (d : dkS zs ss (gps gs') (gws gs') b z) : dkS zs ss (gps gs) (gws gs) b z := by
  rw [g_dk] at d ⊢
  refine ⟨d.1, fun g hg => ?_⟩
  obtain ⟨g', hg', e, l⟩ := h g hg
  have := d.2 g' hg'
  rw [Dim.pl e] at this
  exact ⟨this.1, fun x => this.2 (l x)⟩
theorem Dim.hd {gs gs' : List Gd} (h : Dim gs gs') (b : Int) (z o : Str) (d : hdS zs ds (gps gs') b z o) : hdS zs ds (gps gs) b z o := by
  rw [g_hd] at d ⊢
  refine ⟨d.1, d.2.1, fun g hg => ?_⟩
  obtain ⟨g', hg', e, _⟩ := h g hg
  have := d.2.2 g' hg'
  rw [Dim.pl e, Dim.pl e] at this
  exact this
/-- there is a way -/
def Opn (zs : List Str) (ds ss : List SS) (gs : List Gd) (st gl : List Str) : Prop := ∃ (b : Int) (l : List Str) (c f : Str), (l ++ [c]).head? = some f ∧ f ∈ st ∧ c ∈ gl ∧ Wk (dkS zs ss (gps gs) (gws gs)) (hdS zs ds (gps gs)) (l ++ [c]) b
theorem Dim.opn {gs gs' : List Gd} {st gl : List Str} (h : Dim gs gs') (o : Opn zs ds ss gs' st gl) : Opn zs ds ss gs st gl := by
  obtain ⟨b, l, c, f, h1, h2, h3, h4⟩ := o
  exact ⟨b, l, c, f, h1, h2, h3, wk_mono (h.dk) (h.hd) _ _ h4⟩
theorem rp_opn {gs : List Gd} {W : Nat} {st gl : List Str} {c : Cell} {t : List Cell} (h : IsWh ((gps gs).map (·.2)) (gws gs).length false 0 W) (r : Rp (nxS zs ds ss (gps gs) (gws gs) false 0 W) (begAll zs ss (gps gs) (gws gs) false 0 W st none) (c :: t)) (hc : c.1 ∈ gl) : Opn zs ds ss gs st gl := by
  obtain ⟨b, l, f, _, _, hf, hs, hw, _⟩ := (at_wk h).mp ⟨t, rfl, r⟩
  exact ⟨b, l, c.1, f, hf, hs, hc, hw⟩
theorem opn_rp {gs : List Gd} {W : Nat} {st gl : List Str} (h : IsWh ((gps gs).map (·.2)) (gws gs).length false 0 W) (o : Opn zs ds ss gs st gl) : ∃ (c : Cell) (t : List Cell), Rp (nxS zs ds ss (gps gs) (gws gs) false 0 W) (begAll zs ss (gps gs) (gws gs) false 0 W st none) (c :: t) ∧ c.1 ∈ gl := by
  obtain ⟨b, l, c, f, h1, h2, h3, h4⟩ := o
  obtain ⟨t, _, r⟩ := (at_wk h (st := st) (o := none) (n := l.length) (c := (c, rest (b + ((l.length : Nat) : Int)) W))).mpr ⟨b, l, f, rfl, fun _ e => (by cases e), h1, h2, h4, rfl⟩
  exact ⟨_, t, r, h3⟩
theorem lot_no {nx : Cell → List Cell} {B cs : List Cell} {en : Cell → Bool} (L : Lot nx B en cs) : ∀ {c : Cell} {t : List Cell}, Rp nx B (c :: t) → c ∈ cs
  | c, [], r => L.beg c r
  | c, p :: t, r => L.cl p (lot_no L (t := t) r.2) c r.1
end
end Dk
namespace Dk
open PySem PySem.Spec PyProof.Rows L2
/-! ### choices -/
section
variable {α : Type}
def chN : List α → Nat → List (List α)
  | _, 0 => [[]]
  | [], _ + 1 => []
  | x :: r, m + 1 => (chN r m).map (x :: ·) ++ chN r (m + 1)
theorem ch_zero (xs : List α) : chN xs 0 = [[]] := by cases xs <;> rfl
theorem mem_ch : ∀ {xs : List α} {m : Nat} {l : List α}, l ∈ chN xs m ↔ l.Sublist xs ∧ l.length = m
  | xs, 0, l => by
    rw [ch_zero, List.mem_singleton]
    constructor
    · rintro rfl
      exact ⟨List.nil_sublist _, rfl⟩
    · rintro ⟨_, h⟩
      exact List.length_eq_zero_iff.mp h
  | [], m + 1, l => by
    constructor
    · intro h
      cases h
    · rintro ⟨h1, h2⟩
      rw [List.sublist_nil.mp h1] at h2
      cases h2
  | x :: r, m + 1, l => by
    show l ∈ (chN r m).map (x :: ·) ++ chN r (m + 1) ↔ _
    rw [List.mem_append, List.mem_map, mem_ch (xs := r) (m := m + 1)]
    constructor
    · rintro (⟨q, hq, rfl⟩ | ⟨h1, h2⟩)
      · obtain ⟨a1, a2⟩ := mem_ch.mp hq
        exact ⟨a1.cons_cons x, by rw [List.length_cons, a2]⟩
      · exact ⟨h1.cons x, h2⟩
    · rintro ⟨h1, h2⟩
      cases h1 with
      | cons _ h => exact .inr ⟨h, h2⟩
      | cons_cons _ h =>
        rename_i l1
        exact .inl ⟨l1, mem_ch.mpr ⟨h, by rw [List.length_cons] at h2; omega⟩, rfl⟩
/-- by the places of the first -/
theorem ch_at : ∀ (xs : List α) (m : Nat), chN xs (m + 1) = (List.range xs.length).flatMap fun i => match xs[i]? with
    | some x => (chN (xs.drop (i + 1)) m).map (x :: ·)
    | none => []
  | [], m => rfl
  | x :: r, m => by
    show (chN r m).map (x :: ·) ++ chN r (m + 1) = _
    rw [ch_at r m, List.length_cons, List.range_succ_eq_map, List.flatMap_cons, List.flatMap_map]
    rfl
def lotsN (gs : List α) : List (List α) := (List.range (gs.length + 1)).flatMap (chN gs)
theorem mem_lots {gs l : List α} : l ∈ lotsN gs ↔ l.Sublist gs := by
  unfold lotsN
  rw [List.mem_flatMap]
  constructor
  · rintro ⟨m, _, h⟩
    exact (mem_ch.mp h).1
  · intro h
    exact ⟨l.length, List.mem_range.mpr (by have := h.length_le; omega), mem_ch.mpr ⟨h, rfl⟩⟩
theorem flat_sorted {f : Nat → List (List α)} (hf : ∀ m, ∀ l ∈ f m, l.length = m) : ∀ n, ((List.range n).flatMap f).Pairwise fun a b => a.length ≤ b.length := by
  intro n
  induction n with
  | zero => exact List.Pairwise.nil
  | succ n ih =>
    rw [List.range_succ, List.flatMap_append, List.pairwise_append]
    refine ⟨ih, ?_, ?_⟩
    · rw [List.flatMap_cons, List.flatMap_nil, List.append_nil]
      refine List.pairwise_of_forall_mem_list fun a ha b hb => ?_
      rw [hf n a ha, hf n b hb]
      exact Nat.le_refl _
    · intro a ha b hb
      obtain ⟨m, hm, ha⟩ := List.mem_flatMap.mp ha
      obtain ⟨k, hk, hb⟩ := List.mem_flatMap.mp hb
      rw [hf m a ha, hf k b hb]
      have := List.mem_range.mp hm
      have := List.mem_singleton.mp hk
      omega
theorem lots_sorted (gs : List α) : (lotsN gs).Pairwise fun a b => a.length ≤ b.length := flat_sorted (fun m l h => (mem_ch.mp h).2) _
theorem lots_at_le {gs : List α} {i j : Nat} {a b : List α} (h : i ≤ j) (ha : (lotsN gs)[i]? = some a) (hb : (lotsN gs)[j]? = some b) : a.length ≤ b.length := by
  rcases Nat.lt_or_ge i j with q | q
  · obtain ⟨hi, e1⟩ := List.getElem?_eq_some_iff.mp ha
    obtain ⟨hj, e2⟩ := List.getElem?_eq_some_iff.mp hb
    have := List.pairwise_iff_getElem.mp (lots_sorted gs) i j hi hj q
    rw [e1, e2] at this
    exact this
  · have : i = j := by omega
    subst this
    rw [ha] at hb
    cases hb
    exact Nat.le_refl _
theorem ch_len_le (xs : List α) (m : Nat) : (chN xs m).length ≤ 2 ^ xs.length := by
  induction xs generalizing m with
  | nil => cases m <;> simp [chN]
  | cons x r ih =>
    cases m with
    | zero =>
      rw [ch_zero]
      exact Nat.one_le_two_pow
    | succ m =>
      show ((chN r m).map (x :: ·) ++ chN r (m + 1)).length ≤ _
      rw [List.length_append, List.length_map, List.length_cons, Nat.pow_succ]
      have := ih m
      have := ih (m + 1)
      omega
theorem ch_top : ∀ (gs : List α), chN gs gs.length = [gs]
  | [] => rfl
  | x :: r => by
    show (chN r r.length).map (x :: ·) ++ chN r (r.length + 1) = _
    rw [ch_top r]
    have : chN r (r.length + 1) = [] := by
      cases h : chN r (r.length + 1) with
      | nil => rfl
      | cons l t =>
        have hl : l ∈ chN r (r.length + 1) := by rw [h]; exact List.mem_cons_self ..
        obtain ⟨a1, a2⟩ := mem_ch.mp hl
        have := a1.length_le
        omega
    rw [this]
    rfl
theorem lots_last (gs : List α) : lotsN gs = (List.range gs.length).flatMap (chN gs) ++ [gs] := by
  unfold lotsN
  rw [List.range_succ, List.flatMap_append, List.flatMap_cons, List.flatMap_nil, List.append_nil, ch_top]
end
/-! ### the fewest -/
section
variable {zs : List Str} {ds ss : List SS} {st gl : List Str}
/-- the first lot that leaves no way -/
def Few (zs : List Str) (ds ss : List SS) (gs : List Gd) (st gl : List Str) (i : Nat) (l : List Gd) : Prop := (lotsN gs)[i]? = some l ∧ ¬ Opn zs ds ss l st gl ∧ ∀ (j : Nat) (k : List Gd), j < i → (lotsN gs)[j]? = some k → Opn zs ds ss k st gl
/-- how many: none where all leave one -/
def FewM (zs : List Str) (ds ss : List SS) (gs : List Gd) (st gl : List Str) : Option Nat → Prop
  | none => ∀ l ∈ lotsN gs, Opn zs ds ss l st gl
  | some n => ∃ i l, Few zs ds ss gs st gl i l ∧ n = l.length
theorem Dim.of_sub {gs gs' : List Gd} (h : gs.Sublist gs') : Dim gs gs' := fun g hg => ⟨g, h.subset hg, rfl, id⟩
/-- more posts, longer lamps: never more -/
theorem few_less {gs gs' : List Gd} {u v : Option Nat} (h : ∀ l, l.Sublist gs → ∃ l', l'.Sublist gs' ∧ Dim l l' ∧ l'.length = l.length) (a : FewM zs ds ss gs st gl u) (b : FewM zs ds ss gs' st gl v) : u ≠ none → ∃ n m, u = some n ∧ v = some m ∧ m ≤ n := by
  intro hu
  cases u with
  | none => exact absurd rfl hu
  | some n =>
    obtain ⟨i, l, ⟨h1, h2, _⟩, rfl⟩ := a
    obtain ⟨l', q1, q2, q3⟩ := h l (mem_lots.mp (List.mem_of_getElem? h1))
    have no : ¬ Opn zs ds ss l' st gl := fun o => h2 (q2.opn o)
    have m1 : l' ∈ lotsN gs' := mem_lots.mpr q1
    cases v with
    | none => exact absurd (b l' m1) no
    | some m =>
      obtain ⟨j, k, ⟨g1, _, g3⟩, rfl⟩ := b
      obtain ⟨p, hp, e⟩ := List.mem_iff_getElem.mp m1
      have e2 := List.getElem?_eq_getElem hp
      rw [e] at e2
      refine ⟨_, _, rfl, rfl, ?_⟩
      rcases Nat.lt_or_ge p j with q | q
      · exact absurd (g3 p l' q e2) no
      · rw [← q3]
        exact lots_at_le q g1 e2
end
end Dk
namespace Dk
open PySem PySem.Spec PyProof.Rows L2
/-! ### zip of a list and a tuple -/
def ItzM (K : PySem.W.Frag) (a b : Addr) : It :=
  ⟨fun i H => ∃ (xs ys : List V) (x y : V), SqL K H a xs ∧ SqT K H b ys ∧ xs[i]? = some x ∧ ys[i]? = some y,
    fun i H v H' => ∃ q x y, v = .ref q ∧ H q = none ∧ H' = upd H q (.tup [x, y]) ∧ (∀ xs, SqL K H a xs → xs[i]? = some x) ∧ ∀ ys, SqT K H b ys → ys[i]? = some y,
    fun i H => ∃ xs ys : List V, SqL K H a xs ∧ SqT K H b ys ∧ i ≤ xs.length ∧ i ≤ ys.length ∧ (xs.length = i ∨ ys.length = i)⟩
abbrev ZMt (a b n : Addr) (i : Nat) (h : Heap) : Prop := IsZip h (n + 4) (n + 2) (n + 3) .none ∧ IsPair h (n + 2) (.ref n) (.ref (n + 1)) ∧ (∃ x y, IsPair h (n + 3) x y) ∧ h.IsListIter n a i ∧ h.IsTupleIter (n + 1) b i
theorem zmt_obj {a b n i : Nat} {h : Heap} (st : ZMt a b n i h) : ∀ c ∈ ZFp n, ∃ o, h.get? c = some o ∧ ∀ v, o.data ≠ .cell v := fun c hc => by
  obtain ⟨h1, h2, ⟨x, y, h3⟩, ⟨o4, e4, _, d4⟩, ⟨o5, e5, _, d5⟩⟩ := st
  simp only [ZFp, List.mem_cons, List.mem_nil_iff, or_false] at hc
  rcases hc with q | q | q | q | q <;> subst q
  · exact ⟨_, h1, fun v q => nomatch q⟩
  · exact ⟨_, h2, fun v q => nomatch q⟩
  · exact ⟨_, h3, fun v q => nomatch q⟩
  · exact ⟨o4, e4, fun v q => by rw [d4] at q; cases q⟩
  · exact ⟨o5, e5, fun v q => by rw [d5] at q; cases q⟩
theorem zmt_sep {a b n : Nat} (ha : a < n) (hb : b < n) : ZipSep2 (n + 4) (n + 2) (n + 3) n (n + 1) [n, a] [n + 1, b] := by
  constructor <;> first
    | (simp; done)
    | (refine Nat.ne_of_gt ?_; omega)
    | (refine Nat.ne_of_lt ?_; omega)
    | (simp only [List.mem_cons, List.mem_nil_iff, or_false, not_or]; refine ⟨?_, ?_⟩ <;> first | (refine Nat.ne_of_gt ?_; omega) | (refine Nat.ne_of_lt ?_; omega))
theorem turn_zipM {P : Program} {w : World} {K : PySem.W.Frag} {elts : List Expr} {kk : Nat} {tpos : Pos} {a b n : Nat} (ha : a < n) (hb : b < n) : Turn P w K (.Tuple elts kk tpos) (ItzM K a b) (ZFp n) (n + 4) (ZMt a b n) where
  mem := by simp [ZFp]
  obj := fun i h st c hc => zmt_obj st c hc
  keep := fun i h h' st k => by
    obtain ⟨h1, h2, ⟨x, y, h3⟩, h4, h5⟩ := st
    exact ⟨k _ (by simp [ZFp]) _ h1, k _ (by simp [ZFp]) _ h2, ⟨x, y, k _ (by simp [ZFp]) _ h3⟩, h4.at fun o q => k _ (by simp [ZFp]) o q, h5.at fun o q => k _ (by simp [ZFp]) o q⟩
  item := by
    intro X hP hw hK hc i pins s σ H E I hf st hg
    subst hP hw hK
    have lt : ∀ c ∈ ZFp n, c < s.heap.objs.size := fun c hc => let ⟨o, e, _⟩ := zmt_obj st c hc; Heap.lt_size e
    obtain ⟨z1, z2, ⟨p, q, z3⟩, z4, z5⟩ := st
    obtain ⟨xs, ys, x, y, hx, hy, gx, gy⟩ := hg
    obtain ⟨is1, rv1, l1, _⟩ := I.list hx
    obtain ⟨is2, rv2, l2, _⟩ := I.tuple hy
    obtain ⟨u1, e1, r1⟩ := rv1.get gx
    obtain ⟨u2, e2, r2⟩ := rv2.get gy
    have hh : X.A.in1.handled = none := I.ok.hd hc
    have i1 : i < is1.toArray.size := by have := (List.getElem?_eq_some_iff.mp e1).1; simpa using this
    have i2 : i < is2.toArray.size := by have := (List.getElem?_eq_some_iff.mp e2).1; simpa using this
    refine wpAny_pyNext_zipD2_item (zmt_sep ha hb) (Draws.list hh n a (Nat.ne_of_lt ha) is1.toArray) (Draws.tuple hh (n + 1) b (Nat.ne_of_lt (Nat.lt_succ_of_lt hb)) is2.toArray) z1 z2 z3 ⟨z4, l1.isList⟩ ⟨z5, l2⟩ i1 i2 fun v1 v2 h1 tk p1 p2 t1 t2 t3 t4 t5 _ k1 => ?_
    obtain rfl : u1 = v1 := by
      have p1 : is1.toArray[i]? = some v1 := p1
      have e1 : is1.toArray[i]? = some u1 := by simpa using e1
      exact Option.some.inj (e1.symm.trans p1)
    obtain rfl : u2 = v2 := by
      have p2 : is2.toArray[i]? = some v2 := p2
      have e2 : is2.toArray[i]? = some u2 := by simpa using e2
      exact Option.some.inj (e2.symm.trans p2)
    refine ⟨_, rfl, wpAny_letOwnedTupleGo_zip (s := { s with heap := h1, toks := tk }) t1 fun h2 w1 k2 => ?_⟩
    have up : ∀ c o, c ∉ ZFp n → s.heap.get? c = some o → h2.get? c = some o := fun c o hc e => by
      simp only [ZFp, List.mem_cons, List.mem_nil_iff, or_false, not_or] at hc
      exact (k2.2 c hc.1).trans (k1 c o hc.1 hc.2.2.1 hc.2.2.2.1 hc.2.2.2.2 e)
    have nz : s.heap.objs.size ≠ n + 4 := Nat.ne_of_gt (lt _ (by simp [ZFp]))
    have J := I.turnedNew (T := s.heap.objs.size) (ob := .tup [x, y]) (t' := tk) up hf (Nat.le_refl _) ⟨by show 2 ≤ sizeLine; decide, [u1, u2], .cons r1 (.cons r2 .nil), ⟨_, (k2.2 _ nz).trans t5, rfl, _, rfl⟩⟩
    have D := PySem.W.ktu_apart n a b ha hb
    refine ⟨.ref s.heap.objs.size, _, J, rfl, ⟨_, x, y, rfl, I.hok.fresh (Nat.le_refl _), rfl, fun l hl => by rw [I.list_inj hl hx]; exact gx, fun l hl => by rw [I.tuple_inj hl hy]; exact gy⟩, ⟨w1, ?_, ⟨u1, u2, ?_⟩, ?_, ?_⟩, fun c hc => ?_⟩
    · exact (k2.2 _ D.TIz).trans (k1 _ _ D.TIz D.TITO D.TIi1 D.TIi2 z2)
    · exact (k2.2 _ D.TOz).trans t2
    · exact t3.1.at fun o e => (k2.2 _ D.i1z).trans e
    · exact t4.1.at fun o e => (k2.2 _ D.i2z).trans e
    · rw [upd_ne (Nat.ne_of_lt (lt c hc))]
      exact (hf c hc).1
  done := by
    intro X hP hw hK hc i pins s σ H E I hf st hi
    subst hP hw hK
    obtain ⟨z1, z2, ⟨p, q, z3⟩, z4, z5⟩ := st
    obtain ⟨xs, ys, hx, hy, b1, b2, b3⟩ := hi
    obtain ⟨is1, rv1, l1, _⟩ := I.list hx
    obtain ⟨is2, rv2, l2, _⟩ := I.tuple hy
    have e1 := rv1.length
    have e2 := rv2.length
    have hh : X.A.in1.handled = none := I.ok.hd hc
    refine wpAny_pyNext_zipD2_end (zmt_sep ha hb) (Draws.list hh n a (Nat.ne_of_lt ha) is1.toArray) (Draws.tuple hh (n + 1) b (Nat.ne_of_lt (Nat.lt_succ_of_lt hb)) is2.toArray) z1 z2 z3 ⟨z4, l1.isList⟩ ⟨z5, l2⟩ (by simp; omega) (by simp; omega) (by simp; omega) fun h' tk k => ⟨rfl, I.turnedL (t' := tk) (ch := ZFp n) (fun c o hc e => ?_) hf⟩
    simp only [ZFp, List.mem_cons, List.mem_nil_iff, or_false, not_or] at hc
    exact k c o hc.1 hc.2.2.1 hc.2.2.2.1 hc.2.2.2.2 e
  self := fun A i s Q E st h => wpAny_pyIter_zip st.1 h
def iZipM (K : PySem.W.Frag) (ta : TA) : TI := fun σ H R => ta σ H fun vs H1 => ∃ a b xs ys, vs = [.ref a, .ref b] ∧ SqL K H1 a xs ∧ SqT K H1 b ys ∧ R (ItzM K a b) H1
theorem pi_zipM {X : Cx} {e e2 : Expr} {ta : TA} {p pos tpos : Pos} {elts : List Expr} {kk : Nat} (hg : Gl X "zip") (hm : X.mg "zip" = none) (ha : PA X [e, e2] ta)
    (hs : starEach [e, e2] X.env = (false, eval e X.env) :: starEach [e2] X.env := by rfl) (hpl : (backTo pos (starEach [e2] X.env)).any (·.1) = false := by rfl) :
    PI X (.Tuple elts kk tpos) (.Call (.Name "zip" p) [e, e2] [] pos) (iZipM X.K ta) := by
  refine ⟨fun pins s σ H R I h => ?_⟩
  refine Call_ (ld_blt I hg hm PyProof.Rows.boot_zip (PyProof.Rows.callWith_type1 (thn (ha.run pos pins s σ H _ I h) fun us s1 ⟨vs, H1, I1, r1, q1⟩ => ?_) hs hpl))
  obtain ⟨a, b, xs, ys, ex, hqx, hqy, q⟩ := q1
  subst ex
  obtain ⟨va, us, rfl⟩ : ∃ va us', us = va :: us' := by cases r1 with | cons _ _ => exact ⟨_, _, rfl⟩
  obtain ⟨vb, us, rfl⟩ : ∃ vb us', us = vb :: us' := by cases r1 with | cons _ r => cases r with | cons _ _ => exact ⟨_, _, rfl⟩
  cases r1 with
  | cons ra rr => cases rr with
    | cons rb rr =>
      cases rr
      cases ra
      cases rb
      obtain ⟨is1, rv1, l1, _⟩ := I1.list hqx
      obtain ⟨is2, rv2, l2, _⟩ := I1.tuple hqy
      obtain ⟨o2, ho2, _⟩ := id l2
      generalize hn : s1.heap.objs.size = n
      have fr : ∀ c, c ∈ ZFp n → FpOk X pins H1 c := fun c hcm => by
        have hle : n ≤ c := by
          simp only [ZFp, List.mem_cons, List.mem_nil_iff, or_false] at hcm
          rcases hcm with q | q | q | q | q <;> (rw [q]; first | exact Nat.le_refl _ | exact Nat.le_add_right _ _)
        rw [← hn] at hle
        exact I1.fpOk hle (I1.hok.fresh hle)
      refine zip_begins2 (begins_list a is1.toArray) (begins_tuple b is2.toArray) l1.isList l2 fun h' hz hTI hTO g1 g2 hsz hk => wpAny_pyIter_zip hz ?_
      rw [hn] at hz hTI hTO g1 g2
      have I2 : Inv X pins σ H1 { s1 with heap := h' } := I1.kept (t' := s1.toks) hk
      rw [hn]
      exact ⟨n + 4, ZFp n, _, _, H1, rfl, I2, turn_zipM (by rw [← hn]; exact l1.lt) (by rw [← hn]; exact Heap.lt_size ho2), ⟨hz, hTI, ⟨_, _, hTO⟩, ⟨_, g1, rfl, rfl⟩, ⟨_, g2, rfl, rfl⟩⟩, fr, q⟩
theorem walk_zipM {K : PySem.W.Frag} {a b : Addr} {xs ys : List V} {n : Nat} (hn : n = min xs.length ys.length) : Walk (ItzM K a b) n (fun H => SqL K H a xs ∧ SqT K H b ys) (YPair (fun i => xs[i]?) (fun i => ys[i]?)) := by
  subst hn
  refine ⟨fun i H hi g => ?_, fun H g => ⟨xs, ys, g.1, g.2, by omega, by omega, by omega⟩, fun i H v H' _ g y => ?_⟩
  · have h1 : i < xs.length := by omega
    have h2 : i < ys.length := by omega
    exact ⟨xs, ys, _, _, g.1, g.2, List.getElem?_eq_getElem h1, List.getElem?_eq_getElem h2⟩
  · obtain ⟨q, x, z, h1, h2, h3, h4, h5⟩ := y
    exact ⟨q, x, z, h1, h2, h3, h4 _ g.1, h5 _ g.2⟩
end Dk
namespace Dk
open PySem PySem.Spec PyProof.Rows L2
theorem walk_itr (lo : Int) (n : Nat) : Walk (Itr lo n) n (fun _ => True) (fun i H v H' => v = .int (lo + (i : Int)) ∧ H' = H) := ⟨fun _ _ h _ => h, fun _ _ => Nat.le_refl _, fun _ _ _ _ _ _ y => ⟨y.2, y.1⟩⟩
/-! ### rows of equal length, held together by a relation -/
def A2 {α β : Type} (R : α → β → Prop) (xs : List α) (ys : List β) : Prop := xs.length = ys.length ∧ ∀ (i : Nat) (x : α) (y : β), xs[i]? = some x → ys[i]? = some y → R x y
section
variable {α β : Type} {R : α → β → Prop}
theorem A2.nil : A2 R ([] : List α) ([] : List β) := ⟨rfl, fun i x y h _ => by simp at h⟩
theorem A2.cons {x : α} {y : β} {xs : List α} {ys : List β} (h : R x y) (t : A2 R xs ys) : A2 R (x :: xs) (y :: ys) := ⟨by rw [List.length_cons, List.length_cons, t.1], fun i a b h1 h2 => by
  cases i with
  | zero => cases h1; cases h2; exact h
  | succ i => exact t.2 i a b h1 h2⟩
theorem A2.uncons {x : α} {y : β} {xs : List α} {ys : List β} (t : A2 R (x :: xs) (y :: ys)) : R x y ∧ A2 R xs ys := ⟨t.2 0 x y rfl rfl, by have := t.1; rw [List.length_cons, List.length_cons] at this; omega, fun i a b h1 h2 => t.2 (i + 1) a b h1 h2⟩
theorem A2.app {xs us : List α} {ys vs : List β} (h : A2 R xs ys) (g : A2 R us vs) : A2 R (xs ++ us) (ys ++ vs) := by
  refine ⟨by rw [List.length_append, List.length_append, h.1, g.1], fun i a b h1 h2 => ?_⟩
  by_cases q : i < xs.length
  · rw [List.getElem?_append_left q] at h1
    rw [List.getElem?_append_left (by rw [← h.1]; exact q)] at h2
    exact h.2 i a b h1 h2
  · rw [List.getElem?_append_right (by omega)] at h1
    rw [List.getElem?_append_right (by rw [← h.1]; omega), ← h.1] at h2
    exact g.2 _ a b h1 h2
theorem A2.map {γ δ : Type} {S : γ → δ → Prop} {f : α → γ} {g : β → δ} {xs : List α} {ys : List β} (h : A2 R xs ys) (m : ∀ a b, R a b → S (f a) (g b)) : A2 S (xs.map f) (ys.map g) := by
  refine ⟨by rw [List.length_map, List.length_map, h.1], fun i c d h1 h2 => ?_⟩
  rw [List.getElem?_map] at h1 h2
  obtain ⟨a, ha, rfl⟩ := Option.map_eq_some_iff.mp h1
  obtain ⟨b, hb, rfl⟩ := Option.map_eq_some_iff.mp h2
  exact m a b (h.2 i a b ha hb)
theorem A2.mono {S : α → β → Prop} {xs : List α} {ys : List β} (h : A2 R xs ys) (m : ∀ a b, R a b → S a b) : A2 S xs ys := ⟨h.1, fun i a b h1 h2 => m a b (h.2 i a b h1 h2)⟩
theorem a2_ch : ∀ {xs : List α} {ys : List β} (m : Nat), A2 R xs ys → A2 (A2 R) (chN xs m) (chN ys m)
  | xs, ys, 0, h => by
    rw [ch_zero, ch_zero]
    exact A2.cons A2.nil A2.nil
  | [], [], m + 1, h => A2.nil
  | [], y :: ys, m + 1, h => by cases h.1
  | x :: xs, [], m + 1, h => by cases h.1
  | x :: xs, y :: ys, m + 1, h => by
    obtain ⟨h1, h2⟩ := h.uncons
    exact ((a2_ch m h2).map fun a b hab => A2.cons h1 hab).app (a2_ch (m + 1) h2)
end
/-! ### guards in the heap -/
def GdA (H : Hp) (v : V) (g : Gd) : Prop := ∃ t p w, v = V.ref t ∧ H t = some (.tup [p, w]) ∧ PsA H p g.1 ∧ WtA H w (g.1.1, g.2)
theorem GdA.keep {H H' : Hp} {v : V} {g : Gd} (k : KeepT H H') (h : GdA H v g) : GdA H' v g := by
  obtain ⟨t, p, w, e, h1, h2, h3⟩ := h
  exact ⟨t, p, w, e, k _ _ h1, PsA.keep k h2, WtA.keep k h3⟩
abbrev GdL := AL GdA
theorem GdL.keep {H H' : Hp} {xs : List V} {gs : List Gd} (h : GdL H xs gs) (k : KeepT H H') : GdL H' xs gs := AL.mono h fun _ _ => GdA.keep k
theorem GdL.same {H H' : Hp} {xs : List V} {gs : List Gd} (h : GdL H xs gs) (k : Same H H') : GdL H' xs gs := GdL.keep h (KeepT.of k)
theorem GdL.ex {H H' : Hp} {xs : List V} {gs : List Gd} (h : GdL H xs gs) (k : Ex H H') : GdL H' xs gs := GdL.keep h (ExtN.keepT k.ex)
/-- a list of values -/
def VlA (H : Hp) (v : V) (l : List V) : Prop := ∃ p, v = V.ref p ∧ H p = some (.lst l)
abbrev VlL := AL VlA
theorem VlL.same {H H' : Hp} {xs : List V} {ls : List (List V)} (h : VlL H xs ls) (s : Same H H') : VlL H' xs ls := AL.mono h fun _ _ ⟨p, e, z⟩ => ⟨p, e, s _ _ z⟩
theorem VlL.put {H : Hp} {D : Addr} {o : HO} {xs : List V} {ls : List (List V)} (h : VlL H xs ls) (n : ∀ p, V.ref p ∈ xs → p ≠ D) : VlL (upd H D o) xs ls := ⟨h.1, fun i v l h1 h2 => by
  obtain ⟨p, rfl, z⟩ := h.2 i v l h1 h2
  exact ⟨p, rfl, by rw [upd_ne (n p (List.mem_of_getElem? h1))]; exact z⟩⟩
/-- a lot of guards -/
def LtA (H : Hp) (v : V) (l : List Gd) : Prop := ∃ p xs, v = V.ref p ∧ H p = some (.lst xs) ∧ GdL H xs l
abbrev LtL := AL LtA
theorem LtL.ex {H H' : Hp} {xs : List V} {ls : List (List Gd)} (h : LtL H xs ls) (e : Ex H H') : LtL H' xs ls := AL.mono h fun _ _ ⟨p, ys, q, z, g⟩ => ⟨p, ys, q, e.lst z, g.ex e⟩
theorem ltl_of {H : Hp} {ys : List V} {vss : List (List V)} {ls : List (List Gd)} (h : VlL H ys vss) (g : A2 (GdL H) vss ls) : LtL H ys ls := by
  refine ⟨h.1.trans g.1, fun i v l h1 h2 => ?_⟩
  have hi : i < vss.length := by rw [← h.1]; exact (List.getElem?_eq_some_iff.mp h1).1
  obtain ⟨p, e, z⟩ := h.2 i v _ h1 (List.getElem?_eq_getElem hi)
  exact ⟨p, _, e, z, g.2 i _ l (List.getElem?_eq_getElem hi) h2⟩
/-! ### promises -/
theorem sqL_same {K : PySem.W.Frag} {H H' : Hp} {a : Addr} {us : List V} (h : SqL K H a us) (s : Same H H') : SqL K H' a us := by
  rcases h with (h | ⟨o, h⟩) | h
  · exact .inl (.inl (s _ _ h))
  · exact .inl (.inr ⟨o, s _ _ h⟩)
  · exact .inr h
theorem walk_zipL {K : PySem.W.Frag} {a b : Addr} {xs ys : List V} {n : Nat} (hn : n = min xs.length ys.length) : Walk (Itz K a b) n (fun H => SqL K H a xs ∧ SqL K H b ys) (YPair (fun i => xs[i]?) (fun i => ys[i]?)) := by
  subst hn
  refine ⟨fun i H hi g => ?_, fun H g => ⟨xs, ys, g.1, g.2, by omega⟩, fun i H v H' _ g y => ?_⟩
  · have h1 : i < xs.length := by omega
    have h2 : i < ys.length := by omega
    exact ⟨xs, ys, _, _, g.1, g.2, List.getElem?_eq_getElem h1, List.getElem?_eq_getElem h2⟩
  · obtain ⟨q, x, z, h1, h2, h3, h4, h5⟩ := y
    exact ⟨q, x, z, h1, h2, h3, h4 _ g.1, h5 _ g.2⟩
theorem sqT_same {K : PySem.W.Frag} {H H' : Hp} {a : Addr} {us : List V} (h : SqT K H a us) (s : Same H H') : SqT K H' a us := by
  rcases h with (h | ⟨o, h⟩) | h
  · exact .inl (.inl (s _ _ h))
  · exact .inl (.inr ⟨o, s _ _ h⟩)
  · exact .inr h
theorem sq_same {K : PySem.W.Frag} {H H' : Hp} {a : Addr} {us : List V} (h : Sq K H a us) (s : Same H H') : Sq K H' a us := h.imp (fun z => sqL_same z s) (fun z => sqT_same z s)
/-- what two rows may be that are zipped -/
def Zp (K : PySem.W.Frag) (H : Hp) (p r : Addr) (xs ys : List V) : Prop := (SqL K H p xs ∧ SqL K H r ys) ∨ (SqT K H p xs ∧ SqT K H r ys) ∨ (SqL K H p xs ∧ SqT K H r ys)
theorem Zp.same {K : PySem.W.Frag} {H H' : Hp} {p r : Addr} {xs ys : List V} (h : Zp K H p r xs ys) (s : Same H H') : Zp K H' p r xs ys := by
  have l : ∀ {a : Addr} {us : List V}, SqL K H a us → SqL K H' a us := fun {a us} h => by
    rcases h with (h | ⟨o, h⟩) | h
    · exact .inl (.inl (s _ _ h))
    · exact .inl (.inr ⟨o, s _ _ h⟩)
    · exact .inr h
  rcases h with ⟨a, b⟩ | ⟨a, b⟩ | ⟨a, b⟩
  · exact .inl ⟨l a, l b⟩
  · exact .inr (.inl ⟨sqT_same a s, sqT_same b s⟩)
  · exact .inr (.inr ⟨l a, sqT_same b s⟩)
def spGuardsOf (K : PySem.W.Frag) : Sp := fun vs H Q _ => ∃ (p r : Addr) (xs : List V) (ps : List Pst) (rs : List Nat), vs = [.ref p, .ref r] ∧ Zp K H p r xs (rs.map natV) ∧ PsL H xs ps ∧ rs.length = ps.length ∧ ps.length ≤ 5 ∧ ∀ (H' : Hp) (D : Addr) (ys : List V), Same H H' → H D = none → H' D = some (.lst ys) → GdL H' ys (ps.zip rs) → Q (.ref D) H'
def spGuarded (C CS : Addr) : Sp := fun vs H Q _ => ∃ (h g : Addr) (zs : List Str) (ds ss : List SS) (xs : List V) (gs : List Gd), vs = [.ref h, .ref g] ∧ HouseAt C H h zs (lnk zs (both ds)) (lnk zs ss) ∧ H g = some (.lst xs) ∧ GdL H xs gs ∧ ScOk zs ds ss (gps gs) (gws gs) 0 ∧ ∀ (H' : Hp) (sc : Addr) (W : Nat), Same H H' → H sc = none → SceneAt C CS H' sc zs ds ss (gps gs) (gws gs) false 0 W → Q (.ref sc) H'
def spAskedSc (K : PySem.W.Frag) (C CS : Addr) : Sp := fun vs H Q _ => ∃ (h g a b : Addr) (zs : List Str) (ds ss : List SS) (xs : List V) (gs : List Gd) (st gl : List Str), vs = [.ref h, .ref g, .ref a, .ref b] ∧ HouseAt C H h zs (lnk zs (both ds)) (lnk zs ss) ∧ H g = some (.lst xs) ∧ GdL H xs gs ∧ ScOk zs ds ss (gps gs) (gws gs) 0 ∧ Sq K H a (st.map V.str) ∧ Sq K H b (gl.map V.str) ∧ (∀ z ∈ st, z ∈ zs) ∧ (∀ z ∈ gl, z ∈ zs) ∧ st.length ≤ 100 ∧ gl.length ≤ 100 ∧ ∀ (H' : Hp) (sc : Addr) (W : Nat), Same H H' → H sc = none → SceneAt C CS H' sc zs ds ss (gps gs) (gws gs) false 0 W → Q (.ref sc) H'
/-- choices of many things: none of fewer than none -/
def chZ (xs : List V) (m : Int) : List (List V) := if m < 0 then [] else chN xs m.toNat
def spChoices (n : Nat) : Sp := fun vs H Q _ => ∃ (r : Addr) (xs : List V) (m : Int), vs = [.ref r, .int m] ∧ H r = some (.lst xs) ∧ xs.length ≤ n ∧ n ≤ 8 ∧ m.natAbs + n ≤ 100 ∧ ∀ (H' : Hp) (D : Addr) (ys : List V), Same H H' → H D = none → H' D = some (.lst ys) → VlL H' ys (chZ xs m) → (∀ p, V.ref p ∈ ys → H p = none) → Q (.ref D) H'
/-- a way that is told: the beat it begins at, and its rooms -/
def ToldOp (zs : List Str) (ds ss : List SS) (gs : List Gd) (st gl : List Str) (H : Hp) (bt : Int) (rp : Addr) : Prop := ∃ (W : Nat) (c b : Cell) (t : List Cell), (IsWh ((gps gs).map (·.2)) (gws gs).length false 0 W ∧ W ≤ 1440) ∧ bt = ((b.2 : Nat) : Int) ∧ H rp = some (.tup (((c :: t).reverse.map (·.1)).map V.str)) ∧ (c :: t).reverse.head? = some b ∧ Rp (nxS zs ds ss (gps gs) (gws gs) false 0 W) (begAll zs ss (gps gs) (gws gs) false 0 W st none) (c :: t) ∧ c.1 ∈ gl ∧ WayD (nxS zs ds ss (gps gs) (gws gs) false 0 W) (begAll zs ss (gps gs) (gws gs) false 0 W st none) (fun c => decide (c.1 ∈ gl)) c t
theorem ToldOp.ex {zs : List Str} {ds ss : List SS} {gs : List Gd} {st gl : List Str} {H H' : Hp} {bt : Int} {rp : Addr} (h : ToldOp zs ds ss gs st gl H bt rp) (e : Ex H H') : ToldOp zs ds ss gs st gl H' bt rp := by
  obtain ⟨W, c, b, t, h1, h2, h3, h4⟩ := h
  exact ⟨W, c, b, t, h1, h2, e.tup h3, h4⟩
theorem ToldOp.opn {zs : List Str} {ds ss : List SS} {gs : List Gd} {st gl : List Str} {H : Hp} {bt : Int} {rp : Addr} (h : ToldOp zs ds ss gs st gl H bt rp) : Opn zs ds ss gs st gl := by
  obtain ⟨W, c, b, t, h1, h2, h3, h4, h5, h6, _⟩ := h
  exact rp_opn h1.1 h5 h6
/-- a told way of a lot -/
def WlA (zs : List Str) (ds ss : List SS) (st gl : List Str) (H : Hp) (v : V) (l : List Gd) : Prop := ∃ q bt rp, v = V.ref q ∧ H q = some (.tup [.int bt, .ref rp]) ∧ ToldOp zs ds ss l st gl H bt rp
theorem WlA.keep {zs : List Str} {ds ss : List SS} {st gl : List Str} {H H' : Hp} {v : V} {l : List Gd} (k : KeepT H H') (h : WlA zs ds ss st gl H v l) : WlA zs ds ss st gl H' v l := by
  obtain ⟨q, bt, rp, e1, z, W, c, b, t, h1, h2, h3, h4⟩ := h
  exact ⟨q, bt, rp, e1, k _ _ z, W, c, b, t, h1, h2, k _ _ h3, h4⟩
abbrev WlL (zs : List Str) (ds ss : List SS) (st gl : List Str) := AL (WlA zs ds ss st gl)
theorem WlL.ex {zs : List Str} {ds ss : List SS} {st gl : List Str} {H H' : Hp} {xs : List V} {ls : List (List Gd)} (h : WlL zs ds ss st gl H xs ls) (e : Ex H H') : WlL zs ds ss st gl H' xs ls := AL.mono h fun _ _ ⟨q, bt, rp, e1, z, g⟩ => ⟨q, bt, rp, e1, e.tup z, g.ex e⟩
def spWaysLeft (K : PySem.W.Frag) (C CS : Addr) (T : List (Addr × Str)) : Sp := fun vs H Q _ => ∃ (h g a b : Addr) (zs : List Str) (ds ss : List SS) (xs : List V) (ls : List (List Gd)) (st gl : List Str), vs = [.ref h, .ref g, .ref a, .ref b] ∧ LamX.Tabs T H ∧ HouseAt C H h zs (lnk zs (both ds)) (lnk zs ss) ∧ H g = some (.lst xs) ∧ LtL H xs ls ∧ (∀ l ∈ ls, ScOk zs ds ss (gps l) (gws l) 0) ∧ ls.length ≤ 300 ∧ Sq K H a (st.map V.str) ∧ Sq K H b (gl.map V.str) ∧ (∀ z ∈ st, z ∈ zs) ∧ (∀ z ∈ gl, z ∈ zs) ∧ st.length ≤ 100 ∧ gl.length ≤ 100 ∧
  ∀ (H' : Hp) (D : Addr) (ys : List V) (k : Nat), Ex H H' → LamX.Tabs T H' → H D = none → H' D = some (.lst ys) → WlL zs ds ss st gl H' ys (ls.take k) → k ≤ ls.length → (∀ l, ls[k]? = some l → ¬ Opn zs ds ss l st gl) → Q (.ref D) H'
/-- what fewest tells -/
def FewT (zs : List Str) (ds ss : List SS) (gs : List Gd) (st gl : List Str) (H0 H : Hp) (tp : Addr) : Prop :=
  (∃ (bt : Int) (rp : Addr), H tp = some (.tup [.str "open", .int bt, .ref rp]) ∧ ToldOp zs ds ss gs st gl H bt rp ∧ ∀ l ∈ lotsN gs, Opn zs ds ss l st gl) ∨
  (∃ (np wl : Addr) (i : Nat) (l : List Gd) (ys : List V), H tp = some (.tup [.str "bars", .ref np, .ref wl]) ∧ Few zs ds ss gs st gl i l ∧ H np = some (.tup ((l.map fun g => g.1.1).map V.str)) ∧ H0 wl = none ∧ H wl = some (.lst ys) ∧ WlL zs ds ss st gl H ys (((lotsN gs).take i).filter fun k => decide (k.length < l.length)))
def spFewest (K : PySem.W.Frag) (C CS : Addr) (T : List (Addr × Str)) : Sp := fun vs H Q _ => ∃ (h p r a b : Addr) (zs : List Str) (ds ss : List SS) (xs : List V) (ps : List Pst) (rs : List Nat) (st gl : List Str), vs = [.ref h, .ref p, .ref r, .ref a, .ref b] ∧ LamX.Tabs T H ∧ HouseAt C H h zs (lnk zs (both ds)) (lnk zs ss) ∧ Zp K H p r xs (rs.map natV) ∧ PsL H xs ps ∧ rs.length = ps.length ∧ ScOk zs ds ss (gps (ps.zip rs)) (gws (ps.zip rs)) 0 ∧ Sq K H a (st.map V.str) ∧ Sq K H b (gl.map V.str) ∧ (∀ z ∈ st, z ∈ zs) ∧ (∀ z ∈ gl, z ∈ zs) ∧ st.length ≤ 100 ∧ gl.length ≤ 100 ∧
  ∀ (H' : Hp) (tp : Addr), Ex H H' → LamX.Tabs T H' → FewT zs ds ss (ps.zip rs) st gl H H' tp → Q (.ref tp) H'
end Dk
namespace Dk
open PySem PySem.Spec PyProof.Rows L2
def chP (xs : List V) (m : Int) (i : Nat) : List (List V) := match xs[i]? with
  | some x => (chZ (xs.drop (i + 1)) (m - 1)).map (x :: ·)
  | none => []
theorem chZ_zero (xs : List V) : chZ xs 0 = [[]] := by
  unfold chZ
  rw [if_neg (by decide)]
  exact ch_zero xs
theorem chZ_flat {xs : List V} {m : Int} (h : m ≠ 0) : chZ xs m = (List.range xs.length).flatMap (chP xs m) := by
  unfold chZ
  by_cases hm : m < 0
  · rw [if_pos hm]
    symm
    rw [List.flatMap_eq_nil_iff]
    intro i _
    unfold chP chZ
    rw [if_pos (by omega)]
    cases xs[i]? <;> rfl
  · rw [if_neg hm]
    obtain ⟨k, rfl⟩ : ∃ k : Nat, m = ((k + 1 : Nat) : Int) := ⟨(m - 1).toNat, by omega⟩
    rw [Int.toNat_natCast, ch_at]
    congr 1
    funext i
    unfold chP chZ
    rw [if_neg (by omega), show (((k + 1 : Nat) : Int) - 1).toNat = k by omega]
    cases xs[i]? <;> rfl
theorem chZ_len (xs : List V) (m : Int) : (chZ xs m).length ≤ 2 ^ xs.length := by
  unfold chZ
  split
  · exact Nat.zero_le _
  · exact ch_len_le _ _
theorem chZ_mem {xs l : List V} {m : Int} (h : l ∈ chZ xs m) : l.length ≤ xs.length := by
  unfold chZ at h
  split at h
  · cases h
  · exact (mem_ch.mp h).1.length_le
theorem chP_len {xs : List V} {m : Int} (h8 : xs.length ≤ 8) (i : Nat) : (chP xs m i).length ≤ 256 := by
  unfold chP
  cases xs[i]? with
  | none => exact Nat.zero_le _
  | some x =>
    show ((chZ (xs.drop (i + 1)) (m - 1)).map (x :: ·)).length ≤ 256
    rw [List.length_map]
    have a := chZ_len (xs.drop (i + 1)) (m - 1)
    have b : (xs.drop (i + 1)).length ≤ 8 := by rw [List.length_drop]; omega
    have c : 2 ^ (xs.drop (i + 1)).length ≤ 2 ^ 8 := Nat.pow_le_pow_right (by decide) b
    omega
theorem chF_len {xs : List V} {m : Int} (h8 : xs.length ≤ 8) (i : Nat) : ((List.range i).flatMap (chP xs m)).length ≤ i * 256 := by
  induction i with
  | zero => exact Nat.le_refl _
  | succ i ih =>
    rw [List.range_succ, List.flatMap_append, List.length_append, List.flatMap_cons, List.flatMap_nil, List.append_nil]
    have := chP_len (m := m) h8 i
    omega
end Dk
namespace Dk
open PySem PySem.Spec PyProof.Rows L2
theorem cutTl (v : V) (xs : List V) : cutV (v :: xs) (some 1) none = xs := by
  unfold cutV
  have e : HT.sIx (v :: xs).length 0 (some 1) = 1 := by
    have := HT.sIx_nat (v :: xs).length 0 1
    rw [List.length_cons, Nat.min_eq_left (by omega)] at this
    exact this
  rw [e]
  show List.take ((v :: xs).length - 1) xs = xs
  exact List.take_of_length_le (by rw [List.length_cons]; omega)
theorem cutTl_no (v : V) (xs : List V) : ¬ (HT.sIx (v :: xs).length 0 (some 1) = 0 ∧ HT.sIx (v :: xs).length (v :: xs).length none = (v :: xs).length) := fun h => by
  have := HT.sIx_nat (v :: xs).length 0 1
  rw [List.length_cons, Nat.min_eq_left (by omega)] at this
  have h1 := h.1
  rw [List.length_cons] at h1
  rw [show (some (1 : Int)) = some ((1 : Nat) : Int) from rfl, this] at h1
  cases h1
end Dk
namespace Dk
open PySem PySem.Spec PyProof.Rows L2
theorem Names.sub {l m : List Str} (h : Names m) (s : l.Sublist m) : Names l := ⟨h.1.sublist s, fun z hz => h.2 z (s.subset hz)⟩
theorem sc_sub {zs : List Str} {ds ss : List SS} {gs l : List Gd} (h : ScOk zs ds ss (gps gs) (gws gs) 0) (s : l.Sublist gs) : ScOk zs ds ss (gps l) (gws l) 0 := by
  have sp : (gps l).Sublist (gps gs) := s.map _
  have sw : (gws l).Sublist (gws gs) := s.map _
  refine ⟨h.names, h.eight, h.dg, h.sg, ⟨Nat.le_trans sp.length_le h.pok.five, h.pok.names.sub (sp.map _), fun p hp => h.pok.rnd p (sp.subset hp), fun p hp => h.pok.dly p (sp.subset hp)⟩, ⟨Nat.le_trans sw.length_le h.wok.six, h.wok.names.sub (sw.map _), fun p hp => h.wok.rch p (sw.subset hp)⟩, ?_, h.rl4⟩
  unfold gps gws
  rw [List.length_map, List.length_map]
  exact Nat.le_refl _
theorem a2_lots {α β : Type} {R : α → β → Prop} {xs : List α} {ys : List β} (h : A2 R xs ys) : A2 (A2 R) (lotsN xs) (lotsN ys) := by
  unfold lotsN
  rw [h.1]
  induction ys.length + 1 with
  | zero => exact A2.nil
  | succ n ih =>
    rw [List.range_succ, List.flatMap_append, List.flatMap_append, List.flatMap_cons, List.flatMap_cons, List.flatMap_nil, List.flatMap_nil, List.append_nil, List.append_nil]
    exact ih.app (a2_ch n h)
theorem chZ_nat (xs : List V) (i : Nat) : chZ xs ((i : Nat) : Int) = chN xs i := by
  unfold chZ
  rw [if_neg (by omega), Int.toNat_natCast]
theorem flat_len {α : Type} {xs : List α} (h : xs.length ≤ 5) (i : Nat) : ((List.range i).flatMap (chN xs)).length ≤ i * 32 := by
  induction i with
  | zero => exact Nat.le_refl _
  | succ i ih =>
    rw [List.range_succ, List.flatMap_append, List.length_append, List.flatMap_cons, List.flatMap_nil, List.append_nil]
    have a := ch_len_le xs i
    have c : 2 ^ xs.length ≤ 2 ^ 5 := Nat.pow_le_pow_right (by decide) h
    omega
theorem atI_last' {α : Type} {xs : List α} {x : α} (h : xs.getLast? = some x) : atI xs (-1) = some x := by
  obtain ⟨ys, rfl⟩ := List.getLast?_eq_some_iff.mp h
  exact atI_last _ _
theorem filter_take' {α : Type} {p : α → Bool} {l : List α} {i : Nat} {x : α} (h : l[i]? = some x) : (l.take (i + 1)).filter p = (l.take i).filter p ++ if p x = true then [x] else [] := by
  rw [take_snoc' h, List.filter_append]
  congr 1
  by_cases e : p x = true
  · rw [if_pos e, List.filter_cons, if_pos e]
    rfl
  · rw [if_neg e, List.filter_cons, if_neg e]
    rfl
end Dk
namespace Dk
open PySem PySem.Spec PyProof.Rows L2
/-- a told way is one, as is_way asks -/
theorem ToldOp.wk {zs : List Str} {ds ss : List SS} {gs : List Gd} {st gl : List Str} {H : Hp} {bt : Int} {rp : Addr} (z8 : zs.length ≤ 8) (h : ToldOp zs ds ss gs st gl H bt rp) : ∃ (b0 : Nat) (rs : List Str) (f z : Str) (l : List Str), bt = ((b0 : Nat) : Int) ∧ b0 < 1440 ∧ H rp = some (.tup (rs.map V.str)) ∧ rs.length ≤ 100000 ∧ Wk (dkS zs ss (gps gs) (gws gs)) (hdS zs ds (gps gs)) rs ((b0 : Nat) : Int) ∧ rs.head? = some f ∧ f ∈ st ∧ rs = l ++ [z] ∧ z ∈ gl := by
  obtain ⟨W, c, b, t, ⟨wh, W4⟩, e, hr, hb, hR, hc, wd⟩ := h
  obtain ⟨b0, hw, ⟨f, hf, hs⟩, hb0, _⟩ := rp_wk wh hR
  have eb : b = (f, b0) := Option.some.inj (hb.symm.trans hf)
  subst eb
  have sm := way_small wh.1 W4 z8 wd
  refine ⟨b0, (c :: t).reverse.map (·.1), f, c.1, t.reverse.map (·.1), e, by omega, hr, by rw [List.length_map, List.length_reverse]; omega, hw, ?_, hs, by simp, hc⟩
  rw [List.head?_map, hf]
  rfl
theorem zip_gps {ps : List Pst} {rs : List Nat} (h : rs.length = ps.length) : gps (ps.zip rs) = ps := by
  unfold gps
  exact List.map_fst_zip (by omega)
theorem zip_snoc {ps : List Pst} {rs : List Nat} {p : Pst} {r : Nat} {i : Nat} (h : rs.length = i) (hi : i ≤ ps.length) (e : ps[i]? = some p) : (ps.take (i + 1)).zip (rs ++ [r]) = (ps.take i).zip rs ++ [(p, r)] := by
  rw [take_snoc' e, List.zip_append (by rw [List.length_take, h]; omega)]
  rfl
theorem gws_names {ps : List Pst} {rs : List Nat} (h : rs.length = ps.length) : (gws (ps.zip rs)).map (·.1) = ps.map (·.1) := by
  have e : (gws (ps.zip rs)).map (·.1) = (gps (ps.zip rs)).map (·.1) := by
    unfold gws gps
    rw [List.map_map, List.map_map]
    rfl
  rw [e, zip_gps h]
theorem gws_len {ps : List Pst} {rs : List Nat} (h : rs.length = ps.length) : (gws (ps.zip rs)).length = ps.length := by
  unfold gws
  rw [List.length_map, List.length_zip, h, Nat.min_self]
/-- the scene in which each post has its own watcher -/
theorem sc_guard {zs : List Str} {ds ss : List SS} {ps : List Pst} {ws : List Wtc} {rl : Nat} {rs : List Nat} (h : ScOk zs ds ss ps ws rl) (e : rs.length = ps.length) (r1 : ∀ r ∈ rs, r ≤ 1) : ScOk zs ds ss ps (gws (ps.zip rs)) 0 := by
  refine ⟨h.names, h.eight, h.dg, h.sg, h.pok, ⟨by rw [gws_len e]; have := h.pok.five; omega, by rw [gws_names e]; exact h.pok.names, fun p hp => ?_⟩, by rw [gws_len e]; exact Nat.le_refl _, by decide⟩
  obtain ⟨g, hg, rfl⟩ := List.mem_map.mp hp
  exact r1 _ (List.of_mem_zip hg).2
def spLGuarded : Sp := fun vs H Q _ => ∃ (b l : Addr) (r p s : Int), vs = [.ref b, .int r, .int p, .int s] ∧ Box H b l ∧ 1 ≤ r ∧ r ≤ 8 ∧ 0 ≤ p ∧ p ≤ 5 ∧ 1 ≤ s ∧ s ≤ 6 ∧
  ∀ (H' : Hp) (m t f lm : Addr) (zs : List Str) (ds ss : List SS) (xs ys : List V) (ps : List Pst) (rs : List Nat), Sav b H H' → Box H' b l → H m = none → MA b H' m t f lm zs ds ss xs ys ps (gws (ps.zip rs)) false 0 → rs.length = ps.length → (zs.length : Int) ≤ r → (ps.length : Int) ≤ p → (∀ q ∈ ps, (q.2.1.length : Int) ≤ s) → (∀ z ∈ ps.map (·.1), LenOk z) → Q (.ref m) H'
def spLReaches : Sp := fun vs H Q _ => ∃ (b m t f lm : Addr) (zs : List Str) (ds ss : List SS) (xs ys : List V) (ps : List Pst) (ws : List Wtc) (mt : Bool) (rl : Nat), vs = [.ref m] ∧ MA b H m t f lm zs ds ss xs ys ps ws mt rl ∧ ∀ (H' : Hp) (D : Addr), Same H H' → H D = none → H' D = some (.lst ((ws.map (·.2)).map natV)) → Q (.ref D) H'
def spLMany : Sp := fun vs H Q _ => ∃ (tp : Addr) (zs : List Str) (ds ss : List SS) (gs : List Gd) (st gl : List Str) (H0 : Hp), vs = [.ref tp] ∧ FewT zs ds ss gs st gl H0 H tp ∧ ∀ u : Option Nat, FewM zs ds ss gs st gl u → Q (optN u) H
end Dk
namespace Dk
open PySem PySem.Spec PyProof.Rows L2
/-- one post more, put in anywhere -/
theorem sc_ins {zs : List Str} {ds ss : List SS} {ps : List Pst} {rs : List Nat} {rl : Nat} {ws : List Wtc} {w : List Str} {d x i : Nat} (h : ScOk zs ds ss ps ws rl) (e : rs.length = ps.length) (r1 : ∀ r ∈ rs, r ≤ 1) (l4 : ps.length ≤ 4) (hn : xtr ∉ ps.map (·.1)) (hw : Rnd zs (lnk zs (both ds)) w) (hd : d < w.length) (x1 : x ≤ 1) (hi : i ≤ ps.length) :
    ScOk zs ds ss (gps ((ps.take i ++ [((xtr, w, d) : Pst)] ++ ps.drop i).zip (rs.take i ++ [x] ++ rs.drop i))) (gws ((ps.take i ++ [((xtr, w, d) : Pst)] ++ ps.drop i).zip (rs.take i ++ [x] ++ rs.drop i))) 0 ∧ (rs.take i ++ [x] ++ rs.drop i).length = (ps.take i ++ [((xtr, w, d) : Pst)] ++ ps.drop i).length ∧ (ps.zip rs).Sublist ((ps.take i ++ [((xtr, w, d) : Pst)] ++ ps.drop i).zip (rs.take i ++ [x] ++ rs.drop i)) := by
  have el : (rs.take i ++ [x] ++ rs.drop i).length = (ps.take i ++ [((xtr, w, d) : Pst)] ++ ps.drop i).length := by
    simp only [List.length_append, List.length_take, List.length_drop, List.length_cons, List.length_nil, e]
  have mem : ∀ p, p ∈ ps.take i ++ [((xtr, w, d) : Pst)] ++ ps.drop i → p = (xtr, w, d) ∨ p ∈ ps := fun p hp => by
    rcases List.mem_append.mp hp with hp | hp
    · rcases List.mem_append.mp hp with hp | hp
      · exact .inr (List.mem_of_mem_take hp)
      · exact .inl (List.mem_singleton.mp hp)
    · exact .inr (List.mem_of_mem_drop hp)
  have nms : (ps.take i ++ [((xtr, w, d) : Pst)] ++ ps.drop i).map (·.1) = (ps.map (·.1)).take i ++ [xtr] ++ (ps.map (·.1)).drop i := by
    rw [List.map_append, List.map_append, List.map_take, List.map_drop]
    rfl
  have hN : Names ((ps.take i ++ [((xtr, w, d) : Pst)] ++ ps.drop i).map (·.1)) := by
    rw [nms]
    have nd := h.pok.names.1
    rw [← List.take_append_drop i (ps.map (·.1)), List.nodup_append] at nd
    obtain ⟨n1, n2, n3⟩ := nd
    refine ⟨?_, fun z hz => ?_⟩
    · rw [List.append_assoc, List.nodup_append]
      refine ⟨n1, ?_, fun a ha b hb => ?_⟩
      · show (xtr :: (ps.map (·.1)).drop i).Nodup
        exact List.nodup_cons.mpr ⟨fun m => hn (List.mem_of_mem_drop m), n2⟩
      · rcases List.mem_cons.mp (show b ∈ xtr :: (ps.map (·.1)).drop i from hb) with rfl | hb
        · exact fun e => hn (by rw [← e]; exact List.mem_of_mem_take ha)
        · exact n3 a ha b hb
    · rcases List.mem_append.mp hz with hz | hz
      · rcases List.mem_append.mp hz with hz | hz
        · exact h.pok.names.2 z (List.mem_of_mem_take hz)
        · rw [List.mem_singleton.mp hz]; exact xtr_nm
      · exact h.pok.names.2 z (List.mem_of_mem_drop hz)
  have ok0 : ScOk zs ds ss (ps.take i ++ [((xtr, w, d) : Pst)] ++ ps.drop i) (gws ((ps.take i ++ [((xtr, w, d) : Pst)] ++ ps.drop i).zip (rs.take i ++ [x] ++ rs.drop i))) 0 := by
    refine ⟨h.names, h.eight, h.dg, h.sg, ⟨by simp only [List.length_append, List.length_take, List.length_drop, List.length_cons, List.length_nil]; omega, hN, fun p hp => ?_, fun p hp => ?_⟩, ⟨by rw [gws_len el]; simp only [List.length_append, List.length_take, List.length_drop, List.length_cons, List.length_nil]; omega, by rw [gws_names el]; exact hN, fun p hp => ?_⟩, by rw [gws_len el]; exact Nat.le_refl _, by decide⟩
    · rcases mem p hp with rfl | hp
      · exact hw
      · exact h.pok.rnd p hp
    · rcases mem p hp with rfl | hp
      · exact hd
      · exact h.pok.dly p hp
    · obtain ⟨g, hg, rfl⟩ := List.mem_map.mp hp
      have hr := (List.of_mem_zip hg).2
      rcases List.mem_append.mp hr with hr | hr
      · rcases List.mem_append.mp hr with hr | hr
        · exact r1 _ (List.mem_of_mem_take hr)
        · show g.2 ≤ 1
          rw [List.mem_singleton.mp hr]
          exact x1
      · exact r1 _ (List.mem_of_mem_drop hr)
  refine ⟨by rw [zip_gps el]; exact ok0, el, ?_⟩
  have e1 : (ps.take i ++ [((xtr, w, d) : Pst)] ++ ps.drop i).zip (rs.take i ++ [x] ++ rs.drop i) = (ps.take i).zip (rs.take i) ++ ([((xtr, w, d), x)] ++ (ps.drop i).zip (rs.drop i)) := by
    rw [List.append_assoc, List.append_assoc, List.zip_append (by rw [List.length_take, List.length_take, e])]
    rfl
  have e2 : ps.zip rs = (ps.take i).zip (rs.take i) ++ (ps.drop i).zip (rs.drop i) := by
    rw [← List.zip_append (by rw [List.length_take, List.length_take, e]), List.take_append_drop, List.take_append_drop]
  rw [e1, e2]
  exact (List.Sublist.refl _).append (List.sublist_append_right _ _)
/-- longer lamps -/
theorem sub_long {ps : List Pst} {rs : List Nat} (e : rs.length = ps.length) : ∀ l, l.Sublist (ps.zip rs) → ∃ l', l'.Sublist (ps.zip (List.replicate rs.length 1)) ∧ Dim l l' ∧ l'.length = l.length := fun l hl => by
  refine ⟨l.map fun g => (g.1, 1), ?_, fun g hg => ⟨_, List.mem_map.mpr ⟨g, hg, rfl⟩, rfl, fun _ => rfl⟩, List.length_map ..⟩
  have e2 : ps.zip (List.replicate rs.length 1) = (ps.zip rs).map fun g => (g.1, 1) := by
    refine List.ext_getElem? fun i => ?_
    rw [List.getElem?_map]
    by_cases h : i < ps.length
    · have a1 := List.getElem?_eq_getElem h
      have a2 : rs[i]? = some rs[i] := List.getElem?_eq_getElem (by omega)
      have z1 : (ps.zip rs)[i]? = some (ps[i], rs[i]) := List.getElem?_zip_eq_some.mpr ⟨a1, a2⟩
      rw [z1]
      exact List.getElem?_zip_eq_some.mpr ⟨a1, by rw [List.getElem?_replicate, if_pos (by omega)]⟩
    · rw [List.getElem?_eq_none (by rw [List.length_zip]; omega), List.getElem?_eq_none (by rw [List.length_zip]; omega)]
      rfl
  rw [e2]
  exact hl.map _
theorem sub_more {gs gs' : List Gd} (h : gs.Sublist gs') : ∀ l, l.Sublist gs → ∃ l', l'.Sublist gs' ∧ Dim l l' ∧ l'.length = l.length := fun l hl => ⟨l, hl.trans h, Dim.of_sub (List.Sublist.refl _), rfl⟩
end Dk
namespace Dk
open PySem L2
section
variable {P : Program} {w : World} {K : PySem.W.Frag} {mg : Str → Option Value} {base : Heap}
theorem sc_ways_left : FnScope ["house", "lots", "starts", "goals", "ways", "guards", "told"] ["house", "lots", "starts", "goals"] (defScope s_ways_left) := ⟨rfl, rfl, rfl, by decide +kernel, rfl, by decide +kernel, by decide +kernel⟩
abbrev FunWy (K : PySem.W.Frag) (f : Addr) (fd : FuncData) : Prop := FunD K "way" "way" (defArgs sWay) (defBody sWay) (defScope sWay) [] [("begin", .non)] f fd
theorem bd_way {f : Addr} {fd : FuncData} (F : FunWy K f fd) : ∃ ds, Vals [V.non] ds ∧ Binds K fd ["scene", "starts", "goals", "begin"] ds := by
  refine FunD.binds0 F 3 (by simp) rfl ?_
  intro D doc pm an cdv ct us ks h1 h2
  match us, h1, ks, h2 with
  | [_, _, _], _, [_], _ => exact ⟨_, _, _, _, _, _, rfl, rfl, rfl⟩
theorem ok_waysleft {f C CS fGd : Addr} {fd dGd : FuncData} (F : Fun K "ways_left" "ways_left" s_ways_left f fd) {T0 : List (Addr × PySem.Str)} (FGd : Fun K "guarded" "guarded" s_guarded fGd dGd) (bGd : Binds K dGd ["house", "guards"] []) (gGd : mg "guarded" = some (.ref fGd)) (GGd : FnOk P w K mg base CX0 10 fGd dGd ["house", "guards"] (spGuarded C CS)) {fWy : Addr} {dWy : FuncData} (FWy : FunWy K fWy dWy) (gWy : mg "way" = some (.ref fWy)) (GWy : FnOk P w K mg base CX0 8 fWy dWy ["scene", "starts", "goals", "begin"] (spWayQ K C CS T0)) {dsWy : List Value} (vWy : Vals [V.non] dsWy) (bWy : Binds K dWy ["scene", "starts", "goals", "begin"] dsWy) : FnOk P w K mg base CX0 11 f fd ["house", "lots", "starts", "goals"] (spWaysLeft K C CS T0) := by
  refine F.ok sc_ways_left (fun vs H Q E h => ?_) (fun cdv A outer s H vs Q E hr h => ?_)
  · obtain ⟨h, g, a, b, zs, ds, ss, xs, ls, st, gl, rfl, _⟩ := h
    rfl
  · obtain ⟨h, g, a, b, zs, ds, ss, xs, ls, st, gl, rfl, hT, hh, hg, hL, oks, l300, ha, hb, is, ig, lls, llg, k⟩ := h
    refine ⟨_, pss_cons (ps_set (i := 4) sc_ways_left.nd rfl (Or.inl rfl) (pe_lst pa_nil))
      (pss_cons (ps_for PassesOwn.never rfl (pi_list (pv 1)) (pg_name (i := 5) sc_ways_left.nd rfl (Or.inl rfl))
      (pss_cons (ps_set (i := 6) sc_ways_left.nd rfl (Or.inl rfl) (pe_call GWy (hr.mono (by decide)) (by rfl) gWy FWy.kp bWy vWy pass0 (pa_cons (pe_call GGd (hr.mono (by decide)) (by rfl) gGd FGd.kp bGd .nil pass0 (pa_cons (pv 0) (pa_cons (pv 5) pa_nil))) (pa_cons (pv 2) (pa_cons (pv 3) pa_nil)))))
      (pss_cons (ps_if (pt_cmpR op_eq (pe_ix ix_tup (pv 6) pe_int (fun _ _ => rfl)) pe_str (nomark _)) (pss_one (ps_ret (pv 4))) pss_nil)
      (pss_one (ps_expr (pe_bm PySem.F.plainAttrs_list PySem.F.slot_list_append PySem.F.type_list_append mt_append (pv 4) (pa_cons (pe_slice sl_tup (pv 6) (po_some pe_int) po_none) pa_nil)))))))
      (pss_one (ps_ret (pv 4)))), ?_⟩
    refine ⟨by show 0 ≤ sizeLine; decide, fun D nD => ?_⟩
    show gName 4 (V.ref D) _ _ _
    have s1 := same_new (o := .lst []) nD
    have D1 : (upd H D (.lst [])) D = some (.lst []) := upd_same
    have FQ : ∀ {G : Hp} {a : Addr} {us : List V}, Ex H G → Sq K H a us → Sq K G a us := fun e h => h.exN e
    have gD : g ≠ D := (ne_of_none hg nD)
    refine ⟨_, rfl, g, rfl, ⟨_, SqL.of (s1 _ _ hg)⟩, for_it (walk_list (K := K) (a := g) (xs := xs)) (fun i σ G => ∃ y5 y6, σ = [some (.ref h), some (.ref g), some (.ref a), some (.ref b), some (.ref D), y5, y6] ∧ Ex H G ∧ LamX.Tabs T0 G ∧ ∃ ys, G D = some (.lst ys) ∧ WlL zs ds ss st gl G ys (ls.take i)) ⟨_, _, rfl, Ex.of s1, hT.ext s1, [], D1, AL.nil⟩ (fun i σ G _ z => by obtain ⟨_, _, _, e, _⟩ := z; exact SqL.of (e.lst hg)) ?_ ?_⟩
    · rintro i x σ G1 G2 hi ⟨y5, y6, rfl, e1, T1, ys, hD, hY⟩ ⟨rfl, ex⟩
      obtain ⟨l, el, lp, lx, rfl, hlp, hlx⟩ := (hL.ex e1).at ex
      have hl := oks l (List.mem_of_getElem? el)
      refine ⟨_, rfl, _, rfl, h, lp, zs, ds, ss, lx, l, rfl, hh.ext e1, hlp, hlx, hl, fun G3 sc W s3 nsc hS => ?_⟩
      have e3 := e1.trans (Ex.of s3)
      refine ⟨_, rfl, _, rfl, sc, a, b, zs, ds, ss, gps l, gws l, false, 0, W, st, gl, none, rfl, T1.ext s3, hS, FQ e3 ha, FQ e3 hb, is, ig, fun z hz => nm_okR (hl.names.2 z hz), lls, llg, fun b e => (by cases e), fun G4 tp e4 T4 told => ?_⟩
      have wh : IsWh ((gps l).map (·.2)) (gws l).length false 0 W := by
        obtain ⟨_, _, _, _, _, _, _, _, _, _, _, _, _, _, z⟩ := id hS
        exact z.fwh
      have e14 := e3.trans e4
      have hD4 := e4.lst (s3 _ _ hD)
      have hY4 := (WlL.ex hY (Ex.of s3)).ex e4
      have yl := hY.1
      rw [List.length_take] at yl
      rcases told with ⟨rp, c, b0, t, ht, hr, hb0, hR, hc, wd⟩ | ⟨cp, cx, cc, ht, _, hcp, hX, lot, _, _⟩
      · refine ⟨_, rfl, tp, _, 0, _, rfl, rfl, SqT.of ht, atI_nat (j := 0) rfl, rfl, _, rfl, ?_⟩
        rw [decide_eq_false (show ¬ V.str "way" = V.str "closed" from fun z => absurd (V.str.inj z) (by decide +kernel))]
        refine iteF ?_
        refine ⟨_, rfl, .inl ⟨rfl, _, SqL.of hD4⟩, _, rfl, 1, rfl, tp, _, rfl, SqT.of ht, ?_, fun q nq => ?_⟩
        · exact cutTl_no _ _
        rw [cutTl]
        have s5 := same_new (o := .tup [V.int ((none : Option Int).getD ((b0.2 : Nat) : Int)), V.ref rp]) nq
        have hq : (upd G4 q (.tup [V.int ((none : Option Int).getD ((b0.2 : Nat) : Int)), V.ref rp])) q = some (.tup [V.int ((none : Option Int).getD ((b0.2 : Nat) : Int)), V.ref rp]) := upd_same
        have hD5 := s5 _ _ hD4
        have hY5 := WlL.ex hY4 (Ex.of s5)
        have T5 := T4.ext s5
        have e15 := e14.trans (Ex.of s5)
        have hr5 := s5 _ _ hr
        generalize upd G4 q (.tup [V.int ((none : Option Int).getD ((b0.2 : Nat) : Int)), V.ref rp]) = G5 at s5 hq hD5 hY5 T5 e15 hr5 ⊢
        refine ⟨D, ys, _, rfl, rfl, hD5, len5 (by omega), _, _, rfl, e15.put' nD, Dk.Tabs.put T5 hD5, _, upd_same, ?_⟩
        have kp : KeepT G5 (upd G5 D (.lst (ys ++ [V.ref q]))) := KeepT.lst hD5
        rw [take_snoc' el]
        refine AL.snoc (AL.mono hY5 fun _ _ z => WlA.keep kp z) ⟨q, _, rp, rfl, kp _ _ hq, W, c, b0, t, ⟨wh, hS.small⟩, rfl, kp _ _ hr5, hb0, hR, hc, wd⟩
      · refine ⟨_, rfl, tp, _, 0, _, rfl, rfl, SqT.of ht, atI_nat (j := 0) rfl, rfl, _, rfl, ?_⟩
        rw [decide_eq_true (show V.str "closed" = V.str "closed" from rfl)]
        refine iteT ⟨_, rfl, ?_⟩
        refine k G4 D ys i e14 T4 nD hD4 hY4 (by have := hL.1; omega) fun l' el' o => ?_
        rw [el] at el'
        cases el'
        obtain ⟨c, t, hR, hc⟩ := opn_rp wh o
        have z : decide (c.1 ∈ gl) = false := lot.noe _ (lot_no lot hR)
        rw [decide_eq_true hc] at z
        cases z
    · rintro σ G1 ⟨y5, y6, rfl, e1, T1, ys, hD, hY⟩
      rw [hL.1] at hY
      exact ⟨_, rfl, k G1 D ys ls.length e1 T1 nD hD hY (Nat.le_refl _) fun l el => by
        rw [List.getElem?_eq_none (Nat.le_refl _)] at el
        cases el⟩
end
end Dk
namespace Dk
open PySem L2
section
variable {P : Program} {w : World} {K : PySem.W.Frag} {mg : Str → Option Value} {base : Heap}
/-! ### the two lambdas of way -/
def lamAt (i : Nat) : Expr := match (defBody sWay).getD 1 (.Pass ⟨0, 0, 0, 0⟩) with
  | .Assign _ (.Call _ as _ _) _ => as.getD i (.Constant .none 0 ⟨0, 0, 0, 0⟩)
  | _ => .Constant .none 0 ⟨0, 0, 0, 0⟩
def lamA (i : Nat) : Arguments := match lamAt i with
  | .Lambda a _ _ _ => a
  | _ => defArgs sWay
def lamB (i : Nat) : Expr := match lamAt i with
  | .Lambda _ b _ _ => b
  | _ => lamAt i
def lamS (i : Nat) : Scope := match lamAt i with
  | .Lambda _ _ s _ => s
  | _ => defScope sWay
def spLam1 (C CS : Addr) : List (Option V) → Sp := fun ws vs H Q _ => ∃ (s q : Addr), ws = [some (.ref s)] ∧ vs = [.ref q] ∧ spNextCells C CS [.ref s, .ref q] H Q E0
def spLam2 (K : PySem.W.Frag) : List (Option V) → Sp := fun ws vs H Q _ => ∃ (g q : Addr) (gl : List Str) (c : Cell), ws = [some (.ref g)] ∧ vs = [.ref q] ∧ H q = some (.tup [.str c.1, .int ((c.2 : Nat) : Int)]) ∧ Sq K H g (gl.map V.str) ∧ Q (.bl (decide (c.1 ∈ gl))) H
theorem ok_lam1 {f C CS fNc : Addr} {dNc : FuncData} {F : NdefX.NF} (h1 : F.scope = lamS 1) (h2 : F.params = lamA 1) (FNc : Fun K "next_cells" "next_cells" sNextCells fNc dNc) (bNc : Binds K dNc ["scene", "cell"] []) (gNc : mg "next_cells" = some (.ref fNc)) (GNc : FnOk P w K mg base CX0 4 fNc dNc ["scene", "cell"] (spNextCells C CS)) : LOk P w K mg base CX0 5 f F (lamB 1) ["cell"] ["scene"] (spLam1 C CS) := by
  obtain ⟨n, q, as, bd, sc, cl, c⟩ := F
  have h1 : sc = lamS 1 := h1
  have h2 : as = lamA 1 := h2
  subst h1 h2
  refine lok_of (N := ["cell", "scene"]) (show NdefX.NScope ["cell", "scene"] ["cell"] ["scene"] (lamS 1) from NdefX.nscope_by (by decide +kernel)) (fun m ct us hl => match us, hl with | [_], _ => rfl) (fun ws vs H Q E h => ?_) (fun A out s H vs ws Q E hr hl h => ?_)
  · obtain ⟨s, q, _, rfl, _⟩ := h
    rfl
  · obtain ⟨s, q, rfl, rfl, h⟩ := h
    refine ⟨_, pe_call GNc hr (by rfl) gNc FNc.kp bNc .nil pass0 (pa_cons (pv 1) (pa_cons (pv 0) pa_nil)), ?_⟩
    exact ⟨_, rfl, _, rfl, h⟩
theorem ok_lam2 {f : Addr} {F : NdefX.NF} (h1 : F.scope = lamS 2) (h2 : F.params = lamA 2) : LOk P w K mg base CX0 5 f F (lamB 2) ["cell"] ["goals"] (spLam2 K) := by
  obtain ⟨n, q, as, bd, sc, cl, c⟩ := F
  have h1 : sc = lamS 2 := h1
  have h2 : as = lamA 2 := h2
  subst h1 h2
  refine lok_of (N := ["cell", "goals"]) (show NdefX.NScope ["cell", "goals"] ["cell"] ["goals"] (lamS 2) from NdefX.nscope_by (by decide +kernel)) (fun m ct us hl => match us, hl with | [_], _ => rfl) (fun ws vs H Q E h => ?_) (fun A out s H vs ws Q E hr hl h => ?_)
  · obtain ⟨g, q, gl, c, _, rfl, _⟩ := h
    rfl
  · obtain ⟨g, q, gl, c', rfl, rfl, hq, hg, k⟩ := h
    refine ⟨_, pe_cmpR op_in_seq (pe_ix ix_tup (pv 0) pe_int (fun _ _ => rfl)) (pv 1) (by rfl), ?_⟩
    refine ⟨_, rfl, q, _, 0, _, rfl, rfl, SqT.of hq, atI_nat (j := 0) rfl, _, rfl, g, _, rfl, hg, rfl, flat_all _, ?_⟩
    show Q (V.bl (inV (.str c'.1) (gl.map V.str))) H
    rw [in_strs]
    exact k
abbrev FunW (K : PySem.W.Frag) (f : Addr) (fd : FuncData) : Prop := FunD K "way" "way" (defArgs sWay) (defBody sWay) (defScope sWay) [] [("begin", .non)] f fd
theorem scWay : FnScope ["scene", "starts", "goals", "begin", "row", "cells"] ["scene", "starts", "goals", "begin"] (defScope sWay) := ⟨rfl, rfl, rfl, by decide +kernel, rfl, by decide +kernel, by decide +kernel⟩
section
open LamX NdefX
/-- what way knows when it calls the search -/
def preW (X : Cx) (C CS : Addr) : L2.St → List V → Hp → VK → Prop := fun σ vs H Q => ∃ (sc g bg f1 f2 c1 c2 : Addr) (zs : List Str) (ds ss : List SS) (ps : List Pst) (ws : List Wtc) (mt : Bool) (rl W : Nat) (gl : List Str) (xs : List V) (B : List Cell), σ[0]? = some (some (.ref sc)) ∧ σ[2]? = some (some (.ref g)) ∧ vs = [.ref bg, .ref f1, .ref f2] ∧
  H f1 = some (LmO f1 (lmF X (lamA 1) (lamS 1) c1) (lamB 1)) ∧ H c1 = some (CodeO c1 (lmQ X)) ∧ H f2 = some (LmO f2 (lmF X (lamA 2) (lamS 2) c2) (lamB 2)) ∧ H c2 = some (CodeO c2 (lmQ X)) ∧ SceneAt C CS H sc zs ds ss ps ws mt rl W ∧ Sq X.K H g (gl.map V.str) ∧ H bg = some (.lst xs) ∧ CeL H xs B ∧ B.Nodup ∧ (∀ b ∈ B, b.1 ∈ zs ∧ b.2 < W) ∧
  (∀ (H' : Hp) (tp rp cp : Addr) (ys : List V) (c : Cell) (t : List Cell), Same H H' → H tp = none → H' tp = some (.tup [.ref rp, .ref cp]) → H' rp = some (.lst ys) → CeL H' ys (c :: t).reverse → Rp (nxS zs ds ss ps ws mt rl W) B (c :: t) → decide (c.1 ∈ gl) = true → IsL (nxS zs ds ss ps ws mt rl W) B (fun c => decide (c.1 ∈ gl)) (some t.length) → t.length < 100000 → WayD (nxS zs ds ss ps ws mt rl W) B (fun c => decide (c.1 ∈ gl)) c t → Q (.ref tp) H') ∧
  (∀ (H' : Hp) (tp cp : Addr) (ys : List V) (cs : List Cell), Same H H' → H tp = none → H' tp = some (.tup [.non, .ref cp]) → H cp = none → H' cp = some (.lst ys) → CeL H' ys cs → Lot (nxS zs ds ss ps ws mt rl W) B (fun c => decide (c.1 ∈ gl)) cs → (∀ c ∈ cs, c.1 ∈ zs ∧ c.2 < W) → IsL (nxS zs ds ss ps ws mt rl W) B (fun c => decide (c.1 ∈ gl)) none → LotD (nxS zs ds ss ps ws mt rl W) B (fun c => decide (c.1 ∈ gl)) cs → Q (.ref tp) H')
theorem pre_way {X : Cx} {C CS fNc : Addr} {dNc : FuncData} (hP : X.prog = P) (hw : X.w = w) (hK : X.K = K) (hmg : X.mg = mg) (hb : X.base = base) (hs : X.env.scope = defScope sWay) (hN : X.N = (["scene", "starts", "goals", "begin", "row", "cells"] : List Str)) (FNc : Fun K "next_cells" "next_cells" sNextCells fNc dNc) (bNc : Binds K dNc ["scene", "cell"] []) (gNc : mg "next_cells" = some (.ref fNc)) (GNc : FnOk P w K mg base CX0 4 fNc dNc ["scene", "cell"] (spNextCells C CS))
    (pins : List (Addr × Obj)) (s : Shared) (σ : L2.St) (H : Hp) (vs : List V) (Q : VK) (J : Inv X pins σ H s) (h : preW X C CS σ vs H Q) : spSearchedU P w K mg base s vs H Q E0 := by
  obtain ⟨sc, g, bg, f1, f2, c1, c2, zs, ds, ss, ps, ws, mt, rl, W, gl, xs, B, e0, e2, rfl, a1, a2, a3, a4, hS, hg, hbg, hX, nd, okB, kf, kn⟩ := h
  rw [hK] at hg
  have W0 : 0 < W := by
    obtain ⟨ok, dx, h, p, w', o, hd, l, m, xs, ys, os, ls, ms, a⟩ := id hS
    exact a.fwh.1
  have z8 : zs.length ≤ 8 := hS.1.eight
  have Ws := hS.small
  have f1s : ndefB X.env.scope (lamS 1) ["scene"] = true := by
    rw [hs]
    decide +kernel
  have f2s : ndefB X.env.scope (lamS 2) ["goals"] = true := by
    rw [hs]
    decide +kernel
  have k1 := cells_of J (Caps.made (scope := lamS 1) (fr := ["scene"]) (js := [0]) J.ok (ndef_free f1s) (ndef_fr f1s) (by rw [hN]; rfl))
  have k2 := cells_of J (Caps.made (scope := lamS 2) (fr := ["goals"]) (js := [2]) J.ok (ndef_free f2s) (ndef_fr f2s) (by rw [hN]; rfl))
  have w1 : [0].map (slotAt σ) = [some (V.ref sc)] := by
    show [slotAt σ 0] = _
    rw [slotAt_of e0]
  have w2 : [2].map (slotAt σ) = [some (V.ref g)] := by
    show [slotAt σ 2] = _
    rw [slotAt_of e2]
  rw [w1] at k1
  rw [w2] at k2
  refine ⟨bg, f1, f2, xs, B, cellU zs W, nxS zs ds ss ps ws mt rl W, fun c => decide (c.1 ∈ gl), fun c => c.1 ∈ zs ∧ c.2 < W, rfl, ?_, ?_, hbg, hX, nd, okB, fun c _ => nxS_ok W0 c, fun c hc => cellU_mem hc, ?_, kf, kn⟩
  · refine ⟨lmF X (lamA 1) (lamS 1) c1, lamB 1, ["scene"], _, spLam1 C CS, ok_lam1 rfl rfl FNc bNc gNc GNc, k1, a1, a2, ?_⟩
    rintro vs G R ⟨q, c, rfl, sG, hq, hc, kc⟩
    exact ⟨sc, q, rfl, rfl, sc, q, zs, ds, ss, ps, ws, mt, rl, W, c, rfl, hS.same sG, hq, hc.1, hc.2, kc⟩
  · refine ⟨lmF X (lamA 2) (lamS 2) c2, lamB 2, ["goals"], _, spLam2 K, ok_lam2 rfl rfl, k2, a3, a4, ?_⟩
    rintro vs G R ⟨q, c, rfl, sG, hq, hc, kc⟩
    exact ⟨g, q, gl, c, rfl, rfl, hq, hg.same sG, kc G (fun _ _ z => z)⟩
  · rw [cellU_len]
    calc zs.length * W ≤ 8 * 1440 := Nat.mul_le_mul z8 Ws
      _ ≤ 100000 := by decide
theorem ok_wayQ {T : List (Addr × Str)} {cs : Nat → Addr} {f c P' C CS fNa fBg fSr fNc fTw : Addr} {fd dNa dBg dSr dNc dTw : FuncData} (F : FunW K f fd) (hcode : codeA K f = some c) (TB : TabB base mg c P') (hmT : (P', wayQ) ∈ T) (huT : ∀ p ∈ T, p.1 = P' → p.2 = wayQ) (FNa : Fun K "need_asked" "need_asked" sNeedAsked fNa dNa) (bNa : Binds K dNa ["scene", "starts", "goals", "begin"] []) (gNa : mg "need_asked" = some (.ref fNa)) (GNa : FnOk P w K mg base CX0 5 fNa dNa ["scene", "starts", "goals", "begin"] (spCalm (spNeedAskedX K C CS cs))) (FBg : Fun K "beginnings" "beginnings" sBegin fBg dBg) (bBg : Binds K dBg ["scene", "starts", "begin"] []) (gBg : mg "beginnings" = some (.ref fBg)) (GBg : FnOk P w K mg base CX0 4 fBg dBg ["scene", "starts", "begin"] (spBeginQ K C CS)) (FSr : Fun K "searched" "searched" sSearched fSr dSr) (bSr : Binds K dSr ["beginnings", "behind", "is_end"] []) (gSr : mg "searched" = some (.ref fSr)) (GSr : FnS P w K mg base CX0 6 fSr dSr ["beginnings", "behind", "is_end"] (spSearchedU P w K mg base)) (FNc : Fun K "next_cells" "next_cells" sNextCells fNc dNc) (bNc : Binds K dNc ["scene", "cell"] []) (gNc : mg "next_cells" = some (.ref fNc)) (GNc : FnOk P w K mg base CX0 4 fNc dNc ["scene", "cell"] (spNextCells C CS)) (FTw : Fun K "told_way" "told_way" sToldWay fTw dTw) (bTw : Binds K dTw ["row", "begin"] []) (gTw : mg "told_way" = some (.ref fTw)) (GTw : FnOk P w K mg base CX0 1 fTw dTw ["row", "begin"] spTold) : FnOk P w K mg base CX0 8 f fd ["scene", "starts", "goals", "begin"] (spWayQ K C CS T) := by
  obtain ⟨oc, od, dV, kV, doc, pm, an, cdv, ct, osl, rfl, lk, hcd, _, _⟩ := F.ex
  have hcv : cdv = .ref c := codeA_of lk hcode
  subst hcv
  refine fn_of lk hcd scWay (fun vs H Q E h => ?_) (fun A outer s H vs Q E hr h => ?_)
  · obtain ⟨sc, st, gl, zs, ds, ss, ps, ws, mt, rl, W, sl, gs, ob, rfl, _⟩ := h
    rfl
  · obtain ⟨sc, st, gl, zs, ds, ss, ps, ws, mt, rl, W, sl, gs, ob, rfl, hT, hS, hst, hgl, is, ig, zok, ls, lg, hb, k⟩ := h
    have key : ∃ t, PSs (cxOf CX0 P w K mg base ["scene", "starts", "goals", "begin", "row", "cells"] "way" (defScope sWay) f (.ref c) A outer s H E).nox (defBody sWay) t ∧ t { nx := fun _ H' => Q .non H', rt := Q } (L2.start ["scene", "starts", "goals", "begin", "row", "cells"] [.ref sc, .ref st, .ref gl, optI ob]) H := by
      have eq : lmQ (cxOf CX0 P w K mg base ["scene", "starts", "goals", "begin", "row", "cells"] "way" (defScope sWay) f (.ref c) A outer s H E).nox = wayQ := by
        show (("way" : Str) ++ ".<locals>.") ++ "<lambda>" = wayQ
        decide +kernel
      have hm : (P', lmQ (cxOf CX0 P w K mg base ["scene", "starts", "goals", "begin", "row", "cells"] "way" (defScope sWay) f (.ref c) A outer s H E).nox) ∈ T := by
        rw [eq]
        exact hmT
      have hu : ∀ p ∈ T, p.1 = P' → p.2 = lmQ (cxOf CX0 P w K mg base ["scene", "starts", "goals", "begin", "row", "cells"] "way" (defScope sWay) f (.ref c) A outer s H E).nox := fun p hp e => by
        rw [eq]
        exact huT p hp e
      refine ⟨_, pss_cons (ps_expr (pe_call GNa (hr.mono (by decide)) (by rfl) gNa FNa.kp bNa .nil pass0 (pa_cons (pv 0) (pa_cons (pv 1) (pa_cons (pv 2) (pa_cons (pv 3) pa_nil))))))
        (pss_cons (ps_asg (pe_callSt (pre := preW _ C CS) GSr (hr.mono (by decide)) (by rfl) gSr FSr.kp bSr pass0 (pre_way rfl rfl rfl rfl rfl rfl rfl FNc bNc gNc GNc) (pa_cons (pe_call GBg (hr.mono (by decide)) (by rfl) gBg FBg.kp bBg .nil pass0 (pa_cons (pv 0) (pa_cons (pv 1) (pa_cons (pv 3) pa_nil)))) (pa_cons (pe_lmv (as := lamA 1) (be := lamB 1) (sc := lamS 1) TB rfl hm hu rfl (ndef_free (fr := ["scene"]) (show ndefB (defScope sWay) (lamS 1) ["scene"] = true by decide +kernel))) (pa_cons (pe_lmv (as := lamA 2) (be := lamB 2) (sc := lamS 2) TB rfl hm hu rfl (ndef_free (fr := ["goals"]) (show ndefB (defScope sWay) (lamS 2) ["goals"] = true by decide +kernel))) pa_nil))))
          (pg_tup rfl (pgs_cons (pg_name (i := 4) scWay.nd rfl (Or.inl rfl)) (pgs_cons (pg_name (i := 5) scWay.nd rfl (Or.inl rfl)) pgs_nil))))
        (pss_cons (ps_if (pt_cmpR op_isN (pv 4) pe_non (nomark _)) (pss_one (ps_ret (pe_tup (pa_cons pe_str (pa_cons (pv 5) pa_nil))))) pss_nil)
        (pss_one (ps_ret (pe_call GTw (hr.mono (by decide)) (by rfl) gTw FTw.kp bTw .nil pass0 (pa_cons (pv 4) (pa_cons (pv 3) pa_nil))))))), ?_⟩
      refine ⟨_, rfl, _, rfl, _, rfl, _, rfl, sc, st, gl, zs, ds, ss, ps, ws, mt, rl, W, sl, gs, ob, rfl, hS, hst, hgl, fun z hz => zok z (is z hz), fun z hz => zok z (ig z hz), ls, lg, fun b e => beat_small (hb b e), fun _ H1 s1 => ?_, fun j v e => by
        rw [askW_calm (fun z hz => (List.mem_append.mp hz).elim (is z) (ig z)) hb] at e
        cases e⟩
      have Ws := hS.small
      have W0 : 0 < W := by
        obtain ⟨ok, dx, h, p, w', o, hd, l, m, xs, ys, os, ls, ms, a⟩ := id hS
        exact a.fwh.1
      refine ⟨_, rfl, _, rfl, _, rfl, sc, st, zs, ds, ss, ps, ws, mt, rl, W, sl, ob, rfl, hS.same s1, Ws, hst.same s1, fun H2 bg xs s2 nbg hbg hX => ?_⟩
      have s02 := s1.trans s2
      have T2 : Tabs T H2 := hT.ext s02
      refine ⟨T2, fun f1 c1 H3 x3 T3 n3 g3 d3 m3 => ?_⟩
      refine ⟨T3, fun f2 c2 H4 x4 T4 n4 g4 d4 m4 => ?_⟩
      have e24 : Ex H2 H4 := ⟨x3.trans x4, fun b hb => m3 b (m4 b hb)⟩
      have e04 : Ex H H4 := (Ex.of s02).trans e24
      have hX4 := CeL.keep hX (ExtN.keepT e24.ex)
      refine ⟨sc, gl, bg, f1, f2, c1, c2, zs, ds, ss, ps, ws, mt, rl, W, gs, xs, begAll zs ss ps ws mt rl W sl ob, rfl, rfl, rfl, x4 _ _ g3 lm_tbl, x4 _ _ d3 codeO_ne, g4, d4, hS.ext e04.ex, hgl.exN e04, e24.ex _ _ hbg (fun _ z => by cases z), hX4, begAll_nodup hS.1.names.1, begAll_ok W0, ?_, ?_⟩
      · intro H5 tp rp cp ys c' t s5 ntp htp hrp hR hRp hen hL tl wd
        refine ⟨tp, _, rfl, SqT.of htp, rfl, _, _, rfl, _, _, rfl, rfl, ?_⟩
        refine ⟨_, rfl, rfl, _, rfl, iteF ?_⟩
        obtain ⟨b0, r0, er⟩ : ∃ b0 r0, (c' :: t).reverse = b0 :: r0 := by
          cases e : (c' :: t).reverse with
          | nil =>
            have := congrArg List.length e
            rw [List.length_reverse] at this
            cases this
          | cons x l => exact ⟨x, l, rfl⟩
        have e05 : Ex H H5 := e04.trans (Ex.of s5)
        have T5 : Tabs T H5 := T4.ext s5
        refine ⟨_, rfl, _, rfl, rp, ys, _, b0, r0, ob, rfl, hrp, by rw [← er]; exact hR, er, ?_, fun H6 tp6 rp6 s6 ntp6 htp6 hrp6 => ?_⟩
        · rw [List.length_reverse, List.length_cons]
          omega
        · exact k H6 tp6 (e05.trans (Ex.of s6)) (T5.ext s6) (.inl ⟨rp6, c', b0, t, htp6, hrp6, by rw [er]; rfl, hRp, of_decide_eq_true hen, wd⟩)
      · intro H5 tp cp ys cs s5 ntp htp ncp hcp hC lot okc hL ld
        refine ⟨tp, _, rfl, SqT.of htp, rfl, _, _, rfl, _, _, rfl, rfl, ?_⟩
        refine ⟨_, rfl, rfl, _, rfl, iteT ⟨_, rfl, by show 2 ≤ sizeLine; decide, fun tq ntq => ?_⟩⟩
        have e05 : Ex H H5 := e04.trans (Ex.of s5)
        have s6 := same_new (o := .tup [V.str "closed", V.ref cp]) ntq
        exact k _ tq (e05.trans (Ex.of s6)) ((T4.ext s5).ext s6) (.inr ⟨cp, ys, cs, upd_same, e04.mono _ ncp, s6 _ _ hcp, CeL.same hC s6, lot, okc, ld⟩)
    obtain ⟨t, h1, h2⟩ := key
    exact ⟨t, h1.nox, h2⟩
end
end
end Dk
namespace Dk
open PySem PySem.Spec PyProof.Rows L2
theorem FewT.ex {zs : List Str} {ds ss : List SS} {gs : List Gd} {st gl : List Str} {H0 H H' : Hp} {tp : Addr} (h : FewT zs ds ss gs st gl H0 H tp) (e : Ex H H') : FewT zs ds ss gs st gl H0 H' tp := by
  rcases h with ⟨bt, rp, h1, h2, h3⟩ | ⟨np, wl, i, l, ys, h1, h2, h3, h4, h5, h6⟩
  · exact .inl ⟨bt, rp, e.tup h1, h2.ex e, h3⟩
  · exact .inr ⟨np, wl, i, l, ys, e.tup h1, h2, e.tup h3, h4, e.lst h5, h6.ex e⟩
/-- all that a law of bars carries along -/
structure Brs (C b l h m t f lm lr mk : Addr) (T : List (Addr × Str)) (zs : List Str) (ds ss : List SS) (xs ys : List V) (ps : List Pst) (rs : List Nat) (H : Hp) : Prop where
  bx : Box H b l
  tb : LamX.Tabs T H
  ma : MA b H m t f lm zs ds ss xs ys ps (gws (ps.zip rs)) false 0
  ha : HouseAt C H h zs (lnk zs (both ds)) (lnk zs ss)
  nr : lr ≠ b
  hr : H lr = some (.lst (zs.map V.str))
  nk : mk ≠ b
  hk : H mk = some (.lst (rs.map natV))
theorem Brs.ext {C b l h m t f lm lr mk : Addr} {T : List (Addr × Str)} {zs : List Str} {ds ss : List SS} {xs ys : List V} {ps : List Pst} {rs : List Nat} {H H' : Hp} (a : Brs C b l h m t f lm lr mk T zs ds ss xs ys ps rs H) (e : Ex H H') (hT : LamX.Tabs T H') : Brs C b l h m t f lm lr mk T zs ds ss xs ys ps rs H' :=
  ⟨a.bx.ex e, hT, a.ma.ext e, a.ha.ext e, a.nr, e.lst a.hr, a.nk, e.lst a.hk⟩
theorem Brs.same {C b l h m t f lm lr mk : Addr} {T : List (Addr × Str)} {zs : List Str} {ds ss : List SS} {xs ys : List V} {ps : List Pst} {rs : List Nat} {H H' : Hp} (a : Brs C b l h m t f lm lr mk T zs ds ss xs ys ps rs H) (e : Same H H') : Brs C b l h m t f lm lr mk T zs ds ss xs ys ps rs H' := a.ext (Ex.of e) (a.tb.ext e)
theorem Brs.sav {C b l h m t f lm lr mk : Addr} {T : List (Addr × Str)} {zs : List Str} {ds ss : List SS} {xs ys : List V} {ps : List Pst} {rs : List Nat} {H H' : Hp} (a : Brs C b l h m t f lm lr mk T zs ds ss xs ys ps rs H) (v : Sav b H H') (hB : Box H' b l) : Brs C b l h m t f lm lr mk T zs ds ss xs ys ps rs H' :=
  ⟨hB, Dk.Tabs.sav a.tb a.bx v, a.ma.sav a.bx v, a.ha.sav a.bx v, a.nr, v _ _ a.nr a.hr, a.nk, v _ _ a.nk a.hk⟩
/-- a row of posts and their reaches, besides -/
structure Pls (b p r : Addr) (xs : List V) (ps : List Pst) (rs : List Nat) (H : Hp) : Prop where
  np : p ≠ b
  hp : H p = some (.lst xs)
  hP : PsL H xs ps
  nr : r ≠ b
  hr : H r = some (.lst (rs.map natV))
theorem Pls.ext {b p r : Addr} {xs : List V} {ps : List Pst} {rs : List Nat} {H H' : Hp} (a : Pls b p r xs ps rs H) (e : Ex H H') : Pls b p r xs ps rs H' := ⟨a.np, e.lst a.hp, PsL.keep a.hP (ExtN.keepT e.ex), a.nr, e.lst a.hr⟩
theorem Pls.sav {b l p r : Addr} {xs : List V} {ps : List Pst} {rs : List Nat} {H H' : Hp} (a : Pls b p r xs ps rs H) (hB : Box H b l) (v : Sav b H H') : Pls b p r xs ps rs H' := ⟨a.np, v _ _ a.np a.hp, PsL.keep a.hP (v.keepT hB), a.nr, v _ _ a.nr a.hr⟩
theorem Brs.pls {C b l h m t f lm lr mk : Addr} {T : List (Addr × Str)} {zs : List Str} {ds ss : List SS} {xs ys : List V} {ps : List Pst} {rs : List Nat} {H : Hp} (a : Brs C b l h m t f lm lr mk T zs ds ss xs ys ps rs H) : Pls b f mk xs ps rs H := ⟨a.ma.nf, a.ma.fp, a.ma.fps, a.nk, a.hk⟩
/-- what is told of all posts, and whether a way is there -/
theorem few_bars {zs : List Str} {ds ss : List SS} {gs : List Gd} {st gl : List Str} {i : Nat} {l : List Gd} (h : Few zs ds ss gs st gl i l) : ¬ Opn zs ds ss gs st gl := fun o =>
  h.2.1 ((Dim.of_sub (mem_lots.mp (List.mem_of_getElem? h.1))).opn o)
theorem way_opn {zs : List Str} {ds ss : List SS} {ps : List Pst} {rs : List Nat} {st gl : List Str} {W : Nat} (e : rs.length = ps.length) (wh : IsWh (ps.map (·.2)) (gws (ps.zip rs)).length false 0 W) {o : Option Int} {H0 H : Hp} {tp : Addr}
    (h : ToldWy zs W (nxS zs ds ss ps (gws (ps.zip rs)) false 0 W) (begAll zs ss ps (gws (ps.zip rs)) false 0 W st none) gl o H0 H tp) :
    (Opn zs ds ss (ps.zip rs) st gl ∧ ∃ us, H tp = some (.tup (V.str "way" :: us))) ∨ (¬ Opn zs ds ss (ps.zip rs) st gl ∧ ∃ us, H tp = some (.tup (V.str "closed" :: us))) := by
  rcases h with ⟨rp, c, bb, t, h1, h2, h3, h4, h5, _⟩ | ⟨cp, ys, cs, h1, h2, h3, h4, h5, _⟩
  · exact .inl ⟨rp_opn (gs := ps.zip rs) (by rw [zip_gps e]; exact wh) (by rw [zip_gps e]; exact h4) h5, _, h1⟩
  · refine .inr ⟨fun o => ?_, _, h1⟩
    obtain ⟨c, t, r, hc⟩ := opn_rp (gs := ps.zip rs) (by rw [zip_gps e]; exact wh) o
    rw [zip_gps e] at r
    have := h5.noe c (lot_no h5 r)
    rw [decide_eq_true hc] at this
    cases this
theorem few_opn {zs : List Str} {ds ss : List SS} {gs : List Gd} {st gl : List Str} {H0 H : Hp} {tp : Addr} (h : FewT zs ds ss gs st gl H0 H tp) :
    (Opn zs ds ss gs st gl ∧ ∃ (bt : Int) (rp : Addr), H tp = some (.tup [V.str "open", .int bt, .ref rp]) ∧ ToldOp zs ds ss gs st gl H bt rp) ∨ (¬ Opn zs ds ss gs st gl ∧ ∃ np wl, H tp = some (.tup [V.str "bars", .ref np, .ref wl])) := by
  rcases h with ⟨bt, rp, h1, h2, h3⟩ | ⟨np, wl, i, l, ys, h1, h2, _⟩
  · exact .inl ⟨h2.opn, bt, rp, h1, h2⟩
  · exact .inr ⟨few_bars h2, np, wl, h1⟩
/-- more is never fewer -/
theorem many_less {zs : List Str} {ds ss : List SS} {st gl : List Str} {gs gs' : List Gd} {u v : Option Nat} (h : ∀ l, l.Sublist gs → ∃ l', l'.Sublist gs' ∧ Dim l l' ∧ l'.length = l.length) (a : FewM zs ds ss gs st gl u) (b : FewM zs ds ss gs' st gl v) : ∀ n, u = some n → ∃ m, v = some m ∧ m ≤ n := fun n e => by
  obtain ⟨n', m, e1, e2, e3⟩ := few_less h a b (by rw [e]; intro z; cases z)
  rw [e] at e1
  obtain rfl := Option.some.inj e1
  exact ⟨m, e2, e3⟩
end Dk
namespace Dk
open PySem L2
section
variable {P : Program} {w : World} {K : PySem.W.Frag} {mg : Str → Option Value} {base : Heap}
theorem scLaw : FnScope ["_law_script", "_law_box_here", "_law_m", "_law_house_here", "_law_rooms", "_law_marks", "_law_walk", "_law_at", "_law_posts", "_law_more", "_law_turn", "_law_starts", "_law_goals", "_law_told", "_law_some", "_law_now", "_law_scene_here", "_law_closed", "_law_one"] ["_law_script"] (defScope sLaw) := ⟨rfl, rfl, rfl, by decide +kernel, rfl, by decide +kernel, by decide +kernel⟩
def spLaw (P' : Addr) (K : PySem.W.Frag) : Sp := fun vs H Q _ => ∃ (a : Addr) (ns : List Int), vs = [.ref a] ∧ LamX.Tabs [(P', wayQ)] H ∧ SqL K H a (ns.map V.int) ∧ ns.length ≤ 63 ∧ ∀ H', Q (.bl true) H'
theorem ok_law {f P' C CS fBx fGu fMd fRe fRn fDr fOf fMa fFw fIy fWy fS : Addr} {fd dBx dGu dMd dRe dRn dDr dOf dMa dFw dIy dWy dS : FuncData} {cs : Nat → Addr} (F : Fun K "law" "law" sLaw f fd) {dsS dsWy : List Value} (FBx : Fun K "_law_box" "_law_box" sBox fBx dBx) (bBx : Binds K dBx ["_law_script"] []) (gBx : mg "_law_box" = some (.ref fBx)) (GBx : FnOk P w K mg base CX0 1 fBx dBx ["_law_script"] (spBox K)) (FGu : Fun K "_law_guarded" "_law_guarded" s_law_guarded fGu dGu) (bGu : Binds K dGu ["_law_box_here", "_law_rooms", "_law_posts", "_law_size"] []) (gGu : mg "_law_guarded" = some (.ref fGu)) (GGu : FnOk P w K mg base CX0 6 fGu dGu ["_law_box_here", "_law_rooms", "_law_posts", "_law_size"] spLGuarded) (FMd : Fun K "_law_made" "_law_made" sLawMade fMd dMd) (bMd : Binds K dMd ["_law_house_here"] []) (gMd : mg "_law_made" = some (.ref fMd)) (GMd : FnOk P w K mg base CX0 8 fMd dMd ["_law_house_here"] (spMade C)) (FRe : Fun K "_law_reaches" "_law_reaches" s_law_reaches fRe dRe) (bRe : Binds K dRe ["_law_m"] []) (gRe : mg "_law_reaches" = some (.ref fRe)) (GRe : FnOk P w K mg base CX0 1 fRe dRe ["_law_m"] spLReaches) (FRn : Fun K "_law_round" "_law_round" sLawRound fRn dRn) (bRn : Binds K dRn ["_law_box_here", "_law_house_here", "_law_limit"] []) (gRn : mg "_law_round" = some (.ref fRn)) (GRn : FnOk P w K mg base CX0 3 fRn dRn ["_law_box_here", "_law_house_here", "_law_limit"] spLawRound) (FDr : Fun K "_law_draw" "_law_draw" sDraw fDr dDr) (bDr : Binds K dDr ["_law_box_here", "_law_many_here"] []) (gDr : mg "_law_draw" = some (.ref fDr)) (GDr : FnOk P w K mg base CX0 1 fDr dDr ["_law_box_here", "_law_many_here"] spDraw) (FOf : Fun K "_law_of" "_law_of" sOf fOf dOf) (bOf : Binds K dOf ["_law_box_here", "_law_some"] []) (gOf : mg "_law_of" = some (.ref fOf)) (GOf : FnOk P w K mg base CX0 2 fOf dOf ["_law_box_here", "_law_some"] spOf) (FMa : Fun K "_law_many" "_law_many" s_law_many fMa dMa) (bMa : Binds K dMa ["_law_told"] []) (gMa : mg "_law_many" = some (.ref fMa)) (GMa : FnOk P w K mg base CX0 1 fMa dMa ["_law_told"] spLMany) (FFw : Fun K "fewest" "fewest" s_fewest fFw dFw) (bFw : Binds K dFw ["house", "posts", "reaches", "starts", "goals"] []) (gFw : mg "fewest" = some (.ref fFw)) (GFw : FnOk P w K mg base CX0 12 fFw dFw ["house", "posts", "reaches", "starts", "goals"] (spFewest K C CS [(P', wayQ)])) (FIy : Fun K "is_way" "is_way" sIsWay fIy dIy) (bIy : Binds K dIy ["scene", "starts", "goals", "beat", "rooms"] []) (gIy : mg "is_way" = some (.ref fIy)) (GIy : FnOk P w K mg base CX0 5 fIy dIy ["scene", "starts", "goals", "beat", "rooms"] (spIsWay C CS)) (FWy : FunWy K fWy dWy) (gWy : mg "way" = some (.ref fWy)) (GWy : FnOk P w K mg base CX0 8 fWy dWy ["scene", "starts", "goals", "begin"] (spWayQ K C CS [(P', wayQ)])) (vWy : Vals [V.non] dsWy) (bWy : Binds K dWy ["scene", "starts", "goals", "begin"] dsWy) (vS4 : Vals [V.bl false, V.int 0] dsS) (bS4 : Binds K dS ["self", "house", "posts", "watchers", "meet", "relief"] dsS) (mkS : Mk K CS fS) (GS : FnOk P w K mg base CX0 8 fS dS ["self", "house", "posts", "watchers", "meet", "relief"] (spScInit C CS)) (gS : mg "Scene" = some (.ref CS)) (m_len : mg "len" = none) (m_any : mg "any" = none) (m_list : mg "list" = none) (m_range : mg "range" = none) : FnOk P w K mg base CX0 13 f fd ["_law_script"] (spLaw P' K) := by
  refine F.ok scLaw (fun vs H Q E h => ?_) (fun cdv A outer s H vs Q E hr h => ?_)
  · obtain ⟨a, ns, rfl, _⟩ := h
    rfl
  · obtain ⟨a, ns, rfl, hT, hS, hlen, k⟩ := h
    have key : ∃ t, PSs (cxOf CX0 P w K mg base ["_law_script", "_law_box_here", "_law_m", "_law_house_here", "_law_rooms", "_law_marks", "_law_walk", "_law_at", "_law_posts", "_law_more", "_law_turn", "_law_starts", "_law_goals", "_law_told", "_law_some", "_law_now", "_law_scene_here", "_law_closed", "_law_one"] "law" (defScope sLaw) f cdv A outer s H E).nox (defBody sLaw) t ∧ t { nx := fun _ H' => Q .non H', rt := Q } (L2.start ["_law_script", "_law_box_here", "_law_m", "_law_house_here", "_law_rooms", "_law_marks", "_law_walk", "_law_at", "_law_posts", "_law_more", "_law_turn", "_law_starts", "_law_goals", "_law_told", "_law_some", "_law_now", "_law_scene_here", "_law_closed", "_law_one"] [.ref a]) H := by
      refine ⟨_, pss_cons (ps_set (i := 1) scLaw.nd rfl (Or.inl rfl) (pe_call GBx (hr.mono (by decide)) (by rfl) gBx FBx.kp bBx .nil pass0 (pa_cons (pv 0) pa_nil)))
      (pss_cons (ps_set (i := 2) scLaw.nd rfl (Or.inl rfl) (pe_call GGu (hr.mono (by decide)) (by rfl) gGu FGu.kp bGu .nil pass0 (pa_cons (pv 1) (pa_cons pe_int (pa_cons pe_int (pa_cons pe_int pa_nil))))))
      (pss_cons (ps_par3 (i := 3) (j := 4) (l := 5) (by rfl) scLaw.nd rfl rfl rfl (by decide) (by decide) (by decide) rfl rfl rfl (pa_cons (pe_call GMd (hr.mono (by decide)) (by rfl) gMd FMd.kp bMd .nil pass0 (pa_cons (pe_dget (hu_of hr) (pv 2) pe_str (fun _ _ => rfl)) pa_nil)) (pa_cons (pe_ix ix_tup (pe_dget (hu_of hr) (pv 2) pe_str (fun _ _ => rfl)) pe_int (fun _ _ => rfl)) (pa_cons (pe_call GRe (hr.mono (by decide)) (by rfl) gRe FRe.kp bRe .nil pass0 (pa_cons (pv 2) pa_nil)) pa_nil))) (by rfl))
      (pss_cons (ps_par (i := 6) (j := 7) (by rfl) scLaw.nd rfl rfl (by decide) rfl rfl (pa_cons (pe_call GRn (hr.mono (by decide)) (by rfl) gRn FRn.kp bRn .nil pass0 (pa_cons (pv 1) (pa_cons (pe_dget (hu_of hr) (pv 2) pe_str (fun _ _ => rfl)) (pa_cons pe_int pa_nil)))) (pa_cons (pe_call GDr (hr.mono (by decide)) (by rfl) gDr FDr.kp bDr .nil pass0 (pa_cons (pv 1) (pa_cons (pe_op op_add (pe_callB call_len_seq (by rfl) m_len PySem.boot_len (pa_cons (pv 5) pa_nil)) pe_int) pa_nil))) pa_nil)) (by rfl))
      (pss_cons (ps_set (i := 8) scLaw.nd rfl (Or.inl rfl) (pe_op op_cat (pe_op op_cat (pe_slice sl_list (pe_dget (hu_of hr) (pv 2) pe_str (fun _ _ => rfl)) po_none (po_some (pv 7))) (pe_lst (pa_cons (pe_tup (pa_cons pe_str (pa_cons (pv 6) (pa_cons (pe_call GDr (hr.mono (by decide)) (by rfl) gDr FDr.kp bDr .nil pass0 (pa_cons (pv 1) (pa_cons (pe_callB call_len_seq (by rfl) m_len PySem.boot_len (pa_cons (pv 6) pa_nil)) pa_nil))) pa_nil)))) pa_nil))) (pe_slice sl_list (pe_dget (hu_of hr) (pv 2) pe_str (fun _ _ => rfl)) (po_some (pv 7)) po_none)))
      (pss_cons (ps_set (i := 9) scLaw.nd rfl (Or.inl rfl) (pe_op op_cat (pe_op op_cat (pe_slice sl_list (pv 5) po_none (po_some (pv 7))) (pe_lst (pa_cons (pe_call GDr (hr.mono (by decide)) (by rfl) gDr FDr.kp bDr .nil pass0 (pa_cons (pv 1) (pa_cons pe_int pa_nil))) pa_nil))) (pe_slice sl_list (pv 5) (po_some (pv 7)) po_none)))
      (pss_cons (ps_for PassesOwn.never rfl (pi_range1 (by rfl) m_range (pa_cons pe_int pa_nil)) (pg_name (i := 10) scLaw.nd rfl (Or.inl rfl))
      (pss_cons (ps_par (i := 11) (j := 12) (by rfl) scLaw.nd rfl rfl (by decide) rfl rfl (pa_cons (pe_lst (pa_cons (pe_call GOf (hr.mono (by decide)) (by rfl) gOf FOf.kp bOf .nil pass0 (pa_cons (pv 1) (pa_cons (pv 4) pa_nil))) pa_nil)) (pa_cons (pe_lst (pa_cons (pe_call GOf (hr.mono (by decide)) (by rfl) gOf FOf.kp bOf .nil pass0 (pa_cons (pv 1) (pa_cons (pv 4) pa_nil))) pa_nil)) pa_nil)) (by rfl))
      (pss_cons (ps_set (i := 13) scLaw.nd rfl (Or.inl rfl) (pe_call GFw (hr.mono (by decide)) (by rfl) gFw FFw.kp bFw .nil pass0 (pa_cons (pv 3) (pa_cons (pe_dget (hu_of hr) (pv 2) pe_str (fun _ _ => rfl)) (pa_cons (pv 5) (pa_cons (pv 11) (pa_cons (pv 12) pa_nil)))))))
      (pss_cons (ps_set (i := 14) scLaw.nd rfl (Or.inl rfl) (pe_lst (pa_cons (pe_call GMa (hr.mono (by decide)) (by rfl) gMa FMa.kp bMa .nil pass0 (pa_cons (pe_call GFw (hr.mono (by decide)) (by rfl) gFw FFw.kp bFw .nil pass0 (pa_cons (pv 3) (pa_cons (pv 8) (pa_cons (pv 9) (pa_cons (pv 11) (pa_cons (pv 12) pa_nil)))))) pa_nil)) pa_nil)))
      (pss_cons (ps_expr (pe_bm PySem.F.plainAttrs_list PySem.F.slot_list_append PySem.F.type_list_append mt_append (pv 14) (pa_cons (pe_call GMa (hr.mono (by decide)) (by rfl) gMa FMa.kp bMa .nil pass0 (pa_cons (pe_call GFw (hr.mono (by decide)) (by rfl) gFw FFw.kp bFw .nil pass0 (pa_cons (pv 3) (pa_cons (pe_dget (hu_of hr) (pv 2) pe_str (fun _ _ => rfl)) (pa_cons (pe_op op_rep (pe_lst (pa_cons pe_int pa_nil)) (pe_callB call_len_seq (by rfl) m_len PySem.boot_len (pa_cons (pv 5) pa_nil))) (pa_cons (pv 11) (pa_cons (pv 12) pa_nil)))))) pa_nil)) pa_nil)))
      (pss_cons (ps_set (i := 15) scLaw.nd rfl (Or.inr rfl) (pe_call GMa (hr.mono (by decide)) (by rfl) gMa FMa.kp bMa .nil pass0 (pa_cons (pv 13) pa_nil)))
      (pss_cons (ps_if (pt_val (pe_callB (cr_any rfl) (by rfl) m_any (by decide +kernel) (pa_cons (pe_lc (own := [("_law_one", 18)]) (g := gName 18) (tt := tYes) (te := (tAndV (tOp (fun x y H Q => y = .non ∧ Q (.bl (!decide (x = .non))) H) (tVar 15) (tC .non)) (tOrV (tOp (fun x y H Q => y = .non ∧ Q (.bl (decide (x = .non))) H) (tVar 18) (tC .non)) (tOp (rI0 fun i j => .bl (decide (j < i))) (tVar 18) (tVar 15)))))  rfl scLaw.nd (pi_list (pv 14)) (blkOk_by (N := ["_law_script", "_law_box_here", "_law_m", "_law_house_here", "_law_rooms", "_law_marks", "_law_walk", "_law_at", "_law_posts", "_law_more", "_law_turn", "_law_starts", "_law_goals", "_law_told", "_law_some", "_law_now", "_law_scene_here", "_law_closed", "_law_one"]) (sc := defScope sLaw) (by decide +kernel)) (fun _ _ _ _ _ => (pg_name (i := 18) scLaw.nd rfl (Or.inl rfl))) (fun _ _ _ _ _ => pts_nil) (fun _ _ _ _ _ => (pe_and (pe_cmpR op_notN (pv 15) pe_non (nomark _)) (pe_one (pe_or (pe_cmpR op_isN (pv 18) pe_non (nomark _)) (pe_one (pe_cmpR op_gt (pv 18) (pv 15) (nomark _)))))))) pa_nil))) (pss_one (ps_ret pe_bl)) pss_nil)
      (pss_cons (ps_set (i := 16) scLaw.nd rfl (Or.inl rfl) (pe_make mkS GS (hr.mono (by decide)) (by rfl) gS bS4 vS4 pass0 (pa_cons (pv 3) (pa_cons (pe_dget (hu_of hr) (pv 2) pe_str (fun _ _ => rfl)) (pa_cons (pe_callTy call_list_of (by rfl) m_list (by decide +kernel) (pa_cons (pe_dget (hu_of hr) (pv 2) pe_str (fun _ _ => rfl)) pa_nil)) pa_nil)))))
      (pss_cons (ps_set (i := 17) scLaw.nd rfl (Or.inl rfl) (pe_cmpR op_eq (pe_ix ix_tup (pe_call GWy (hr.mono (by decide)) (by rfl) gWy FWy.kp bWy vWy pass0 (pa_cons (pv 16) (pa_cons (pv 11) (pa_cons (pv 12) pa_nil)))) pe_int (fun _ _ => rfl)) pe_str (nomark _)))
      (pss_cons (ps_if (pt_cmpR op_ne (pv 17) (pe_cmpR op_eq (pe_ix ix_tup (pv 13) pe_int (fun _ _ => rfl)) pe_str (nomark _)) (nomark _)) (pss_one (ps_ret pe_bl)) pss_nil)
      (pss_one (ps_if (PW.pt (pw_and (pt_not (pt_val (pv 17))) (pw_and1 (pt_cmpR op_notBl (pe_call GIy (hr.mono (by decide)) (by rfl) gIy FIy.kp bIy .nil pass0 (pa_cons (pv 16) (pa_cons (pv 11) (pa_cons (pv 12) (pa_cons (pe_ix ix_tup (pv 13) pe_int (fun _ _ => rfl)) (pa_cons (pe_ix ix_tup (pv 13) pe_int (fun _ _ => rfl)) pa_nil)))))) pe_bl (nomark _))))) (pss_one (ps_ret pe_bl)) pss_nil))))))))))))
      (pss_one (ps_ret pe_bl)))))))), ?_⟩
      refine ⟨_, rfl, a, ns, rfl, hS, fun H1 b l s1 nb nl hB => ?_⟩
      have hT1 := hT.ext s1
      refine ⟨_, rfl, b, l, 5, 3, 3, rfl, hB, by decide, by decide, by decide, by decide, by decide, by decide, fun H3 m t f0 lm zs ds ss xs ys ps rs v3 hB3 nm hM rl lz lp lr lnP => ?_⟩
      have hT3 := Dk.Tabs.sav hT1 hB v3
      have ok := hM.ok
      have z1 : 1 ≤ zs.length := hM.good.one
      have z8 : zs.length ≤ 8 := hM.good.eight
      have p3 : ps.length ≤ 3 := by omega
      have r1 : ∀ r ∈ rs, r ≤ 1 := fun r hr => by
        obtain ⟨i, hi, rfl⟩ := List.getElem_of_mem hr
        have hi2 : i < ps.length := by omega
        refine ok.wok.rch ((ps[i]'hi2).1, rs[i]) ?_
        unfold gws
        exact List.mem_map.mpr ⟨(ps[i]'hi2, rs[i]), List.mem_of_getElem? (List.getElem?_zip_eq_some.mpr ⟨List.getElem?_eq_getElem hi2, List.getElem?_eq_getElem hi⟩), rfl⟩
      have okA : ScOk zs ds ss (gps (ps.zip rs)) (gws (ps.zip rs)) 0 := by rw [zip_gps rl]; exact ok
      -- its house, rooms and reaches
      obtain ⟨lr, ld, ls0, hxs, hus, n1, n2, n3, e1, e2, e3, e4, e5, e6⟩ := id hM.lh
      refine ⟨_, rfl, m, _, rfl, hM.house (Same.refl _), t, zs, ds, ss, rfl, hM.lh.of, hM.good.fit, fun H4 h s4 nh hHn => ?_⟩
      have hA4 : HouseAt C H4 h zs (lnk zs (both ds)) (lnk zs ss) := hHn.same (new_same _ _)
      have hM4 := hM.same s4
      have hB4 := hB3.same s4
      have hT4 := hT3.ext s4
      have r14 := hM4.lh
      refine ⟨_, rfl, m, _, rfl, hM4.house (Same.refl _), t, _, 0, _, rfl, rfl, SqT.of (s4 _ _ e1), atI_nat (j := 0) rfl, ?_⟩
      refine ⟨_, rfl, b, m, t, f0, lm, zs, ds, ss, xs, ys, ps, gws (ps.zip rs), false, 0, rfl, hM4, fun H5 mk s5 nmk hmk => ?_⟩
      refine ⟨_, _, _, rfl, ?_⟩
      have emk : (gws (ps.zip rs)).map (·.2) = rs := by
        unfold gws
        rw [List.map_map]
        exact List.map_snd_zip (by omega)
      rw [emk] at hmk
      have nkb : mk ≠ b := hB4.b1 nmk
      have F5 : Brs C b l h m t f0 lm lr mk [(P', wayQ)] zs ds ss xs ys ps rs H5 := ⟨hB4.same s5, hT4.ext s5, hM4.same s5, hA4.same s5, n1, s5 _ _ (s4 _ _ e2), nkb, hmk⟩
      clear hM4 hB4 hT4 hA4 hHn hM hB hB3 hT3 hT1 hT v3 s1 r14 e1 e2 e3 e4 e5 e6 s4 s5 hS nb nl nm nh nmk hmk
      -- a round and a place
      refine ⟨_, rfl, _, rfl, m, _, rfl, F5.ma.house (Same.refl _), b, l, t, 3, zs, ds, ss, rfl, F5.bx, F5.ma.lh, F5.ma.good, by decide, by decide, fun H6 wp w6 v6 hB6 nwp hwp hR hr3 => ?_⟩
      have F6 := F5.sav v6 hB6
      have nwb : wp ≠ b := F5.bx.b1 nwp
      refine ⟨_, rfl, _, rfl, mk, _, rfl, .inl (SqL.of F6.hk), _, _, rfl, rfl, ?_⟩
      have lk := F6.hk
      refine ⟨b, l, _, rfl, F6.bx, by omega, Nat.lt_of_le_of_lt (m := 1000) (by rw [List.length_map]; omega) (by decide), fun at0 H7 a0 a1 v7 hB7 => ?_⟩
      rw [List.length_map] at a1
      refine ⟨_, _, rfl, ?_⟩
      obtain ⟨i, rfl⟩ := Int.eq_ofNat_of_zero_le a0
      have hi : i ≤ rs.length := by omega
      have F7 := F6.sav v7 hB7
      have hwp7 := v7 _ _ nwb hwp
      have xl := F7.ma.fps.1
      -- the posts with one more
      refine ⟨_, rfl, m, _, rfl, F7.ma.posts (Same.refl _), _, rfl, _, rfl, f0, _, rfl, SqL.of F7.ma.fp, fun p1 np1 => ?_⟩
      rw [cut_takeV]
      have g1 := same_new (o := .lst (xs.take i)) np1
      have hp1 : (upd H7 p1 (.lst (xs.take i))) p1 = some (.lst (xs.take i)) := upd_same
      have F8 := F7.same g1
      have hwp8 := g1 _ _ hwp7
      have np1b := F7.bx.b1 np1
      generalize upd H7 p1 (.lst (xs.take i)) = H8 at g1 hp1 F8 hwp8 ⊢
      refine ⟨_, rfl, _, rfl, _, rfl, wp, _, rfl, .inr (SqT.of hwp8), ?_⟩
      have w1 := hR.one
      have w6' := hR.six
      refine ⟨b, l, _, rfl, F8.bx, by rw [List.length_map]; omega, Nat.lt_of_le_of_lt (m := 1000) (by rw [List.length_map]; omega) (by decide), fun dl H9 d0 d1 v9 hB9 => ?_⟩
      rw [List.length_map] at d1
      obtain ⟨d, rfl⟩ := Int.eq_ofNat_of_zero_le d0
      have hd : d < w6.length := by omega
      have F9 := F8.sav v9 hB9
      have hwp9 := v9 _ _ nwb hwp8
      have hp19 := v9 _ _ np1b hp1
      refine ⟨by show 3 ≤ sizeLine; decide, fun te nte => ?_⟩
      have g2 := same_new (o := .tup [V.str "extra", V.ref wp, V.int ((d : Nat) : Int)]) nte
      have hte : (upd H9 te (.tup [V.str "extra", V.ref wp, V.int ((d : Nat) : Int)])) te = some (.tup [V.str xtr, V.ref wp, natV d]) := upd_same
      have F10 := F9.same g2
      have hwp10 := g2 _ _ hwp9
      have hp110 := g2 _ _ hp19
      generalize upd H9 te (.tup [V.str "extra", V.ref wp, V.int ((d : Nat) : Int)]) = H10 at g2 hte F10 hwp10 hp110 ⊢
      refine ⟨by show 1 ≤ sizeLine; decide, fun p2 np2 => ?_⟩
      have g3 := same_new (o := .lst [V.ref te]) np2
      have hp2 : (upd H10 p2 (.lst [V.ref te])) p2 = some (.lst [V.ref te]) := upd_same
      have F11 := F10.same g3
      have hte11 := g3 _ _ hte
      have hwp11 := g3 _ _ hwp10
      have hp111 := g3 _ _ hp110
      generalize upd H10 p2 (.lst [V.ref te]) = H11 at g3 hp2 F11 hwp11 hp111 hte11 ⊢
      refine ⟨p1, p2, _, _, rfl, rfl, hp111, hp2, Nat.le_of_lt (small1000 (by rw [List.length_take]; simp; omega)), fun p3 np3 => ?_⟩
      have g4 := same_new (o := .lst (xs.take i ++ [V.ref te])) np3
      have hp3 : (upd H11 p3 (.lst (xs.take i ++ [V.ref te]))) p3 = some (.lst (xs.take i ++ [V.ref te])) := upd_same
      have F12 := F11.same g4
      have hte12 := g4 _ _ hte11
      have hwp12 := g4 _ _ hwp11
      generalize upd H11 p3 (.lst (xs.take i ++ [V.ref te])) = H12 at g4 hp3 F12 hwp12 hte12 ⊢
      clear hp1 hp19 hp110 hp111 hp2 g1 g2 g3 g4 v9 hB9 hB7 v7 hwp7 hwp8 hwp9 hwp10 hwp11 hte hte11 nte np1 np2 F8 F9 F10 F11
      refine ⟨_, rfl, m, _, rfl, F12.ma.posts (Same.refl _), _, rfl, _, rfl, f0, _, rfl, SqL.of F12.ma.fp, fun p4 np4 => ?_⟩
      rw [cut_dropV]
      have g5 := same_new (o := .lst (xs.drop i)) np4
      have hp4 : (upd H12 p4 (.lst (xs.drop i))) p4 = some (.lst (xs.drop i)) := upd_same
      have F13 := F12.same g5
      have hp313 := g5 _ _ hp3
      have hte13 := g5 _ _ hte12
      have hwp13 := g5 _ _ hwp12
      generalize upd H12 p4 (.lst (xs.drop i)) = H13 at g5 hp4 F13 hp313 hte13 hwp13 ⊢
      refine ⟨p3, p4, _, _, rfl, rfl, hp313, hp4, Nat.le_of_lt (small1000 (by rw [List.length_append, List.length_take, List.length_drop]; simp; omega)), fun pp npp => ?_⟩
      have g6 := same_new (o := .lst (xs.take i ++ [V.ref te] ++ xs.drop i)) npp
      have hpp : (upd H13 pp (.lst (xs.take i ++ [V.ref te] ++ xs.drop i))) pp = some (.lst (xs.take i ++ [V.ref te] ++ xs.drop i)) := upd_same
      have F14 := F13.same g6
      have nppb := F13.bx.b1 npp
      have hte14 := g6 _ _ hte13
      have hwp14 := g6 _ _ hwp13
      generalize upd H13 pp (.lst (xs.take i ++ [V.ref te] ++ xs.drop i)) = H14 at g6 hpp F14 hte14 hwp14 ⊢
      have hPP : PsL H14 (xs.take i ++ [V.ref te] ++ xs.drop i) (ps.take i ++ [((xtr, w6, d) : Pst)] ++ ps.drop i) := AL.app (AL.snoc (AL.take' F14.ma.fps i) ⟨te, wp, rfl, hte14, hwp14⟩) (AL.drop' F14.ma.fps i)
      clear hp3 hp4 hp313 g5 g6 hte12 hte13 hte14 hwp12 hwp13 hwp14 F12 F13 np3 np4 npp
      -- the reaches with one more
      refine ⟨_, rfl, _, rfl, _, rfl, mk, _, rfl, SqL.of F14.hk, fun p1 np1 => ?_⟩
      rw [cut_takeV, ← List.map_take]
      have g1 := same_new (o := .lst ((rs.take i).map natV)) np1
      have hp1 : (upd H14 p1 (.lst ((rs.take i).map natV))) p1 = some (.lst ((rs.take i).map natV)) := upd_same
      have F15 := F14.same g1
      have hpp15 := g1 _ _ hpp
      have hPP15 := PsL.same hPP g1
      have np1b := F14.bx.b1 np1
      generalize upd H14 p1 (.lst ((rs.take i).map natV)) = H15 at g1 hp1 F15 hpp15 hPP15 ⊢
      refine ⟨_, rfl, b, l, 2, rfl, F15.bx, by decide, by decide, fun x0 H16 x0p x0s v16 hB16 => ?_⟩
      obtain ⟨x, rfl⟩ := Int.eq_ofNat_of_zero_le x0p
      have x1 : x ≤ 1 := by omega
      have F16 := F15.sav v16 hB16
      have hpp16 := v16 _ _ nppb hpp15
      have hPP16 := PsL.keep hPP15 (v16.keepT F15.bx)
      have hp116 := v16 _ _ np1b hp1
      refine ⟨by show 1 ≤ sizeLine; decide, fun p2 np2 => ?_⟩
      have g3 := same_new (o := .lst [V.int ((x : Nat) : Int)]) np2
      have hp2 : (upd H16 p2 (.lst [V.int ((x : Nat) : Int)])) p2 = some (.lst ([x].map natV)) := upd_same
      have F17 := F16.same g3
      have hpp17 := g3 _ _ hpp16
      have hPP17 := PsL.same hPP16 g3
      have hp117 := g3 _ _ hp116
      generalize upd H16 p2 (.lst [V.int ((x : Nat) : Int)]) = H17 at g3 hp2 F17 hpp17 hPP17 hp117 ⊢
      refine ⟨p1, p2, _, _, rfl, rfl, hp117, hp2, Nat.le_of_lt (small1000 (by rw [List.length_map, List.length_take]; simp; omega)), fun p3 np3 => ?_⟩
      rw [← List.map_append]
      have g4 := same_new (o := .lst ((rs.take i ++ [x]).map natV)) np3
      have hp3 : (upd H17 p3 (.lst ((rs.take i ++ [x]).map natV))) p3 = some (.lst ((rs.take i ++ [x]).map natV)) := upd_same
      have F18 := F17.same g4
      have hpp18 := g4 _ _ hpp17
      have hPP18 := PsL.same hPP17 g4
      generalize upd H17 p3 (.lst ((rs.take i ++ [x]).map natV)) = H18 at g4 hp3 F18 hpp18 hPP18 ⊢
      refine ⟨_, rfl, _, rfl, _, rfl, mk, _, rfl, SqL.of F18.hk, fun p4 np4 => ?_⟩
      rw [cut_dropV, ← List.map_drop]
      have g5 := same_new (o := .lst ((rs.drop i).map natV)) np4
      have hp4 : (upd H18 p4 (.lst ((rs.drop i).map natV))) p4 = some (.lst ((rs.drop i).map natV)) := upd_same
      have F19 := F18.same g5
      have hp319 := g5 _ _ hp3
      have hpp19 := g5 _ _ hpp18
      have hPP19 := PsL.same hPP18 g5
      generalize upd H18 p4 (.lst ((rs.drop i).map natV)) = H19 at g5 hp4 F19 hp319 hpp19 hPP19 ⊢
      refine ⟨p3, p4, _, _, rfl, rfl, hp319, hp4, Nat.le_of_lt (small1000 (by rw [List.length_map, List.length_map, List.length_append, List.length_take, List.length_drop]; simp; omega)), fun mo nmo => ?_⟩
      rw [← List.map_append]
      have g6 := same_new (o := .lst ((rs.take i ++ [x] ++ rs.drop i).map natV)) nmo
      have hmo : (upd H19 mo (.lst ((rs.take i ++ [x] ++ rs.drop i).map natV))) mo = some (.lst ((rs.take i ++ [x] ++ rs.drop i).map natV)) := upd_same
      have F20 := F19.same g6
      have nmob := F19.bx.b1 nmo
      have L20 : Pls b pp mo _ _ _ _ := ⟨nppb, g6 _ _ hpp19, PsL.same hPP19 g6, nmob, hmo⟩
      generalize upd H19 mo (.lst ((rs.take i ++ [x] ++ rs.drop i).map natV)) = H20 at F20 L20 ⊢
      obtain ⟨ok2, el2, sb2⟩ := sc_ins (i := i) ok rl r1 (by omega) (xtr_no lnP) hR hd x1 (by omega)
      generalize ps.take i ++ [((xtr, w6, d) : Pst)] ++ ps.drop i = ps2 at ok2 el2 sb2 L20
      generalize rs.take i ++ [x] ++ rs.drop i = rs2 at ok2 el2 sb2 L20
      generalize xs.take i ++ [V.ref te] ++ xs.drop i = xs2 at L20
      clear hp1 hp2 hp3 hp4 hp116 hp117 hp319 g1 g3 g4 g5 g6 hpp hpp15 hpp16 hpp17 hpp18 hpp19 hPP hPP15 hPP16 hPP17 hPP18 hPP19 F14 F15 F16 F17 F18 F19 np1 np2 np3 np4 nmo hmo v16 hB16 F5 F6 F7 nwp hwp hB6 v6
      refine ⟨2, rfl, by decide, by decide, for_range (n := 2) (fun j σ G => ∃ y10 y11 y12 y13 y14 y15 y16 y17, σ = [some (.ref a), some (.ref b), some (.ref m), some (.ref h), some (.ref lr), some (.ref mk), some (.ref wp), some (.int ((i : Nat) : Int)), some (.ref pp), some (.ref mo), y10, y11, y12, y13, y14, y15, y16, y17, none] ∧ Brs C b l h m t f0 lm lr mk [(P', wayQ)] zs ds ss xs ys ps rs G ∧ Pls b pp mo xs2 ps2 rs2 G) ⟨_, _, _, _, _, _, _, _, rfl, F20, L20⟩ ?_ ?_⟩
      · rintro turn σ G0 hturn ⟨y10, y11, y12, y13, y14, y15, y16, y17, rfl, F0, L0⟩
        refine ⟨_, rfl, _, rfl, b, l, .ref lr, rfl, F0.bx, .inl ⟨lr, _, rfl, F0.nr, F0.hr, by rw [List.length_map]; omega, by rw [List.length_map]; omega, fun x1 G1 hx1 v1 hB1 => ?_⟩⟩
        obtain ⟨sz, isz, rfl⟩ := str_of hx1
        have F1 := F0.sav v1 hB1
        have L1 := L0.sav F0.bx v1
        refine ⟨by show 1 ≤ sizeLine; decide, fun q1 nq1 => ?_⟩
        have g2 := same_new (o := .lst [V.str sz]) nq1
        have hq1 : (upd G1 q1 (.lst [V.str sz])) q1 = some (.lst ([sz].map V.str)) := upd_same
        have F2 := F1.same g2
        have L2 := L1.ext (Ex.of g2)
        have nq1b := F1.bx.b1 nq1
        generalize upd G1 q1 (.lst [V.str sz]) = G2 at g2 hq1 F2 L2 ⊢
        refine ⟨_, rfl, _, rfl, b, l, .ref lr, rfl, F2.bx, .inl ⟨lr, _, rfl, F2.nr, F2.hr, by rw [List.length_map]; omega, by rw [List.length_map]; omega, fun x2 G3 hx2 v3 hB3 => ?_⟩⟩
        obtain ⟨gz, igz, rfl⟩ := str_of hx2
        have F3 := F2.sav v3 hB3
        have L3 := L2.sav F2.bx v3
        have hq13 := v3 _ _ nq1b hq1
        refine ⟨by show 1 ≤ sizeLine; decide, fun q2 nq2 => ?_⟩
        have g4 := same_new (o := .lst [V.str gz]) nq2
        have hq2 : (upd G3 q2 (.lst [V.str gz])) q2 = some (.lst ([gz].map V.str)) := upd_same
        have F4 := F3.same g4
        have L4 := L3.ext (Ex.of g4)
        have hq14 := g4 _ _ hq13
        generalize upd G3 q2 (.lst [V.str gz]) = G4 at g4 hq2 F4 L4 hq14 ⊢
        clear F0 F1 F2 F3 L0 L1 L2 L3 g2 g4 v1 v3 hq1 hq13 nq1 nq2 hB1 hB3 hx1 hx2
        refine ⟨_, _, rfl, ?_⟩
        have is1 : ∀ z ∈ [sz], z ∈ zs := fun z hz => by rw [List.mem_singleton.mp hz]; exact isz
        have ig1 : ∀ z ∈ [gz], z ∈ zs := fun z hz => by rw [List.mem_singleton.mp hz]; exact igz
        have zp : ∀ {p r : Addr} {us : List V} {qs : List Pst} {ts : List Nat} {G : Hp}, Pls b p r us qs ts G → Zp K G p r us (ts.map natV) := fun h => .inl ⟨SqL.of h.hp, SqL.of h.hr⟩
        -- what is told
        refine ⟨_, rfl, _, rfl, m, _, rfl, F4.ma.posts (Same.refl _), _, rfl, _, rfl, _, rfl, h, f0, mk, q1, q2, zs, ds, ss, xs, ps, rs, [sz], [gz], rfl, F4.tb, F4.ha, zp F4.pls, F4.ma.fps, rl, okA, .inl (SqL.of hq14), .inl (SqL.of hq2), is1, ig1, by show 1 ≤ 100; decide, by show 1 ≤ 100; decide, fun G5 tp e5 hT5 told => ?_⟩
        have F5 := F4.ext e5 hT5
        have L5 := L4.ext e5
        have hq15 := e5.lst hq14
        have hq25 := e5.lst hq2
        refine ⟨_, rfl, _, rfl, _, rfl, _, rfl, _, rfl, h, pp, mo, q1, q2, zs, ds, ss, xs2, ps2, rs2, [sz], [gz], rfl, F5.tb, F5.ha, zp L5, L5.hP, el2, ok2, .inl (SqL.of hq15), .inl (SqL.of hq25), is1, ig1, by show 1 ≤ 100; decide, by show 1 ≤ 100; decide, fun G6 tp2 e6 hT6 told2 => ?_⟩
        have F6 := F5.ext e6 hT6
        have L6 := L5.ext e6
        have hq16 := e6.lst hq15
        have hq26 := e6.lst hq25
        have told6 := told.ex e6
        refine ⟨tp2, zs, ds, ss, _, [sz], [gz], _, rfl, told2, fun u2 fu2 => ?_⟩
        refine ⟨by show 1 ≤ sizeLine; decide, fun so nso => ?_⟩
        have g7 := same_new (o := .lst [optN u2]) nso
        have hso : (upd G6 so (.lst [optN u2])) so = some (.lst [optN u2]) := upd_same
        have F7 := F6.same g7
        have L7 := L6.ext (Ex.of g7)
        have hq17 := g7 _ _ hq16
        have hq27 := g7 _ _ hq26
        have told7 := told6.ex (Ex.of g7)
        generalize upd G6 so (.lst [optN u2]) = G7 at g7 hso F7 L7 hq17 hq27 told7 ⊢
        clear F4 F5 L4 L5 told told2 hq14 hq15 hq2 hq25 hT5 hT6 e5 e6
        -- longer lamps
        refine ⟨_, rfl, .inl ⟨rfl, _, SqL.of hso⟩, _, rfl, _, rfl, m, _, rfl, F7.ma.posts (Same.refl _), by show 1 ≤ sizeLine; decide, fun o1 no1 => ?_⟩
        have g8 := same_new (o := .lst [V.int 1]) no1
        have ho1 : (upd G7 o1 (.lst [V.int 1])) o1 = some (.lst [V.int 1]) := upd_same
        have F8 := F7.same g8
        have L8 := L7.ext (Ex.of g8)
        have hq18 := g8 _ _ hq17
        have hq28 := g8 _ _ hq27
        have hso8 := g8 _ _ hso
        have told8 := told7.ex (Ex.of g8)
        have nso1 : so ≠ o1 := ne_of_none hso no1
        generalize upd G7 o1 (.lst [V.int 1]) = G8 at g8 ho1 F8 L8 hq18 hq28 hso8 told8 ⊢
        refine ⟨_, rfl, mk, _, rfl, .inl (SqL.of F8.hk), o1, _, _, rfl, rfl, ho1, by omega, by rw [List.length_map]; omega, Nat.le_of_lt (small1000 (by rw [List.length_map]; simp; omega)), fun o2 no2 => ?_⟩
        rw [List.length_map, Int.toNat_natCast]
        have eo2 : (List.replicate rs.length [V.int 1]).flatten = (List.replicate rs.length 1).map natV := by
          rw [List.map_replicate]
          generalize rs.length = n
          induction n with
          | zero => rfl
          | succ n ih =>
            rw [List.replicate_succ, List.flatten_cons, ih, List.replicate_succ]
            rfl
        rw [eo2]
        have g9 := same_new (o := .lst ((List.replicate rs.length 1).map natV)) no2
        have ho2 : (upd G8 o2 (.lst ((List.replicate rs.length 1).map natV))) o2 = some (.lst ((List.replicate rs.length 1).map natV)) := upd_same
        have F9 := F8.same g9
        have L9 := L8.ext (Ex.of g9)
        have hq19 := g9 _ _ hq18
        have hq29 := g9 _ _ hq28
        have hso9 := g9 _ _ hso8
        have told9 := told8.ex (Ex.of g9)
        have nso2 : o2 ≠ b := F8.bx.b1 no2
        generalize upd G8 o2 (.lst ((List.replicate rs.length 1).map natV)) = G9 at g9 ho2 F9 L9 hq19 hq29 hso9 told9 ⊢
        have el3 : (List.replicate rs.length 1).length = ps.length := by rw [List.length_replicate]; exact rl
        have L3 : Pls b f0 o2 xs ps (List.replicate rs.length 1) G9 := ⟨F9.ma.nf, F9.ma.fp, F9.ma.fps, nso2, ho2⟩
        have ok3 : ScOk zs ds ss (gps (ps.zip (List.replicate rs.length 1))) (gws (ps.zip (List.replicate rs.length 1))) 0 := by
          rw [zip_gps el3]
          exact sc_guard ok el3 (fun r hr => by rw [List.eq_of_mem_replicate hr]; exact Nat.le_refl _)
        refine ⟨_, rfl, _, rfl, h, f0, o2, q1, q2, zs, ds, ss, xs, ps, List.replicate rs.length 1, [sz], [gz], rfl, F9.tb, F9.ha, zp L3, L3.hP, el3, ok3, .inl (SqL.of hq19), .inl (SqL.of hq29), is1, ig1, by show 1 ≤ 100; decide, by show 1 ≤ 100; decide, fun G10 tp3 e10 hT10 told3 => ?_⟩
        have F10 := F9.ext e10 hT10
        have L10 := L9.ext e10
        have hq110 := e10.lst hq19
        have hq210 := e10.lst hq29
        have hso10 := e10.lst hso9
        have told10 := told9.ex e10
        refine ⟨tp3, zs, ds, ss, _, [sz], [gz], _, rfl, told3, fun u3 fu3 => ?_⟩
        refine ⟨so, _, _, rfl, rfl, hso10, by show 1 < sizeLine; decide, ?_⟩
        have e6A : Ex G6 G10 := (Ex.of g7).trans ((Ex.of g8).trans ((Ex.of g9).trans e10))
        have e6B := e6A.put' (o := .lst ([optN u2] ++ [optN u3])) nso
        have F11 := F6.ext e6B (Dk.Tabs.put F10.tb hso10)
        have hq111 := e6B.lst hq16
        have hq211 := e6B.lst hq26
        have told11 := told6.ex e6B
        have L11 := L6.ext e6B
        have hso11 : (upd G10 so (.lst ([optN u2] ++ [optN u3]))) so = some (.lst [optN u2, optN u3]) := upd_same
        generalize upd G10 so (.lst ([optN u2] ++ [optN u3])) = G11 at F11 hq111 hq211 told11 L11 hso11 ⊢
        clear F6 F7 F8 F9 F10 L6 L7 L8 L9 L10 L3 hq16 hq26 hq17 hq27 hq18 hq28 hq19 hq29 hq110 hq210 told6 told7 told8 told9 told10 hso hso8 hso9 hso10 g7 g8 g9 e10 e6A e6B told3 ok3 el3 ho1 ho2 no1 no2 nso nso1 nso2
        refine ⟨_, rfl, tp, zs, ds, ss, _, [sz], [gz], _, rfl, told11, fun u1 fu1 => ?_⟩
        have less2 := many_less (sub_more sb2) fu1 fu2
        have less3 := many_less (sub_long rl) fu1 fu3
        -- never more
        refine ⟨_, rfl, so, rfl, ⟨_, SqL.of hso11⟩, fun D nD => ?_⟩
        refine it_any (walk_list (K := K) (a := so) (xs := [optN u2, optN u3])) (fun j G => Same G11 G ∧ G D = some (.lst ((List.replicate j false).map V.bl))) ⟨same_new nD, upd_same⟩ (fun j G _ z => SqL.of (z.1 _ _ hso11)) ?_ ?_
        · rintro j x G12 G13 hj ⟨s12, hD⟩ ⟨rfl, hx⟩
          have lj : ∃ u, x = optN u ∧ ∀ n, u1 = some n → ∃ m, u = some m ∧ m ≤ n := by
            match j, hx with
            | 0, hx => exact ⟨u2, (Option.some.inj hx).symm, less2⟩
            | 1, hx => exact ⟨u3, (Option.some.inj hx).symm, less3⟩
          obtain ⟨u, rfl, less⟩ := lj
          have jl : j < 2 := hj
          have put : ∃ acc, G13 D = some (.lst acc) ∧ acc.length < sizeLine ∧ Same G11 (upd G13 D (.lst (acc ++ [V.bl false]))) ∧ (upd G13 D (.lst (acc ++ [V.bl false]))) D = some (.lst ((List.replicate (j + 1) false).map V.bl)) := by
            refine ⟨_, hD, small1000 (by rw [List.length_map, List.length_replicate]; omega), same_put s12 nD, ?_⟩
            rw [upd_same, List.replicate_succ', List.map_append]
            rfl
          cases u1 with
          | none =>
            refine ⟨rfl, _, rfl, rfl, _, rfl, ?_⟩
            exact iteF put
          | some n =>
            obtain ⟨mm, rfl, hmn⟩ := less n rfl
            refine ⟨rfl, _, rfl, rfl, _, rfl, ?_⟩
            refine iteT ⟨_, rfl, rfl, _, rfl, ?_⟩
            refine iteF ⟨_, rfl, _, rfl, ((mm : Nat) : Int), ((n : Nat) : Int), rfl, rfl, ?_⟩
            show ∃ acc, _ ∧ _ ∧ (fun G => Same G11 G ∧ G D = some (HO.lst (List.map V.bl (List.replicate (j + 1) false)))) (upd G13 D (HO.lst (acc ++ [V.bl (decide (((n : Nat) : Int) < ((mm : Nat) : Int)))])))
            rw [decide_eq_false (show ¬ ((n : Nat) : Int) < ((mm : Nat) : Int) by omega)]
            exact put
        · rintro G12 ⟨s12, hD⟩
          refine ⟨D, _, rfl, SqL.of hD, _, rfl, ?_⟩
          rw [show ((List.replicate [optN u2, optN u3].length false).any id) = false from rfl]
          refine iteF ?_
          have F12 := F11.same s12
          have L12 := L11.ext (Ex.of s12)
          have hq112 := s12 _ _ hq111
          have hq212 := s12 _ _ hq211
          have told12 := told11.ex (Ex.of s12)
          clear F11 L11 hq111 hq211 told11 hso11 hD s12
          -- the scene
          refine ⟨_, rfl, _, rfl, m, _, rfl, F12.ma.posts (Same.refl _), _, rfl, m, _, rfl, F12.ma.lamps (Same.refl _), lm, _, rfl, .inl (SqL.of F12.ma.fl), fun lw nlw => ?_⟩
          have g1 := same_new (o := .lst ys) nlw
          have hlw : (upd G12 lw (.lst ys)) lw = some (.lst ys) := upd_same
          have F13 := F12.same g1
          have L13 := L12.ext (Ex.of g1)
          have hq113 := g1 _ _ hq112
          have hq213 := g1 _ _ hq212
          have told13 := told12.ex (Ex.of g1)
          generalize upd G12 lw (.lst ys) = G13 at g1 hlw F13 L13 hq113 hq213 told13 ⊢
          intro sc dx nsc ndx ndd
          refine ⟨G13, sc, dx, h, f0, lw, zs, ds, ss, xs, ys, ps, gws (ps.zip rs), false, 0, rfl, (same_new ndx).trans (same_new (by rw [upd_ne ndd.symm]; exact nsc)), nsc, upd_same, F13.ha, F13.ma.fp, F13.ma.fps, hlw, F13.ma.fls, ok, fun G14 W s14 hSc => ⟨rfl, ?_⟩⟩
          have F14 := F13.same s14
          have L14 := L13.ext (Ex.of s14)
          have hq114 := s14 _ _ hq113
          have hq214 := s14 _ _ hq213
          have told14 := told13.ex (Ex.of s14)
          have whS : IsWh (ps.map (·.2)) (gws (ps.zip rs)).length false 0 W := by
            obtain ⟨_, dxa, ha', pa', wa', oa', hda', la', ma', xsa', ysa', osa', lsa', msa', sa⟩ := id hSc
            exact sa.fwh
          clear F12 F13 L12 L13 hq112 hq113 hq212 hq213 told12 told13 hlw nlw g1 s14 nsc ndx ndd
          refine ⟨_, rfl, _, rfl, _, rfl, sc, q1, q2, zs, ds, ss, ps, gws (ps.zip rs), false, 0, W, [sz], [gz], none, rfl, F14.tb, hSc, .inl (SqL.of hq114), .inl (SqL.of hq214), is1, ig1, fun z hz => nm_okR (ok.names.2 z hz), by show 1 ≤ 100; decide, by show 1 ≤ 100; decide, fun b e => (by cases e), fun G15 tw e15 hT15 wy => ?_⟩
          have F15 := F14.ext e15 hT15
          have L15 := L14.ext e15
          have hq115 := e15.lst hq114
          have hq215 := e15.lst hq214
          have told15 := told14.ex e15
          have hS15 := hSc.ext e15.ex
          clear F14 L14 hq114 hq214 told14 hSc
          have hway := way_opn rl whS wy
          have hfew := few_opn told15
          have fin : ∀ (G : Hp) (cl : Bool), Same G15 G → ∃ y10 y11 y12 y13 y14 y15 y16 y17, ([some (.ref a), some (.ref b), some (.ref m), some (.ref h), some (.ref lr), some (.ref mk), some (.ref wp), some (.int ((i : Nat) : Int)), some (.ref pp), some (.ref mo), some (.int (0 + (turn : Int))), some (.ref q1), some (.ref q2), some (.ref tp), some (.ref so), some (optN u1), some (.ref sc), some (.bl cl), none] : L2.St) = [some (.ref a), some (.ref b), some (.ref m), some (.ref h), some (.ref lr), some (.ref mk), some (.ref wp), some (.int ((i : Nat) : Int)), some (.ref pp), some (.ref mo), y10, y11, y12, y13, y14, y15, y16, y17, none] ∧ Brs C b l h m t f0 lm lr mk [(P', wayQ)] zs ds ss xs ys ps rs G ∧ Pls b pp mo xs2 ps2 rs2 G := fun G cl g => ⟨_, _, _, _, _, _, _, _, rfl, F15.same g, L15.ext (Ex.of g)⟩
          rcases hway with ⟨op, us, htw⟩ | ⟨no, us, htw⟩
          · rcases hfew with ⟨_, bt, rp, htp, to⟩ | ⟨no, _⟩
            · refine ⟨tw, _, 0, _, rfl, rfl, SqT.of htw, atI_nat (j := 0) rfl, rfl, ?_⟩
              rw [show decide (V.str "way" = V.str "closed") = false by decide +kernel]
              refine ⟨_, rfl, _, rfl, tp, _, 0, _, rfl, rfl, SqT.of htp, atI_nat (j := 0) rfl, rfl, rfl, _, rfl, ?_⟩
              rw [show decide (V.str "open" = V.str "bars") = false by decide +kernel]
              refine iteF ?_
              obtain ⟨b0, rs0, f1, z1', l1, ebt, hb0, hrp, lrs, wk, hf1, hfs, er, hz⟩ := to.wk z8
              subst ebt
              refine ⟨_, rfl, _, rfl, _, rfl, _, rfl, _, rfl, _, rfl, tp, _, 1, _, rfl, rfl, SqT.of htp, atI_nat (j := 1) rfl, _, rfl, tp, _, 2, _, rfl, rfl, SqT.of htp, atI_nat (j := 2) rfl, ?_⟩
              rw [zip_gps rl] at wk
              refine ⟨sc, q1, q2, rp, zs, ds, ss, ps, gws (ps.zip rs), W, [sz], [gz], rs0, ((b0 : Nat) : Int), f1, z1', l1, rfl, hS15, hq115, hq215, is1, ig1, by show 1 ≤ 100; decide, by show 1 ≤ 100; decide, hrp, lrs, ⟨by omega, by omega⟩, wk, hf1, hfs, er, hz, fun G16 s16 => ?_⟩
              refine ⟨true, true, rfl, rfl, _, rfl, ?_⟩
              exact iteF (fin G16 _ s16)
            · exact absurd op no
          · rcases hfew with ⟨op, _⟩ | ⟨_, np, wl, htp⟩
            · exact absurd op no
            · refine ⟨tw, _, 0, _, rfl, rfl, SqT.of htw, atI_nat (j := 0) rfl, rfl, ?_⟩
              rw [show decide (V.str "closed" = V.str "closed") = true by decide +kernel]
              refine ⟨_, rfl, _, rfl, tp, _, 0, _, rfl, rfl, SqT.of htp, atI_nat (j := 0) rfl, rfl, rfl, _, rfl, ?_⟩
              rw [show decide (V.str "bars" = V.str "bars") = true by decide +kernel]
              refine iteF ?_
              refine ⟨_, rfl, _, rfl, ?_⟩
              exact fin G15 _ (Same.refl _)
      · rintro σ G0 ⟨y10, y11, y12, y13, y14, y15, y16, y17, rfl, F0, L0⟩
        exact k G0
    exact key
end
end Dk
namespace Dk
open PySem L2
section
variable {P : Program} {w : World} {K : PySem.W.Frag} {mg : Str → Option Value} {base : Heap}
theorem scIs : FnScope ["text", "sign"] ["text"] (defScope sIsName) := ⟨rfl, rfl, rfl, by decide +kernel, rfl, by decide +kernel, by decide +kernel⟩
theorem ok_is {f : Addr} {fd : FuncData} (F : Fun K "is_name" "is_name" sIsName f fd) (ml : mg "len" = none) (ma : mg "all" = none) {t1 t2 : Tok} (g1 : mg "LONGEST_NAME" = some (.int 8 t1)) (g2 : mg "SMALL_LETTERS" = some (.str abc t2)) : FnOk P w K mg base CX0 1 f fd ["text"] spName := by
  refine F.ok scIs (fun vs H Q E h => ?_) (fun cdv A outer s H vs Q E hr h => ?_)
  · obtain ⟨z, rfl, _⟩ := h
    rfl
  · obtain ⟨z, rfl, hz, k⟩ := h
    refine ⟨_, pss_cons (ps_if (pt_not (pt_chain op_le op_le pe_int (pe_callB call_len_str (by rfl) ml PySem.boot_len (pa_cons (pv 0) pa_nil)) (pe_glob (v := .int 8) (by rfl) g1 ⟨_, rfl⟩))) (pss_one (ps_ret pe_bl)) pss_nil)
      (pss_one (ps_ret (pe_callB (cr_all rfl) (by rfl) ma (by decide +kernel) (pa_cons (pe_lc (own := [("sign", 1)]) (g := gName 1) (tt := tYes) rfl scIs.nd (pi_str (pv 0))
        (blkOk_by (N := ["text", "sign"]) (sc := defScope sIsName) (by decide +kernel)) (fun _ _ _ _ _ => pg_name (i := 1) scIs.nd rfl (Or.inl rfl)) (fun _ _ _ _ _ => pts_nil)
        (fun _ _ _ _ _ => pe_cmpR op_in_sign (pv 1) (pe_glob (v := .str abc) (by rfl) g2 ⟨_, rfl⟩) (by rfl))) pa_nil)))), ?_⟩
    refine ⟨_, rfl, z, rfl, Nat.le_of_lt (small1000 hz), _, _, rfl, rfl, _, rfl, ite2 (fun e => ?_) (fun e => ?_)⟩
    · refine ⟨_, _, rfl, rfl, _, rfl, ?_⟩
      have e1 : (1 : Int) ≤ (z.length : Int) := of_decide_eq_true e
      by_cases e2 : (z.length : Int) ≤ 8
      · rw [decide_eq_true e2]
        refine iteF ?_
        refine ⟨_, rfl, z, rfl, fun D nD => lc_it walk_str (fun i H' => Same H H' ∧ H' D = some (.lst ((inAbc z i).map V.bl))) ⟨same_new nD, upd_same⟩ (fun _ _ _ _ => trivial) ?_ ?_⟩
        · rintro i x H1 H2 hin ⟨s1, hD⟩ ⟨rfl, c, ec, rfl⟩
          refine ⟨rfl, ?_⟩
          refine ⟨_, rfl, c, abc, rfl, rfl, _, hD, inAbc_len hz, fun q o hq => ?_, ?_⟩
          · rw [upd_ne (ne_of_none hq nD)]
            exact s1 _ _ hq
          · rw [upd_same, inAbc_succ ec, List.map_append]
            rfl
        · rintro H1 ⟨s1, hD⟩
          refine ⟨D, _, rfl, SqL.of hD, ?_⟩
          rw [inAbc_all]
          have z1 := k H1 s1
          rw [nm_in (b := true) (decide_eq_true ⟨by omega, by omega⟩), Bool.true_and] at z1
          exact z1
      · rw [decide_eq_false e2]
        refine iteT ?_
        have z1 := k H (Same.refl H)
        rw [nm_in (b := false) (decide_eq_false (fun q => e2 (by omega))), Bool.false_and] at z1
        exact z1
    · refine ⟨false, rfl, ?_⟩
      refine iteT ?_
      have e1 : ¬ (1 : Int) ≤ (z.length : Int) := fun q => e (decide_eq_true q)
      have z1 := k H (Same.refl H)
      rw [nm_in (b := false) (decide_eq_false (fun q => e1 (by omega))), Bool.false_and] at z1
      exact z1
theorem scNewName : FnScope ["name", "others"] ["name", "others"] (defScope sNewName) := ⟨rfl, rfl, rfl, by decide +kernel, rfl, by decide +kernel, by decide +kernel⟩
theorem ok_newname {f fI : Addr} {fd fdI : FuncData} (F : Fun K "need_new_name" "need_new_name" sNewName f fd) (FI : Fun K "is_name" "is_name" sIsName fI fdI) (bI : Binds K fdI ["text"] []) (gI : mg "is_name" = some (.ref fI)) (GI : FnOk P w K mg base CX0 1 fI fdI ["text"] spName) :
    FnOk P w K mg base CX0 2 f fd ["name", "others"] spNewName := by
  refine F.ok scNewName (fun vs H Q E h => ?_) (fun cdv A outer s H vs Q E hr h => ?_)
  · obtain ⟨z, o, zs, rfl, _⟩ := h
    rfl
  · obtain ⟨z, o, zs, rfl, hN, ho, hz, k⟩ := h
    refine ⟨_, pss_cons (ps_if (pt_not (pt_val (pe_call GI hr (by rfl) gI FI.kp bI .nil pass0 (pa_cons (pv 0) pa_nil)))) (pss_one (ps_never)) pss_nil)
      (pss_one (ps_if (pt_cmpR op_in_seq (pv 0) (pv 1) (by rfl)) (pss_one (ps_never)) pss_nil)), ?_⟩
    refine ⟨_, rfl, z, rfl, nm_len hN, fun H1 s1 => ?_⟩
    rw [hN]
    refine ⟨true, rfl, iteF ?_⟩
    refine ⟨_, rfl, _, rfl, o, _, rfl, .inl (SqL.of (s1 _ _ ho)), rfl, flat_all zs, _, rfl, ?_⟩
    show if inV (.str z) (zs.map V.str) = true then _ else _
    rw [in_strs, decide_eq_false hz]
    exact iteF (k H1 s1)
theorem scHas : FnScope ["self", "name"] ["self", "name"] (defScope sHas) := ⟨rfl, rfl, rfl, by decide +kernel, rfl, by decide +kernel, by decide +kernel⟩
structure HTxt (K : PySem.W.Frag) (C : Addr) : Prop where
  cl : Cls K C
  nN : NoAttr K C "names"
  nB : NoAttr K C "behind"
  nV : NoAttr K C "views"
  ha : PySem.W.findIn K (.ref C) "__class__" = some (some (.builtin "object.__class__"))
  hn : PySem.W.specialIn K (.builtin "object.__class__") "__get__" = some (some (.builtin "getset_descriptor.__get__"))
  htk : PySem.W.takesIn K (.builtin "object.__class__") = some true
  hm : PySem.W.mroIn K C (.type "object") = some true
  k1 : PySem.W.kitOne K (.ref C) (.ref C) = some true
theorem ok_has {f C : Addr} {fd : FuncData} (F : Fun K "has_room" "House.has_room" sHas f fd) (T : HTxt K C) : FnOk P w K mg base CX0 1 f fd ["self", "name"] (spHas C) := by
  refine F.ok scHas (fun vs H Q E h => ?_) (fun cdv A outer s H vs Q E hr h => ?_)
  · obtain ⟨h, zs, z, rfl, _⟩ := h
    rfl
  · obtain ⟨h, zs, z, rfl, ⟨dx, n, fs, h1, h2, h3, h4⟩, k⟩ := h
    refine ⟨_, pss_one (ps_ret (pe_cmpR op_in_seq (pv 1) (pe_fld (pv 0) rfl) (by rfl))), ?_⟩
    refine ⟨_, rfl, _, rfl, h, C, dx, fs, _, rfl, h1, T.cl, T.nN, h2, n, _, rfl, .inl (SqL.of h4), rfl, flat_all zs, ?_⟩
    show Q (V.bl (inV (.str z) (zs.map V.str))) H
    rw [in_strs]
    exact k
theorem scNeed : FnScope ["house", "room"] ["house", "room"] (defScope sNeed) := ⟨rfl, rfl, rfl, by decide +kernel, rfl, by decide +kernel, by decide +kernel⟩
theorem ok_need {f fH C : Addr} {fd fdH : FuncData} (F : Fun K "need_room" "need_room" sNeed f fd) (T : HTxt K C) (mH : Meth K C "has_room" fH) (bH : Binds K fdH ["self", "name"] []) (GH : FnOk P w K mg base CX0 1 fH fdH ["self", "name"] (spHas C)) : FnOk P w K mg base CX0 2 f fd ["house", "room"] (spNeed C) := by
  refine F.ok scNeed (fun vs H Q E h => ?_) (fun cdv A outer s H vs Q E hr h => ?_)
  · obtain ⟨h, zs, z, rfl, _⟩ := h
    rfl
  · obtain ⟨h, zs, z, rfl, ⟨dx, n, fs, h1, h2, h3, h4⟩, hz, k⟩ := h
    refine ⟨_, pss_one (ps_if (pt_not (pt_val (pe_meth (pv 0) T.cl mH GH hr bH .nil pass0 (pa_cons (pv 1) pa_nil)))) (pss_one (ps_never)) pss_nil), ?_⟩
    refine ⟨_, rfl, h, dx, fs, rfl, h1, h3, _, rfl, h, zs, z, rfl, ⟨dx, n, fs, h1, h2, h3, h4⟩, ?_⟩
    rw [decide_eq_true hz]
    exact ⟨true, rfl, iteF k⟩
theorem scNeeds : FnScope ["house", "a", "b"] ["house", "a", "b"] (defScope sNeeds) := ⟨rfl, rfl, rfl, by decide +kernel, rfl, by decide +kernel, by decide +kernel⟩
theorem ok_needs {f fN C : Addr} {fd fdN : FuncData} (F : Fun K "need_rooms" "need_rooms" sNeeds f fd) (FN : Fun K "need_room" "need_room" sNeed fN fdN) (bN : Binds K fdN ["house", "room"] []) (gN : mg "need_room" = some (.ref fN)) (GN : FnOk P w K mg base CX0 2 fN fdN ["house", "room"] (spNeed C)) :
    FnOk P w K mg base CX0 3 f fd ["house", "a", "b"] (spNeeds C) := by
  refine F.ok scNeeds (fun vs H Q E h => ?_) (fun cdv A outer s H vs Q E hr h => ?_)
  · obtain ⟨h, zs, y, z, rfl, _⟩ := h
    rfl
  · obtain ⟨h, zs, y, z, rfl, hN, hy, hz, k⟩ := h
    refine ⟨_, pss_cons (ps_expr (pe_call GN hr (by rfl) gN FN.kp bN .nil pass0 (pa_cons (pv 0) (pa_cons (pv 1) pa_nil))))
      (pss_one (ps_expr (pe_call GN hr (by rfl) gN FN.kp bN .nil pass0 (pa_cons (pv 0) (pa_cons (pv 2) pa_nil))))), ?_⟩
    exact ⟨_, rfl, _, rfl, h, zs, y, rfl, hN, hy, _, rfl, _, rfl, h, zs, z, rfl, hN, hz, k⟩
theorem scNew : FnScope ["names", "copied", "name"] ["names"] (defScope sNew) := ⟨rfl, rfl, rfl, by decide +kernel, rfl, by decide +kernel, by decide +kernel⟩
theorem ok_new {f fW : Addr} {fd fdW : FuncData} (F : Fun K "new_names" "new_names" sNew f fd) (FW : Fun K "need_new_name" "need_new_name" sNewName fW fdW) (bW : Binds K fdW ["name", "others"] []) (gW : mg "need_new_name" = some (.ref fW)) (GW : FnOk P w K mg base CX0 2 fW fdW ["name", "others"] spNewName) :
    FnOk P w K mg base CX0 3 f fd ["names"] (spNew K) := by
  refine F.ok scNew (fun vs H Q E h => ?_) (fun cdv A outer s H vs Q E hr h => ?_)
  · obtain ⟨p, zs, rfl, _⟩ := h
    rfl
  · obtain ⟨p, zs, rfl, hS, hN, hl, k⟩ := h
    refine ⟨_, pss_cons (ps_set (i := 1) scNew.nd rfl (Or.inl rfl) (pe_lst pa_nil))
      (pss_cons (ps_for PassesOwn.never rfl (pi_any (pi_list (pv 0)) (pi_tup (pv 0))) (pg_name (i := 2) scNew.nd rfl (Or.inl rfl))
      (pss_cons (ps_expr (pe_call GW hr (by rfl) gW FW.kp bW .nil pass0 (pa_cons (pv 2) (pa_cons (pv 1) pa_nil))))
      (pss_one (ps_expr (pe_bm PySem.F.plainAttrs_list PySem.F.slot_list_append PySem.F.type_list_append mt_append (pv 1) (pa_cons (pv 2) pa_nil))))))
      (pss_one (ps_ret (pv 1)))), ?_⟩
    refine ⟨Nat.zero_le _, fun o no => ?_⟩
    refine for_sq hS rfl (fun i σ H' => ∃ y2 : Option V, σ = [some (.ref p), some (.ref o), y2] ∧ Same H H' ∧ H' o = some (.lst ((zs.take i).map V.str))) ⟨_, rfl, same_new no, upd_same⟩ (fun i σ H' h => by obtain ⟨_, _, s1, _⟩ := h; exact s1) ?_ ?_
    · rintro i x σ H' hx ⟨y2, rfl, s1, ho⟩
      obtain ⟨z, ez, rfl⟩ := str_at hx
      have hi : i < zs.length := (List.getElem?_eq_some_iff.mp ez).1
      refine ⟨_, rfl, _, rfl, z, o, zs.take i, rfl, hN.2 z (List.mem_of_getElem? ez), ho, nodup_at hN.1 ez, fun H2 s2 => ?_⟩
      have ho2 := s2 _ _ ho
      refine ⟨_, rfl, .inl ⟨rfl, _, SqL.of ho2⟩, _, rfl, o, _, _, rfl, rfl, ho2, ?_, ?_⟩
      · rw [List.length_map, List.length_take]
        exact small1000 (by omega)
      · refine ⟨_, rfl, same_put (s1.trans s2) no, ?_⟩
        rw [upd_same, take_snoc ez, List.map_append]
        rfl
    · rintro σ H' ⟨y2, rfl, s1, ho⟩
      rw [List.length_map, List.take_length] at ho
      exact ⟨_, rfl, k H' o s1 no ho⟩
theorem scNU : FnScope ["house", "a", "b"] ["house", "a", "b"] (defScope sNU) := ⟨rfl, rfl, rfl, by decide +kernel, rfl, by decide +kernel, by decide +kernel⟩
theorem ok_nu {f fS C : Addr} {fd fdS : FuncData} (F : Fun K "need_unlike" "need_unlike" sNU f fd) (FS : Fun K "need_rooms" "need_rooms" sNeeds fS fdS) (bS : Binds K fdS ["house", "a", "b"] []) (gS : mg "need_rooms" = some (.ref fS)) (GS : FnOk P w K mg base CX0 3 fS fdS ["house", "a", "b"] (spNeeds C)) :
    FnOk P w K mg base CX0 4 f fd ["house", "a", "b"] (spNU C) := by
  refine F.ok scNU (fun vs H Q E h => ?_) (fun cdv A outer s H vs Q E hr h => ?_)
  · obtain ⟨h, zs, y, z, rfl, _⟩ := h
    rfl
  · obtain ⟨h, zs, y, z, rfl, hN, hy, hz, hu, k⟩ := h
    refine ⟨_, pss_cons (ps_expr (pe_call GS hr (by rfl) gS FS.kp bS .nil pass0 (pa_cons (pv 0) (pa_cons (pv 1) (pa_cons (pv 2) pa_nil)))))
      (pss_one (ps_if (pt_cmpR op_eq (pv 1) (pv 2) (nomark _)) (pss_one (ps_never)) pss_nil)), ?_⟩
    refine ⟨_, rfl, _, rfl, _, rfl, h, zs, y, z, rfl, hN, hy, hz, ?_⟩
    refine ⟨_, rfl, _, rfl, rfl, _, rfl, ?_⟩
    rw [decide_eq_false (fun e => hu (V.str.inj e))]
    exact iteF k
theorem scUnlike : FnScope ["house", "pairs", "copied", "a", "b"] ["house", "pairs"] (defScope sUnlike) := ⟨rfl, rfl, rfl, by decide +kernel, rfl, by decide +kernel, by decide +kernel⟩
theorem ok_unlike {f fS C : Addr} {fd fdS : FuncData} (F : Fun K "unlike_pairs" "unlike_pairs" sUnlike f fd) (FS : Fun K "need_unlike" "need_unlike" sNU fS fdS) (bS : Binds K fdS ["house", "a", "b"] []) (gS : mg "need_unlike" = some (.ref fS)) (GS : FnOk P w K mg base CX0 4 fS fdS ["house", "a", "b"] (spNU C)) :
    FnOk P w K mg base CX0 5 f fd ["house", "pairs"] (spUnlike K C) := by
  refine F.ok scUnlike (fun vs H Q E h => ?_) (fun cdv A outer s H vs Q E hr h => ?_)
  · obtain ⟨h, p, zs, xs, ps, rfl, _⟩ := h
    rfl
  · obtain ⟨h, p, zs, xs, ps, rfl, hN, hS, hP, hl, hg, k⟩ := h
    refine ⟨_, pss_cons (ps_set (i := 2) scUnlike.nd rfl (Or.inl rfl) (pe_lst pa_nil))
      (pss_cons (ps_for PassesOwn.never rfl (pi_any (pi_list (pv 1)) (pi_tup (pv 1))) (pg_tup rfl (pgs_cons (pg_name (i := 3) scUnlike.nd rfl (Or.inl rfl)) (pgs_cons (pg_name (i := 4) scUnlike.nd rfl (Or.inl rfl)) pgs_nil)))
      (pss_cons (ps_expr (pe_call GS hr (by rfl) gS FS.kp bS .nil pass0 (pa_cons (pv 0) (pa_cons (pv 3) (pa_cons (pv 4) pa_nil)))))
      (pss_one (ps_expr (pe_bm PySem.F.plainAttrs_list PySem.F.slot_list_append PySem.F.type_list_append mt_append (pv 2) (pa_cons (pe_tup (pa_cons (pv 3) (pa_cons (pv 4) pa_nil))) pa_nil))))))
      (pss_one (ps_ret (pv 2)))), ?_⟩
    refine ⟨Nat.zero_le _, fun o no => ?_⟩
    refine for_sq hS rfl (fun i σ H' => ∃ y3 y4 : Option V, σ = [some (.ref h), some (.ref p), some (.ref o), y3, y4] ∧ Same H H' ∧ ∃ ys, H' o = some (.lst ys) ∧ PL H' ys (ps.take i)) ⟨_, _, rfl, same_new no, [], upd_same, PL.nil⟩ (fun i σ H' h => by obtain ⟨_, _, _, s1, _⟩ := h; exact s1) ?_ ?_
    · rintro i x σ H' hx ⟨y3, y4, rfl, s1, ys, ho, hy⟩
      obtain ⟨⟨a, b⟩, eab, q, rfl, hq⟩ := hP.at hx
      have hi : i < ps.length := (List.getElem?_eq_some_iff.mp eab).1
      have hg1 := hg _ (List.mem_of_getElem? eab)
      refine ⟨q, _, rfl, SqT.of (s1 _ _ hq), rfl, _, _, rfl, _, _, rfl, rfl, ?_⟩
      refine ⟨_, rfl, _, rfl, _, rfl, h, zs, a, b, rfl, hN.same s1, hg1.1, hg1.2.1, hg1.2.2, ?_⟩
      refine ⟨_, rfl, .inl ⟨rfl, _, SqL.of ho⟩, _, rfl, _, rfl, by show 2 ≤ sizeLine; decide, fun t nt => ?_⟩
      have nto : o ≠ t := ne_of_none ho nt
      have s2 := same_new (o := .tup [.str a, .str b]) nt
      have ylen : ys.length ≤ 1000 := by
        rw [hy.1, List.length_take]
        have := hP.1
        omega
      refine ⟨o, _, _, rfl, rfl, by rw [upd_ne nto]; exact ho, small1000 ylen, ?_⟩
      refine ⟨_, _, rfl, same_put (s1.trans s2) no, ys ++ [.ref t], upd_same, ?_⟩
      have kt : KeepT H' (upd (upd H' t (.tup [.str a, .str b])) o (.lst (ys ++ [.ref t]))) := (KeepT.of s2).trans (KeepT.lst (s2 _ _ ho))
      rw [List.take_add_one, eab]
      exact (hy.keep kt).snoc ⟨t, rfl, by rw [upd_ne nto.symm, upd_same]⟩
    · rintro σ H' ⟨y3, y4, rfl, s1, ys, ho, hy⟩
      rw [hP.1, List.take_length] at hy
      exact ⟨_, rfl, k H' o ys s1 no ho hy⟩
theorem scLinked : FnScope ["rooms", "pairs", "a", "b"] ["rooms", "pairs"] (defScope sLinked) := ⟨rfl, rfl, rfl, by decide +kernel, rfl, by decide +kernel, by decide +kernel⟩
theorem ok_linked {f : Addr} {fd : FuncData} (F : Fun K "linked" "linked" sLinked f fd) : FnOk P w K mg base CX0 1 f fd ["rooms", "pairs"] spLinked := by
  refine F.ok scLinked (fun vs H Q E h => ?_) (fun cdv A outer s H vs Q E hr h => ?_)
  · obtain ⟨n, p, zs, ys, ps, rfl, _⟩ := h
    rfl
  · obtain ⟨n, p, zs, ys, ps, rfl, hn, hN, hl, hp, hP, hok, k⟩ := h
    have hu65 : (A.deeper (PyProof.Rows.envOfC "linked" (defScope sLinked) s.heap.objs.size f cdv)).units + 65 < cLine := by
      have := hr.un
      omega
    refine ⟨_, pss_one (ps_ret (pe_dc (own := [("a", 2)]) (g := gName 2) (tt := tYes) (tv := tLc (iList K (tVar 0)) (gName 3) (tTest (tOp (rInD K) (tTup (tCons (tVar 2) (tCons (tVar 3) tNil))) (tVar 1))) (tVar 3) [3]) rfl scLinked.nd (pi_list (pv 0)) (blkOk_by (N := ["rooms", "pairs", "a", "b"]) (sc := defScope sLinked) (by decide +kernel)) (fun _ _ _ _ _ => (pg_name (i := 2) scLinked.nd rfl (Or.inr rfl))) (fun _ _ _ _ _ => pts_nil) (fun _ _ _ _ _ => (pv 2)) (fun _ _ _ _ _ => (pe_lc (own := [("b", 3)]) (g := gName 3)  rfl scLinked.nd (pi_list (pv 0)) (blkOk_by (N := ["rooms", "pairs", "a", "b"]) (sc := { kind := .function, names := [(".0", .local), ("a", .cell), ("pairs", .cell), ("rooms", .cell)], isGenerator := false, isCoroutine := false }) (by decide +kernel)) (fun _ _ _ _ _ => (pg_name (i := 3) scLinked.nd rfl (Or.inl rfl))) (fun _ _ _ _ _ => pts_one (pt_cmpR (op_inD hu65) (pe_tup (pa_cons (pv 2) (pa_cons (pv 3) pa_nil))) (pv 1) (by rfl))) (fun _ _ _ _ _ => (pv 3)))))), ?_⟩
    refine ⟨_, rfl, n, rfl, ⟨_, SqL.of hn⟩, fun D nD => ?_⟩
    refine dc_list (K := K) (a := n) (xs := zs.map V.str) (fun i H' => Same H H' ∧ ∃ as : List Addr, as.length = i ∧ H' D = some (.dK (kvs (zs.take i) as)) ∧ ∀ (j : Nat) (z : Str) (q : Addr), (zs.take i)[j]? = some z → as[j]? = some q → H q = none ∧ H' q = some (.lst ((lnk zs ps z).map V.str)))
      ⟨same_new nD, [], rfl, upd_same, fun j z q e _ => by simp at e⟩ (fun i H' _ h => SqL.of (h.1 _ _ hn)) ?_ ?_
    · rintro i x H' hx ⟨s1, as, el, hD, has⟩
      obtain ⟨z, ez, rfl⟩ := str_at hx
      have hi : i < zs.length := (List.getElem?_eq_some_iff.mp ez).1
      have hn1 := s1 _ _ hn
      refine ⟨rfl, ?_⟩
      refine ⟨_, rfl, _, rfl, n, rfl, ⟨_, SqL.of hn1⟩, fun B nB => ?_⟩
      have nBD : D ≠ B := ne_of_none hD nB
      have nBH : H B = none := s1.free nB
      refine lc_list (K := K) (a := n) (xs := zs.map V.str) (fun m H2 => Same H' H2 ∧ H2 B = some (.lst ((lnk (zs.take m) ps z).map V.str))) ⟨same_new nB, upd_same⟩ (fun m H2 _ h => SqL.of (h.1 _ _ hn1)) ?_ ?_
      · rintro m y H2 hy ⟨s2, hB⟩
        obtain ⟨b, eb, rfl⟩ := str_at hy
        refine ⟨rfl, ?_⟩
        refine ⟨_, rfl, _, rfl, by show 2 ≤ sizeLine; decide, fun t nt => ?_⟩
        have s3 := same_new (o := .tup [.str z, .str b]) nt
        have s123 := s1.trans (s2.trans s3)
        have hok2 : okP (z, b) := ⟨nm_ok (hN.2 _ (List.mem_of_getElem? ez)), nm_ok (hN.2 _ (List.mem_of_getElem? eb))⟩
        refine ⟨_, rfl, pd (z, b), ps.map pd, pr_dp ⟨t, rfl, upd_same⟩, .lst (SqL.of (s123 _ _ hp)) (pl_dp (hP.same s123)), pd_shaped hok2, pds_shaped hok, _, rfl, ?_⟩
        rw [any_pd]
        refine ite2 (fun e => ?_) (fun e => ?_)
        · have e1 : (z, b) ∈ ps := of_decide_eq_true e
          refine ⟨_, rfl, _, s3 _ _ hB, ?_, same_put (s2.trans s3) nB, ?_⟩
          · rw [List.length_map]
            have := lnk_len (zs.take m) ps z
            rw [List.length_take] at this
            exact small1000 (by omega)
          · rw [upd_same, lnk_take eb, if_pos e1, List.map_append]
            rfl
        · have e1 : ¬ (z, b) ∈ ps := fun q => e (decide_eq_true q)
          refine ⟨s2.trans s3, ?_⟩
          rw [s3 _ _ hB, lnk_take eb, if_neg e1, List.append_nil]
      · rintro H2 ⟨s2, hB⟩
        rw [List.length_map, List.take_length] at hB
        have hD2 := s2 _ _ hD
        have eT := take_snoc ez
        have hnz : valV (kvs (zs.take i) as) (Sum.inr z : Key) = none := kvs_none (nodup_at hN.1 ez)
        have hel : as.length = (zs.take i).length := by
          rw [el, List.length_take]
          omega
        refine ⟨_, (Sum.inr z : Key), rfl, hD2, ?_, same_put (s1.trans s2) nD, as ++ [B], ?_, ?_, ?_⟩
        · rw [kvs_len _ _ hel, List.length_take]
          exact small1000 (by omega)
        · rw [List.length_append, el]
          rfl
        · rw [upd_same, putK_new _ hnz, eT, kvs_snoc hel]
        · intro j y q h1 h2
          have nq : ∀ {q : Addr} {xs : List V}, H2 q = some (.lst xs) → q ≠ D := fun {q xs} hq e => by
            rw [e, hD2] at hq
            cases hq
          rw [eT] at h1
          by_cases hj : j < (zs.take i).length
          · rw [List.getElem?_append_left hj] at h1
            rw [List.getElem?_append_left (by omega)] at h2
            obtain ⟨h3n, h3o⟩ := has j y q h1 h2
            have h3 := s2 _ _ h3o
            rw [upd_ne (nq h3)]
            exact ⟨h3n, h3⟩
          · rw [List.getElem?_append_right (by omega)] at h1 h2
            have ej : j - (zs.take i).length = 0 := by
              have := (List.getElem?_eq_some_iff.mp h1).1
              simp at this
              omega
            rw [ej] at h1
            rw [hel, ej] at h2
            rw [← Option.some.inj h1, ← Option.some.inj h2, upd_ne (nq hB)]
            exact ⟨nBH, hB⟩
    · rintro H' ⟨s1, as, el, hD, has⟩
      rw [List.length_map, List.take_length] at hD has
      rw [List.length_map] at el
      exact k H' D s1 nD ⟨as, el, by rw [new_at nD]; exact hD, fun j z q a b => by rw [new_at (has j z q a b).1]; exact (has j z q a b).2⟩
theorem scInit : FnScope ["self", "rooms", "doors", "sights", "door_pairs", "sight_pairs", "a", "b"] ["self", "rooms", "doors", "sights"] (defScope sInit) := ⟨rfl, rfl, rfl, by decide +kernel, rfl, by decide +kernel, by decide +kernel⟩
abbrev FunI (K : PySem.W.Frag) (dvs : List V) (f : Addr) (fd : FuncData) : Prop := FunD K "__init__" "House.__init__" (defArgs sInit) (defBody sInit) (defScope sInit) dvs [] f fd
theorem ok_init {f fW fU fK C : Addr} {fd fdW fdU fdK : FuncData} {dvs : List V} {tm : Tok} (F : FunI K dvs f fd) (T : HTxt K C) (ml : mg "len" = none) (gM : mg "MOST_ROOMS" = some (.int 8 tm))
    (FW : Fun K "new_names" "new_names" sNew fW fdW) (bW : Binds K fdW ["names"] []) (gW : mg "new_names" = some (.ref fW)) (GW : FnOk P w K mg base CX0 3 fW fdW ["names"] (spNew K))
    (FU : Fun K "unlike_pairs" "unlike_pairs" sUnlike fU fdU) (bU : Binds K fdU ["house", "pairs"] []) (gU : mg "unlike_pairs" = some (.ref fU)) (GU : FnOk P w K mg base CX0 5 fU fdU ["house", "pairs"] (spUnlike K C))
    (FK : Fun K "linked" "linked" sLinked fK fdK) (bK : Binds K fdK ["rooms", "pairs"] []) (gK : mg "linked" = some (.ref fK)) (GK : FnOk P w K mg base CX0 1 fK fdK ["rooms", "pairs"] spLinked) :
    FnOk P w K mg base CX0 6 f fd ["self", "rooms", "doors", "sights"] (spInit K C) := by
  refine F.ok scInit (fun vs H Q E h => ?_) (fun cdv A outer s H vs Q E hr h => ?_)
  · obtain ⟨H0, x, dx, r, d, s, zs, xs, us, ds, ss, rfl, _⟩ := h
    rfl
  · obtain ⟨H0, x, dx, r, d, u, zs, xs, us, ds, ss, rfl, s0, x0, hx, hr', hN, hl, hd, hD, hdl, hdg, hs, hS, hsl, hsg, k⟩ := h
    refine ⟨_, pss_cons (ps_if (pt_cmpR op_gt (pe_callB call_len_seq (by rfl) ml PySem.boot_len (pa_cons (pv 1) pa_nil)) (pe_glob (v := .int 8) (by rfl) gM ⟨_, rfl⟩) (nomark _)) (pss_one (ps_never)) pss_nil)
      (pss_cons (ps_fld (pv 0) (pe_call GW (hr.mono (by decide)) (by rfl) gW FW.kp bW .nil pass0 (pa_cons (pv 1) pa_nil)) rfl)
      (pss_cons (ps_set (i := 4) scInit.nd rfl (Or.inl rfl) (pe_call GU hr (by rfl) gU FU.kp bU .nil pass0 (pa_cons (pv 0) (pa_cons (pv 2) pa_nil))))
      (pss_cons (ps_set (i := 5) scInit.nd rfl (Or.inl rfl) (pe_call GU hr (by rfl) gU FU.kp bU .nil pass0 (pa_cons (pv 0) (pa_cons (pv 3) pa_nil))))
      (pss_cons (ps_fld (pv 0) (pe_call GK (hr.mono (by decide)) (by rfl) gK FK.kp bK .nil pass0 (pa_cons (pe_fld (pv 0) rfl) (pa_cons (pe_op op_cat (pv 4) (pe_lc (own := [("a", 6), ("b", 7)]) (g := gTup K 2 (gCons (gName 6) (gCons (gName 7) gNil))) (tt := tYes)  rfl scInit.nd (pi_list (pv 4)) (blkOk_by (N := ["self", "rooms", "doors", "sights", "door_pairs", "sight_pairs", "a", "b"]) (sc := defScope sInit) (by decide +kernel)) (fun _ _ _ _ _ => (pg_tup rfl (pgs_cons (pg_name (i := 6) scInit.nd rfl (Or.inl rfl)) (pgs_cons (pg_name (i := 7) scInit.nd rfl (Or.inl rfl)) pgs_nil)))) (fun _ _ _ _ _ => pts_nil) (fun _ _ _ _ _ => (pe_tup (pa_cons (pv 7) (pa_cons (pv 6) pa_nil)))))) pa_nil))) rfl)
      (pss_one (ps_fld (pv 0) (pe_call GK (hr.mono (by decide)) (by rfl) gK FK.kp bK .nil pass0 (pa_cons (pe_fld (pv 0) rfl) (pa_cons (pv 5) pa_nil))) rfl)))))), ?_⟩
    refine ⟨_, rfl, r, _, rfl, hr'.same s0, _, _, rfl, rfl, _, rfl, ?_⟩
    rw [List.length_map, decide_eq_false (show ¬ (8 : Int) < ((zs.length : Nat) : Int) by omega)]
    refine iteF ?_
    -- names
    refine ⟨_, rfl, r, zs, rfl, hr'.same s0, hN, by omega, fun H1 n s1 nn hn => ?_⟩
    have hx1 := s1 _ _ hx
    have nxn : n ≠ x := fun e => by
      rw [e, hx] at nn
      cases nn
    refine ⟨_, rfl, x, C, dx, [], rfl, hx1, T.cl, T.nN, by show 0 < 1000; decide, ?_⟩
    have s02 : Same H0 (upd H1 x (.ins C dx (putF "names" (.ref n) []))) := same_put (s0.trans s1) x0
    have hx2 : (upd H1 x (.ins C dx (putF "names" (.ref n) []))) x = some (.ins C dx [(("names" : Str), V.ref n)]) := upd_same
    have hn2 : (upd H1 x (.ins C dx (putF "names" (.ref n) []))) n = some (.lst (zs.map V.str)) := by
      rw [upd_ne nxn]
      exact hn
    generalize upd H1 x (.ins C dx (putF "names" (.ref n) [])) = H2 at s02 hx2 hn2
    have nmd : Nmd C H2 x zs := ⟨dx, n, _, hx2, List.lookup_cons_self, one_no n (by decide +kernel), hn2⟩
    -- pairs
    refine ⟨_, rfl, _, rfl, x, d, zs, xs, ds, rfl, nmd, hd.same s02, hD.same s02, by omega, hdg, fun H3 dp es s3 ndp hdp hes => ?_⟩
    refine ⟨_, rfl, _, rfl, x, u, zs, us, ss, rfl, nmd.same s3, hs.same (s02.trans s3), hS.same (s02.trans s3), by omega, hsg, fun H4 sp fs s4 nsp hsp hfs => ?_⟩
    have s24 := s3.trans s4
    have hx4 := s24 _ _ hx2
    have hn4 := s24 _ _ hn2
    have hdp4 := s4 _ _ hdp
    have hes4 := hes.same s4
    have nl4 : ([(("names" : Str), V.ref n)] : List (Str × V)).lookup ("names" : Str) = some (V.ref n) := List.lookup_cons_self
    -- behind
    refine ⟨_, rfl, x, C, dx, _, _, rfl, hx4, T.cl, T.nN, nl4, _, rfl, _, rfl, dp, rfl, ⟨_, SqL.of hdp4⟩, fun B nB => ?_⟩
    refine lc_list (K := K) (a := dp) (xs := es) (fun i H' => Same H4 H' ∧ ∃ ys, H' B = some (.lst ys) ∧ PL H' ys ((swp ds).take i)) ⟨same_new nB, [], upd_same, PL.nil⟩ (fun i H' _ h => SqL.of (h.1 _ _ hdp4)) ?_ ?_
    · rintro i y H' hy ⟨s5, ys, hB, hys⟩
      obtain ⟨⟨a, b⟩, eab, q, rfl, hq⟩ := hes4.at hy
      have hi : i < ds.length := (List.getElem?_eq_some_iff.mp eab).1
      refine ⟨q, _, rfl, SqT.of (s5 _ _ hq), rfl, _, _, rfl, _, _, rfl, rfl, rfl, ?_⟩
      refine ⟨_, rfl, _, rfl, by show 2 ≤ sizeLine; decide, fun t nt => ?_⟩
      have s6 := same_new (o := .tup [.str b, .str a]) nt
      have nBt : B ≠ t := ne_of_none hB nt
      have yl : ys.length ≤ 400 := by
        rw [hys.1, List.length_take, swp_len]
        have := hD.1
        omega
      refine ⟨_, s6 _ _ hB, small1000 (by omega), same_put (s5.trans s6) nB, ys ++ [.ref t], upd_same, ?_⟩
      have kt : KeepT H' (upd (upd H' t (.tup [.str b, .str a])) B (.lst (ys ++ [.ref t]))) := (KeepT.of s6).trans (KeepT.lst (s6 _ _ hB))
      have e2 : (swp ds)[i]? = some (b, a) := by
        unfold swp
        rw [List.getElem?_map, eab]
        rfl
      rw [List.take_add_one, e2]
      exact (hys.keep kt).snoc ⟨t, rfl, by rw [upd_ne nBt.symm, upd_same]⟩
    rintro H5 ⟨s5, ys, hB, hys⟩
    have eal : es.length = (swp ds).length := by rw [hes4.1, swp_len]
    rw [eal, List.take_length] at hys
    have el5 : es.length ≤ 400 := by
      rw [hes4.1]
      have := hD.1
      omega
    have yl5 : ys.length ≤ 400 := by
      rw [hys.1, ← eal]
      exact el5
    refine ⟨dp, B, _, _, rfl, rfl, s5 _ _ hdp4, hB, Nat.le_of_lt (small1000 (by omega)), fun b2 nb2 => ?_⟩
    have s6 := same_new (o := .lst (es ++ ys)) nb2
    have s46 := s5.trans s6
    have okd : ∀ ab ∈ both ds, okP ab := by
      intro ab hab
      rcases List.mem_append.mp hab with h | h
      · exact pred_ok hN (hdg ab h)
      · obtain ⟨cd, hcd, rfl⟩ := List.mem_map.mp h
        have := pred_ok hN (hdg cd hcd)
        exact ⟨this.2, this.1⟩
    refine ⟨n, b2, zs, es ++ ys, both ds, rfl, s46 _ _ hn4, hN, by omega, upd_same, ((hes4.same s5).append hys).same s6, okd, fun H7 bd s7 nbd hbd => ?_⟩
    have hx7 := s7 _ _ (s46 _ _ hx4)
    refine ⟨_, rfl, x, C, dx, _, rfl, hx7, T.cl, T.nB, by show 1 < 1000; decide, ?_⟩
    rw [put_b]
    have s07 := s02.trans (s24.trans (s46.trans s7))
    have s08 : Same H0 (upd H7 x (.ins C dx [(("names" : Str), V.ref n), (("behind" : Str), V.ref bd)])) := same_put s07 x0
    have hx8 : (upd H7 x (.ins C dx [(("names" : Str), V.ref n), (("behind" : Str), V.ref bd)])) x = some (.ins C dx [(("names" : Str), V.ref n), (("behind" : Str), V.ref bd)]) := upd_same
    have hn8 : (upd H7 x (.ins C dx [(("names" : Str), V.ref n), (("behind" : Str), V.ref bd)])) n = some (.lst (zs.map V.str)) := by
      rw [upd_ne nxn]
      exact s7 _ _ (s46 _ _ hn4)
    have hsp7 := s7 _ _ (s46 _ _ hsp)
    have hsp8 : (upd H7 x (.ins C dx [(("names" : Str), V.ref n), (("behind" : Str), V.ref bd)])) sp = some (.lst fs) := by
      rw [upd_ne (fun e => by rw [e, hx7] at hsp7; cases hsp7)]
      exact hsp7
    have hfs8 : PL (upd H7 x (.ins C dx [(("names" : Str), V.ref n), (("behind" : Str), V.ref bd)])) fs ss := (hfs.same (s46.trans s7)).keep (KeepT.ins hx7)
    have up8 : ∀ q o, newPart (upd H5 b2 (.lst (es ++ ys))) H7 q = some o → (upd H7 x (.ins C dx [(("names" : Str), V.ref n), (("behind" : Str), V.ref bd)])) q = some o := fun q o e => by
      obtain ⟨e1, e2⟩ := new_inv e
      rw [upd_ne (fun z => by rw [z, s46 _ _ hx4] at e1; cases e1)]
      exact e2
    generalize upd H7 x (.ins C dx [(("names" : Str), V.ref n), (("behind" : Str), V.ref bd)]) = H8 at s08 hx8 hn8 hsp8 hfs8 up8
    -- views
    refine ⟨_, rfl, x, C, dx, _, _, rfl, hx8, T.cl, T.nN, List.lookup_cons_self, _, rfl, n, sp, zs, fs, ss, rfl, hn8, hN, by omega, hsp8, hfs8, fun ab hab => pred_ok hN (hsg ab hab), fun H9 vd s9 nvd hvd => ?_⟩
    have hx9 := s9 _ _ hx8
    refine ⟨_, rfl, x, C, dx, _, rfl, hx9, T.cl, T.nV, by show 2 < 1000; decide, ?_⟩
    rw [put_v]
    have sF := same_put (o := .ins C dx (hf n bd vd)) (s08.trans s9) x0
    have n0 : H0 n = none := s0.free nn
    have s0a : Same H0 (upd H5 b2 (.lst (es ++ ys))) := s02.trans (s24.trans s46)
    have upF : ∀ {Ha : Hp} (q : Addr) (o : HO), Ha x ≠ none → Ha q = none → H9 q = some o → (upd H9 x (.ins C dx (hf n bd vd))) q = some o := fun {Ha} q o hx e1 e2 => by
      rw [upd_ne (fun z => hx (by rw [← z]; exact e1))]
      exact e2
    refine k _ sF ⟨dx, n, bd, vd, ?_, ?_, hbd.same (new_up s0a fun q o e1 e2 => ?_), hvd.same (new_up s08 fun q o e1 e2 => ?_), hN, hl⟩
    · rw [new_at x0, upd_same]
    · rw [new_at n0, upd_ne nxn]
      exact s9 _ _ hn8
    · exact upF (Ha := upd H5 b2 (.lst (es ++ ys))) q o (by rw [s46 _ _ hx4]; exact fun z => by cases z) e1 (s9 _ _ (up8 q o (by rw [new_at e1]; exact e2)))
    · exact upF (Ha := H8) q o (by rw [hx8]; exact fun z => by cases z) e1 e2
theorem bind_init {t1 t2 t3 f : Addr} {fd : FuncData} (F : FunI K [V.ref t1, V.ref t2, V.ref t3] f fd) : Binds K fd ["self", "rooms", "doors", "sights"] [] := by
  obtain ⟨ds, v, b⟩ := FunD.binds1 (ps := ["self", "rooms", "doors", "sights"]) F 4 3 (by simp) rfl (by
    intro T kV doc pm an cdv ct us its h1 h2
    match us, h1, its, h2 with
    | [_, _, _, _], _, [_, _, _], _ => exact ⟨_, rfl, rfl⟩)
  cases v
  exact b
end
end Dk
namespace Dk
open PySem L2
section
variable {P : Program} {w : World} {K : PySem.W.Frag} {mg : Str → Option Value} {base : Heap}
theorem scHD : FnScope ["self", "a", "b"] ["self", "a", "b"] (defScope sHasDoor) := ⟨rfl, rfl, rfl, by decide +kernel, rfl, by decide +kernel, by decide +kernel⟩
theorem ok_hasdoor {f C fNs : Addr} {fd dNs : FuncData} (F : Fun K "has_door" "House.has_door" sHasDoor f fd) (T : HTxt K C) (FNs : Fun K "need_rooms" "need_rooms" sNeeds fNs dNs) (bNs : Binds K dNs ["house", "a", "b"] []) (gNs : mg "need_rooms" = some (.ref fNs)) (GNs : FnOk P w K mg base CX0 3 fNs dNs ["house", "a", "b"] (spNeeds C)) : FnOk P w K mg base CX0 4 f fd ["self", "a", "b"] (spHasDoor C) := by
  refine F.ok scHD (fun vs H Q E h => ?_) (fun cdv A outer s H vs Q E hr h => ?_)
  · obtain ⟨h, zs, bh, vw, a, b, rfl, _⟩ := h
    rfl
  · obtain ⟨h, zs, bh, vw, a, b, rfl, hH, ha, hb, k⟩ := h
    refine ⟨_, pss_cons (ps_expr (pe_call GNs hr (by rfl) gNs FNs.kp bNs .nil pass0 (pa_cons (pv 0) (pa_cons (pv 1) (pa_cons (pv 2) pa_nil)))))
      (pss_one (ps_ret (pe_cmpR op_in_seq (pv 2) (pe_dget (hu_of hr) (pe_fld (pv 0) rfl) (pv 1) (fun _ _ => rfl)) (by rfl)))), ?_⟩
    obtain ⟨⟨dx, n, bx, v, h1, h2, h3, h4, hN, hl⟩, _⟩ := id hH
    obtain ⟨p, hp0, hg⟩ := h3.get hN.1 ha
    refine ⟨_, rfl, _, rfl, _, rfl, h, zs, a, b, rfl, hH.nmd, ha, hb, ?_⟩
    refine ⟨_, rfl, _, rfl, h, C, dx, _, _, rfl, h1, T.cl, T.nB, hf_b _ _ _, _, rfl, bx, _, rfl, hg _ (fun _ _ z => z), p, _, rfl, .inl (SqL.of hp0), rfl, flat_all _, ?_⟩
    show Q (V.bl (inV (.str b) ((bh a).map V.str))) H
    rw [in_strs]
    exact k
theorem scAH : FnScope ["self", "a", "b"] ["self", "a", "b"] (defScope sAtHand) := ⟨rfl, rfl, rfl, by decide +kernel, rfl, by decide +kernel, by decide +kernel⟩
theorem ok_athand {f C fHD : Addr} {fd dHD : FuncData} (F : Fun K "at_hand" "House.at_hand" sAtHand f fd) (T : HTxt K C) (mHD : Meth K C "has_door" fHD) (bHD : Binds K dHD ["self", "a", "b"] []) (GHD : FnOk P w K mg base CX0 4 fHD dHD ["self", "a", "b"] (spHasDoor C)) : FnOk P w K mg base CX0 5 f fd ["self", "a", "b"] (spAtHand C) := by
  refine F.ok scAH (fun vs H Q E h => ?_) (fun cdv A outer s H vs Q E hr h => ?_)
  · obtain ⟨h, zs, bh, vw, a, b, rfl, _⟩ := h
    rfl
  · obtain ⟨h, zs, bh, vw, a, b, rfl, hH, ha, hb, k⟩ := h
    refine ⟨_, pss_one (ps_ret (pe_or (pe_meth (pv 0) T.cl mHD GHD hr bHD .nil pass0 (pa_cons (pv 1) (pa_cons (pv 2) pa_nil))) (pe_one (pe_cmpR op_eq (pv 1) (pv 2) (nomark _))))), ?_⟩
    obtain ⟨⟨dx, n, bx, v, h1, h2, h3, h4, hN, hl⟩, _⟩ := id hH
    refine ⟨_, rfl, h, dx, _, rfl, h1, hf_no _ _ _ (by decide +kernel) (by decide +kernel) (by decide +kernel), _, rfl, _, rfl, h, zs, bh, vw, a, b, rfl, hH, ha, hb, ?_⟩
    cases e : decide (b ∈ bh a) with
    | true =>
      rw [e] at k
      exact ⟨_, rfl, iteT k⟩
    | false =>
      rw [e] at k
      refine ⟨_, rfl, iteF ⟨_, rfl, _, rfl, rfl, ?_⟩⟩
      have e2 : decide (V.str a = V.str b) = decide (a = b) := by
        rw [Bool.eq_iff_iff, decide_eq_true_eq, decide_eq_true_eq]
        exact ⟨fun z => V.str.inj z, fun z => by rw [z]⟩
      rw [e2]
      exact k
theorem scSees : FnScope ["self", "room"] ["self", "room"] (defScope sSees) := ⟨rfl, rfl, rfl, by decide +kernel, rfl, by decide +kernel, by decide +kernel⟩
theorem ok_sees {f C fNe : Addr} {fd dNe : FuncData} (F : Fun K "sees" "House.sees" sSees f fd) (T : HTxt K C) (FNe : Fun K "need_room" "need_room" sNeed fNe dNe) (bNe : Binds K dNe ["house", "room"] []) (gNe : mg "need_room" = some (.ref fNe)) (GNe : FnOk P w K mg base CX0 2 fNe dNe ["house", "room"] (spNeed C)) (m_list : mg "list" = none) : FnOk P w K mg base CX0 3 f fd ["self", "room"] (spSees C) := by
  refine F.ok scSees (fun vs H Q E h => ?_) (fun cdv A outer s H vs Q E hr h => ?_)
  · obtain ⟨h, zs, bh, vw, a, rfl, _⟩ := h
    rfl
  · obtain ⟨h, zs, bh, vw, a, rfl, hH, ha, k⟩ := h
    refine ⟨_, pss_cons (ps_expr (pe_call GNe hr (by rfl) gNe FNe.kp bNe .nil pass0 (pa_cons (pv 0) (pa_cons (pv 1) pa_nil))))
      (pss_one (ps_ret (pe_callTy call_list_of (by rfl) m_list (by decide +kernel) (pa_cons (pe_dget (hu_of hr) (pe_fld (pv 0) rfl) (pv 1) (fun _ _ => rfl)) pa_nil)))), ?_⟩
    obtain ⟨⟨dx, n, bx, v, h1, h2, h3, h4, hN, hl⟩, _⟩ := id hH
    obtain ⟨p, hp0, hg⟩ := h4.get hN.1 ha
    refine ⟨_, rfl, _, rfl, h, zs, a, rfl, hH.nmd, ha, ?_⟩
    refine ⟨_, rfl, h, C, dx, _, _, rfl, h1, T.cl, T.nV, hf_v _ _ _, _, rfl, v, _, rfl, hg _ (fun _ _ z => z), p, _, rfl, .inl (SqL.of hp0), fun q nq => ?_⟩
    exact k _ q (same_new nq) nq upd_same
theorem scNR : FnScope ["house", "rooms", "room", "at"] ["house", "rooms"] (defScope sNeedRound) := ⟨rfl, rfl, rfl, by decide +kernel, rfl, by decide +kernel, by decide +kernel⟩
theorem ok_needround {f C fNe fAH : Addr} {fd dNe dAH : FuncData} (F : Fun K "need_round" "need_round" sNeedRound f fd) {tk : Tok} (T : HTxt K C) (FNe : Fun K "need_room" "need_room" sNeed fNe dNe) (bNe : Binds K dNe ["house", "room"] []) (gNe : mg "need_room" = some (.ref fNe)) (GNe : FnOk P w K mg base CX0 2 fNe dNe ["house", "room"] (spNeed C)) (mAH : Meth K C "at_hand" fAH) (bAH : Binds K dAH ["self", "a", "b"] []) (GAH : FnOk P w K mg base CX0 5 fAH dAH ["self", "a", "b"] (spAtHand C)) (m_len : mg "len" = none) (m_enumerate : mg "enumerate" = none) (cR : mg "MOST_ROUND" = some (.int 6 tk)) : FnOk P w K mg base CX0 6 f fd ["house", "rooms"] (spNeedRound C) := by
  refine F.ok scNR (fun vs H Q E h => ?_) (fun cdv A outer s H vs Q E hr h => ?_)
  · obtain ⟨h, t, zs, bh, vw, rs, rfl, _⟩ := h
    rfl
  · obtain ⟨h, t, zs, bh, vw, rs, rfl, hH, ht, hR, k⟩ := h
    refine ⟨_, pss_cons (ps_if (pt_not (pt_chain op_le op_le pe_int (pe_callB call_len_seq (by rfl) m_len PySem.boot_len (pa_cons (pv 1) pa_nil)) (pe_glob (v := .int 6) (by rfl) cR ⟨_, rfl⟩))) (pss_one (ps_never)) pss_nil)
      (pss_cons (ps_for PassesOwn.never rfl (pi_tup (pv 1)) (pg_name (i := 2) scNR.nd rfl (Or.inl rfl))
      (pss_one (ps_expr (pe_call GNe (hr.mono (by decide)) (by rfl) gNe FNe.kp bNe .nil pass0 (pa_cons (pv 0) (pa_cons (pv 2) pa_nil))))))
      (pss_one (ps_for PassesOwn.never rfl (pi_enumT (by rfl) m_enumerate (pa_cons (pv 1) pa_nil)) (pg_tup rfl (pgs_cons (pg_name (i := 3) scNR.nd rfl (Or.inl rfl)) (pgs_cons (pg_name (i := 2) scNR.nd rfl (Or.inl rfl)) pgs_nil)))
      (pss_one (ps_if (pt_not (pt_val (pe_meth (pv 0) T.cl mAH GAH hr bAH .nil pass0 (pa_cons (pv 2) (pa_cons (pe_ix ix_tup (pv 1) (pe_op op_mod (pe_op op_add (pv 3) pe_int) (pe_callB call_len_seq (by rfl) m_len PySem.boot_len (pa_cons (pv 1) pa_nil))) (fun _ _ => rfl)) pa_nil))))) (pss_one (ps_never)) pss_nil))))), ?_⟩
    have o1 := hR.one
    have o6 := hR.six
    have lR : (rs.map V.str).length = rs.length := List.length_map ..
    refine ⟨_, rfl, t, _, rfl, .inr (SqT.of ht), _, _, rfl, rfl, _, rfl, ?_⟩
    rw [decide_eq_true (show (1 : Int) ≤ (((rs.map V.str).length : Nat) : Int) by rw [lR]; omega)]
    refine iteT ⟨_, _, rfl, rfl, _, rfl, ?_⟩
    rw [decide_eq_true (show (((rs.map V.str).length : Nat) : Int) ≤ 6 by rw [lR]; omega)]
    refine iteF ?_
    refine ⟨_, rfl, t, rfl, ⟨_, SqT.of ht⟩, for_tup (K := K) (a := t) (xs := rs.map V.str) (fun i σ H' => ∃ y2, σ = [some (.ref h), some (.ref t), y2, none] ∧ H' = H) ⟨_, rfl, rfl⟩ (fun i σ H' _ z => by obtain ⟨_, _, rfl⟩ := z; exact SqT.of ht) ?_ ?_⟩
    · rintro i x σ H' hx ⟨y2, rfl, rfl⟩
      obtain ⟨r, er, rfl⟩ := str_at hx
      exact ⟨_, rfl, _, rfl, h, zs, r, rfl, hH.nmd, hR.mem r (List.mem_of_getElem? er), ⟨_, rfl, rfl⟩⟩
    · rintro σ H' ⟨y2, rfl, rfl⟩
      refine ⟨_, rfl, t, _, rfl, SqT.of ht, for_it (walk_enumT (K := K) (a := t) (xs := rs.map V.str)) (fun i σ H2 => ∃ y2 y3, σ = [some (.ref h), some (.ref t), y2, y3] ∧ Same H' H2) ⟨_, _, rfl, fun _ _ z => z⟩ (fun i σ H2 _ z => by obtain ⟨_, _, _, z⟩ := z; exact SqT.of (z _ _ ht)) ?_ ?_⟩
      · rintro i x σ H1 H2 hi ⟨y2, y3, rfl, s1⟩ ⟨tq, x1, y1, rfl, ntq, rfl, e1, e2⟩
        have e1' : x1 = .int (i : Nat) := (Option.some.inj e1).symm
        subst e1'
        obtain ⟨r, er, rfl⟩ := str_at e2
        have s2 := same_new (o := .tup [.int (i : Nat), .str r]) ntq
        have s12 := s1.trans s2
        have hH2 := hH.same s12
        obtain ⟨⟨dx, n, bx, v, h1, _⟩, _⟩ := id hH2
        obtain ⟨m1, m2⟩ := hR.nxt_mem i
        have ei : ((((i : Nat) : Int) + 1) % (((rs.map V.str).length : Nat) : Int)) = (((i + 1) % rs.length : Nat) : Int) := by
          rw [lR, Int.natCast_emod]
          rfl
        refine ⟨tq, _, rfl, SqT.of upd_same, rfl, _, _, rfl, _, _, rfl, rfl, ?_⟩
        refine ⟨_, rfl, h, dx, _, rfl, h1, hf_no _ _ _ (by decide +kernel) (by decide +kernel) (by decide +kernel), _, rfl, _, rfl, _, rfl, _, _, rfl, rfl, _, rfl, t, _, rfl, .inr (SqT.of (s12 _ _ ht)), _, _, rfl, rfl, by rw [lR]; omega, t, _, _, _, rfl, rfl, SqT.of (s12 _ _ ht), by rw [ei]; exact at_str m2 rfl, h, zs, bh, vw, r, nxt rs i, rfl, hH2, hR.mem r (List.mem_of_getElem? er), m1, ?_⟩
        have ok : (decide (nxt rs i ∈ bh r) || decide (r = nxt rs i)) = true := by
          rcases hR.hand i r er with z | z
          · rw [decide_eq_true z]
            rfl
          · rw [decide_eq_true z, Bool.or_true]
        rw [ok]
        exact ⟨true, rfl, iteF ⟨_, _, rfl, s12⟩⟩
      · rintro σ H2 ⟨y2, y3, rfl, s1⟩
        exact k H2 s1
theorem scDas : FnScope ["one", "other", "rest", "behind", "share", "share_behind", "times"] ["one", "other"] (defScope sDas) := ⟨rfl, rfl, rfl, by decide +kernel, rfl, by decide +kernel, by decide +kernel⟩
theorem ok_das {f : Addr} {fd : FuncData} (F : Fun K "divisor_and_share" "divisor_and_share" sDas f fd) : FnOk P w K mg base CX0 1 f fd ["one", "other"] spDas := by
  refine F.ok scDas (fun vs H Q E h => ?_) (fun cdv A outer s H vs Q E hr h => ?_)
  · obtain ⟨x, y, rfl, _⟩ := h
    rfl
  · obtain ⟨x, y, rfl, hx0, hx, hy, k⟩ := h
    refine ⟨_, pss_cons (ps_par (i := 2) (j := 3) (by rfl) scDas.nd rfl rfl (by decide) rfl rfl (pa_cons (pv 0) (pa_cons (pv 1) pa_nil)) (by rfl))
      (pss_cons (ps_asg (pe_tup (pa_cons pe_int (pa_cons pe_int pa_nil))) (pg_tup rfl (pgs_cons (pg_name (i := 4) scDas.nd rfl (Or.inl rfl)) (pgs_cons (pg_name (i := 5) scDas.nd rfl (Or.inl rfl)) pgs_nil))))
      (pss_cons (ps_while PassesOwn.never (pt_cmpR op_gt (pv 3) pe_int (nomark _))
      (pss_cons (ps_set (i := 6) scDas.nd rfl (Or.inl rfl) (pe_op op_fdivW (pv 2) (pv 3)))
      (pss_cons (ps_par (i := 2) (j := 3) (by rfl) scDas.nd rfl rfl (by decide) rfl rfl (pa_cons (pv 3) (pa_cons (pe_op op_sub (pv 2) (pe_op op_mul (pv 6) (pv 3))) pa_nil)) (by rfl))
      (pss_one (ps_par (i := 4) (j := 5) (by rfl) scDas.nd rfl rfl (by decide) rfl rfl (pa_cons (pv 5) (pa_cons (pe_op op_sub (pv 4) (pe_op op_mul (pv 6) (pv 5))) pa_nil)) (by rfl))))))
      (pss_one (ps_ret (pe_tup (pa_cons (pv 2) (pa_cons (pv 4) pa_nil))))))), ?_⟩
    refine ⟨_, rfl, _, rfl, _, _, rfl, by show 2 ≤ sizeLine; decide, fun t0 nt0 => ?_⟩
    refine ⟨t0, _, rfl, SqT.of upd_same, rfl, _, _, rfl, _, _, rfl, rfl, ?_⟩
    refine while_by (fun σ H' => ∃ (r b : Nat) (c d p q : Int) (y6 : Option V), σ = [some (.int (x : Int)), some (.int (y : Int)), some (.int (r : Int)), some (.int (b : Int)), some (.int c), some (.int d), y6] ∧ Same H H' ∧ 0 < r ∧ r < 2 ^ 64 ∧ b < 2 ^ 64 ∧ Nat.gcd r b = Nat.gcd x y ∧ c * x = r + p * y ∧ d * x = b + q * y)
      (fun σ _ => match σ with | [_, _, _, some (.int b), _, _, _] => b.toNat | _ => 0) ⟨x, y, 1, 0, 0, -1, _, rfl, same_new nt0, hx0, hx, hy, rfl, by omega, by omega⟩ ?_ (mono_test (mono_var 3) (mono_const _) ?_)
    · rintro σ H' ⟨r, b, c, d, p, q, y6, rfl, sm, hr0, hr1, hb1, hg, e1, e2⟩
      refine ⟨_, rfl, _, _, rfl, rfl, _, rfl, ite2 (fun e => ?_) (fun e => ?_)⟩
      · have hb0 : (0 : Int) < (b : Int) := of_decide_eq_true e
        have hd : CDivW (r : Int) (b : Int) := wide_div (b := 64) hb0 hb1 (by decide) (by decide)
        refine ⟨_, rfl, _, rfl, _, _, rfl, rfl, hd, ?_⟩
        have hq0 : (0 : Int) ≤ (r : Int) / (b : Int) := Int.ediv_nonneg (by omega) (by omega)
        have hq1 : (r : Int) / (b : Int) ≤ r := Int.ediv_le_self _ (by omega)
        have hmod := Int.emod_add_mul_ediv (r : Int) (b : Int)
        have hrb : ((r % b : Nat) : Int) = (r : Int) - (r : Int) / (b : Int) * (b : Int) := by
          rw [Int.natCast_emod, Int.mul_comm]
          omega
        have hml := Nat.mod_lt r (show 0 < b by omega)
        refine ⟨_, rfl, _, rfl, _, rfl, _, rfl, _, _, rfl, rfl, .inl ⟨by omega, by omega⟩, _, _, rfl, rfl, _, _, rfl, ?_⟩
        refine ⟨_, rfl, _, rfl, _, rfl, _, rfl, _, _, rfl, rfl, .inl ⟨by omega, by omega⟩, _, _, rfl, rfl, _, _, rfl, ?_⟩
        refine ⟨⟨b, r % b, d, c - (r : Int) / (b : Int) * d, q, p - (r : Int) / (b : Int) * q, some (.int ((r : Int) / (b : Int))), by rw [hrb]; rfl, sm, by omega, hb1, by omega, ?_, e2, ?_⟩, ?_⟩
        · rw [← hg, Nat.gcd_comm r b, Nat.gcd_rec b r, Nat.gcd_comm]
        · rw [Int.sub_mul, Int.sub_mul, Int.mul_assoc, Int.mul_assoc, e1, e2, hrb, Int.mul_add]
          omega
        · show ((r : Int) - (r : Int) / (b : Int) * (b : Int)).toNat < ((b : Nat) : Int).toNat
          rw [← hrb]
          omega
      · have hb0 : ¬ (0 : Int) < (b : Int) := fun z => e (decide_eq_true z)
        have eb : b = 0 := by omega
        subst eb
        rw [Nat.gcd_zero_right] at hg
        subst hg
        refine ⟨_, rfl, _, rfl, by show 2 ≤ sizeLine; decide, fun t nt => ?_⟩
        exact k _ t c p (sm.trans (same_new nt)) (sm.free nt) upd_same e1
    · rintro a b H' Q1 Q2 h ⟨i, j, e1, e2, q⟩
      exact ⟨i, j, e1, e2, h _ _ q⟩
theorem scWheel : FnScope ["sizes", "wheel", "size"] ["sizes"] (defScope sWheel) := ⟨rfl, rfl, rfl, by decide +kernel, rfl, by decide +kernel, by decide +kernel⟩
theorem ok_wheel {f fS : Addr} {fd fdS : FuncData} (F : Fun K "wheel_of" "wheel_of" sWheel f fd) (FS : Fun K "divisor_and_share" "divisor_and_share" sDas fS fdS) (bS : Binds K fdS ["one", "other"] []) (gS : mg "divisor_and_share" = some (.ref fS)) : FnOk P w K mg base CX0 2 f fd ["sizes"] (spWheel K) := by
  have GS : FnOk P w K mg base CX0 1 fS fdS ["one", "other"] spDas := ok_das FS
  refine F.ok scWheel (fun vs H Q E h => ?_) (fun cdv A outer s H vs Q E hr h => ?_)
  · obtain ⟨p, ns, rfl, _⟩ := h
    rfl
  · obtain ⟨p, ns, rfl, hS, hn, hl, k⟩ := h
    refine ⟨_, pss_cons (ps_set (i := 1) scWheel.nd rfl (Or.inl rfl) pe_int)
      (pss_cons (ps_for PassesOwn.never rfl (pi_any (pi_list (pv 0)) (pi_tup (pv 0))) (pg_name (i := 2) scWheel.nd rfl (Or.inl rfl))
      (pss_one (ps_set (i := 1) scWheel.nd rfl (Or.inl rfl) (pe_op op_mul (pe_op op_fdivW (pv 1) (pe_ix ix_tup (pe_call GS hr (by rfl) gS FS.kp bS .nil pass0 (pa_cons (pv 1) (pa_cons (pv 2) pa_nil))) pe_int (fun _ _ => rfl))) (pv 2)))))
      (pss_one (ps_ret (pv 1)))), ?_⟩
    have turn : ∀ (D : Ends) (i : Nat) (x : V) (σ : L2.St) (H' : Hp), D.nx = (fun σ H' => ∃ y2 : Option V, σ = [some (.ref p), some (.int (lcmL (ns.take (i + 1)) : Nat)), y2] ∧ Same H H') → (ns.map natV)[i]? = some x → (∃ y2 : Option V, σ = [some (.ref p), some (.int (lcmL (ns.take i) : Nat)), y2] ∧ Same H H') →
        gName 2 x σ H' fun σ2 H2 => (tAsg (tOp (rI CMul fun i j => .int (i * j)) (tOp (rI CDivW fun i j => .int (i / j)) (tVar 1) (tOp (rIxT K) (tCall spDas [] E0 (tCons (tVar 1) (tCons (tVar 2) tNil))) (tC (.int 0)))) (tVar 2)) (gName 1)) D σ2 H2 := by
      rintro D i x σ H' hD hx ⟨y2, rfl, s1⟩
      rw [List.getElem?_map] at hx
      obtain ⟨n, en, rfl⟩ : ∃ n, ns[i]? = some n ∧ x = natV n := by
        cases e : ns[i]? with
        | none =>
          rw [e] at hx
          cases hx
        | some n =>
          rw [e] at hx
          exact ⟨n, rfl, (Option.some.inj hx).symm⟩
      obtain ⟨hn0, hn1⟩ := hn n (List.mem_of_getElem? en)
      have hw := hl i
      have hw0 : 0 < lcmL (ns.take i) := foldl_pos _ (by decide) fun m hm => (hn m (List.mem_of_mem_take hm)).1
      generalize ew : lcmL (ns.take i) = w at *
      refine ⟨_, rfl, _, rfl, _, rfl, w, n, rfl, hw0, hw, hn1, fun H2 t c q s2 nt ht _ => ?_⟩
      have hgp : 0 < Nat.gcd w n := Nat.gcd_pos_of_pos_left n hw0
      have hgl : Nat.gcd w n ≤ w := Nat.le_of_dvd hw0 (Nat.gcd_dvd_left w n)
      have hd : CDivW (w : Int) (Nat.gcd w n : Nat) := wide_div (b := 64) (by omega) (by show ((Nat.gcd w n : Nat) : Int).natAbs < 2 ^ 64; omega) (by decide) (by decide)
      refine ⟨t, _, 0, _, rfl, rfl, SqT.of ht, atI_nat (j := 0) rfl, _, _, rfl, rfl, hd, _, rfl, _, _, rfl, rfl, .inr ⟨by omega, by omega⟩, ?_⟩
      show D.nx _ H2
      rw [hD]
      refine ⟨some (natV n), ?_, s1.trans s2⟩
      have e2 : ((w : Int) / (Nat.gcd w n : Nat)) * (n : Int) = ((lcmL (ns.take (i + 1)) : Nat) : Int) := by
        rw [lcmL_take en, ew, ← lcm_eq, Int.natCast_mul, Int.natCast_ediv]
      rw [← e2]
      rfl
    rcases hS with hS | hS
    · refine .inl ⟨_, rfl, p, rfl, ⟨_, hS⟩, for_list (K := K) (a := p) (xs := ns.map natV) (fun i σ H' => ∃ y2 : Option V, σ = [some (.ref p), some (.int (lcmL (ns.take i) : Nat)), y2] ∧ Same H H') ⟨_, rfl, Same.refl H⟩ (fun i σ H' _ h => by obtain ⟨_, _, s1⟩ := h; exact s1.seq hS) (fun i x σ H' hx h => turn _ i x σ H' rfl hx h) ?_⟩
      rintro σ H' ⟨y2, rfl, s1⟩
      rw [List.length_map, List.take_length]
      exact ⟨_, rfl, k H' s1⟩
    · refine .inr ⟨_, rfl, p, rfl, ⟨_, hS⟩, for_tup (K := K) (a := p) (xs := ns.map natV) (fun i σ H' => ∃ y2 : Option V, σ = [some (.ref p), some (.int (lcmL (ns.take i) : Nat)), y2] ∧ Same H H') ⟨_, rfl, Same.refl H⟩ (fun i σ H' _ h => by obtain ⟨_, _, s1⟩ := h; exact Same.tup s1 hS) (fun i x σ H' hx h => turn _ i x σ H' rfl hx h) ?_⟩
      rintro σ H' ⟨y2, rfl, s1⟩
      rw [List.length_map, List.take_length]
      exact ⟨_, rfl, k H' s1⟩
def spPlace (K : PySem.W.Frag) : Sp := fun vs H Q _ => ∃ (p : Addr) (xs : List V) (b d : Int), vs = [.ref p, .int b, .int d] ∧ Sq K H p xs ∧ 0 < xs.length ∧ Q (plc xs (b - d)) H
abbrev FunP (K : PySem.W.Frag) (f : Addr) (fd : FuncData) : Prop := FunD K "place" "place" (defArgs sPlace) (defBody sPlace) (defScope sPlace) [] [("delay", .int 0)] f fd
theorem scPlace : FnScope ["rooms", "beat", "delay"] ["rooms", "beat", "delay"] (defScope sPlace) := ⟨rfl, rfl, rfl, by decide +kernel, rfl, by decide +kernel, by decide +kernel⟩
theorem ok_place {f : Addr} {fd : FuncData} (F : FunP K f fd) (ml : mg "len" = none) : FnOk P w K mg base CX0 1 f fd ["rooms", "beat", "delay"] (spPlace K) := by
  refine F.ok scPlace (fun vs H Q E h => ?_) (fun cdv A outer s H vs Q E hr h => ?_)
  · obtain ⟨p, xs, b, d, rfl, _⟩ := h
    rfl
  · obtain ⟨p, xs, b, d, rfl, hS, h0, k⟩ := h
    refine ⟨_, pss_one (ps_ret (pe_ix ix_seq (pv 0) (pe_op op_mod (pe_op op_sub (pv 1) (pv 2)) (pe_callB call_len_seq (by rfl) ml PySem.boot_len (pa_cons (pv 0) pa_nil))) (fun _ _ => rfl))), ?_⟩
    refine ⟨_, rfl, _, rfl, _, rfl, _, _, rfl, rfl, _, rfl, p, xs, rfl, hS, _, _, rfl, rfl, by omega, ?_⟩
    rcases hS with hS | hS
    · exact .inl ⟨p, xs, _, _, rfl, rfl, hS, plc_at h0 _, k⟩
    · exact .inr (.inl ⟨p, xs, _, _, rfl, rfl, hS, plc_at h0 _, k⟩)
theorem bindk_place {f : Addr} {fd : FuncData} (F : FunP K f fd) : KBn K fd ["rooms", "beat", "delay"] 2 ["delay"] (fun us ws => us ++ ws) (fun vs zs => vs ++ zs) := by
  obtain ⟨oc, od, dV, kV, doc, pm, an, cdv, ct, osl, rfl, lk, hcd, hD, hK⟩ := F.ex
  rcases hD with ⟨_, rfl⟩ | ⟨e, _⟩
  · refine ⟨fun s us ws _ h1 h2 => ?_, fun r1 r2 => r1.append r2⟩
    match us, h1, ws, h2 with
    | [_, _], _, [_], _ => exact .of_eq rfl
  · exact absurd rfl e
theorem scRA : FnScope ["tracks", "beat", "rooms", "delay"] ["tracks", "beat"] (defScope sRoomsAt) := ⟨rfl, rfl, rfl, by decide +kernel, rfl, by decide +kernel, by decide +kernel⟩
theorem ok_roomsat {f fPl : Addr} {fd dPl : FuncData} (F : Fun K "rooms_at" "rooms_at" sRoomsAt f fd) (FPl : FunP K fPl dPl) (gPl : mg "place" = some (.ref fPl)) (GPl : FnOk P w K mg base CX0 1 fPl dPl ["rooms", "beat", "delay"] (spPlace K)) : FnOk P w K mg base CX0 2 f fd ["tracks", "beat"] spRoomsAt := by
  refine F.ok scRA (fun vs H Q E h => ?_) (fun cdv A outer s H vs Q E hr h => ?_)
  · obtain ⟨p, xs, tr, b, rfl, _⟩ := h
    rfl
  · obtain ⟨p, xs, tr, b, rfl, hp, hT, ho, k⟩ := h
    refine ⟨_, pss_one (ps_ret (pe_lc (own := [("rooms", 2), ("delay", 3)]) (g := gTup K 2 (gCons (gName 2) (gCons (gName 3) gNil))) (tt := tYes)  rfl scRA.nd (pi_list (pv 0)) (blkOk_by (N := ["tracks", "beat", "rooms", "delay"]) (sc := defScope sRoomsAt) (by decide +kernel)) (fun _ _ _ _ _ => (pg_tup rfl (pgs_cons (pg_name (i := 2) scRA.nd rfl (Or.inl rfl)) (pgs_cons (pg_name (i := 3) scRA.nd rfl (Or.inl rfl)) pgs_nil)))) (fun _ _ _ _ _ => pts_nil) (fun _ _ _ _ _ => (pe_callN GPl hr (by rfl) gPl FPl.kp (bindk_place FPl) pass0 (pa_cons (pv 2) (pa_cons (pv 1) pa_nil)) (pk_cons (pv 3) pk_nil))))), ?_⟩
    have l5 := ho.five
    refine ⟨_, rfl, p, rfl, ⟨_, SqL.of hp⟩, fun D nD => ?_⟩
    refine it_any (walk_list (K := K) (a := p) (xs := xs)) (fun j H' => Same H H' ∧ H' D = some (.lst (((stnd tr b).take j).map V.str))) ⟨same_new nD, upd_same⟩ (fun j H' _ z => SqL.of (z.1 _ _ hp)) ?_ ?_
    · rintro j x H1 H2 hj ⟨s1, hD⟩ ⟨rfl, hx⟩
      obtain ⟨⟨r, dl⟩, et, q, t, rfl, hq, ht⟩ := (hT.same s1).at hx
      have tm := List.mem_of_getElem? et
      refine ⟨q, _, rfl, SqT.of hq, rfl, _, _, rfl, _, _, rfl, rfl, rfl, ?_⟩
      have r0 : 0 < r.length := ho.pos _ tm
      refine ⟨_, rfl, _, rfl, _, rfl, rfl, rfl, t, _, _, _, rfl, .inr (SqT.of ht), by rw [List.length_map]; exact r0, ?_⟩
      rw [plc_str r0]
      refine ⟨_, hD, small1000 (by rw [List.length_map, List.length_take, stnd_len]; omega), same_put s1 nD, ?_⟩
      have es : (stnd tr b)[j]? = some (plcS r (b - ((dl : Nat) : Int))) := by
        unfold stnd
        rw [List.getElem?_map, et]
        rfl
      rw [upd_same, take_snoc' es, List.map_append]
      rfl
    rintro H1 ⟨s1, hD⟩
    rw [hT.1, ← stnd_len tr b, List.take_length] at hD
    exact k H1 D s1 nD hD
theorem scHR : FnScope ["tracks", "many", "relief"] ["tracks", "many", "relief"] (defScope sHasRelief) := ⟨rfl, rfl, rfl, by decide +kernel, rfl, by decide +kernel, by decide +kernel⟩
theorem ok_hasrelief {f : Addr} {fd : FuncData} (F : Fun K "has_relief" "has_relief" sHasRelief f fd) (m_len : mg "len" = none) : FnOk P w K mg base CX0 1 f fd ["tracks", "many", "relief"] spHasRelief := by
  refine F.ok scHR (fun vs H Q E h => ?_) (fun cdv A outer s H vs Q E hr h => ?_)
  · obtain ⟨p, xs, many, rl, rfl, _⟩ := h
    rfl
  · obtain ⟨p, xs, many, rl, rfl, hp, k⟩ := h
    refine ⟨_, pss_one (ps_ret (pe_and (pe_cmpR op_gt (pv 2) pe_int (nomark _)) (pe_one (pe_chain op_lt op_lt pe_int (pe_callB call_len_seq (by rfl) m_len PySem.boot_len (pa_cons (pv 0) pa_nil)) (pv 1))))), ?_⟩
    refine ⟨_, rfl, _, _, rfl, rfl, _, rfl, ?_⟩
    by_cases e1 : 0 < rl
    · rw [decide_eq_true (show (0 : Int) < ((rl : Nat) : Int) by omega)]
      refine iteT ⟨_, rfl, p, _, rfl, .inl (SqL.of hp), _, _, rfl, rfl, _, rfl, ?_⟩
      by_cases e2 : 0 < xs.length
      · rw [decide_eq_true (show (0 : Int) < ((xs.length : Nat) : Int) by omega)]
        refine iteT ⟨_, rfl, _, _, rfl, rfl, ?_⟩
        have e : decide (((xs.length : Nat) : Int) < ((many : Nat) : Int)) = decide (hasR xs.length many rl) := by
          rw [Bool.eq_iff_iff, decide_eq_true_eq, decide_eq_true_eq]
          unfold hasR
          omega
        show Q (V.bl (decide (((xs.length : Nat) : Int) < ((many : Nat) : Int)))) H
        rw [e]
        exact k
      · rw [decide_eq_false (show ¬ (0 : Int) < ((xs.length : Nat) : Int) by omega)]
        refine iteF ?_
        rw [decide_eq_false (fun z => e2 z.2.1)] at k
        exact k
    · rw [decide_eq_false (show ¬ (0 : Int) < ((rl : Nat) : Int) by omega)]
      refine iteF ?_
      rw [decide_eq_false (fun z => e1 z.1)] at k
      exact k
theorem scSO : FnScope ["tracks", "many", "relief", "sizes", "rooms", "delay"] ["tracks", "many", "relief"] (defScope sSpanOf) := ⟨rfl, rfl, rfl, by decide +kernel, rfl, by decide +kernel, by decide +kernel⟩
theorem ok_spanof {f fHr fWh : Addr} {fd dHr dWh : FuncData} (F : Fun K "span_of" "span_of" sSpanOf f fd) (FHr : Fun K "has_relief" "has_relief" sHasRelief fHr dHr) (bHr : Binds K dHr ["tracks", "many", "relief"] []) (gHr : mg "has_relief" = some (.ref fHr)) (GHr : FnOk P w K mg base CX0 1 fHr dHr ["tracks", "many", "relief"] spHasRelief) (FWh : Fun K "wheel_of" "wheel_of" sWheel fWh dWh) (bWh : Binds K dWh ["sizes"] []) (gWh : mg "wheel_of" = some (.ref fWh)) (GWh : FnOk P w K mg base CX0 2 fWh dWh ["sizes"] (spWheel K)) (m_len : mg "len" = none) : FnOk P w K mg base CX0 3 f fd ["tracks", "many", "relief"] spSpanOf := by
  refine F.ok scSO (fun vs H Q E h => ?_) (fun cdv A outer s H vs Q E hr h => ?_)
  · obtain ⟨p, xs, tr, many, rl, rfl, _⟩ := h
    rfl
  · obtain ⟨p, xs, tr, many, rl, rfl, hp, hT, ho, h4, k⟩ := h
    refine ⟨_, pss_cons (ps_setLc (i := 3) (own := [("rooms", 4), ("delay", 5)]) (g := gTup K 2 (gCons (gName 4) (gCons (gName 5) gNil))) (tt := tYes) (te := tCB (fun xs H Q => ∃ p ys, xs = [V.ref p] ∧ (SqL K H p ys ∨ SqT K H p ys) ∧ Q (.int ys.length) H) (tCons (tVar 4) tNil)) rfl scSO.nd rfl rfl (sw_true rfl rfl rfl (by decide +kernel)) (pi_list (pv 0)) (blkOk_by (N := ["tracks", "many", "relief", "sizes", "rooms", "delay"]) (sc := defScope sSpanOf) (by decide +kernel)) (fun _ _ _ _ _ => (pg_tup rfl (pgs_cons (pg_name (i := 4) scSO.nd rfl (Or.inl rfl)) (pgs_cons (pg_name (i := 5) scSO.nd rfl (Or.inl rfl)) pgs_nil)))) (fun _ _ _ _ _ => pts_nil) (fun _ _ _ _ _ => (pe_callB call_len_seq (by rfl) m_len PySem.boot_len (pa_cons (pv 4) pa_nil))))
      (pss_cons (ps_if (pt_val (pe_call GHr (hr.mono (by decide)) (by rfl) gHr FHr.kp bHr .nil pass0 (pa_cons (pv 0) (pa_cons (pv 1) (pa_cons (pv 2) pa_nil))))) (pss_one (ps_expr (pe_bm PySem.F.plainAttrs_list PySem.F.slot_list_append PySem.F.type_list_append mt_append (pv 3) (pa_cons (pe_op op_mul (pv 2) (pe_callB call_len_seq (by rfl) m_len PySem.boot_len (pa_cons (pv 0) pa_nil))) pa_nil)))) pss_nil)
      (pss_one (ps_ret (pe_call GWh hr (by rfl) gWh FWh.kp bWh .nil pass0 (pa_cons (pv 3) pa_nil))))), ?_⟩
    have l5 := ho.five
    have xl := hT.1
    refine ⟨_, rfl, p, rfl, ⟨_, SqL.of hp⟩, fun D nD => ?_⟩
    refine it_any (walk_list (K := K) (a := p) (xs := xs)) (fun j H' => Same H H' ∧ H' D = some (.lst (((tr.map fun q => q.1.length).take j).map natV))) ⟨same_new nD, upd_same⟩ (fun j H' _ z => SqL.of (z.1 _ _ hp)) ?_ ?_
    · rintro j x H1 H2 hj ⟨s1, hD⟩ ⟨rfl, hx⟩
      obtain ⟨⟨r, dl⟩, et, q, t, rfl, hq, ht⟩ := (hT.same s1).at hx
      refine ⟨q, _, rfl, SqT.of hq, rfl, _, _, rfl, _, _, rfl, rfl, rfl, ?_⟩
      refine ⟨_, rfl, t, _, rfl, .inr (SqT.of ht), ?_⟩
      rw [List.length_map]
      refine ⟨_, hD, small1000 (by rw [List.length_map, List.length_take, List.length_map]; omega), same_put s1 nD, ?_⟩
      have es : (tr.map fun q => q.1.length)[j]? = some r.length := by
        rw [List.getElem?_map, et]
        rfl
      rw [upd_same, take_snoc' es, List.map_append]
      rfl
    rintro H1 ⟨s1, hD⟩
    rw [xl, show tr.length = (tr.map fun q => q.1.length).length from (List.length_map ..).symm, List.take_length] at hD
    have fin : ∀ (ns : List Nat), lcmL ns = spanN tr many rl → (∀ n ∈ ns, 0 < n ∧ n ≤ 20) → (∀ i, lcmL (ns.take i) < 2 ^ 64) := by
      intro ns el hn i
      have d1 : lcmL (ns.take i) ∣ lcmL ns := foldl_dvd_of _ _ _ (Nat.one_dvd _) fun n h => ((foldl_dvd ns 1 _).mp (Nat.dvd_refl _)).2 n (List.mem_of_mem_take h)
      rw [el] at d1
      have := Nat.le_of_dvd (span_pos ho) d1
      have := span_le (many := many) ho h4
      omega
    have base : ∀ n ∈ (tr.map fun q => q.1.length), 0 < n ∧ n ≤ 20 := fun n hn => by
      obtain ⟨q, hq, rfl⟩ := List.mem_map.mp hn
      have := ho.pos q hq
      have := ho.six q hq
      omega
    refine ⟨_, rfl, _, rfl, _, rfl, p, xs, many, rl, rfl, s1 _ _ hp, _, rfl, ?_⟩
    rw [xl]
    by_cases hh : hasR tr.length many rl
    · rw [decide_eq_true hh]
      have es : lcmL ((tr.map fun q => q.1.length) ++ [rl * tr.length]) = spanN tr many rl := by
        unfold spanN
        rw [if_pos hh]
      have hn : ∀ n ∈ (tr.map fun q => q.1.length) ++ [rl * tr.length], 0 < n ∧ n ≤ 20 := fun n hn => by
        rcases List.mem_append.mp hn with hn | hn
        · exact base n hn
        · rw [List.mem_singleton.mp hn]
          exact ⟨Nat.mul_pos hh.1 hh.2.1, Nat.mul_le_mul h4 l5⟩
      have hl := fin _ es hn
      refine iteT ⟨_, rfl, .inl ⟨rfl, _, SqL.of hD⟩, _, rfl, _, rfl, p, _, rfl, .inl (SqL.of (s1 _ _ hp)), _, _, rfl, rfl, .inl ⟨by omega, by omega⟩, D, _, _, rfl, rfl, hD, small1000 (by rw [List.length_map, List.length_map]; omega), ?_⟩
      have eD : (tr.map fun q => q.1.length).map natV ++ [V.int (((rl : Nat) : Int) * ((xs.length : Nat) : Int))] = ((tr.map fun q => q.1.length) ++ [rl * tr.length]).map natV := by
        rw [List.map_append, xl, ← Int.natCast_mul]
        rfl
      rw [eD]
      refine ⟨_, rfl, D, _, rfl, .inl (SqL.of upd_same), fun n h => ⟨(hn n h).1, by have := (hn n h).2; omega⟩, hl, fun H3 s3 => ?_⟩
      rw [es]
      exact k H3 ((same_put s1 nD).trans s3)
    · rw [decide_eq_false hh]
      have es : lcmL (tr.map fun q => q.1.length) = spanN tr many rl := by
        unfold spanN
        rw [if_neg hh, List.append_nil]
      have hl := fin _ es base
      refine iteF ⟨_, rfl, D, _, rfl, .inl (SqL.of hD), fun n h => ⟨(base n h).1, by have := (base n h).2; omega⟩, hl, fun H3 s3 => ?_⟩
      rw [es]
      exact k H3 (s1.trans s3)
end
end Dk
namespace Dk
open PySem L2
section
variable {P : Program} {w : World} {K : PySem.W.Frag} {mg : Str → Option Value} {base : Heap}
theorem scHO : FnScope ["order", "rooms", "changed", "first", "second"] ["order", "rooms"] (defScope sHanded) := ⟨rfl, rfl, rfl, by decide +kernel, rfl, by decide +kernel, by decide +kernel⟩
theorem ok_handed {f : Addr} {fd : FuncData} (F : Fun K "handed_over" "handed_over" sHanded f fd) (m_list : mg "list" = none) (m_len : mg "len" = none) (m_range : mg "range" = none) : FnOk P w K mg base CX0 1 f fd ["order", "rooms"] spHanded := by
  refine F.ok scHO (fun vs H Q E h => ?_) (fun cdv A outer s H vs Q E hr h => ?_)
  · obtain ⟨o, r, os, rs, rfl, _⟩ := h
    rfl
  · obtain ⟨o, r, os, rs, rfl, ho, hr', l1, l2, okr, k⟩ := h
    refine ⟨_, pss_cons (ps_set (i := 2) scHO.nd rfl (Or.inl rfl) (pe_callTy call_list_of (by rfl) m_list (by decide +kernel) (pa_cons (pv 0) pa_nil)))
      (pss_cons (ps_for PassesOwn.never rfl (pi_range1 (by rfl) m_range (pa_cons (pe_callB call_len_seq (by rfl) m_len PySem.boot_len (pa_cons (pv 1) pa_nil)) pa_nil)) (pg_name (i := 3) scHO.nd rfl (Or.inl rfl))
      (pss_one (ps_for PassesOwn.never rfl (pi_range2 (by rfl) m_range (pa_cons (pe_op op_add (pv 3) pe_int) (pa_cons (pe_callB call_len_seq (by rfl) m_len PySem.boot_len (pa_cons (pv 1) pa_nil)) pa_nil))) (pg_name (i := 4) scHO.nd rfl (Or.inl rfl))
      (pss_one (ps_if (pt_cmpR op_eq (pe_ix ix_list (pv 1) (pv 3) (fun _ _ => rfl)) (pe_ix ix_list (pv 1) (pv 4) (fun _ _ => rfl)) (nomark _)) (pss_one (ps_asg (pe_tup (pa_cons (pe_ix ix_list (pv 2) (pv 4) (fun _ _ => rfl)) (pa_cons (pe_ix ix_list (pv 2) (pv 3) (fun _ _ => rfl)) pa_nil))) (pg_tup rfl (pgs_cons (pg_sub (pv 2) (pv 3) set_list) (pgs_cons (pg_sub (pv 2) (pv 4) set_list) pgs_nil))))) pss_nil)))))
      (pss_one (ps_ret (pv 2)))), ?_⟩
    refine ⟨_, rfl, o, _, rfl, .inl (SqL.of ho), fun D nD => ?_⟩
    have s0 := same_new (o := .lst (os.map natV)) nD
    have rD : r ≠ D := ne_of_none hr' nD
    have lR : (rs.map V.str).length = rs.length := List.length_map ..
    refine ⟨_, rfl, r, _, rfl, .inl (SqL.of (s0 _ _ hr')), rs.length, by rw [lR], by omega, by omega, for_range (n := rs.length) (fun f σ H' => ∃ y3 y4, σ = [some (.ref o), some (.ref r), some (.ref D), y3, y4] ∧ Same H H' ∧ H' D = some (.lst ((hoUp rs f os).map natV))) ⟨_, _, rfl, s0, upd_same⟩ ?_ ?_⟩
    · rintro f' σ H1 hf ⟨y3, y4, rfl, s1, hD⟩
      have hr1 := s1 _ _ hr'
      have el : (hoUp rs f' os).length = os.length := hoUp_len rs os f'
      refine ⟨_, rfl, _, _, rfl, rfl, _, rfl, r, _, rfl, .inl (SqL.of hr1), _, _, rfl, ⟨by omega, by omega, by rw [lR]; omega, by rw [lR]; omega⟩, ?_⟩
      have en : ((((rs.map V.str).length : Nat) : Int) - (0 + (f' : Int) + 1)).toNat = rs.length - (f' + 1) := by
        rw [lR]
        omega
      rw [en]
      refine for_range (lo := 0 + (f' : Int) + 1) (n := rs.length - (f' + 1)) (fun j σ H' => ∃ y4, σ = [some (.ref o), some (.ref r), some (.ref D), some (.int (0 + (f' : Int))), y4] ∧ Same H H' ∧ H' D = some (.lst ((hoIn rs f' j (hoUp rs f' os)).map natV))) ⟨_, rfl, s1, hD⟩ ?_ ?_
      · rintro j σ H2 hj ⟨y4, rfl, s2, hD2⟩
        have hr2 := s2 _ _ hr'
        have ol : (hoIn rs f' j (hoUp rs f' os)).length = os.length := by rw [hoIn_len, el]
        have e1 : rs[f']? = some rs[f'] := List.getElem?_eq_getElem hf
        have e2 : rs[f' + 1 + j]? = some (rs[f' + 1 + j]'(by omega)) := List.getElem?_eq_getElem (by omega)
        have i2 : 0 + (f' : Int) + 1 + (j : Int) = ((f' + 1 + j : Nat) : Int) := by omega
        have i1 : 0 + (f' : Int) = ((f' : Nat) : Int) := by omega
        have nx : hoIn rs f' (j + 1) (hoUp rs f' os) = if rs[f']? = rs[f' + 1 + j]? then swN (hoIn rs f' j (hoUp rs f' os)) f' (f' + 1 + j) else hoIn rs f' j (hoUp rs f' os) := rfl
        generalize hoIn rs f' j (hoUp rs f' os) = o' at hD2 ol nx
        refine ⟨_, rfl, _, rfl, r, _, _, _, rfl, rfl, SqL.of hr2, at_str e1 i1, _, rfl, _, rfl, r, _, _, _, rfl, rfl, SqL.of hr2, at_str e2 i2, rfl, _, rfl, ite2 (fun e => ?_) (fun e => ?_)⟩
        · have e' : rs[f'] = rs[f' + 1 + j]'(by omega) := V.str.inj (of_decide_eq_true e)
          rw [if_pos (by rw [e1, e2, e'])] at nx
          refine ⟨_, rfl, _, rfl, D, _, _, _, rfl, rfl, SqL.of hD2, by rw [i2]; exact atI_nat (nat_at (by omega)), _, rfl, _, rfl, D, _, _, _, rfl, rfl, SqL.of hD2, by rw [i1]; exact atI_nat (nat_at (by omega)), by show 2 ≤ sizeLine; decide, fun tq ntq => ?_⟩
          have nDt : D ≠ tq := ne_of_none hD2 ntq
          have hD3 : (upd H2 tq (.tup [natV (o'.getD (f' + 1 + j) 0), natV (o'.getD f' 0)])) D = some (.lst (o'.map natV)) := by
            rw [upd_ne nDt]
            exact hD2
          refine ⟨tq, _, rfl, SqT.of upd_same, rfl, _, _, rfl, _, rfl, _, rfl, D, _, _, f', rfl, rfl, hD3, by rw [i1]; exact ixN_nat (by rw [List.length_map]; omega), _, _, rfl, _, rfl, _, rfl, D, _, _, f' + 1 + j, rfl, rfl, upd_same, by rw [i2]; exact ixN_nat (by rw [List.length_set, List.length_map]; omega), rfl, ?_⟩
          refine ⟨_, rfl, same_put (same_put (s2.trans (same_new ntq)) nD) nD, ?_⟩
          rw [upd_same, nx, set_nat, set_nat]
          rfl
        · have e' : ¬ rs[f'] = rs[f' + 1 + j]'(by omega) := fun z => e (decide_eq_true (by rw [z]))
          rw [if_neg (by rw [e1, e2]; exact fun z => e' (Option.some.inj z))] at nx
          refine ⟨_, rfl, s2, ?_⟩
          rw [nx]
          exact hD2
      · rintro σ H2 ⟨y4, rfl, s2, hD2⟩
        exact ⟨_, _, rfl, s2, hD2⟩
    · rintro σ H1 ⟨y3, y4, rfl, s1, hD⟩
      exact ⟨_, rfl, k H1 D s1 nD hD⟩
theorem scRel : FnScope ["order", "posts", "post", "bearing", "waiting"] ["order", "posts", "post"] (defScope sRelieved) := ⟨rfl, rfl, rfl, by decide +kernel, rfl, by decide +kernel, by decide +kernel⟩
theorem ok_relieved {f : Addr} {fd : FuncData} (F : Fun K "relieved" "relieved" sRelieved f fd)  : FnOk P w K mg base CX0 1 f fd ["order", "posts", "post"] spRelieved := by
  refine F.ok scRel (fun vs H Q E h => ?_) (fun cdv A outer s H vs Q E hr h => ?_)
  · obtain ⟨o, os, n, p, rfl, _⟩ := h
    rfl
  · obtain ⟨o, os, n, p, rfl, ho, hn, hp, l6, k⟩ := h
    refine ⟨_, pss_cons (ps_set (i := 3) scRel.nd rfl (Or.inl rfl) (pe_slice sl_list (pv 0) po_none (po_some (pv 1))))
      (pss_cons (ps_set (i := 4) scRel.nd rfl (Or.inl rfl) (pe_slice sl_list (pv 0) (po_some (pv 1)) po_none))
      (pss_cons (ps_asg (pe_ix ix_list (pv 4) pe_int (fun _ _ => rfl)) (pg_sub (pv 3) (pv 2) set_list))
      (pss_one (ps_ret (pe_op op_cat (pe_op op_cat (pv 3) (pe_slice sl_list (pv 4) (po_some pe_int) po_none)) (pe_lst (pa_cons (pe_ix ix_list (pv 0) (pv 2) (fun _ _ => rfl)) pa_nil))))))), ?_⟩
    have lM : (os.map natV).length = os.length := List.length_map ..
    refine ⟨_, rfl, _, rfl, _, rfl, o, _, rfl, SqL.of ho, fun B nB => ?_⟩
    rw [cut_to (by rw [lM]; omega)]
    have s1 := same_new (o := .lst ((os.map natV).take n)) nB
    have hB : (upd H B (.lst ((os.map natV).take n))) B = some (.lst ((os.map natV).take n)) := upd_same
    generalize upd H B (.lst ((os.map natV).take n)) = H1 at s1 hB
    refine ⟨_, rfl, _, rfl, _, rfl, o, _, rfl, SqL.of (s1 _ _ ho), fun Wt nW => ?_⟩
    rw [cut_of (by rw [lM]; omega)]
    have s2 := same_new (o := .lst ((os.map natV).drop n)) nW
    have hW : (upd H1 Wt (.lst ((os.map natV).drop n))) Wt = some (.lst ((os.map natV).drop n)) := upd_same
    have nBW : B ≠ Wt := ne_of_none hB nW
    generalize upd H1 Wt (.lst ((os.map natV).drop n)) = H2 at s2 hW
    have s02 := s1.trans s2
    have eW : (os.map natV).drop n = natV (os.getD n 0) :: (os.drop (n + 1)).map natV := by
      rw [← List.map_drop, List.drop_eq_getElem_cons hn, List.map_cons]
      congr 2
      rw [List.getD_eq_getElem?_getD, List.getElem?_eq_getElem hn]
      rfl
    rw [eW] at hW
    have hB2 := s2 _ _ hB
    rw [← List.map_take] at hB2
    refine ⟨_, rfl, Wt, _, 0, _, rfl, rfl, SqL.of hW, atI_nat (j := 0) rfl, _, rfl, _, rfl, B, _, _, p, rfl, rfl, hB2, ixN_nat (by rw [List.length_map, List.length_take]; omega), ?_⟩
    rw [set_nat]
    have s3 := same_put (o := .lst (((os.take n).set p (os.getD n 0)).map natV)) s02 nB
    have hB3 : (upd H2 B (.lst (((os.take n).set p (os.getD n 0)).map natV))) B = some (.lst (((os.take n).set p (os.getD n 0)).map natV)) := upd_same
    have hW3 : (upd H2 B (.lst (((os.take n).set p (os.getD n 0)).map natV))) Wt = some (.lst (natV (os.getD n 0) :: (os.drop (n + 1)).map natV)) := by
      rw [upd_ne nBW.symm]
      exact hW
    generalize upd H2 B (.lst (((os.take n).set p (os.getD n 0)).map natV)) = H3 at s3 hB3 hW3
    refine ⟨_, rfl, _, rfl, _, rfl, Wt, _, rfl, SqL.of hW3, fun c nc => ?_⟩
    rw [cut_tail]
    have s4 := same_new (o := .lst ((os.drop (n + 1)).map natV)) nc
    refine ⟨B, c, _, _, rfl, rfl, s4 _ _ hB3, upd_same, Nat.le_of_lt (small1000 (by rw [List.length_map, List.length_map, List.length_set, List.length_take, List.length_drop]; omega)), fun g ng => ?_⟩
    have s5 := s4.trans (same_new (o := .lst (((os.take n).set p (os.getD n 0)).map natV ++ (os.drop (n + 1)).map natV)) ng)
    have hg : (upd (upd H3 c (.lst ((os.drop (n + 1)).map natV))) g (.lst (((os.take n).set p (os.getD n 0)).map natV ++ (os.drop (n + 1)).map natV))) g = some (.lst (((os.take n).set p (os.getD n 0)).map natV ++ (os.drop (n + 1)).map natV)) := upd_same
    generalize upd (upd H3 c (.lst ((os.drop (n + 1)).map natV))) g (.lst (((os.take n).set p (os.getD n 0)).map natV ++ (os.drop (n + 1)).map natV)) = H5 at s5 hg
    have s05 := s3.trans s5
    refine ⟨_, rfl, _, rfl, o, _, _, _, rfl, rfl, SqL.of (s05 _ _ ho), atI_nat (nat_at (by omega)), by show 1 ≤ sizeLine; decide, fun c2 nc2 => ?_⟩
    have s6 := same_new (o := .lst [natV (os.getD p 0)]) nc2
    refine ⟨g, c2, _, _, rfl, rfl, s6 _ _ hg, upd_same, Nat.le_of_lt (small1000 (by rw [List.length_append, List.length_map, List.length_map, List.length_set, List.length_take, List.length_drop]; show _ + 1 ≤ 1000; omega)), fun z nz => ?_⟩
    refine k _ z ((s05.trans s6).trans (same_new nz)) ((s05.trans s6).free nz) ?_
    rw [upd_same]
    unfold relN
    rw [List.map_append, List.map_append]
    rfl
theorem scCO : FnScope ["order", "beat", "tracks", "meet", "relief", "changed"] ["order", "beat", "tracks", "meet", "relief"] (defScope sChanged) := ⟨rfl, rfl, rfl, by decide +kernel, rfl, by decide +kernel, by decide +kernel⟩
theorem ok_changed {f fHo fRa fHr fRe : Addr} {fd dHo dRa dHr dRe : FuncData} (F : Fun K "changed_order" "changed_order" sChanged f fd) (FHo : Fun K "handed_over" "handed_over" sHanded fHo dHo) (bHo : Binds K dHo ["order", "rooms"] []) (gHo : mg "handed_over" = some (.ref fHo)) (GHo : FnOk P w K mg base CX0 1 fHo dHo ["order", "rooms"] spHanded) (FRa : Fun K "rooms_at" "rooms_at" sRoomsAt fRa dRa) (bRa : Binds K dRa ["tracks", "beat"] []) (gRa : mg "rooms_at" = some (.ref fRa)) (GRa : FnOk P w K mg base CX0 2 fRa dRa ["tracks", "beat"] spRoomsAt) (FHr : Fun K "has_relief" "has_relief" sHasRelief fHr dHr) (bHr : Binds K dHr ["tracks", "many", "relief"] []) (gHr : mg "has_relief" = some (.ref fHr)) (GHr : FnOk P w K mg base CX0 1 fHr dHr ["tracks", "many", "relief"] spHasRelief) (FRe : Fun K "relieved" "relieved" sRelieved fRe dRe) (bRe : Binds K dRe ["order", "posts", "post"] []) (gRe : mg "relieved" = some (.ref fRe)) (GRe : FnOk P w K mg base CX0 1 fRe dRe ["order", "posts", "post"] spRelieved) (m_len : mg "len" = none) : FnOk P w K mg base CX0 3 f fd ["order", "beat", "tracks", "meet", "relief"] spChanged := by
  refine F.ok scCO (fun vs H Q E h => ?_) (fun cdv A outer s H vs Q E hr h => ?_)
  · obtain ⟨o, p, os, b, xs, tr, mt, rl, rfl, _⟩ := h
    rfl
  · obtain ⟨o, p, os, b, xs, tr, mt, rl, rfl, ho, hp, hT, hk, okr, l1, l6, l4, hb, k⟩ := h
    refine ⟨_, pss_cons (ps_set (i := 5) scCO.nd rfl (Or.inl rfl) (pv 0))
      (pss_cons (ps_mid (ps_if (pt_val (pv 3)) (pss_one (ps_set (i := 5) scCO.nd rfl (Or.inl rfl) (pe_call GHo (hr.mono (by decide)) (by rfl) gHo FHo.kp bHo .nil pass0 (pa_cons (pv 5) (pa_cons (pe_call GRa hr (by rfl) gRa FRa.kp bRa .nil pass0 (pa_cons (pv 2) (pa_cons (pv 1) pa_nil))) pa_nil))))) pss_nil))
      (pss_cons (ps_if (PW.pt (pw_and (pt_val (pe_call GHr (hr.mono (by decide)) (by rfl) gHr FHr.kp bHr .nil pass0 (pa_cons (pv 2) (pa_cons (pe_callB call_len_seq (by rfl) m_len PySem.boot_len (pa_cons (pv 0) pa_nil)) (pa_cons (pv 4) pa_nil))))) (pw_and1 (pt_cmpR op_eq (pe_op op_mod (pv 1) (pv 4)) pe_int (nomark _))))) (pss_one (ps_set (i := 5) scCO.nd rfl (Or.inl rfl) (pe_call GRe (hr.mono (by decide)) (by rfl) gRe FRe.kp bRe .nil pass0 (pa_cons (pv 5) (pa_cons (pe_callB call_len_seq (by rfl) m_len PySem.boot_len (pa_cons (pv 2) pa_nil)) (pa_cons (pe_op op_mod (pe_op op_fdiv (pv 1) (pv 4)) (pe_callB call_len_seq (by rfl) m_len PySem.boot_len (pa_cons (pv 2) pa_nil))) pa_nil)))))) pss_nil)
      (pss_one (ps_ret (pv 5))))), ?_⟩
    have lM : (os.map natV).length = os.length := List.length_map ..
    have xl := hT.1
    refine ⟨_, rfl, fun σ H1 => ∃ q, σ = [some (.ref o), some (.int (b : Nat)), some (.ref p), some (.bl mt), some (.int (rl : Nat)), some (.ref q)] ∧ Same H H1 ∧ H1 q = some (.lst ((if mt = true then hoN (stnd tr (b : Nat)) os else os).map natV)), ?_, ?_⟩
    · refine ⟨_, rfl, mt, rfl, ?_⟩
      cases mt with
      | true =>
        refine iteT ⟨_, rfl, _, rfl, _, rfl, p, xs, tr, (b : Nat), rfl, hp, hT, hk, fun H1 rp s1 nrp hrp => ?_⟩
        refine ⟨o, rp, os, _, rfl, s1 _ _ ho, hrp, by rw [stnd_len]; exact l1, l6, stnd_ok hk okr _, fun H2 q s2 nq hq => ?_⟩
        exact ⟨q, rfl, s1.trans s2, hq⟩
      | false => exact iteF ⟨o, rfl, fun _ _ z => z, ho⟩
    · rintro σ H1 ⟨q, rfl, s1, hq⟩
      have oL := ho1_len tr mt b os
      have ec : chgN tr mt rl b os = if hasR tr.length os.length rl ∧ b % rl = 0 then relN tr.length (b / rl % tr.length) (if mt = true then hoN (stnd tr (b : Nat)) os else os) else (if mt = true then hoN (stnd tr (b : Nat)) os else os) := rfl
      generalize (if mt = true then hoN (stnd tr (b : Nat)) os else os) = o1 at hq oL ec
      have hp1 := s1 _ _ hp
      refine ⟨_, rfl, _, rfl, o, _, rfl, .inl (SqL.of (s1 _ _ ho)), _, rfl, p, xs, _, rl, rfl, hp1, _, rfl, ?_⟩
      rw [lM, xl]
      by_cases hh : hasR tr.length os.length rl
      · rw [decide_eq_true hh]
        have r0 := hh.1
        have t0 := hh.2.1
        have t1 := hh.2.2
        refine iteT ⟨_, rfl, _, rfl, _, _, rfl, rfl, by omega, rfl, _, rfl, ?_⟩
        by_cases hm : b % rl = 0
        · have e1 : V.int (((b : Nat) : Int) % ((rl : Nat) : Int)) = V.int 0 := by
            rw [← Int.natCast_emod, hm]
            rfl
          rw [decide_eq_true e1]
          have e2 : (((b : Nat) : Int) / ((rl : Nat) : Int)) % ((xs.length : Nat) : Int) = ((b / rl % tr.length : Nat) : Int) := by
            rw [xl, Int.natCast_emod, Int.natCast_ediv]
          have hlt : b / rl % tr.length < tr.length := Nat.mod_lt _ t0
          refine iteT ⟨_, rfl, _, rfl, p, _, rfl, .inl (SqL.of hp1), _, rfl, _, rfl, _, _, rfl, rfl, ⟨by omega, by omega⟩, _, rfl, p, _, rfl, .inl (SqL.of hp1), _, _, rfl, rfl, by omega, q, o1, tr.length, b / rl % tr.length, by show [V.ref q, V.int ((xs.length : Nat) : Int), V.int ((((b : Nat) : Int) / ((rl : Nat) : Int)) % ((xs.length : Nat) : Int))] = _; rw [e2, xl], hq, by omega, hlt, by omega, fun H2 z s2 nz hz => ?_⟩
          refine ⟨_, rfl, k H2 z (s1.trans s2) ?_⟩
          rw [ec, if_pos ⟨hh, hm⟩]
          exact hz
        · have e1 : ¬ V.int (((b : Nat) : Int) % ((rl : Nat) : Int)) = V.int 0 := fun z => by
            have z2 := V.int.inj z
            rw [← Int.natCast_emod] at z2
            omega
          rw [decide_eq_false e1]
          refine iteF ⟨_, rfl, k H1 q s1 ?_⟩
          rw [ec, if_neg (fun z => hm z.2)]
          exact hq
      · rw [decide_eq_false hh]
        refine iteF ⟨_, rfl, k H1 q s1 ?_⟩
        rw [ec, if_neg (fun z => hh z.1)]
        exact hq
theorem scOO : FnScope ["tracks", "many", "meet", "relief", "first", "span", "orders", "beat", "order"] ["tracks", "many", "meet", "relief"] (defScope sOrders) := ⟨rfl, rfl, rfl, by decide +kernel, rfl, by decide +kernel, by decide +kernel⟩
theorem ok_orders {f fSp fCh : Addr} {fd dSp dCh : FuncData} (F : Fun K "orders_of" "orders_of" sOrders f fd) (FSp : Fun K "span_of" "span_of" sSpanOf fSp dSp) (bSp : Binds K dSp ["tracks", "many", "relief"] []) (gSp : mg "span_of" = some (.ref fSp)) (GSp : FnOk P w K mg base CX0 3 fSp dSp ["tracks", "many", "relief"] spSpanOf) (FCh : Fun K "changed_order" "changed_order" sChanged fCh dCh) (bCh : Binds K dCh ["order", "beat", "tracks", "meet", "relief"] []) (gCh : mg "changed_order" = some (.ref fCh)) (GCh : FnOk P w K mg base CX0 3 fCh dCh ["order", "beat", "tracks", "meet", "relief"] spChanged) (m_list : mg "list" = none) (m_range : mg "range" = none) : FnOk P w K mg base CX0 4 f fd ["tracks", "many", "meet", "relief"] spOrders := by
  refine F.ok scOO (fun vs H Q E h => ?_) (fun cdv A outer s H vs Q E hr h => ?_)
  · obtain ⟨p, xs, tr, many, mt, rl, rfl, _⟩ := h
    rfl
  · obtain ⟨p, xs, tr, many, mt, rl, rfl, hp, hT, hk, okr, l1, l6, l4, k⟩ := h
    have hu64 : (A.deeper (PyProof.Rows.envOfC "orders_of" (defScope sOrders) s.heap.objs.size f cdv)).units + 64 < cLine := by
      have := hr.un
      omega
    refine ⟨_, pss_cons (ps_set (i := 4) scOO.nd rfl (Or.inl rfl) (pe_listRg rfl (by rfl) m_list (prg_1 (by rfl) m_range (pv 1))))
      (pss_cons (ps_set (i := 5) scOO.nd rfl (Or.inl rfl) (pe_call GSp hr (by rfl) gSp FSp.kp bSp .nil pass0 (pa_cons (pv 0) (pa_cons (pv 1) (pa_cons (pv 3) pa_nil)))))
      (pss_cons (ps_set (i := 6) scOO.nd rfl (Or.inl rfl) (pe_lst (pa_cons (pv 4) pa_nil)))
      (pss_cons (ps_set (i := 7) scOO.nd rfl (Or.inl rfl) pe_int)
      (pss_cons (ps_set (i := 8) scOO.nd rfl (Or.inl rfl) (pe_call GCh hr (by rfl) gCh FCh.kp bCh .nil pass0 (pa_cons (pv 4) (pa_cons (pv 7) (pa_cons (pv 0) (pa_cons (pv 2) (pa_cons (pv 3) pa_nil)))))))
      (pss_cons (ps_while PassesOwn.never (pt_mid (PW.pt (pw_or (pt_cmpR op_ne (pe_op op_mod (pv 7) (pv 5)) pe_int (nomark _)) (pw_or1 (pt_cmpR (op_neD hu64) (pv 8) (pv 4) (nomark _))))))
      (pss_cons (ps_expr (pe_bm PySem.F.plainAttrs_list PySem.F.slot_list_append PySem.F.type_list_append mt_append (pv 6) (pa_cons (pv 8) pa_nil)))
      (pss_cons (ps_aug (i := 7) scOO.nd rfl (Or.inl rfl) pe_int ip_add)
      (pss_one (ps_set (i := 8) scOO.nd rfl (Or.inl rfl) (pe_call GCh hr (by rfl) gCh FCh.kp bCh .nil pass0 (pa_cons (pv 8) (pa_cons (pv 7) (pa_cons (pv 0) (pa_cons (pv 2) (pa_cons (pv 3) pa_nil)))))))))))
      (pss_one (ps_ret (pv 6)))))))), ?_⟩
    refine ⟨_, rfl, _, rfl, RgOk.of_le (by omega) (by omega) (by omega) (by omega), fun F0 nF => ?_⟩
    rw [rg_nat]
    have s1 := same_new (o := .lst ((List.range many).map natV)) nF
    have hF : (upd H F0 (.lst ((List.range many).map natV))) F0 = some (.lst ((List.range many).map natV)) := upd_same
    generalize upd H F0 (.lst ((List.range many).map natV)) = H1 at s1 hF
    refine ⟨_, rfl, _, rfl, _, rfl, p, xs, tr, many, rl, rfl, s1 _ _ hp, hT.same s1, hk, l4, fun H2 s2 => ?_⟩
    have s12 := s1.trans s2
    refine ⟨_, rfl, by show 1 ≤ sizeLine; decide, fun O nO => ?_⟩
    have s3 := same_new (o := .lst [V.ref F0]) nO
    have hO : (upd H2 O (.lst [V.ref F0])) O = some (.lst [V.ref F0]) := upd_same
    generalize upd H2 O (.lst [V.ref F0]) = H3 at s3 hO
    have s13 := s12.trans s3
    have nO0 : H O = none := s12.free nO
    have hF3 := (s2.trans s3) _ _ hF
    have lr : (List.range many).length = many := List.length_range
    have g0 := span_pos (many := many) (rl := rl) hk
    have g1 := span_le (many := many) (rl := rl) hk l4
    obtain ⟨T, T0, T1, T2, T3⟩ := come_back (mt := mt) (rl := rl) l1 l6 g0
    have Tb : T < 2 ^ 24 := by
      have : spanN tr many rl * 46656 ≤ 240 * 46656 := Nat.mul_le_mul_right _ g1
      omega
    refine ⟨_, rfl, _, rfl, _, rfl, _, rfl, _, rfl, F0, p, List.range many, 1, xs, tr, mt, rl, rfl, hF3, s13 _ _ hp, hT.same s13, hk, okr, by rw [lr]; exact l1, by rw [lr]; exact l6, l4, by decide, fun H4 q s4 hq => ?_⟩
    have s14 := s13.trans s4
    refine while_by (fun σ H' => ∃ (b : Nat) (q : Addr) (os : List V), σ = [some (.ref p), some (.int (many : Nat)), some (.bl mt), some (.int (rl : Nat)), some (.ref F0), some (.int (spanN tr many rl : Nat)), some (.ref O), some (.int (b : Nat)), some (.ref q)] ∧ Same H H' ∧ H' F0 = some (.lst ((List.range many).map natV)) ∧ 1 ≤ b ∧ b ≤ T ∧ (∀ c, 0 < c → c < b → ¬ (c % spanN tr many rl = 0 ∧ ordN tr many mt rl c = List.range many)) ∧ H' O = some (.lst (V.ref F0 :: os)) ∧ OrL H' (V.ref F0 :: os) ((List.range b).map (ordN tr many mt rl)) ∧ H' q = some (.lst ((ordN tr many mt rl b).map natV)))
      (fun σ _ => match σ with | [_, _, _, _, _, _, _, some (.int b), _] => T - b.toNat | _ => 0) ⟨1, q, [], rfl, s14, s4 _ _ hF3, Nat.le_refl _, T0, (fun c h1 h2 => by omega), s4 _ _ hO, AL.snoc (xs := []) (ps := []) AL.nil ⟨F0, rfl, s4 _ _ hF3⟩, hq⟩ ?_ ?_
    · rintro σ H5 ⟨b, q5, os, rfl, s5, hF5, b1, bT, nb, hO5, hL5, hq5⟩
      have osl : os.length + 1 = b := by
        have := hL5.1
        rw [List.length_map, List.length_range] at this
        exact this
      refine ⟨fun c H6 => H6 = H5 ∧ c = !decide (b % spanN tr many rl = 0 ∧ ordN tr many mt rl b = List.range many), ?_, ?_⟩
      · refine ⟨_, rfl, _, rfl, _, _, rfl, rfl, by omega, rfl, _, rfl, ?_⟩
        by_cases c1 : b % spanN tr many rl = 0
        · have e1 : V.int (((b : Nat) : Int) % ((spanN tr many rl : Nat) : Int)) = V.int 0 := by
            rw [← Int.natCast_emod, c1]
            rfl
          rw [decide_eq_true e1]
          refine iteF ⟨_, rfl, _, rfl, _, _, .lst (SqL.of hq5) (dp_nats _), .lst (SqL.of hF5) (dp_nats _), shaped_nats _, shaped_nats _, _, rfl, rfl, ?_⟩
          rw [eqv_lnats]
          by_cases c2 : ordN tr many mt rl b = List.range many
          · rw [decide_eq_true c2, decide_eq_true (And.intro c1 c2)]
          · rw [decide_eq_false c2, decide_eq_false (fun z => c2 z.2)]
        · have e1 : ¬ V.int (((b : Nat) : Int) % ((spanN tr many rl : Nat) : Int)) = V.int 0 := fun z => by
            have z2 := V.int.inj z
            rw [← Int.natCast_emod] at z2
            omega
          rw [decide_eq_false e1]
          refine iteT ⟨rfl, ?_⟩
          rw [decide_eq_false (fun z => c1 z.1)]
          rfl
      · rintro c H6 ⟨rfl, rfl⟩
        by_cases hc : b % spanN tr many rl = 0 ∧ ordN tr many mt rl b = List.range many
        · rw [decide_eq_true hc]
          refine iteF ⟨_, rfl, ?_⟩
          exact k H6 O (V.ref F0 :: os) b s5 nO0 ⟨b1, by omega, hc.1, hc.2, nb⟩ hO5 hL5
        · rw [decide_eq_false hc]
          have bT2 : b < T := by
            rcases Nat.lt_or_eq_of_le bT with z | z
            · exact z
            · exact absurd ⟨by rw [z]; exact T2, by rw [z]; exact T3⟩ hc
          refine iteT ⟨_, rfl, .inl ⟨rfl, _, SqL.of hO5⟩, _, rfl, O, _, _, rfl, rfl, hO5, Nat.lt_of_lt_of_le (show (V.ref F0 :: os).length < 2 ^ 24 by rw [List.length_cons]; omega) (by decide), ?_⟩
          have s6 := same_put (o := .lst ((V.ref F0 :: os) ++ [V.ref q5])) s5 nO0
          have hL6 := OrL.put (u := .lst ((V.ref F0 :: os) ++ [V.ref q5])) hL5 hO5
          have nq : q5 ≠ O := ref_nat hO5 hq5
          have hq6 : (upd H6 O (.lst ((V.ref F0 :: os) ++ [V.ref q5]))) q5 = some (.lst ((ordN tr many mt rl b).map natV)) := by
            rw [upd_ne nq]
            exact hq5
          have hF6 : (upd H6 O (.lst ((V.ref F0 :: os) ++ [V.ref q5]))) F0 = some (.lst ((List.range many).map natV)) := by
            rw [upd_ne (ref_nat hO5 hF5)]
            exact hF5
          have hO6 : (upd H6 O (.lst ((V.ref F0 :: os) ++ [V.ref q5]))) O = some (.lst (V.ref F0 :: (os ++ [V.ref q5]))) := upd_same
          have hL7 := hL6.snoc ⟨q5, rfl, hq6⟩
          generalize upd H6 O (.lst ((V.ref F0 :: os) ++ [V.ref q5])) = H7 at s6 hL7 hq6 hF6 hO6
          refine ⟨_, rfl, _, _, rfl, rfl, ?_⟩
          have olen := (ordN_ok (mt := mt) (rl := rl) l1 b).1
          refine ⟨_, rfl, _, rfl, _, rfl, _, rfl, _, rfl, q5, p, ordN tr many mt rl b, b + 1, xs, tr, mt, rl, rfl, hq6, s6 _ _ hp, hT.same s6, hk, okr, by rw [olen]; exact l1, by rw [olen]; exact l6, l4, by omega, fun H8 q8 s8 hq8 => ?_⟩
          refine ⟨⟨b + 1, q8, os ++ [V.ref q5], rfl, s6.trans s8, s8 _ _ hF6, by omega, by omega, ?_, s8 _ _ hO6, ?_, hq8⟩, ?_⟩
          · intro c c0 c1
            rcases Nat.lt_or_eq_of_le (Nat.le_of_lt_succ c1) with z | z
            · exact nb c c0 z
            · rw [z]
              exact hc
          · rw [List.range_succ, List.map_append]
            exact OrL.same hL7 s8
          · show T - (((b + 1 : Nat) : Int)).toNat < T - (((b : Nat) : Int)).toNat
            omega
    · intro σ H' Q1 Q2 hh hq
      obtain ⟨M, q1, q2⟩ := hq
      exact ⟨M, q1, fun b H1 m => hh _ _ (q2 b H1 m)⟩
end
end Dk
namespace Dk
open PySem L2
section
variable {P : Program} {w : World} {K : PySem.W.Frag} {mg : Str → Option Value} {base : Heap}
theorem scRooms : FnScope ["self"] ["self"] (defScope sRooms) := ⟨rfl, rfl, rfl, by decide +kernel, rfl, by decide +kernel, by decide +kernel⟩
theorem ok_rooms {f C : Addr} {fd : FuncData} (F : Fun K "rooms" "House.rooms" sRooms f fd) (T : HTxt K C) (ml : mg "list" = none) : FnOk P w K mg base CX0 1 f fd ["self"] (spRooms C) := by
  refine F.ok scRooms (fun vs H Q E h => ?_) (fun cdv A outer s H vs Q E hr h => ?_)
  · obtain ⟨h, zs, bh, vw, rfl, _⟩ := h
    rfl
  · obtain ⟨h, zs, bh, vw, rfl, ⟨⟨dx, n, b, v, h1, h2, _⟩, _⟩, k⟩ := h
    refine ⟨_, pss_one (ps_ret (pe_callTy call_list_of (by rfl) ml (by decide +kernel) (pa_cons (pe_fld (pv 0) rfl) pa_nil))), ?_⟩
    refine ⟨_, rfl, h, C, dx, _, _, rfl, h1, T.cl, T.nN, hf_n _ _ _, n, _, rfl, .inl (SqL.of h2), fun p np => ?_⟩
    exact k _ p (same_new np) np upd_same
theorem scLit : FnScope ["house", "rooms", "reaches", "lights", "room", "reach", "other"] ["house", "rooms", "reaches"] (defScope sLitRooms) := ⟨rfl, rfl, rfl, by decide +kernel, rfl, by decide +kernel, by decide +kernel⟩
theorem ip_ext1 {X : Cx} : PIp X .Add rExt2 := fun pn s st H x y v u Q J rx ry h => iop_ext pn s st H x y v u Q J rx ry h
theorem ok_lit {f C fSe fRo : Addr} {fd dSe dRo : FuncData} (F : Fun K "lit_rooms" "lit_rooms" sLitRooms f fd) (T : HTxt K C) (mSe : Meth K C "sees" fSe) (bSe : Binds K dSe ["self", "room"] []) (GSe : FnOk P w K mg base CX0 3 fSe dSe ["self", "room"] (spSees C)) (mRo : Meth K C "rooms" fRo) (bRo : Binds K dRo ["self"] []) (GRo : FnOk P w K mg base CX0 1 fRo dRo ["self"] (spRooms C)) (m_list : mg "list" = none) (m_zip : mg "zip" = none) : FnOk P w K mg base CX0 4 f fd ["house", "rooms", "reaches"] (spLit C) := by
  refine F.ok scLit (fun vs H Q E h => ?_) (fun cdv A outer s H vs Q E hr h => ?_)
  · obtain ⟨h, r, q, zs, bh, vw, rs, ks, rfl, _⟩ := h
    rfl
  · obtain ⟨h, r, q, zs, bh, vw, rs, ks, rfl, hH, hr', hq, lk, l5, rz, k⟩ := h
    refine ⟨_, pss_cons (ps_set (i := 3) scLit.nd rfl (Or.inr rfl) (pe_callTy call_list_of (by rfl) m_list (by decide +kernel) (pa_cons (pv 1) pa_nil)))
      (pss_cons (ps_for PassesOwn.never rfl (RZ.pi_zipA (by rfl) m_zip (pa_cons (pv 1) (pa_cons (pv 2) pa_nil))) (pg_tup rfl (pgs_cons (pg_name (i := 4) scLit.nd rfl (Or.inl rfl)) (pgs_cons (pg_name (i := 5) scLit.nd rfl (Or.inl rfl)) pgs_nil)))
      (pss_one (ps_if (pt_cmpR op_eq (pv 5) pe_int (nomark _)) (pss_one (ps_aug (i := 3) scLit.nd rfl (Or.inr rfl) (pe_meth (pv 0) T.cl mSe GSe hr bSe .nil pass0 (pa_cons (pv 4) pa_nil)) ip_ext1)) pss_nil)))
      (pss_one (ps_ret (pe_lc (own := [("other", 6)]) (g := gName 6) (tt := tTest (tOp (rIn K false) (tVar 6) (tVar 3))) rfl scLit.nd (pi_list (pe_meth0 (pv 0) T.cl mRo GRo (hr.mono (by decide)) bRo .nil pass0)) (blkOk_by (N := ["house", "rooms", "reaches", "lights", "room", "reach", "other"]) (sc := defScope sLitRooms) (by decide +kernel)) (fun _ _ _ _ _ => (pg_name (i := 6) scLit.nd rfl (Or.inl rfl))) (fun _ _ _ _ _ => pts_one (pt_cmpR op_in_seq (pv 6) (pv 3) (by rfl))) (fun _ _ _ _ _ => (pv 6)))))), ?_⟩
    obtain ⟨⟨dx, n, bx, v, h1, h2, h3, h4, hN, hl⟩, hb, hv, hin⟩ := id hH
    have lR : (rs.map V.str).length = rs.length := List.length_map ..
    refine ⟨_, rfl, r, _, rfl, .inl (SqL.of hr'), fun D nD => ?_⟩
    have s0 := same_new (o := .lst (rs.map V.str)) nD
    have rD : r ≠ D := ne_of_none hr' nD
    have qD : q ≠ D := ne_of_none hq nD
    refine ⟨_, rfl, _, rfl, r, q, _, _, rfl, .inl ⟨SqL.of (s0 _ _ hr'), SqL.of (s0 _ _ hq), for_it (walk_zip (n := rs.length) (xs := rs.map V.str) (ys := ks.map natV) (by rw [lR, List.length_map, ← lk, Nat.min_self])) (fun j σ H' => ∃ y4 y5, σ = [some (.ref h), some (.ref r), some (.ref q), some (.ref D), y4, y5, none] ∧ Same H H' ∧ H' D = some (.lst ((rs ++ ligs vw ((rs.zip ks).take j)).map V.str))) ⟨_, _, rfl, s0, by rw [upd_same, List.take_zero]; show _ = some (HO.lst ((rs ++ []).map V.str)); rw [List.append_nil]⟩ (fun i σ H' _ z => by obtain ⟨_, _, _, z, _⟩ := z; exact ⟨SqL.of (z _ _ hr'), SqL.of (z _ _ hq)⟩) ?_ ?_⟩⟩
    · rintro i x σ H1 H2 hi ⟨y4, y5, rfl, s1, hD⟩ ⟨tq, x1, y1, rfl, ntq, rfl, e1, e2⟩
      obtain ⟨a, ea, rfl⟩ := str_at e1
      obtain ⟨m, em, rfl⟩ := nat_of_at e2
      have ez := zip_at ea em
      have s2 := same_new (o := .tup [.str a, natV m]) ntq
      have s12 := s1.trans s2
      have hD2 := s2 _ _ hD
      have et := take_snoc' ez
      have el := ligs_app vw ((rs.zip ks).take i) [(a, m)]
      have e1' : ligs vw [(a, m)] = if m = 1 then vw a else [] := by
        show (if m = 1 then vw a else []) ++ [] = _
        rw [List.append_nil]
      rw [e1'] at el
      have ll : (rs ++ ligs vw ((rs.zip ks).take i)).length ≤ 100 := by
        rw [List.length_append]
        have := ligs_len hv ((rs.zip ks).take i)
        have : ((rs.zip ks).take i).length * zs.length ≤ 5 * 8 := Nat.mul_le_mul (by rw [List.length_take, List.length_zip]; omega) hl
        omega
      refine ⟨tq, _, rfl, SqT.of upd_same, rfl, _, _, rfl, _, _, rfl, rfl, ?_⟩
      refine ⟨_, rfl, rfl, _, rfl, ite2 (fun e => ?_) (fun e => ?_)⟩
      · have m1 : m = 1 := by
          have := V.int.inj (of_decide_eq_true e)
          omega
        have hH2 := hH.same s12
        obtain ⟨⟨dx', n', bx', v', h1', _⟩, _⟩ := id hH2
        refine ⟨_, rfl, _, rfl, h, dx', _, rfl, h1', hf_no _ _ _ (by decide +kernel) (by decide +kernel) (by decide +kernel), _, rfl, h, zs, bh, vw, a, rfl, hH2, rz a (List.mem_of_getElem? ea), fun H3 p s3 np hp => ?_⟩
        have hD3 := s3 _ _ hD2
        refine ⟨D, p, _, _, rfl, rfl, hD3, hp, Nat.le_of_lt (small1000 (by rw [List.length_map, List.length_map]; have := hv a; omega)), ?_⟩
        refine ⟨_, _, rfl, same_put (s12.trans s3) nD, ?_⟩
        rw [upd_same, et, el, if_pos m1, ← List.append_assoc, List.map_append (l₂ := vw a)]
      · have m1 : ¬ m = 1 := fun z => e (decide_eq_true (by rw [z]; rfl))
        refine ⟨_, _, rfl, s12, ?_⟩
        rw [hD2, et, el, if_neg m1, List.append_nil]
    · rintro σ H1 ⟨y4, y5, rfl, s1, hD⟩
      have tz : (rs.zip ks).take rs.length = rs.zip ks := List.take_of_length_le (by rw [List.length_zip]; omega)
      rw [tz] at hD
      have hH1 := hH.same s1
      obtain ⟨⟨dx', n', bx', v', h1', _⟩, _⟩ := id hH1
      refine ⟨_, rfl, h, dx', _, rfl, h1', hf_no _ _ _ (by decide +kernel) (by decide +kernel) (by decide +kernel), h, zs, bh, vw, rfl, hH1, fun H2 p s2 np hp => ?_⟩
      have hD2 := s2 _ _ hD
      refine ⟨p, rfl, ⟨_, SqL.of hp⟩, fun B nB => ?_⟩
      refine it_any (walk_list (K := K) (a := p) (xs := zs.map V.str)) (fun j H' => Same H2 H' ∧ H' B = some (.lst ((litN (zs.take j) vw rs ks).map V.str))) ⟨same_new nB, upd_same⟩ (fun j H' _ z => SqL.of (z.1 _ _ hp)) ?_ ?_
      · rintro j x H3 H4 hj ⟨s3, hB⟩ ⟨rfl, hx⟩
        obtain ⟨a, ea, rfl⟩ := str_at hx
        have ef : litN (zs.take (j + 1)) vw rs ks = litN (zs.take j) vw rs ks ++ (if decide (a ∈ rs ++ ligs vw (rs.zip ks)) = true then [a] else []) := filter_take ea
        refine ⟨rfl, _, rfl, _, rfl, D, _, rfl, .inl (SqL.of (s3 _ _ hD2)), rfl, flat_all _, _, rfl, ?_⟩
        show if (inV (.str a) ((rs ++ ligs vw (rs.zip ks)).map V.str)) = true then _ else _
        rw [in_strs]
        refine ite2 (fun e => ?_) (fun e => ?_)
        · refine ⟨_, rfl, _, hB, small1000 (by rw [List.length_map]; have := List.length_filter_le (fun r => decide (r ∈ rs ++ ligs vw (rs.zip ks))) (zs.take j); rw [List.length_take] at this; show (List.filter _ _).length ≤ 1000; omega), same_put s3 nB, ?_⟩
          rw [upd_same, ef, if_pos e, List.map_append]
          rfl
        · refine ⟨s3, ?_⟩
          rw [hB, ef, if_neg e, List.append_nil]
      · rintro H3 ⟨s3, hB⟩
        rw [List.length_map, List.take_length] at hB
        exact k H3 B ((s1.trans s2).trans s3) ((s1.trans s2).free nB) hB
theorem scMv : FnScope ["before", "now", "a", "b"] ["before", "now"] (defScope sMoves) := ⟨rfl, rfl, rfl, by decide +kernel, rfl, by decide +kernel, by decide +kernel⟩
theorem ok_moves {f : Addr} {fd : FuncData} (F : Fun K "moves_of" "moves_of" sMoves f fd) (m_zip : mg "zip" = none) : FnOk P w K mg base CX0 1 f fd ["before", "now"] spMoves := by
  refine F.ok scMv (fun vs H Q E h => ?_) (fun cdv A outer s H vs Q E hr h => ?_)
  · obtain ⟨b, n, bs, ns, rfl, _⟩ := h
    rfl
  · obtain ⟨b, n, bs, ns, rfl, hb, hn, lk, l5, k⟩ := h
    refine ⟨_, pss_one (ps_ret (pe_lc (own := [("a", 2), ("b", 3)]) (g := gTup K 2 (gCons (gName 2) (gCons (gName 3) gNil)))  rfl scMv.nd (RZ.pi_zipA (by rfl) m_zip (pa_cons (pv 0) (pa_cons (pv 1) pa_nil))) (blkOk_by (N := ["before", "now", "a", "b"]) (sc := defScope sMoves) (by decide +kernel)) (fun _ _ _ _ _ => (pg_tup rfl (pgs_cons (pg_name (i := 2) scMv.nd rfl (Or.inl rfl)) (pgs_cons (pg_name (i := 3) scMv.nd rfl (Or.inl rfl)) pgs_nil)))) (fun _ _ _ _ _ => pts_one (pt_cmpR op_ne (pv 2) (pv 3) (nomark _))) (fun _ _ _ _ _ => (pe_tup (pa_cons (pv 2) (pa_cons (pv 3) pa_nil)))))), ?_⟩
    have lR : (bs.map V.str).length = bs.length := List.length_map ..
    refine ⟨_, rfl, _, rfl, b, n, _, _, rfl, .inl ⟨SqL.of hb, SqL.of hn, fun D nD => ?_⟩⟩
    refine it_any (walk_zip (n := bs.length) (xs := bs.map V.str) (ys := ns.map V.str) (by rw [lR, List.length_map, ← lk, Nat.min_self])) (fun j H' => Same H H' ∧ ∃ ys, H' D = some (.lst ys) ∧ PL H' ys (((bs.zip ns).take j).filter fun p => decide (p.1 ≠ p.2))) ⟨same_new nD, [], upd_same, PL.nil⟩ (fun j H' _ z => ⟨SqL.of (z.1 _ _ hb), SqL.of (z.1 _ _ hn)⟩) ?_ ?_
    · rintro j x H1 H2 hj ⟨s1, ys, hD, hP⟩ ⟨tq, x1, y1, rfl, ntq, rfl, e1, e2⟩
      obtain ⟨a, ea, rfl⟩ := str_at e1
      obtain ⟨c, ec, rfl⟩ := str_at e2
      have ez := zip_at ea ec
      have s2 := same_new (o := .tup [.str a, .str c]) ntq
      have hD2 := s2 _ _ hD
      have nDt : D ≠ tq := ne_of_none hD ntq
      have ef : ((bs.zip ns).take (j + 1)).filter (fun p => decide (p.1 ≠ p.2)) = ((bs.zip ns).take j).filter (fun p => decide (p.1 ≠ p.2)) ++ (if a ≠ c then [(a, c)] else []) := by
        rw [take_snoc' ez, List.filter_append]
        congr 1
        show List.filter _ [(a, c)] = _
        by_cases z : a = c <;> simp [z]
      have yl : ys.length ≤ 100 := by
        rw [hP.1]
        have := List.length_filter_le (fun p : SS => decide (p.1 ≠ p.2)) ((bs.zip ns).take j)
        rw [List.length_take, List.length_zip] at this
        omega
      refine ⟨tq, _, rfl, SqT.of upd_same, rfl, _, _, rfl, _, _, rfl, rfl, rfl, ?_⟩
      refine ⟨_, rfl, _, rfl, rfl, _, rfl, ?_⟩
      by_cases z : a = c
      · rw [decide_eq_true (show V.str a = V.str c by rw [z])]
        refine ⟨s1.trans s2, ys, hD2, ?_⟩
        rw [ef, if_neg (fun y => y z), List.append_nil]
        exact hP.same s2
      · rw [decide_eq_false (show ¬ V.str a = V.str c from fun y => z (V.str.inj y))]
        refine ⟨_, rfl, _, rfl, by show 2 ≤ sizeLine; decide, fun t nt => ?_⟩
        have s3 := same_new (o := .tup [.str a, .str c]) nt
        have hD3 := s3 _ _ hD2
        have nDt' : D ≠ t := ne_of_none hD2 nt
        have kt := ((KeepT.of s2).trans (KeepT.of s3)).trans (KeepT.lst (o := .lst (ys ++ [.ref t])) hD3)
        refine ⟨_, hD3, small1000 (by omega), same_put ((s1.trans s2).trans s3) nD, ys ++ [.ref t], upd_same, ?_⟩
        rw [ef, if_pos z]
        exact (hP.keep kt).snoc ⟨t, rfl, by rw [upd_ne nDt'.symm, upd_same]⟩
    · rintro H1 ⟨s1, ys, hD, hP⟩
      rw [List.take_of_length_le (by rw [List.length_zip]; omega)] at hP
      exact k H1 D ys s1 nD hD hP
theorem scHands : FnScope ["house", "rooms", "a", "b"] ["house"] (defScope sHands) := ⟨rfl, rfl, rfl, by decide +kernel, rfl, by decide +kernel, by decide +kernel⟩
theorem ok_hands {f C fRo fAH : Addr} {fd dRo dAH : FuncData} (F : Fun K "rooms_at_hand" "rooms_at_hand" sHands f fd) (T : HTxt K C) (mRo : Meth K C "rooms" fRo) (bRo : Binds K dRo ["self"] []) (GRo : FnOk P w K mg base CX0 1 fRo dRo ["self"] (spRooms C)) (mAH : Meth K C "at_hand" fAH) (bAH : Binds K dAH ["self", "a", "b"] []) (GAH : FnOk P w K mg base CX0 5 fAH dAH ["self", "a", "b"] (spAtHand C)) : FnOk P w K mg base CX0 6 f fd ["house"] (spHands C) := by
  refine F.ok scHands (fun vs H Q E h => ?_) (fun cdv A outer s H vs Q E hr h => ?_)
  · obtain ⟨h, zs, bh, vw, rfl, _⟩ := h
    rfl
  · obtain ⟨h, zs, bh, vw, rfl, hH, k⟩ := h
    refine ⟨_, pss_cons (ps_set (i := 1) scHands.nd rfl (Or.inr rfl) (pe_meth0 (pv 0) T.cl mRo GRo (hr.mono (by decide)) bRo .nil pass0))
      (pss_one (ps_ret (pe_dc (own := [("a", 2)]) (g := gName 2) (tt := tYes) (tv := tLc (iList K (tVar 1)) (gName 3) (tTest (tMeth C "at_hand" (spAtHand C) [] E0 (tVar 0) (tCons (tVar 2) (tCons (tVar 3) tNil)))) (tVar 3) [3]) rfl scHands.nd (pi_list (pv 1)) (blkOk_by (N := ["house", "rooms", "a", "b"]) (sc := defScope sHands) (by decide +kernel)) (fun _ _ _ _ _ => (pg_name (i := 2) scHands.nd rfl (Or.inr rfl))) (fun _ _ _ _ _ => pts_nil) (fun _ _ _ _ _ => (pv 2)) (fun _ _ _ _ _ => (pe_lc (own := [("b", 3)]) (g := gName 3)  rfl scHands.nd (pi_list (pv 1)) (blkOk_by (N := ["house", "rooms", "a", "b"]) (sc := { kind := .function, names := [(".0", .local), ("a", .cell), ("house", .cell), ("rooms", .cell)], isGenerator := false, isCoroutine := false }) (by decide +kernel)) (fun _ _ _ _ _ => (pg_name (i := 3) scHands.nd rfl (Or.inl rfl))) (fun _ _ _ _ _ => pts_one (pt_val (pe_meth (pv 0) T.cl mAH GAH hr bAH .nil pass0 (pa_cons (pv 2) (pa_cons (pv 3) pa_nil))))) (fun _ _ _ _ _ => (pv 3))))))), ?_⟩
    obtain ⟨⟨dx, nn, bx, v, h1, h2, h3, h4, hN, hl⟩, hb, hv, hin⟩ := id hH
    refine ⟨_, rfl, h, dx, _, rfl, h1, hf_no _ _ _ (by decide +kernel) (by decide +kernel) (by decide +kernel), h, zs, bh, vw, rfl, hH, fun H1 n s0 n0 hn => ?_⟩
    have hH1 := hH.same s0
    refine ⟨_, rfl, n, rfl, ⟨_, SqL.of hn⟩, fun D nD => ?_⟩
    refine dc_list (K := K) (a := n) (xs := zs.map V.str) (fun i H' => Same H1 H' ∧ ∃ as : List Addr, as.length = i ∧ H' D = some (.dK (kvs (zs.take i) as)) ∧ ∀ (j : Nat) (z : Str) (q : Addr), (zs.take i)[j]? = some z → as[j]? = some q → H' q = some (.lst ((handN zs bh z).map V.str)))
      ⟨same_new nD, [], rfl, upd_same, fun j z q e _ => by simp at e⟩ (fun i H' _ h => SqL.of (h.1 _ _ hn)) ?_ ?_
    · rintro i x H' hx ⟨s1, as, el, hD, has⟩
      obtain ⟨z, ez, rfl⟩ := str_at hx
      have hi : i < zs.length := (List.getElem?_eq_some_iff.mp ez).1
      have hn1 := s1 _ _ hn
      refine ⟨rfl, ?_⟩
      refine ⟨_, rfl, _, rfl, n, rfl, ⟨_, SqL.of hn1⟩, fun B nB => ?_⟩
      have nBD : D ≠ B := ne_of_none hD nB
      refine lc_list (K := K) (a := n) (xs := zs.map V.str) (fun m H2 => Same H' H2 ∧ H2 B = some (.lst ((handN (zs.take m) bh z).map V.str))) ⟨same_new nB, upd_same⟩ (fun m H2 _ h => SqL.of (h.1 _ _ hn1)) ?_ ?_
      · rintro m y H2 hy ⟨s2, hB⟩
        obtain ⟨b, eb, rfl⟩ := str_at hy
        have hH2 := hH1.same (s1.trans s2)
        obtain ⟨⟨dx', n', bx', v', h1', _⟩, _⟩ := id hH2
        have ef : handN (zs.take (m + 1)) bh z = handN (zs.take m) bh z ++ (if (decide (b ∈ bh z) || decide (z = b)) = true then [b] else []) := filter_take eb
        refine ⟨rfl, _, rfl, h, dx', _, rfl, h1', hf_no _ _ _ (by decide +kernel) (by decide +kernel) (by decide +kernel), _, rfl, _, rfl, h, zs, bh, vw, z, b, rfl, hH2, List.mem_of_getElem? ez, List.mem_of_getElem? eb, _, rfl, ?_⟩
        refine ite2 (fun e => ?_) (fun e => ?_)
        · refine ⟨_, rfl, _, hB, small1000 (by rw [List.length_map]; have := List.length_filter_le (fun b => decide (b ∈ bh z) || decide (z = b)) (zs.take m); rw [List.length_take] at this; show (List.filter _ _).length ≤ 1000; omega), same_put s2 nB, ?_⟩
          rw [upd_same, ef, if_pos e, List.map_append]
          rfl
        · refine ⟨s2, ?_⟩
          rw [hB, ef, if_neg e, List.append_nil]
      · rintro H2 ⟨s2, hB⟩
        rw [List.length_map, List.take_length] at hB
        have hD2 := s2 _ _ hD
        have eT := take_snoc ez
        have hnz : valV (kvs (zs.take i) as) (Sum.inr z : Key) = none := kvs_none (nodup_at hN.1 ez)
        have hel : as.length = (zs.take i).length := by
          rw [el, List.length_take]
          omega
        refine ⟨_, (Sum.inr z : Key), rfl, hD2, ?_, same_put (s1.trans s2) nD, as ++ [B], ?_, ?_, ?_⟩
        · rw [kvs_len _ _ hel, List.length_take]
          exact small1000 (by omega)
        · rw [List.length_append, el]
          rfl
        · rw [upd_same, putK_new _ hnz, eT, kvs_snoc hel]
        · intro j y q h1 h2
          have nq : ∀ {q : Addr} {xs : List V}, H2 q = some (.lst xs) → q ≠ D := fun {q xs} hq e => by
            rw [e, hD2] at hq
            cases hq
          rw [eT] at h1
          by_cases hj : j < (zs.take i).length
          · rw [List.getElem?_append_left hj] at h1
            rw [List.getElem?_append_left (by omega)] at h2
            have h3 := s2 _ _ (has j y q h1 h2)
            rw [upd_ne (nq h3)]
            exact h3
          · rw [List.getElem?_append_right (by omega)] at h1 h2
            have ej : j - (zs.take i).length = 0 := by
              have := (List.getElem?_eq_some_iff.mp h1).1
              simp at this
              omega
            rw [ej] at h1
            rw [hel, ej] at h2
            rw [← Option.some.inj h1, ← Option.some.inj h2, upd_ne (nq hB)]
            exact hB
    · rintro H' ⟨s1, as, el, hD, has⟩
      rw [List.length_map, List.take_length] at hD has
      rw [List.length_map] at el
      exact k H' D (s0.trans s1) (s0.free nD) ⟨as, el, hD, has⟩
theorem scND : FnScope ["rooms", "delay"] ["rooms", "delay"] (defScope sNeedDelay) := ⟨rfl, rfl, rfl, by decide +kernel, rfl, by decide +kernel, by decide +kernel⟩
theorem ok_needdelay {f : Addr} {fd : FuncData} (F : Fun K "need_delay" "need_delay" sNeedDelay f fd) (m_len : mg "len" = none) : FnOk P w K mg base CX0 1 f fd ["rooms", "delay"] spNeedDelay := by
  refine F.ok scND (fun vs H Q E h => ?_) (fun cdv A outer s H vs Q E hr h => ?_)
  · obtain ⟨t, rs, dl, rfl, _⟩ := h
    rfl
  · obtain ⟨t, rs, dl, rfl, ht, hd, k⟩ := h
    refine ⟨_, pss_one (ps_if (pt_not (pt_chain op_le op_lt pe_int (pv 1) (pe_callB call_len_seq (by rfl) m_len PySem.boot_len (pa_cons (pv 0) pa_nil)))) (pss_one (ps_never)) pss_nil), ?_⟩
    refine ⟨_, rfl, _, _, rfl, rfl, _, rfl, ?_⟩
    rw [decide_eq_true (show (0 : Int) ≤ ((dl : Nat) : Int) by omega)]
    refine iteT ⟨_, rfl, t, _, rfl, .inr (SqT.of ht), _, _, rfl, rfl, _, rfl, ?_⟩
    rw [decide_eq_true (show ((dl : Nat) : Int) < (((rs.map V.str).length : Nat) : Int) by rw [List.length_map]; omega)]
    exact iteF k
theorem scNRe : FnScope ["reach"] ["reach"] (defScope sNeedReach) := ⟨rfl, rfl, rfl, by decide +kernel, rfl, by decide +kernel, by decide +kernel⟩
theorem ok_needreach {f : Addr} {fd : FuncData} (F : Fun K "need_reach" "need_reach" sNeedReach f fd)  : FnOk P w K mg base CX0 1 f fd ["reach"] spNeedReach := by
  refine F.ok scNRe (fun vs H Q E h => ?_) (fun cdv A outer s H vs Q E hr h => ?_)
  · obtain ⟨r, rfl, _⟩ := h
    rfl
  · obtain ⟨r, rfl, h1, k⟩ := h
    refine ⟨_, pss_one (ps_if (pt_cmpR op_notIn_seq (pv 0) (pe_tup (pa_cons pe_int (pa_cons pe_int pa_nil))) (by rfl)) (pss_one (ps_never)) pss_nil), ?_⟩
    refine ⟨_, rfl, by show 2 ≤ sizeLine; decide, fun t nt => ?_⟩
    refine ⟨t, _, rfl, .inr (SqT.of upd_same), rfl, rfl, _, rfl, ?_⟩
    have e : inV (.int ((r : Nat) : Int)) [V.int 0, V.int 1] = true := by
      have : r = 0 ∨ r = 1 := by omega
      rcases this with rfl | rfl <;> rfl
    show if (!inV (.int ((r : Nat) : Int)) [V.int 0, V.int 1]) = true then _ else _
    rw [e]
    exact iteF (k _ (same_new nt))
theorem scNRl : FnScope ["relief"] ["relief"] (defScope sNeedRelief) := ⟨rfl, rfl, rfl, by decide +kernel, rfl, by decide +kernel, by decide +kernel⟩
theorem ok_needrelief {f : Addr} {fd : FuncData} (F : Fun K "need_relief" "need_relief" sNeedRelief f fd) {t1 t2 : Tok} (c1 : mg "NEVER" = some (.int 0 t1)) (c2 : mg "MOST_RELIEF" = some (.int 4 t2)) : FnOk P w K mg base CX0 1 f fd ["relief"] spNeedRelief := by
  refine F.ok scNRl (fun vs H Q E h => ?_) (fun cdv A outer s H vs Q E hr h => ?_)
  · obtain ⟨r, rfl, _⟩ := h
    rfl
  · obtain ⟨r, rfl, h1, k⟩ := h
    refine ⟨_, pss_one (ps_if (pt_not (pt_chain op_le op_le (pe_glob (v := .int 0) (by rfl) c1 ⟨_, rfl⟩) (pv 0) (pe_glob (v := .int 4) (by rfl) c2 ⟨_, rfl⟩))) (pss_one (ps_never)) pss_nil), ?_⟩
    refine ⟨_, rfl, _, _, rfl, rfl, _, rfl, ?_⟩
    rw [decide_eq_true (show (0 : Int) ≤ ((r : Nat) : Int) by omega)]
    refine iteT ⟨_, _, rfl, rfl, _, rfl, ?_⟩
    rw [decide_eq_true (show ((r : Nat) : Int) ≤ 4 by omega)]
    exact iteF k
theorem scNC : FnScope ["posts", "watchers"] ["posts", "watchers"] (defScope sNeedCounts) := ⟨rfl, rfl, rfl, by decide +kernel, rfl, by decide +kernel, by decide +kernel⟩
theorem ok_needcounts {f : Addr} {fd : FuncData} (F : Fun K "need_counts" "need_counts" sNeedCounts f fd) {t1 t2 : Tok} (c1 : mg "MOST_POSTS" = some (.int 5 t1)) (c2 : mg "MOST_WATCHERS" = some (.int 6 t2)) (m_len : mg "len" = none) : FnOk P w K mg base CX0 1 f fd ["posts", "watchers"] spNeedCounts := by
  refine F.ok scNC (fun vs H Q E h => ?_) (fun cdv A outer s H vs Q E hr h => ?_)
  · obtain ⟨p, q, xs, ys, rfl, _⟩ := h
    rfl
  · obtain ⟨p, q, xs, ys, rfl, hp, hq, l1, l2, k⟩ := h
    refine ⟨_, pss_one (ps_if (PW.pt (pw_or (pt_cmpR op_gt (pe_callB call_len_seq (by rfl) m_len PySem.boot_len (pa_cons (pv 0) pa_nil)) (pe_glob (v := .int 5) (by rfl) c1 ⟨_, rfl⟩) (nomark _)) (pw_or1 (pt_cmpR op_gt (pe_callB call_len_seq (by rfl) m_len PySem.boot_len (pa_cons (pv 1) pa_nil)) (pe_glob (v := .int 6) (by rfl) c2 ⟨_, rfl⟩) (nomark _))))) (pss_one (ps_never)) pss_nil), ?_⟩
    refine ⟨_, rfl, p, _, rfl, .inl (SqL.of hp), _, _, rfl, rfl, _, rfl, ?_⟩
    rw [decide_eq_false (show ¬ (5 : Int) < ((xs.length : Nat) : Int) by omega)]
    refine iteF ⟨_, rfl, q, _, rfl, .inl (SqL.of hq), _, _, rfl, rfl, _, rfl, ?_⟩
    rw [decide_eq_false (show ¬ (6 : Int) < ((ys.length : Nat) : Int) by omega)]
    exact iteF k
theorem scNO : FnScope ["rows", "row"] ["rows"] (defScope sNamesOf) := ⟨rfl, rfl, rfl, by decide +kernel, rfl, by decide +kernel, by decide +kernel⟩
theorem ok_namesof {f : Addr} {fd : FuncData} (F : Fun K "names_of" "names_of" sNamesOf f fd)  : FnOk P w K mg base CX0 1 f fd ["rows"] spNamesOf := by
  refine F.ok scNO (fun vs H Q E h => ?_) (fun cdv A outer s H vs Q E hr h => ?_)
  · obtain ⟨p, xs, zs, rfl, _⟩ := h
    rfl
  · obtain ⟨p, xs, zs, rfl, hp, hA, hl, k⟩ := h
    refine ⟨_, pss_one (ps_ret (pe_lc (own := [("row", 1)]) (g := gName 1) (tt := tYes) (te := tOp (rIxT K) (tVar 1) (tC (.int 0))) rfl scNO.nd (pi_list (pv 0)) (blkOk_by (N := ["rows", "row"]) (sc := defScope sNamesOf) (by decide +kernel)) (fun _ _ _ _ _ => (pg_name (i := 1) scNO.nd rfl (Or.inl rfl))) (fun _ _ _ _ _ => pts_nil) (fun _ _ _ _ _ => (pe_ix ix_tup (pv 1) pe_int (fun _ _ => rfl))))), ?_⟩
    refine ⟨_, rfl, p, rfl, ⟨_, SqL.of hp⟩, fun D nD => ?_⟩
    refine it_any (walk_list (K := K) (a := p) (xs := xs)) (fun j H' => Same H H' ∧ H' D = some (.lst ((zs.take j).map V.str))) ⟨same_new nD, upd_same⟩ (fun j H' _ z => SqL.of (z.1 _ _ hp)) ?_ ?_
    · rintro j x H1 H2 hj ⟨s1, hD⟩ ⟨rfl, hx⟩
      obtain ⟨z, ez, q, ys, rfl, hq⟩ := (AL.mono hA fun _ _ => NmA.keep (KeepT.of s1)).at hx
      refine ⟨rfl, _, rfl, q, _, 0, _, rfl, rfl, SqT.of hq, atI_nat (j := 0) rfl, ?_⟩
      refine ⟨_, hD, small1000 (by rw [List.length_map, List.length_take]; have := hA.1; omega), same_put s1 nD, ?_⟩
      rw [upd_same, take_snoc' ez, List.map_append]
      rfl
    · rintro H1 ⟨s1, hD⟩
      rw [hA.1, List.take_length] at hD
      exact k H1 D s1 nD hD
end
end Dk
namespace Dk
open PySem L2
section
variable {P : Program} {w : World} {K : PySem.W.Frag} {mg : Str → Option Value} {base : Heap}
theorem scNP : FnScope ["house", "posts", "copied", "name", "rooms", "delay"] ["house", "posts"] (defScope sNewPosts) := ⟨rfl, rfl, rfl, by decide +kernel, rfl, by decide +kernel, by decide +kernel⟩
theorem ok_newposts {f C fNn fNo fNr fNd : Addr} {fd dNn dNo dNr dNd : FuncData} (F : Fun K "new_posts" "new_posts" sNewPosts f fd) (FNn : Fun K "need_new_name" "need_new_name" sNewName fNn dNn) (bNn : Binds K dNn ["name", "others"] []) (gNn : mg "need_new_name" = some (.ref fNn)) (GNn : FnOk P w K mg base CX0 2 fNn dNn ["name", "others"] spNewName) (FNo : Fun K "names_of" "names_of" sNamesOf fNo dNo) (bNo : Binds K dNo ["rows"] []) (gNo : mg "names_of" = some (.ref fNo)) (GNo : FnOk P w K mg base CX0 1 fNo dNo ["rows"] spNamesOf) (FNr : Fun K "need_round" "need_round" sNeedRound fNr dNr) (bNr : Binds K dNr ["house", "rooms"] []) (gNr : mg "need_round" = some (.ref fNr)) (GNr : FnOk P w K mg base CX0 6 fNr dNr ["house", "rooms"] (spNeedRound C)) (FNd : Fun K "need_delay" "need_delay" sNeedDelay fNd dNd) (bNd : Binds K dNd ["rooms", "delay"] []) (gNd : mg "need_delay" = some (.ref fNd)) (GNd : FnOk P w K mg base CX0 1 fNd dNd ["rooms", "delay"] spNeedDelay) (m_tuple : mg "tuple" = none) : FnOk P w K mg base CX0 7 f fd ["house", "posts"] (spNewPosts C) := by
  refine F.ok scNP (fun vs H Q E h => ?_) (fun cdv A outer s H vs Q E hr h => ?_)
  · obtain ⟨h, p, zs, bh, vw, xs, ps, rfl, _⟩ := h
    rfl
  · obtain ⟨h, p, zs, bh, vw, xs, ps, rfl, hH, hp, hP, ok, k⟩ := h
    refine ⟨_, pss_cons (ps_set (i := 2) scNP.nd rfl (Or.inl rfl) (pe_lst pa_nil))
      (pss_cons (ps_for PassesOwn.never rfl (pi_list (pv 1)) (pg_tup rfl (pgs_cons (pg_name (i := 3) scNP.nd rfl (Or.inl rfl)) (pgs_cons (pg_name (i := 4) scNP.nd rfl (Or.inl rfl)) (pgs_cons (pg_name (i := 5) scNP.nd rfl (Or.inl rfl)) pgs_nil))))
      (pss_cons (ps_expr (pe_call GNn (hr.mono (by decide)) (by rfl) gNn FNn.kp bNn .nil pass0 (pa_cons (pv 3) (pa_cons (pe_call GNo (hr.mono (by decide)) (by rfl) gNo FNo.kp bNo .nil pass0 (pa_cons (pv 2) pa_nil)) pa_nil))))
      (pss_cons (ps_expr (pe_call GNr hr (by rfl) gNr FNr.kp bNr .nil pass0 (pa_cons (pv 0) (pa_cons (pv 4) pa_nil))))
      (pss_cons (ps_expr (pe_call GNd (hr.mono (by decide)) (by rfl) gNd FNd.kp bNd .nil pass0 (pa_cons (pv 4) (pa_cons (pv 5) pa_nil))))
      (pss_one (ps_expr (pe_bm PySem.F.plainAttrs_list PySem.F.slot_list_append PySem.F.type_list_append mt_append (pv 2) (pa_cons (pe_tup (pa_cons (pv 3) (pa_cons (pe_callTy call_tuple_of (by rfl) m_tuple (by decide +kernel) (pa_cons (pv 4) pa_nil)) (pa_cons (pv 5) pa_nil)))) pa_nil))))))))
      (pss_one (ps_ret (pv 2)))), ?_⟩
    have l5 := ok.five
    refine ⟨Nat.zero_le _, fun D nD => ?_⟩
    refine ⟨_, rfl, p, rfl, ⟨_, SqL.of (same_new nD _ _ hp)⟩, for_list (K := K) (a := p) (xs := xs) (fun j σ H' => ∃ y3 y4 y5, σ = [some (.ref h), some (.ref p), some (.ref D), y3, y4, y5] ∧ Same H H' ∧ ∃ ys, H' D = some (.lst ys) ∧ PsL H' ys (ps.take j)) ⟨_, _, _, rfl, same_new nD, [], upd_same, AL.nil⟩ (fun j σ H' _ z => by obtain ⟨_, _, _, _, z, _⟩ := z; exact SqL.of (z _ _ hp)) ?_ ?_⟩
    · rintro j x σ H1 hx ⟨y3, y4, y5, rfl, s1, ys, hD, hY⟩
      obtain ⟨⟨z, rs, dl⟩, ez, q, t, rfl, hq, ht⟩ := (PsL.same hP s1).at hx
      have pm := List.mem_of_getElem? ez
      have hj : j < ps.length := (List.getElem?_eq_some_iff.mp ez).1
      have en : (ps.map (·.1))[j]? = some z := by rw [List.getElem?_map, ez]; rfl
      obtain ⟨n1, n2⟩ := nodup_take ok.names en
      have yl : ys.length = j := by
        rw [hY.1, List.length_take]
        omega
      refine ⟨q, _, rfl, SqT.of hq, rfl, _, _, rfl, _, _, rfl, _, _, rfl, rfl, ?_⟩
      refine ⟨_, rfl, _, rfl, D, ys, _, rfl, hD, PsL.names hY, by omega, fun H2 nq s2 nnq hn => ?_⟩
      refine ⟨z, nq, _, rfl, n1, hn, by rw [List.map_take]; exact n2, fun H3 s3 => ?_⟩
      have s13 := s2.trans s3
      have s03 := s1.trans s13
      refine ⟨_, rfl, _, rfl, h, t, zs, bh, vw, rs, rfl, hH.same s03, s13 _ _ ht, ok.rnd _ pm, fun H4 s4 => ?_⟩
      have s14 := s13.trans s4
      have ht4 := s14 _ _ ht
      refine ⟨_, rfl, _, rfl, t, rs, dl, rfl, ht4, ok.dly _ pm, ?_⟩
      have hD4 := s14 _ _ hD
      refine ⟨_, rfl, .inl ⟨rfl, _, SqL.of hD4⟩, _, rfl, _, rfl, t, _, rfl, .inr ⟨SqT.of ht4, _, rfl, by show 3 ≤ sizeLine; decide, fun T nT => ?_⟩⟩
      have s5 := same_new (o := .tup [.str z, .ref t, .int ((dl : Nat) : Int)]) nT
      have hD5 := s5 _ _ hD4
      have nDT : D ≠ T := ne_of_none hD4 nT
      refine ⟨D, _, _, rfl, rfl, hD5, small1000 (by omega), ?_⟩
      have kt := (KeepT.of (s14.trans s5)).trans (KeepT.lst (o := .lst (ys ++ [.ref T])) hD5)
      refine ⟨_, _, _, rfl, same_put ((s1.trans s14).trans s5) nD, ys ++ [.ref T], upd_same, ?_⟩
      rw [take_snoc' ez]
      exact (PsL.keep hY kt).snoc ⟨T, t, rfl, by rw [upd_ne nDT.symm, upd_same], kt _ _ ht⟩
    · rintro σ H1 ⟨y3, y4, y5, rfl, s1, ys, hD, hY⟩
      rw [hP.1, List.take_length] at hY
      exact ⟨_, rfl, k H1 D ys s1 nD hD hY⟩
theorem scNW : FnScope ["watchers", "copied", "name", "reach"] ["watchers"] (defScope sNewWatchers) := ⟨rfl, rfl, rfl, by decide +kernel, rfl, by decide +kernel, by decide +kernel⟩
theorem ok_newwts {f fNn fNo fNr : Addr} {fd dNn dNo dNr : FuncData} (F : Fun K "new_watchers" "new_watchers" sNewWatchers f fd) (FNn : Fun K "need_new_name" "need_new_name" sNewName fNn dNn) (bNn : Binds K dNn ["name", "others"] []) (gNn : mg "need_new_name" = some (.ref fNn)) (GNn : FnOk P w K mg base CX0 2 fNn dNn ["name", "others"] spNewName) (FNo : Fun K "names_of" "names_of" sNamesOf fNo dNo) (bNo : Binds K dNo ["rows"] []) (gNo : mg "names_of" = some (.ref fNo)) (GNo : FnOk P w K mg base CX0 1 fNo dNo ["rows"] spNamesOf) (FNr : Fun K "need_reach" "need_reach" sNeedReach fNr dNr) (bNr : Binds K dNr ["reach"] []) (gNr : mg "need_reach" = some (.ref fNr)) (GNr : FnOk P w K mg base CX0 1 fNr dNr ["reach"] spNeedReach) : FnOk P w K mg base CX0 3 f fd ["watchers"] spNewWts := by
  refine F.ok scNW (fun vs H Q E h => ?_) (fun cdv A outer s H vs Q E hr h => ?_)
  · obtain ⟨p, xs, ws, rfl, _⟩ := h
    rfl
  · obtain ⟨p, xs, ws, rfl, hp, hP, ok, k⟩ := h
    refine ⟨_, pss_cons (ps_set (i := 1) scNW.nd rfl (Or.inl rfl) (pe_lst pa_nil))
      (pss_cons (ps_for PassesOwn.never rfl (pi_list (pv 0)) (pg_tup rfl (pgs_cons (pg_name (i := 2) scNW.nd rfl (Or.inl rfl)) (pgs_cons (pg_name (i := 3) scNW.nd rfl (Or.inl rfl)) pgs_nil)))
      (pss_cons (ps_expr (pe_call GNn hr (by rfl) gNn FNn.kp bNn .nil pass0 (pa_cons (pv 2) (pa_cons (pe_call GNo (hr.mono (by decide)) (by rfl) gNo FNo.kp bNo .nil pass0 (pa_cons (pv 1) pa_nil)) pa_nil))))
      (pss_cons (ps_expr (pe_call GNr (hr.mono (by decide)) (by rfl) gNr FNr.kp bNr .nil pass0 (pa_cons (pv 3) pa_nil)))
      (pss_one (ps_expr (pe_bm PySem.F.plainAttrs_list PySem.F.slot_list_append PySem.F.type_list_append mt_append (pv 1) (pa_cons (pe_tup (pa_cons (pv 2) (pa_cons (pv 3) pa_nil))) pa_nil)))))))
      (pss_one (ps_ret (pv 1)))), ?_⟩
    have l6 := ok.six
    refine ⟨Nat.zero_le _, fun D nD => ?_⟩
    refine ⟨_, rfl, p, rfl, ⟨_, SqL.of (same_new nD _ _ hp)⟩, for_list (K := K) (a := p) (xs := xs) (fun j σ H' => ∃ y3 y4, σ = [some (.ref p), some (.ref D), y3, y4] ∧ Same H H' ∧ ∃ ys, H' D = some (.lst ys) ∧ WtL H' ys (ws.take j)) ⟨_, _, rfl, same_new nD, [], upd_same, AL.nil⟩ (fun j σ H' _ z => by obtain ⟨_, _, _, z, _⟩ := z; exact SqL.of (z _ _ hp)) ?_ ?_⟩
    · rintro j x σ H1 hx ⟨y3, y4, rfl, s1, ys, hD, hY⟩
      obtain ⟨⟨z, r⟩, ez, q, rfl, hq⟩ := (WtL.same hP s1).at hx
      have pm := List.mem_of_getElem? ez
      have hj : j < ws.length := (List.getElem?_eq_some_iff.mp ez).1
      have en : (ws.map (·.1))[j]? = some z := by rw [List.getElem?_map, ez]; rfl
      obtain ⟨n1, n2⟩ := nodup_take ok.names en
      have yl : ys.length = j := by
        rw [hY.1, List.length_take]
        omega
      refine ⟨q, _, rfl, SqT.of hq, rfl, _, _, rfl, _, _, rfl, rfl, ?_⟩
      refine ⟨_, rfl, _, rfl, D, ys, _, rfl, hD, WtL.names hY, by omega, fun H2 nq s2 nnq hn => ?_⟩
      refine ⟨z, nq, _, rfl, n1, hn, by rw [List.map_take]; exact n2, fun H3 s3 => ?_⟩
      have s13 := s2.trans s3
      refine ⟨_, rfl, r, rfl, ok.rch _ pm, fun H4 s4 => ?_⟩
      have s14 := s13.trans s4
      have hD4 := s14 _ _ hD
      refine ⟨_, rfl, .inl ⟨rfl, _, SqL.of hD4⟩, _, rfl, _, rfl, by show 2 ≤ sizeLine; decide, fun T nT => ?_⟩
      have s5 := same_new (o := .tup [.str z, .int ((r : Nat) : Int)]) nT
      have hD5 := s5 _ _ hD4
      have nDT : D ≠ T := ne_of_none hD4 nT
      refine ⟨D, _, _, rfl, rfl, hD5, small1000 (by omega), ?_⟩
      have kt := (KeepT.of (s14.trans s5)).trans (KeepT.lst (o := .lst (ys ++ [.ref T])) hD5)
      refine ⟨_, _, rfl, same_put ((s1.trans s14).trans s5) nD, ys ++ [.ref T], upd_same, ?_⟩
      rw [take_snoc' ez]
      exact (WtL.keep hY kt).snoc ⟨T, rfl, by rw [upd_ne nDT.symm, upd_same]⟩
    · rintro σ H1 ⟨y3, y4, rfl, s1, ys, hD, hY⟩
      rw [hP.1, List.take_length] at hY
      exact ⟨_, rfl, k H1 D ys s1 nD hD hY⟩
theorem scRI : FnScope ["self", "order", "number"] ["self", "order"] (defScope sc_reaches_in) := ⟨rfl, rfl, rfl, by decide +kernel, rfl, by decide +kernel, by decide +kernel⟩
theorem ok_reaches {f CS : Addr} {fd : FuncData} (F : Fun K "reaches_in" "Scene.reaches_in" sc_reaches_in f fd) (cl : Cls K CS) (n1 : NoAttr K CS "post_rows") (n2 : NoAttr K CS "watcher_rows") (m_len : mg "len" = none) : FnOk P w K mg base CX0 1 f fd ["self", "order"] (spReaches CS) := by
  refine F.ok scRI (fun vs H Q E h => ?_) (fun cdv A outer s H vs Q E hr h => ?_)
  · obtain ⟨sc, o, p, w', dx, fs, xs, ys, ws, os, rfl, _⟩ := h
    rfl
  · obtain ⟨sc, o, p, w', dx, fs, xs, ys, ws, os, rfl, hs, f1, f2, hp, hw, hW, ho, l1, l6, lt, k⟩ := h
    refine ⟨_, pss_one (ps_ret (pe_lc (own := [("number", 2)]) (g := gName 2) (tt := tYes) (te := tOp (rIxT K) (tOp (rIxL K) (tFld K (tVar 0) "watcher_rows") (tVar 2)) (tC (.int 1))) rfl scRI.nd (pi_list (pe_slice sl_list (pv 1) po_none (po_some (pe_callB call_len_seq (by rfl) m_len PySem.boot_len (pa_cons (pe_fld (pv 0) rfl) pa_nil))))) (blkOk_by (N := ["self", "order", "number"]) (sc := defScope sc_reaches_in) (by decide +kernel)) (fun _ _ _ _ _ => (pg_name (i := 2) scRI.nd rfl (Or.inl rfl))) (fun _ _ _ _ _ => pts_nil) (fun _ _ _ _ _ => (pe_ix ix_tup (pe_ix ix_list (pe_fld (pv 0) rfl) (pv 2) (fun _ _ => rfl)) pe_int (fun _ _ => rfl))))), ?_⟩
    refine ⟨_, rfl, _, rfl, sc, CS, dx, fs, _, rfl, hs, cl, n1, f1, p, _, rfl, .inl (SqL.of hp), _, rfl, o, _, rfl, SqL.of ho, fun c nc => ?_⟩
    rw [cut_to (by rw [List.length_map]; exact l1), ← List.map_take]
    have s0 := same_new (o := .lst ((os.take xs.length).map natV)) nc
    have hc : (upd H c (.lst ((os.take xs.length).map natV))) c = some (.lst ((os.take xs.length).map natV)) := upd_same
    generalize upd H c (.lst ((os.take xs.length).map natV)) = H1 at s0 hc
    have tl : (os.take xs.length).length ≤ 6 := by
      rw [List.length_take]
      omega
    have tm : ∀ k ∈ os.take xs.length, k < ws.length := fun k hk => lt k (List.mem_of_mem_take hk)
    generalize os.take xs.length = ot at hc tl tm k
    refine ⟨c, rfl, ⟨_, SqL.of hc⟩, fun D nD => ?_⟩
    refine it_any (walk_list (K := K) (a := c) (xs := ot.map natV)) (fun j H' => Same H1 H' ∧ H' D = some (.lst ((reachN ws (ot.take j)).map natV))) ⟨same_new nD, upd_same⟩ (fun j H' _ z => SqL.of (z.1 _ _ hc)) ?_ ?_
    · rintro j x H2 H3 hj ⟨s1, hD⟩ ⟨rfl, hx⟩
      obtain ⟨m, em, rfl⟩ := nat_of_at hx
      have ml := tm m (List.mem_of_getElem? em)
      have e1 : ws[m]? = some (ws.getD m (Str.empty, 0)) := by
        rw [List.getD_eq_getElem?_getD, List.getElem?_eq_getElem ml]
        rfl
      obtain ⟨xv, ex, q, rfl, hq⟩ := (WtL.same hW (s0.trans s1)).of e1
      refine ⟨rfl, _, rfl, sc, CS, dx, fs, _, rfl, (s0.trans s1) _ _ hs, cl, n2, f2, _, rfl, w', _, _, _, rfl, rfl, SqL.of ((s0.trans s1) _ _ hw), atI_nat ex, q, _, 1, _, rfl, rfl, SqT.of hq, atI_nat (j := 1) rfl, ?_⟩
      refine ⟨_, hD, small1000 (by rw [List.length_map]; unfold reachN; rw [List.length_map, List.length_take]; omega), same_put s1 nD, ?_⟩
      rw [upd_same, take_snoc' em]
      unfold reachN
      rw [List.map_append, List.map_append]
      rfl
    · rintro H2 ⟨s1, hD⟩
      rw [List.length_map, List.take_length] at hD
      exact k H2 D (s0.trans s1) (s0.free nD) hD
theorem scDoors : FnScope ["self", "at", "a", "b"] ["self"] (defScope sDoors) := ⟨rfl, rfl, rfl, by decide +kernel, rfl, by decide +kernel, by decide +kernel⟩
theorem ok_doors {f C : Addr} {fd : FuncData} (F : Fun K "doors" "House.doors" sDoors f fd) (T : HTxt K C) (me : mg "enumerate" = none) : FnOk P w K mg base CX0 1 f fd ["self"] (spDoors C) := by
  refine F.ok scDoors (fun vs H Q E h => ?_) (fun cdv A outer s H vs Q E hr h => ?_)
  · obtain ⟨h, zs, bh, vw, rfl, _⟩ := h
    rfl
  · obtain ⟨h, zs, bh, vw, rfl, ⟨⟨dx, n, b, v, h1, h2, h3, h4, hN, hl⟩, hb, hv, hin⟩, k⟩ := h
    refine ⟨_, pss_one (ps_ret (pe_lc2 (own := [("at", 1), ("a", 2), ("b", 3)]) (vs1 := [3]) (g := gTup K 2 (gCons (gName 1) (gCons (gName 2) gNil))) (tt := tYes) (g1 := gName 3) (wi1 := iList K (tSl (rSlL K) (tFld K (tVar 0) "names") (tPart (tOp (rI0 fun i j => .int (i + j)) (tVar 1) (tC (.int 1)))) tNoPart)) (tt1 := tTest (tOp (rIn K false) (tVar 3) (tDGet (tFld K (tVar 0) "behind") (tVar 2)))) rfl scDoors.nd (pi_enum (by rfl) me (pa_cons (pe_fld (pv 0) rfl) pa_nil)) (blkOk_by (N := ["self", "at", "a", "b"]) (sc := defScope sDoors) (by decide +kernel)) (by decide) (fun _ _ _ _ _ => (pg_tup rfl (pgs_cons (pg_name (i := 1) scDoors.nd rfl (Or.inl rfl)) (pgs_cons (pg_name (i := 2) scDoors.nd rfl (Or.inl rfl)) pgs_nil)))) (fun _ _ _ _ _ => pts_nil) (fun _ _ _ _ _ => (pi_list (pe_slice sl_list (pe_fld (pv 0) rfl) (po_some (pe_op op_add (pv 1) pe_int)) po_none))) (fun _ _ _ _ _ => (pg_name (i := 3) scDoors.nd rfl (Or.inl rfl))) (fun _ _ _ _ _ => pts_one (pt_cmpR op_in_seq (pv 3) (pe_dget (hu_of hr) (pe_fld (pv 0) rfl) (pv 2) (fun _ _ => rfl)) (by rfl))) (fun _ _ _ _ _ => (pe_tup (pa_cons (pv 2) (pa_cons (pv 3) pa_nil)))))), ?_⟩
    refine ⟨_, rfl, h, C, dx, _, _, rfl, h1, T.cl, T.nN, hf_n _ _ _, n, _, rfl, SqL.of h2, fun D nD => ?_⟩
    refine it_any (walk_enum (K := K) (a := n) (xs := zs.map V.str)) (fun i H' => Same H H' ∧ ∃ ys, H' D = some (.lst ys) ∧ PL H' ys (dUp zs bh i)) ⟨same_new nD, [], upd_same, PL.nil⟩ (fun i H' _ h => SqL.of (h.1 _ _ h2)) ?_ ?_
    · rintro i x H1 H2 hi ⟨s1, ys, hD, hP⟩ ⟨tq, x1, y1, rfl, ntq, rfl, e1, e2⟩
      have e1' : x1 = .int (i : Nat) := (Option.some.inj e1).symm
      subst e1'
      obtain ⟨a, ea, rfl⟩ := str_at e2
      have hi8 : i < zs.length := (List.getElem?_eq_some_iff.mp ea).1
      have s12 := same_new (o := .tup [.int (i : Nat), .str a]) ntq
      have s2 := s1.trans s12
      refine ⟨tq, _, rfl, SqT.of upd_same, rfl, _, _, rfl, _, _, rfl, rfl, rfl, ?_⟩
      obtain ⟨p, hp0, hg⟩ := h3.get hN.1 (List.mem_of_getElem? ea)
      have npD : p ≠ D := ne_of_none hp0 nD
      refine ⟨_, rfl, h, C, dx, _, _, rfl, s2 _ _ h1, T.cl, T.nN, hf_n _ _ _, _, rfl, _, _, rfl, rfl, _, rfl, n, _, rfl, SqL.of (s2 _ _ h2), fun c nc => ?_⟩
      have ncD : c ≠ D := fun e => by
        rw [e, s12 _ _ hD] at nc
        cases nc
      have s3 := s2.trans (same_new (o := .lst (cutV (zs.map V.str) (some ((i : Int) + 1)) none)) nc)
      have ecut : cutV (zs.map V.str) (some ((i : Int) + 1)) none = (zs.drop (i + 1)).map V.str := cut_from (i + 1)
      refine ⟨c, rfl, ⟨_, SqL.of upd_same⟩, ?_⟩
      have hc0 : (upd (upd H1 tq (.tup [.int (i : Nat), .str a])) c (.lst (cutV (zs.map V.str) (some ((i : Int) + 1)) none))) c = some (.lst ((zs.drop (i + 1)).map V.str)) := by rw [upd_same, ecut]
      refine it_any (walk_list (K := K) (a := c) (xs := (zs.drop (i + 1)).map V.str)) (fun j H' => Same H H' ∧ H' c = some (.lst ((zs.drop (i + 1)).map V.str)) ∧ ∃ ys, H' D = some (.lst ys) ∧ PL H' ys (dUp zs bh i ++ (((zs.drop (i + 1)).take j).filter fun b => decide (b ∈ bh a)).map fun b => (a, b)))
        ⟨s3, hc0, ys, same_new nc _ _ (s12 _ _ hD), by rw [List.take_zero, List.filter_nil, List.map_nil, List.append_nil]; exact hP.same (s12.trans (same_new nc))⟩ (fun j H' _ h => SqL.of h.2.1) ?_ ?_
      · rintro j x H3 H4 hj ⟨s3, hc3, ys3, hD3, hP3⟩ ⟨rfl, hx⟩
        obtain ⟨c2, ec, rfl⟩ := str_at hx
        refine ⟨rfl, ?_⟩
        refine ⟨_, rfl, _, rfl, h, C, dx, _, _, rfl, s3 _ _ h1, T.cl, T.nB, hf_b _ _ _, _, rfl, b, _, rfl, hg _ s3, p, _, rfl, .inl (SqL.of (s3 _ _ hp0)), rfl, flat_all _, _, rfl, ?_⟩
        show if inV (.str c2) ((bh a).map V.str) = true then _ else _
        rw [in_strs]
        have yl : ys3.length ≤ 500 := by
          rw [hP3.1, List.length_append, List.length_map]
          have h5 := List.length_filter_le (fun b => decide (b ∈ bh a)) ((zs.drop (i + 1)).take j)
          rw [List.length_take, List.length_drop] at h5
          have := dUp_len zs bh i
          have : i * zs.length ≤ 8 * 8 := Nat.mul_le_mul (by omega) hl
          omega
        refine ite2 (fun e => ?_) (fun e => ?_)
        · refine ⟨_, rfl, _, rfl, by show 2 ≤ sizeLine; decide, fun t nt => ?_⟩
          have s4 := same_new (o := .tup [.str a, .str c2]) nt
          have nDt : D ≠ t := ne_of_none hD3 nt
          refine ⟨_, s4 _ _ hD3, small1000 (by omega), same_put (s3.trans s4) nD, ?_, ys3 ++ [.ref t], upd_same, ?_⟩
          · rw [upd_ne ncD]
            exact s4 _ _ hc3
          · have kt : KeepT H4 (upd (upd H4 t (.tup [.str a, .str c2])) D (.lst (ys3 ++ [.ref t]))) := (KeepT.of s4).trans (KeepT.lst (s4 _ _ hD3))
            rw [filter_take ec, if_pos e, List.map_append, ← List.append_assoc]
            exact (hP3.keep kt).snoc ⟨t, rfl, by rw [upd_ne nDt.symm, upd_same]⟩
        · refine ⟨s3, hc3, ys3, hD3, ?_⟩
          rw [filter_take ec, if_neg e, List.append_nil]
          exact hP3
      · rintro H3 ⟨s3, hc3, ys3, hD3, hP3⟩
        rw [List.length_map, List.take_length] at hP3
        refine ⟨s3, ys3, hD3, ?_⟩
        rw [dUp_succ, dAt_some ea]
        exact hP3
    · rintro H1 ⟨s1, ys, hD, hP⟩
      rw [List.length_map] at hP
      exact k H1 D ys s1 nD hD hP
theorem scSights : FnScope ["self", "a", "b"] ["self"] (defScope sSights) := ⟨rfl, rfl, rfl, by decide +kernel, rfl, by decide +kernel, by decide +kernel⟩
theorem ok_sights {f C : Addr} {fd : FuncData} (F : Fun K "sights" "House.sights" sSights f fd) (T : HTxt K C) : FnOk P w K mg base CX0 1 f fd ["self"] (spSights C) := by
  refine F.ok scSights (fun vs H Q E h => ?_) (fun cdv A outer s H vs Q E hr h => ?_)
  · obtain ⟨h, zs, bh, vw, rfl, _⟩ := h
    rfl
  · obtain ⟨h, zs, bh, vw, rfl, ⟨⟨dx, n, b, v, h1, h2, h3, h4, hN, hl⟩, hb, hv, hin⟩, k⟩ := h
    refine ⟨_, pss_one (ps_ret (pe_lc2 (own := [("a", 1), ("b", 2)]) (vs1 := [2]) (g := gName 1) (tt := tYes) (g1 := gName 2) (wi1 := iList K (tDGet (tFld K (tVar 0) "views") (tVar 1))) (tt1 := tYes) rfl scSights.nd (pi_list (pe_fld (pv 0) rfl)) (blkOk_by (N := ["self", "a", "b"]) (sc := defScope sSights) (by decide +kernel)) (by decide) (fun _ _ _ _ _ => (pg_name (i := 1) scSights.nd rfl (Or.inl rfl))) (fun _ _ _ _ _ => pts_nil) (fun _ _ _ _ _ => (pi_list (pe_dget (hu_of hr) (pe_fld (pv 0) rfl) (pv 1) (fun _ _ => rfl)))) (fun _ _ _ _ _ => (pg_name (i := 2) scSights.nd rfl (Or.inl rfl))) (fun _ _ _ _ _ => pts_nil) (fun _ _ _ _ _ => (pe_tup (pa_cons (pv 1) (pa_cons (pv 2) pa_nil)))))), ?_⟩
    refine ⟨_, rfl, h, C, dx, _, _, rfl, h1, T.cl, T.nN, hf_n _ _ _, n, rfl, ⟨_, SqL.of h2⟩, fun D nD => ?_⟩
    refine it_any (walk_list (K := K) (a := n) (xs := zs.map V.str)) (fun i H' => Same H H' ∧ ∃ ys, H' D = some (.lst ys) ∧ PL H' ys (sUp zs vw i)) ⟨same_new nD, [], upd_same, PL.nil⟩ (fun i H' _ h => SqL.of (h.1 _ _ h2)) ?_ ?_
    · rintro i x H1 H2 hi ⟨s1, ys, hD, hP⟩ ⟨rfl, hx⟩
      obtain ⟨a, ea, rfl⟩ := str_at hx
      have hi8 : i < zs.length := (List.getElem?_eq_some_iff.mp ea).1
      refine ⟨rfl, ?_⟩
      obtain ⟨p, hp0, hg⟩ := h4.get hN.1 (List.mem_of_getElem? ea)
      have npD : p ≠ D := ne_of_none hp0 nD
      have hp := s1 _ _ hp0
      refine ⟨_, rfl, h, C, dx, _, _, rfl, s1 _ _ h1, T.cl, T.nV, hf_v _ _ _, _, rfl, v, _, rfl, hg _ s1, p, rfl, ⟨_, SqL.of hp⟩, ?_⟩
      refine it_any (walk_list (K := K) (a := p) (xs := (vw a).map V.str)) (fun j H' => Same H H' ∧ H' p = some (.lst ((vw a).map V.str)) ∧ ∃ ys, H' D = some (.lst ys) ∧ PL H' ys (sUp zs vw i ++ ((vw a).take j).map fun b => (a, b))) ⟨s1, hp, ys, hD, by rw [List.take_zero, List.map_nil, List.append_nil]; exact hP⟩ (fun j H' _ h => SqL.of h.2.1) ?_ ?_
      · rintro j x H3 H4 hj ⟨s3, hp3, ys3, hD3, hP3⟩ ⟨rfl, hx⟩
        obtain ⟨c, ec, rfl⟩ := str_at hx
        refine ⟨rfl, ?_⟩
        refine ⟨_, rfl, _, rfl, by show 2 ≤ sizeLine; decide, fun t nt => ?_⟩
        have s4 := same_new (o := .tup [.str a, .str c]) nt
        have nDt : D ≠ t := ne_of_none hD3 nt
        have yl : ys3.length ≤ 500 := by
          rw [hP3.1, List.length_append, List.length_map, List.length_take]
          have := sUp_len hv i
          have := hv a
          have : i * zs.length ≤ 8 * 8 := Nat.mul_le_mul (by omega) hl
          omega
        refine ⟨_, s4 _ _ hD3, small1000 (by omega), same_put (s3.trans s4) nD, ?_, ys3 ++ [.ref t], upd_same, ?_⟩
        · rw [upd_ne npD]
          exact s4 _ _ hp3
        · have kt : KeepT H4 (upd (upd H4 t (.tup [.str a, .str c])) D (.lst (ys3 ++ [.ref t]))) := (KeepT.of s4).trans (KeepT.lst (s4 _ _ hD3))
          rw [take_snoc ec, List.map_append, ← List.append_assoc]
          exact (hP3.keep kt).snoc ⟨t, rfl, by rw [upd_ne nDt.symm, upd_same]⟩
      · rintro H3 ⟨s3, hp3, ys3, hD3, hP3⟩
        rw [List.length_map, List.take_length] at hP3
        refine ⟨s3, ys3, hD3, ?_⟩
        rw [sUp_succ, sAt_some ea]
        exact hP3
    · rintro H1 ⟨s1, ys, hD, hP⟩
      rw [List.length_map] at hP
      exact k H1 D ys s1 nD hD hP
theorem scSI : FnScope ["self", "house", "posts", "watchers", "meet", "relief", "tracks", "stands", "name", "rooms", "delay", "rest", "order"] ["self", "house", "posts", "watchers", "meet", "relief"] (defScope sc_init) := ⟨rfl, rfl, rfl, by decide +kernel, rfl, by decide +kernel, by decide +kernel⟩
abbrev FunSI (K : PySem.W.Frag) (dvs : List V) (f : Addr) (fd : FuncData) : Prop := FunD K "__init__" "Scene.__init__" (defArgs sc_init) (defBody sc_init) (defScope sc_init) dvs [("meet", .bl false), ("relief", .int 0)] f fd
theorem AL.mono2 {α : Type} {R S : Hp → V → α → Prop} {H H' : Hp} {xs : List V} {ps : List α} (h : AL R H xs ps) (m : ∀ x, x ∈ xs → ∀ p, R H x p → S H' x p) : AL S H' xs ps := ⟨h.1, fun i x p a b => m x (List.mem_of_getElem? a) p (h.2 i x p a b)⟩
theorem ok_scinit {f C CS fI fNc fNp fNw fNl fSp fOr fRa fRh fLi fMo fRo fDo fSi fRe : Addr} {fd dI dNc dNp dNw dNl dSp dOr dRa dRh dLi dMo dRo dDo dSi dRe : FuncData}   {dvs : List V} (F : FunSI K dvs f fd) (T : HTxt K C) (cl : Cls K CS) (n_home : NoAttr K CS "home") (n_post_rows : NoAttr K CS "post_rows") (n_watcher_rows : NoAttr K CS "watcher_rows") (n_has_meet : NoAttr K CS "has_meet") (n_relief_beats : NoAttr K CS "relief_beats") (n_span_beats : NoAttr K CS "span_beats") (n_orders : NoAttr K CS "orders") (n_hands : NoAttr K CS "hands") (n_lights : NoAttr K CS "lights") (n_moves : NoAttr K CS "moves") (mk : Mk K C fI) (GI : FnOk P w K mg base CX0 6 fI dI ["self", "rooms", "doors", "sights"] (spInit K C)) (gC : mg "House" = some (.ref C)) (bI : Binds K dI ["self", "rooms", "doors", "sights"] []) (FNc : Fun K "need_counts" "need_counts" sNeedCounts fNc dNc) (bNc : Binds K dNc ["posts", "watchers"] []) (gNc : mg "need_counts" = some (.ref fNc)) (GNc : FnOk P w K mg base CX0 1 fNc dNc ["posts", "watchers"] spNeedCounts) (FNp : Fun K "new_posts" "new_posts" sNewPosts fNp dNp) (bNp : Binds K dNp ["house", "posts"] []) (gNp : mg "new_posts" = some (.ref fNp)) (GNp : FnOk P w K mg base CX0 7 fNp dNp ["house", "posts"] (spNewPosts C)) (FNw : Fun K "new_watchers" "new_watchers" sNewWatchers fNw dNw) (bNw : Binds K dNw ["watchers"] []) (gNw : mg "new_watchers" = some (.ref fNw)) (GNw : FnOk P w K mg base CX0 3 fNw dNw ["watchers"] spNewWts) (FNl : Fun K "need_relief" "need_relief" sNeedRelief fNl dNl) (bNl : Binds K dNl ["relief"] []) (gNl : mg "need_relief" = some (.ref fNl)) (GNl : FnOk P w K mg base CX0 1 fNl dNl ["relief"] spNeedRelief) (FSp : Fun K "span_of" "span_of" sSpanOf fSp dSp) (bSp : Binds K dSp ["tracks", "many", "relief"] []) (gSp : mg "span_of" = some (.ref fSp)) (GSp : FnOk P w K mg base CX0 3 fSp dSp ["tracks", "many", "relief"] spSpanOf) (FOr : Fun K "orders_of" "orders_of" sOrders fOr dOr) (bOr : Binds K dOr ["tracks", "many", "meet", "relief"] []) (gOr : mg "orders_of" = some (.ref fOr)) (GOr : FnOk P w K mg base CX0 4 fOr dOr ["tracks", "many", "meet", "relief"] spOrders) (FRa : Fun K "rooms_at" "rooms_at" sRoomsAt fRa dRa) (bRa : Binds K dRa ["tracks", "beat"] []) (gRa : mg "rooms_at" = some (.ref fRa)) (GRa : FnOk P w K mg base CX0 2 fRa dRa ["tracks", "beat"] spRoomsAt) (FRh : Fun K "rooms_at_hand" "rooms_at_hand" sHands fRh dRh) (bRh : Binds K dRh ["house"] []) (gRh : mg "rooms_at_hand" = some (.ref fRh)) (GRh : FnOk P w K mg base CX0 6 fRh dRh ["house"] (spHands C)) (FLi : Fun K "lit_rooms" "lit_rooms" sLitRooms fLi dLi) (bLi : Binds K dLi ["house", "rooms", "reaches"] []) (gLi : mg "lit_rooms" = some (.ref fLi)) (GLi : FnOk P w K mg base CX0 4 fLi dLi ["house", "rooms", "reaches"] (spLit C)) (FMo : Fun K "moves_of" "moves_of" sMoves fMo dMo) (bMo : Binds K dMo ["before", "now"] []) (gMo : mg "moves_of" = some (.ref fMo)) (GMo : FnOk P w K mg base CX0 1 fMo dMo ["before", "now"] spMoves) (mRo : Meth K C "rooms" fRo) (bRo : Binds K dRo ["self"] []) (GRo : FnOk P w K mg base CX0 1 fRo dRo ["self"] (spRooms C)) (mDo : Meth K C "doors" fDo) (bDo : Binds K dDo ["self"] []) (GDo : FnOk P w K mg base CX0 1 fDo dDo ["self"] (spDoors C)) (mSi : Meth K C "sights" fSi) (bSi : Binds K dSi ["self"] []) (GSi : FnOk P w K mg base CX0 1 fSi dSi ["self"] (spSights C)) (mRe : Meth K CS "reaches_in" fRe) (bRe : Binds K dRe ["self", "order"] []) (GRe : FnOk P w K mg base CX0 1 fRe dRe ["self", "order"] (spReaches CS)) (m_len : mg "len" = none) (m_range : mg "range" = none) (m_zip : mg "zip" = none) (m_enumerate : mg "enumerate" = none) : FnOk P w K mg base CX0 8 f fd ["self", "house", "posts", "watchers", "meet", "relief"] (spScInit C CS) := by
  refine F.ok scSI (fun vs H Q E h => ?_) (fun cdv A outer s H vs Q E hr h => ?_)
  · obtain ⟨H0, sc, dx, h, p, w', zs, ds, ss, xs, ys, ps, ws, mt, rl, rfl, _⟩ := h
    rfl
  · obtain ⟨H0, sc, dx, h, p, w', zs, ds, ss, xs, ys, ps, ws, mt, rl, rfl, s0, x0, hx, hh, hp, hP, hw, hW, ok, k⟩ := h
    refine ⟨_, pss_cons (ps_expr (pe_call GNc (hr.mono (by decide)) (by rfl) gNc FNc.kp bNc .nil pass0 (pa_cons (pv 2) (pa_cons (pv 3) pa_nil))))
      (pss_cons (ps_fld (pv 0) (pe_make mk GI (hr.mono (by decide)) (by rfl) gC bI .nil pass0 (pa_cons (pe_meth0 (pv 1) T.cl mRo GRo (hr.mono (by decide)) bRo .nil pass0) (pa_cons (pe_meth0 (pv 1) T.cl mDo GDo (hr.mono (by decide)) bDo .nil pass0) (pa_cons (pe_meth0 (pv 1) T.cl mSi GSi (hr.mono (by decide)) bSi .nil pass0) pa_nil)))) rfl)
      (pss_cons (ps_fld (pv 0) (pe_call GNp hr (by rfl) gNp FNp.kp bNp .nil pass0 (pa_cons (pe_fld (pv 0) rfl) (pa_cons (pv 2) pa_nil))) rfl)
      (pss_cons (ps_fld (pv 0) (pe_call GNw (hr.mono (by decide)) (by rfl) gNw FNw.kp bNw .nil pass0 (pa_cons (pv 3) pa_nil)) rfl)
      (pss_cons (ps_expr (pe_call GNl (hr.mono (by decide)) (by rfl) gNl FNl.kp bNl .nil pass0 (pa_cons (pv 5) pa_nil)))
      (pss_cons (ps_if (pt_cmpR op_lt (pe_callB call_len_seq (by rfl) m_len PySem.boot_len (pa_cons (pv 3) pa_nil)) (pe_callB call_len_seq (by rfl) m_len PySem.boot_len (pa_cons (pv 2) pa_nil)) (nomark _)) (pss_one (ps_never)) pss_nil)
      (pss_cons (ps_fld (pv 0) (pv 4) rfl)
      (pss_cons (ps_fld (pv 0) (pv 5) rfl)
      (pss_cons (ps_set (i := 6) scSI.nd rfl (Or.inr rfl) (pe_lc (own := [("name", 8), ("rooms", 9), ("delay", 10)]) (g := gTup K 3 (gCons (gName 8) (gCons (gName 9) (gCons (gName 10) gNil)))) (tt := tYes)  rfl scSI.nd (pi_list (pe_fld (pv 0) rfl)) (blkOk_by (N := ["self", "house", "posts", "watchers", "meet", "relief", "tracks", "stands", "name", "rooms", "delay", "rest", "order"]) (sc := defScope sc_init) (by decide +kernel)) (fun _ _ _ _ _ => (pg_tup rfl (pgs_cons (pg_name (i := 8) scSI.nd rfl (Or.inl rfl)) (pgs_cons (pg_name (i := 9) scSI.nd rfl (Or.inl rfl)) (pgs_cons (pg_name (i := 10) scSI.nd rfl (Or.inl rfl)) pgs_nil))))) (fun _ _ _ _ _ => pts_nil) (fun _ _ _ _ _ => (pe_tup (pa_cons (pv 9) (pa_cons (pv 10) pa_nil))))))
      (pss_cons (ps_fld (pv 0) (pe_call GSp (hr.mono (by decide)) (by rfl) gSp FSp.kp bSp .nil pass0 (pa_cons (pv 6) (pa_cons (pe_callB call_len_seq (by rfl) m_len PySem.boot_len (pa_cons (pv 3) pa_nil)) (pa_cons (pv 5) pa_nil)))) rfl)
      (pss_cons (ps_fld (pv 0) (pe_call GOr (hr.mono (by decide)) (by rfl) gOr FOr.kp bOr .nil pass0 (pa_cons (pv 6) (pa_cons (pe_callB call_len_seq (by rfl) m_len PySem.boot_len (pa_cons (pv 3) pa_nil)) (pa_cons (pv 4) (pa_cons (pv 5) pa_nil))))) rfl)
      (pss_cons (ps_set (i := 7) scSI.nd rfl (Or.inr rfl) (pe_lc (own := [("rest", 11)]) (g := gName 11) (tt := tYes)  rfl scSI.nd (pi_range1 (by rfl) m_range (pa_cons (pe_callB call_len_seq (by rfl) m_len PySem.boot_len (pa_cons (pe_fld (pv 0) rfl) pa_nil)) pa_nil)) (blkOk_by (N := ["self", "house", "posts", "watchers", "meet", "relief", "tracks", "stands", "name", "rooms", "delay", "rest", "order"]) (sc := defScope sc_init) (by decide +kernel)) (fun _ _ _ _ _ => (pg_name (i := 11) scSI.nd rfl (Or.inl rfl))) (fun _ _ _ _ _ => pts_nil) (fun _ _ _ _ _ => (pe_call GRa (hr.mono (by decide)) (by rfl) gRa FRa.kp bRa .nil pass0 (pa_cons (pv 6) (pa_cons (pv 11) pa_nil))))))
      (pss_cons (ps_fld (pv 0) (pe_call GRh (hr.mono (by decide)) (by rfl) gRh FRh.kp bRh .nil pass0 (pa_cons (pe_fld (pv 0) rfl) pa_nil)) rfl)
      (pss_cons (ps_fld (pv 0) (pe_lc (own := [("rooms", 9), ("order", 12)]) (g := gTup K 2 (gCons (gName 9) (gCons (gName 12) gNil))) (tt := tYes) (te := tCall (spLit C) [] E0 (tCons (tFld K (tVar 0) "home") (tCons (tVar 9) (tCons (tMeth CS "reaches_in" (spReaches CS) [] E0 (tVar 0) (tCons (tVar 12) tNil)) tNil)))) rfl scSI.nd (RZ.pi_zipA (by rfl) m_zip (pa_cons (pv 7) (pa_cons (pe_fld (pv 0) rfl) pa_nil))) (blkOk_by (N := ["self", "house", "posts", "watchers", "meet", "relief", "tracks", "stands", "name", "rooms", "delay", "rest", "order"]) (sc := defScope sc_init) (by decide +kernel)) (fun _ _ _ _ _ => (pg_tup rfl (pgs_cons (pg_name (i := 9) scSI.nd rfl (Or.inl rfl)) (pgs_cons (pg_name (i := 12) scSI.nd rfl (Or.inl rfl)) pgs_nil)))) (fun _ _ _ _ _ => pts_nil) (fun _ _ _ _ _ => (pe_call GLi (hr.mono (by decide)) (by rfl) gLi FLi.kp bLi .nil pass0 (pa_cons (pe_fld (pv 0) rfl) (pa_cons (pv 9) (pa_cons (pe_meth (pv 0) cl mRe GRe (hr.mono (by decide)) bRe .nil pass0 (pa_cons (pv 12) pa_nil)) pa_nil)))))) rfl)
      (pss_one (ps_fld (pv 0) (pe_lc (own := [("rest", 11), ("rooms", 9)]) (g := gTup K 2 (gCons (gName 11) (gCons (gName 9) gNil))) (tt := tYes) (te := tCall spMoves [] E0 (tCons (tOp (rIxL K) (tVar 7) (tOp (rI0 fun i j => .int (i - j)) (tVar 11) (tC (.int 1)))) (tCons (tVar 9) tNil))) rfl scSI.nd (pi_enum (by rfl) m_enumerate (pa_cons (pv 7) pa_nil)) (blkOk_by (N := ["self", "house", "posts", "watchers", "meet", "relief", "tracks", "stands", "name", "rooms", "delay", "rest", "order"]) (sc := defScope sc_init) (by decide +kernel)) (fun _ _ _ _ _ => (pg_tup rfl (pgs_cons (pg_name (i := 11) scSI.nd rfl (Or.inl rfl)) (pgs_cons (pg_name (i := 9) scSI.nd rfl (Or.inl rfl)) pgs_nil)))) (fun _ _ _ _ _ => pts_nil) (fun _ _ _ _ _ => (pe_call GMo (hr.mono (by decide)) (by rfl) gMo FMo.kp bMo .nil pass0 (pa_cons (pe_ix ix_list (pv 7) (pe_op op_sub (pv 11) pe_int) (fun _ _ => rfl)) (pa_cons (pv 9) pa_nil))))) rfl))))))))))))))), ?_⟩
    have xl := hP.1
    have yl := hW.1
    have l5 := ok.pok.five
    have l6 := ok.wok.six
    have hTr := ok.tr
    have bare := ok.bare
    have e8 := ok.eight
    have S0 := s0
    have X0 := hx
    refine ⟨_, rfl, _, rfl, p, w', xs, ys, rfl, s0 _ _ hp, s0 _ _ hw, by omega, by omega, ?_⟩
    have hHs := Hs.of (hh.same s0)
    obtain ⟨⟨dxh, nh, bx, v, h1, _⟩, _⟩ := id hHs
    refine ⟨_, rfl, h, dxh, _, rfl, h1, hf_no _ _ _ (by decide +kernel) (by decide +kernel) (by decide +kernel), h, zs, _, _, rfl, hHs, fun H1 r1 s1 nr1 hr1 => ?_⟩
    refine ⟨_, rfl, h, dxh, _, rfl, s1 _ _ h1, hf_no _ _ _ (by decide +kernel) (by decide +kernel) (by decide +kernel), h, zs, _, _, rfl, hHs.same s1, fun H2 d1 es s2 nd1 hd1 hPd => ?_⟩
    have s12 := s1.trans s2
    refine ⟨_, rfl, h, dxh, _, rfl, s12 _ _ h1, hf_no _ _ _ (by decide +kernel) (by decide +kernel) (by decide +kernel), h, zs, _, _, rfl, hHs.same s12, fun H3 u1 us s3 nu1 hu1 hPu => ?_⟩
    have s13 := s12.trans s3
    intro x dx2 nx ndx ndxx
    have dAl : (dAll zs (lnk zs (both ds))).length ≤ 64 := Nat.le_trans (dUp_len zs _ zs.length) (Nat.mul_le_mul e8 e8)
    have sAl : (sAll zs (lnk zs ss)).length ≤ 64 := Nat.le_trans (sUp_len (fun y => lnk_len zs ss y) zs.length) (Nat.mul_le_mul e8 e8)
    refine ⟨H3, x, dx2, r1, d1, u1, zs, es, us, _, _, rfl, (same_new ndx).trans (same_new (by rw [upd_ne ndxx.symm]; exact nx)), nx, upd_same, .inl (SqL.of ((s2.trans s3) _ _ hr1)), ok.names, e8, .inl (SqL.of (s3 _ _ hd1)), hPd.same s3, by rw [hPd.1]; omega, dAll_good ok.dg, .inl (SqL.of hu1), hPu, by rw [hPu.1]; omega, sAll_good ok.sg, fun H4 s4 hH4 => ⟨rfl, ?_⟩⟩
    rw [lnk_dAll ok.dg, lnk_sAll ok.sg] at hH4
    replace hH4 := hH4.same (new_same H3 H4)
    have sA := s13.trans s4
    have nxs : x ≠ sc := fun z => by rw [z, s13 _ _ X0] at nx; cases nx
    have S1 := S0.trans sA
    have X1 := sA _ _ X0
    have k1 : KpI sc H H4 := KpI.of sA
    refine ⟨_, rfl, sc, CS, dx, _, rfl, X1, cl, n_home, by show 0 < 1000; decide, ?_⟩
    have S2 := same_put (o := (.ins CS dx [(("home" : Str), V.ref x)])) S1 x0
    have k2 := KpI.put (o := (.ins CS dx [(("home" : Str), V.ref x)])) X1
    have X2 : (upd H4 sc (.ins CS dx [(("home" : Str), V.ref x)])) sc = some (.ins CS dx [(("home" : Str), V.ref x)]) := upd_same
    replace S2 : Same H0 (upd H4 sc (.ins CS dx (putF "home" (V.ref x) []))) := S2
    replace k2 : KpI sc H4 (upd H4 sc (.ins CS dx (putF "home" (V.ref x) []))) := k2
    replace X2 : (upd H4 sc (.ins CS dx (putF "home" (V.ref x) []))) sc = some (.ins CS dx [(("home" : Str), V.ref x)]) := X2
    generalize upd H4 sc (.ins CS dx (putF "home" (V.ref x) [])) = A1 at S2 k2 X2
    have hHm := hH4.kpi nxs k2
    refine ⟨_, rfl, sc, CS, dx, _, _, rfl, X2, cl, n_home, (lk_at 0 [] rfl (by decide +kernel) rfl), _, rfl, x, p, zs, _, _, xs, ps, rfl, Hs.of hHm, S2 _ _ hp, PsL.same hP S2, ok.pok, fun H5 pr pv s5 npr hpr hPr => ?_⟩
    have S3 := S2.trans s5
    have X3 := s5 _ _ X2
    have k3 : KpI sc A1 H5 := KpI.of s5
    refine ⟨_, rfl, sc, CS, dx, _, rfl, X3, cl, n_post_rows, by show 1 < 1000; decide, ?_⟩
    rw [show putF ("post_rows" : Str) (V.ref pr) [(("home" : Str), V.ref x)] = [(("home" : Str), V.ref x), (("post_rows" : Str), V.ref pr)] from putF_new (f := ("post_rows" : Str)) (v := V.ref pr) (fs := [(("home" : Str), V.ref x)]) ["home"] rfl (by decide +kernel)]
    have S4 := same_put (o := (.ins CS dx [(("home" : Str), V.ref x), (("post_rows" : Str), V.ref pr)])) S3 x0
    have k4 := KpI.put (o := (.ins CS dx [(("home" : Str), V.ref x), (("post_rows" : Str), V.ref pr)])) X3
    have X4 : (upd H5 sc (.ins CS dx [(("home" : Str), V.ref x), (("post_rows" : Str), V.ref pr)])) sc = some (.ins CS dx [(("home" : Str), V.ref x), (("post_rows" : Str), V.ref pr)]) := upd_same
    generalize upd H5 sc (.ins CS dx [(("home" : Str), V.ref x), (("post_rows" : Str), V.ref pr)]) = A2 at S4 k4 X4
    refine ⟨_, rfl, w', ys, ws, rfl, S4 _ _ hw, WtL.same hW S4, ok.wok, fun H6 wr wv s6 nwr hwr hWr => ?_⟩
    have S5 := S4.trans s6
    have X5 := s6 _ _ X4
    have k5 : KpI sc A2 H6 := KpI.of s6
    refine ⟨_, rfl, sc, CS, dx, _, rfl, X5, cl, n_watcher_rows, by show 2 < 1000; decide, ?_⟩
    rw [show putF ("watcher_rows" : Str) (V.ref wr) [(("home" : Str), V.ref x), (("post_rows" : Str), V.ref pr)] = [(("home" : Str), V.ref x), (("post_rows" : Str), V.ref pr), (("watcher_rows" : Str), V.ref wr)] from putF_new (f := ("watcher_rows" : Str)) (v := V.ref wr) (fs := [(("home" : Str), V.ref x), (("post_rows" : Str), V.ref pr)]) ["home", "post_rows"] rfl (by decide +kernel)]
    have S6 := same_put (o := (.ins CS dx [(("home" : Str), V.ref x), (("post_rows" : Str), V.ref pr), (("watcher_rows" : Str), V.ref wr)])) S5 x0
    have k6 := KpI.put (o := (.ins CS dx [(("home" : Str), V.ref x), (("post_rows" : Str), V.ref pr), (("watcher_rows" : Str), V.ref wr)])) X5
    have X6 : (upd H6 sc (.ins CS dx [(("home" : Str), V.ref x), (("post_rows" : Str), V.ref pr), (("watcher_rows" : Str), V.ref wr)])) sc = some (.ins CS dx [(("home" : Str), V.ref x), (("post_rows" : Str), V.ref pr), (("watcher_rows" : Str), V.ref wr)]) := upd_same
    generalize upd H6 sc (.ins CS dx [(("home" : Str), V.ref x), (("post_rows" : Str), V.ref pr), (("watcher_rows" : Str), V.ref wr)]) = A3 at S6 k6 X6
    refine ⟨_, rfl, rl, rfl, ok.rl4, ?_⟩
    refine ⟨_, rfl, w', _, rfl, .inl (SqL.of (S6 _ _ hw)), _, rfl, p, _, rfl, .inl (SqL.of (S6 _ _ hp)), _, _, rfl, rfl, _, rfl, ?_⟩
    rw [decide_eq_false (show ¬ ((ys.length : Nat) : Int) < ((xs.length : Nat) : Int) by omega)]
    refine iteF ?_
    refine ⟨_, rfl, ?_⟩
    refine ⟨_, rfl, sc, CS, dx, _, rfl, X6, cl, n_has_meet, by show 3 < 1000; decide, ?_⟩
    rw [show putF ("has_meet" : Str) (V.bl mt) [(("home" : Str), V.ref x), (("post_rows" : Str), V.ref pr), (("watcher_rows" : Str), V.ref wr)] = [(("home" : Str), V.ref x), (("post_rows" : Str), V.ref pr), (("watcher_rows" : Str), V.ref wr), (("has_meet" : Str), V.bl mt)] from putF_new (f := ("has_meet" : Str)) (v := V.bl mt) (fs := [(("home" : Str), V.ref x), (("post_rows" : Str), V.ref pr), (("watcher_rows" : Str), V.ref wr)]) ["home", "post_rows", "watcher_rows"] rfl (by decide +kernel)]
    have S7 := same_put (o := (.ins CS dx [(("home" : Str), V.ref x), (("post_rows" : Str), V.ref pr), (("watcher_rows" : Str), V.ref wr), (("has_meet" : Str), V.bl mt)])) S6 x0
    have k7 := KpI.put (o := (.ins CS dx [(("home" : Str), V.ref x), (("post_rows" : Str), V.ref pr), (("watcher_rows" : Str), V.ref wr), (("has_meet" : Str), V.bl mt)])) X6
    have X7 : (upd A3 sc (.ins CS dx [(("home" : Str), V.ref x), (("post_rows" : Str), V.ref pr), (("watcher_rows" : Str), V.ref wr), (("has_meet" : Str), V.bl mt)])) sc = some (.ins CS dx [(("home" : Str), V.ref x), (("post_rows" : Str), V.ref pr), (("watcher_rows" : Str), V.ref wr), (("has_meet" : Str), V.bl mt)]) := upd_same
    generalize upd A3 sc (.ins CS dx [(("home" : Str), V.ref x), (("post_rows" : Str), V.ref pr), (("watcher_rows" : Str), V.ref wr), (("has_meet" : Str), V.bl mt)]) = A4 at S7 k7 X7
    refine ⟨_, rfl, ?_⟩
    refine ⟨_, rfl, sc, CS, dx, _, rfl, X7, cl, n_relief_beats, by show 4 < 1000; decide, ?_⟩
    rw [show putF ("relief_beats" : Str) (V.int ((rl : Nat) : Int)) [(("home" : Str), V.ref x), (("post_rows" : Str), V.ref pr), (("watcher_rows" : Str), V.ref wr), (("has_meet" : Str), V.bl mt)] = [(("home" : Str), V.ref x), (("post_rows" : Str), V.ref pr), (("watcher_rows" : Str), V.ref wr), (("has_meet" : Str), V.bl mt), (("relief_beats" : Str), V.int ((rl : Nat) : Int))] from putF_new (f := ("relief_beats" : Str)) (v := V.int ((rl : Nat) : Int)) (fs := [(("home" : Str), V.ref x), (("post_rows" : Str), V.ref pr), (("watcher_rows" : Str), V.ref wr), (("has_meet" : Str), V.bl mt)]) ["home", "post_rows", "watcher_rows", "has_meet"] rfl (by decide +kernel)]
    have S8 := same_put (o := (.ins CS dx [(("home" : Str), V.ref x), (("post_rows" : Str), V.ref pr), (("watcher_rows" : Str), V.ref wr), (("has_meet" : Str), V.bl mt), (("relief_beats" : Str), V.int ((rl : Nat) : Int))])) S7 x0
    have k8 := KpI.put (o := (.ins CS dx [(("home" : Str), V.ref x), (("post_rows" : Str), V.ref pr), (("watcher_rows" : Str), V.ref wr), (("has_meet" : Str), V.bl mt), (("relief_beats" : Str), V.int ((rl : Nat) : Int))])) X7
    have X8 : (upd A4 sc (.ins CS dx [(("home" : Str), V.ref x), (("post_rows" : Str), V.ref pr), (("watcher_rows" : Str), V.ref wr), (("has_meet" : Str), V.bl mt), (("relief_beats" : Str), V.int ((rl : Nat) : Int))])) sc = some (.ins CS dx [(("home" : Str), V.ref x), (("post_rows" : Str), V.ref pr), (("watcher_rows" : Str), V.ref wr), (("has_meet" : Str), V.bl mt), (("relief_beats" : Str), V.int ((rl : Nat) : Int))]) := upd_same
    generalize upd A4 sc (.ins CS dx [(("home" : Str), V.ref x), (("post_rows" : Str), V.ref pr), (("watcher_rows" : Str), V.ref wr), (("has_meet" : Str), V.bl mt), (("relief_beats" : Str), V.int ((rl : Nat) : Int))]) = A5 at S8 k8 X8
    have hpr5 := ((((k4.trans k5).trans k6).trans k7).trans k8).lst _ _ hpr
    have hPr5 := PsL.keep hPr ((((k4.trans k5).trans k6).trans k7).trans k8).tup
    have pvl : pv.length ≤ 5 := by rw [hPr.1]; exact l5
    refine ⟨_, rfl, sc, CS, dx, _, _, rfl, X8, cl, n_post_rows, (lk_at 1 ["home"] rfl (by decide +kernel) rfl), pr, rfl, ⟨_, SqL.of hpr5⟩, fun D nD => ?_⟩
    refine it_any (walk_list (K := K) (a := pr) (xs := pv)) (fun j H' => Same A5 H' ∧ ∃ zs', H' D = some (.lst zs') ∧ TrL H' zs' ((ps.map (·.2)).take j)) ⟨same_new nD, [], upd_same, AL.nil⟩ (fun j H' _ z => SqL.of (z.1 _ _ hpr5)) ?_ ?_
    · rintro j y G1 G2 hj ⟨g1, zs', hD, hT⟩ ⟨rfl, hy⟩
      obtain ⟨⟨z, rs, dl⟩, ez, q, t, rfl, hq, ht⟩ := (PsL.same hPr5 g1).at hy
      have et : (ps.map (·.2))[j]? = some (rs, dl) := by rw [List.getElem?_map, ez]; rfl
      have zl : zs'.length ≤ 5 := by
        rw [hT.1, List.length_take, List.length_map]
        omega
      refine ⟨q, _, rfl, SqT.of hq, rfl, _, _, rfl, _, _, rfl, _, _, rfl, rfl, rfl, ?_⟩
      refine ⟨_, rfl, _, rfl, by show 2 ≤ sizeLine; decide, fun T' nT => ?_⟩
      have g2 := same_new (o := .tup [.ref t, .int ((dl : Nat) : Int)]) nT
      have hD2 := g2 _ _ hD
      have nDT : D ≠ T' := ne_of_none hD nT
      have kt := (KeepT.of g2).trans (KeepT.lst (o := .lst (zs' ++ [.ref T'])) hD2)
      refine ⟨_, hD2, small1000 (by omega), same_put (g1.trans g2) nD, zs' ++ [.ref T'], upd_same, ?_⟩
      rw [take_snoc' et]
      exact (TrL.keep hT kt).snoc ⟨T', t, rfl, by rw [upd_ne nDT.symm, upd_same], kt _ _ ht⟩
    rintro H7 ⟨s7, tv, htr, hTv⟩
    rw [hPr.1, ← List.length_map (as := ps) (f := (·.2)), List.take_length] at hTv
    have tvl : tv.length = ps.length := by rw [hTv.1, List.length_map]
    have S9 := S8.trans s7
    have X9 := s7 _ _ X8
    have k9 : KpI sc A5 H7 := KpI.of s7
    have many : ((ys.length : Nat) : Int) = ((ws.length : Nat) : Int) := by rw [yl]
    refine ⟨_, rfl, _, rfl, w', _, rfl, .inl (SqL.of (S9 _ _ hw)), _, rfl, D, tv, ps.map (·.2), ws.length, rl, by rw [yl]; rfl, htr, hTv, hTr, ok.rl4, fun H8 s8 => ?_⟩
    have S10 := S9.trans s8
    have X10 := s8 _ _ X9
    have k10 : KpI sc H7 H8 := KpI.of s8
    refine ⟨_, rfl, sc, CS, dx, _, rfl, X10, cl, n_span_beats, by show 5 < 1000; decide, ?_⟩
    rw [show putF ("span_beats" : Str) (V.int ((spanN (ps.map (·.2)) ws.length rl : Nat) : Int)) [(("home" : Str), V.ref x), (("post_rows" : Str), V.ref pr), (("watcher_rows" : Str), V.ref wr), (("has_meet" : Str), V.bl mt), (("relief_beats" : Str), V.int ((rl : Nat) : Int))] = [(("home" : Str), V.ref x), (("post_rows" : Str), V.ref pr), (("watcher_rows" : Str), V.ref wr), (("has_meet" : Str), V.bl mt), (("relief_beats" : Str), V.int ((rl : Nat) : Int)), (("span_beats" : Str), V.int ((spanN (ps.map (·.2)) ws.length rl : Nat) : Int))] from putF_new (f := ("span_beats" : Str)) (v := V.int ((spanN (ps.map (·.2)) ws.length rl : Nat) : Int)) (fs := [(("home" : Str), V.ref x), (("post_rows" : Str), V.ref pr), (("watcher_rows" : Str), V.ref wr), (("has_meet" : Str), V.bl mt), (("relief_beats" : Str), V.int ((rl : Nat) : Int))]) ["home", "post_rows", "watcher_rows", "has_meet", "relief_beats"] rfl (by decide +kernel)]
    have S11 := same_put (o := (.ins CS dx [(("home" : Str), V.ref x), (("post_rows" : Str), V.ref pr), (("watcher_rows" : Str), V.ref wr), (("has_meet" : Str), V.bl mt), (("relief_beats" : Str), V.int ((rl : Nat) : Int)), (("span_beats" : Str), V.int ((spanN (ps.map (·.2)) ws.length rl : Nat) : Int))])) S10 x0
    have k11 := KpI.put (o := (.ins CS dx [(("home" : Str), V.ref x), (("post_rows" : Str), V.ref pr), (("watcher_rows" : Str), V.ref wr), (("has_meet" : Str), V.bl mt), (("relief_beats" : Str), V.int ((rl : Nat) : Int)), (("span_beats" : Str), V.int ((spanN (ps.map (·.2)) ws.length rl : Nat) : Int))])) X10
    have X11 : (upd H8 sc (.ins CS dx [(("home" : Str), V.ref x), (("post_rows" : Str), V.ref pr), (("watcher_rows" : Str), V.ref wr), (("has_meet" : Str), V.bl mt), (("relief_beats" : Str), V.int ((rl : Nat) : Int)), (("span_beats" : Str), V.int ((spanN (ps.map (·.2)) ws.length rl : Nat) : Int))])) sc = some (.ins CS dx [(("home" : Str), V.ref x), (("post_rows" : Str), V.ref pr), (("watcher_rows" : Str), V.ref wr), (("has_meet" : Str), V.bl mt), (("relief_beats" : Str), V.int ((rl : Nat) : Int)), (("span_beats" : Str), V.int ((spanN (ps.map (·.2)) ws.length rl : Nat) : Int))]) := upd_same
    generalize upd H8 sc (.ins CS dx [(("home" : Str), V.ref x), (("post_rows" : Str), V.ref pr), (("watcher_rows" : Str), V.ref wr), (("has_meet" : Str), V.bl mt), (("relief_beats" : Str), V.int ((rl : Nat) : Int)), (("span_beats" : Str), V.int ((spanN (ps.map (·.2)) ws.length rl : Nat) : Int))]) = A6 at S11 k11 X11
    have htr6 := (k10.trans k11).lst _ _ htr
    have hTv6 := TrL.keep hTv (k10.trans k11).tup
    refine ⟨_, rfl, _, rfl, w', _, rfl, .inl (SqL.of (S11 _ _ hw)), _, rfl, _, rfl, D, tv, ps.map (·.2), ws.length, mt, rl, by rw [yl]; rfl, htr6, hTv6, hTr, ok.trStr, by rw [List.length_map]; exact bare, l6, ok.rl4, fun H9 orr ov W s9 nor hWh hor hOr => ?_⟩
    have S12 := S11.trans s9
    have X12 := s9 _ _ X11
    have k12 : KpI sc A6 H9 := KpI.of s9
    refine ⟨_, rfl, sc, CS, dx, _, rfl, X12, cl, n_orders, by show 6 < 1000; decide, ?_⟩
    rw [show putF ("orders" : Str) (V.ref orr) [(("home" : Str), V.ref x), (("post_rows" : Str), V.ref pr), (("watcher_rows" : Str), V.ref wr), (("has_meet" : Str), V.bl mt), (("relief_beats" : Str), V.int ((rl : Nat) : Int)), (("span_beats" : Str), V.int ((spanN (ps.map (·.2)) ws.length rl : Nat) : Int))] = [(("home" : Str), V.ref x), (("post_rows" : Str), V.ref pr), (("watcher_rows" : Str), V.ref wr), (("has_meet" : Str), V.bl mt), (("relief_beats" : Str), V.int ((rl : Nat) : Int)), (("span_beats" : Str), V.int ((spanN (ps.map (·.2)) ws.length rl : Nat) : Int)), (("orders" : Str), V.ref orr)] from putF_new (f := ("orders" : Str)) (v := V.ref orr) (fs := [(("home" : Str), V.ref x), (("post_rows" : Str), V.ref pr), (("watcher_rows" : Str), V.ref wr), (("has_meet" : Str), V.bl mt), (("relief_beats" : Str), V.int ((rl : Nat) : Int)), (("span_beats" : Str), V.int ((spanN (ps.map (·.2)) ws.length rl : Nat) : Int))]) ["home", "post_rows", "watcher_rows", "has_meet", "relief_beats", "span_beats"] rfl (by decide +kernel)]
    have S13 := same_put (o := (.ins CS dx [(("home" : Str), V.ref x), (("post_rows" : Str), V.ref pr), (("watcher_rows" : Str), V.ref wr), (("has_meet" : Str), V.bl mt), (("relief_beats" : Str), V.int ((rl : Nat) : Int)), (("span_beats" : Str), V.int ((spanN (ps.map (·.2)) ws.length rl : Nat) : Int)), (("orders" : Str), V.ref orr)])) S12 x0
    have k13 := KpI.put (o := (.ins CS dx [(("home" : Str), V.ref x), (("post_rows" : Str), V.ref pr), (("watcher_rows" : Str), V.ref wr), (("has_meet" : Str), V.bl mt), (("relief_beats" : Str), V.int ((rl : Nat) : Int)), (("span_beats" : Str), V.int ((spanN (ps.map (·.2)) ws.length rl : Nat) : Int)), (("orders" : Str), V.ref orr)])) X12
    have X13 : (upd H9 sc (.ins CS dx [(("home" : Str), V.ref x), (("post_rows" : Str), V.ref pr), (("watcher_rows" : Str), V.ref wr), (("has_meet" : Str), V.bl mt), (("relief_beats" : Str), V.int ((rl : Nat) : Int)), (("span_beats" : Str), V.int ((spanN (ps.map (·.2)) ws.length rl : Nat) : Int)), (("orders" : Str), V.ref orr)])) sc = some (.ins CS dx [(("home" : Str), V.ref x), (("post_rows" : Str), V.ref pr), (("watcher_rows" : Str), V.ref wr), (("has_meet" : Str), V.bl mt), (("relief_beats" : Str), V.int ((rl : Nat) : Int)), (("span_beats" : Str), V.int ((spanN (ps.map (·.2)) ws.length rl : Nat) : Int)), (("orders" : Str), V.ref orr)]) := upd_same
    generalize upd H9 sc (.ins CS dx [(("home" : Str), V.ref x), (("post_rows" : Str), V.ref pr), (("watcher_rows" : Str), V.ref wr), (("has_meet" : Str), V.bl mt), (("relief_beats" : Str), V.int ((rl : Nat) : Int)), (("span_beats" : Str), V.int ((spanN (ps.map (·.2)) ws.length rl : Nat) : Int)), (("orders" : Str), V.ref orr)]) = A7 at S13 k13 X13
    have ovl : ov.length = W := by have := hOr.1; rw [List.length_map, List.length_range] at this; exact this
    obtain ⟨W0, W1, W2, W3, W4⟩ := id hWh
    have hor7 := k13.lst _ _ hor
    have hOr7 := OrL.kpi hOr k13
    have htr7 := (k12.trans k13).lst _ _ htr6
    have hTv7 := TrL.keep hTv6 (k12.trans k13).tup
    refine ⟨_, rfl, sc, CS, dx, _, _, rfl, X13, cl, n_orders, (lk_at 6 ["home", "post_rows", "watcher_rows", "has_meet", "relief_beats", "span_beats"] rfl (by decide +kernel) rfl), orr, _, rfl, .inl (SqL.of hor7), _, rfl, by omega, by omega, fun St nSt => ?_⟩
    rw [show ((ov.length : Nat) : Int).toNat = W by rw [ovl]; rfl]
    refine lc_range (lo := 0) (n := W) (fun j H' => Same A7 H' ∧ ∃ zs', H' St = some (.lst zs') ∧ SsL H' zs' ((List.range j).map fun r => stnd (ps.map (·.2)) (r : Nat)) ∧ ∀ v ∈ zs', ∃ q, v = V.ref q ∧ q ≠ St) ⟨same_new nSt, [], upd_same, AL.nil, (fun v hv => by cases hv)⟩ ?_ ?_
    · rintro j G1 hj ⟨g1, zs', hD, hS, hne⟩
      have zl : zs'.length = j := by
        rw [hS.1, List.length_map, List.length_range]
      refine ⟨rfl, _, rfl, _, rfl, D, tv, ps.map (·.2), 0 + (j : Int), rfl, g1 _ _ htr7, TrL.same hTv7 g1, hTr, fun G2 q g2 nq hq => ?_⟩
      have hD2 := g2 _ _ hD
      have nq2 : q ≠ St := (ne_of_none hD nq).symm
      refine ⟨_, hD2, Nat.lt_of_lt_of_le (show zs'.length < 2 ^ 24 by omega) (by decide), same_put (g1.trans g2) nSt, zs' ++ [.ref q], upd_same, ?_, ?_⟩
      · rw [List.range_succ, List.map_append]
        refine AL.snoc (AL.mono2 hS fun v hv l z => ?_) ⟨q, rfl, ?_⟩
        · obtain ⟨q', rfl, hq'⟩ := z
          obtain ⟨q'', e, n⟩ := hne _ hv
          cases e
          exact ⟨q', rfl, by rw [upd_ne n]; exact g2 _ _ hq'⟩
        · rw [upd_ne nq2, hq, Int.zero_add]
      · intro v hv
        rcases List.mem_append.mp hv with z | z
        · exact hne v z
        · rw [List.mem_singleton.mp z]
          exact ⟨q, rfl, nq2⟩
    rintro H10 ⟨s10, sv, hst, hSv, _⟩
    have svl : sv.length = W := by rw [hSv.1, List.length_map, List.length_range]
    have S14 := S13.trans s10
    have X14 := s10 _ _ X13
    have k14 : KpI sc A7 H10 := KpI.of s10
    have hHm10 := hHm.kpi nxs (((((((((((k3.trans k4).trans k5).trans k6).trans k7).trans k8).trans k9).trans k10).trans k11).trans k12).trans k13).trans k14)
    refine ⟨_, rfl, sc, CS, dx, _, _, rfl, X14, cl, n_home, (lk_at 0 [] rfl (by decide +kernel) rfl), x, zs, _, _, rfl, Hs.of hHm10, fun H11 hd s11 nhd hHd => ?_⟩
    have S15 := S14.trans s11
    have X15 := s11 _ _ X14
    have k15 : KpI sc H10 H11 := KpI.of s11
    refine ⟨_, rfl, sc, CS, dx, _, rfl, X15, cl, n_hands, by show 7 < 1000; decide, ?_⟩
    rw [show putF ("hands" : Str) (V.ref hd) [(("home" : Str), V.ref x), (("post_rows" : Str), V.ref pr), (("watcher_rows" : Str), V.ref wr), (("has_meet" : Str), V.bl mt), (("relief_beats" : Str), V.int ((rl : Nat) : Int)), (("span_beats" : Str), V.int ((spanN (ps.map (·.2)) ws.length rl : Nat) : Int)), (("orders" : Str), V.ref orr)] = [(("home" : Str), V.ref x), (("post_rows" : Str), V.ref pr), (("watcher_rows" : Str), V.ref wr), (("has_meet" : Str), V.bl mt), (("relief_beats" : Str), V.int ((rl : Nat) : Int)), (("span_beats" : Str), V.int ((spanN (ps.map (·.2)) ws.length rl : Nat) : Int)), (("orders" : Str), V.ref orr), (("hands" : Str), V.ref hd)] from putF_new (f := ("hands" : Str)) (v := V.ref hd) (fs := [(("home" : Str), V.ref x), (("post_rows" : Str), V.ref pr), (("watcher_rows" : Str), V.ref wr), (("has_meet" : Str), V.bl mt), (("relief_beats" : Str), V.int ((rl : Nat) : Int)), (("span_beats" : Str), V.int ((spanN (ps.map (·.2)) ws.length rl : Nat) : Int)), (("orders" : Str), V.ref orr)]) ["home", "post_rows", "watcher_rows", "has_meet", "relief_beats", "span_beats", "orders"] rfl (by decide +kernel)]
    have S16 := same_put (o := (.ins CS dx [(("home" : Str), V.ref x), (("post_rows" : Str), V.ref pr), (("watcher_rows" : Str), V.ref wr), (("has_meet" : Str), V.bl mt), (("relief_beats" : Str), V.int ((rl : Nat) : Int)), (("span_beats" : Str), V.int ((spanN (ps.map (·.2)) ws.length rl : Nat) : Int)), (("orders" : Str), V.ref orr), (("hands" : Str), V.ref hd)])) S15 x0
    have k16 := KpI.put (o := (.ins CS dx [(("home" : Str), V.ref x), (("post_rows" : Str), V.ref pr), (("watcher_rows" : Str), V.ref wr), (("has_meet" : Str), V.bl mt), (("relief_beats" : Str), V.int ((rl : Nat) : Int)), (("span_beats" : Str), V.int ((spanN (ps.map (·.2)) ws.length rl : Nat) : Int)), (("orders" : Str), V.ref orr), (("hands" : Str), V.ref hd)])) X15
    have X16 : (upd H11 sc (.ins CS dx [(("home" : Str), V.ref x), (("post_rows" : Str), V.ref pr), (("watcher_rows" : Str), V.ref wr), (("has_meet" : Str), V.bl mt), (("relief_beats" : Str), V.int ((rl : Nat) : Int)), (("span_beats" : Str), V.int ((spanN (ps.map (·.2)) ws.length rl : Nat) : Int)), (("orders" : Str), V.ref orr), (("hands" : Str), V.ref hd)])) sc = some (.ins CS dx [(("home" : Str), V.ref x), (("post_rows" : Str), V.ref pr), (("watcher_rows" : Str), V.ref wr), (("has_meet" : Str), V.bl mt), (("relief_beats" : Str), V.int ((rl : Nat) : Int)), (("span_beats" : Str), V.int ((spanN (ps.map (·.2)) ws.length rl : Nat) : Int)), (("orders" : Str), V.ref orr), (("hands" : Str), V.ref hd)]) := upd_same
    generalize upd H11 sc (.ins CS dx [(("home" : Str), V.ref x), (("post_rows" : Str), V.ref pr), (("watcher_rows" : Str), V.ref wr), (("has_meet" : Str), V.bl mt), (("relief_beats" : Str), V.int ((rl : Nat) : Int)), (("span_beats" : Str), V.int ((spanN (ps.map (·.2)) ws.length rl : Nat) : Int)), (("orders" : Str), V.ref orr), (("hands" : Str), V.ref hd)]) = A8 at S16 k16 X16
    have hst8 := (k15.trans k16).lst _ _ hst
    have hSv8 := SsL.kpi hSv (k15.trans k16)
    have hor8 := (((k13.trans k14).trans k15).trans k16).lst _ _ hor
    have hOr8 := OrL.kpi hOr (((k13.trans k14).trans k15).trans k16)
    have hpr8 := ((((((((((((k4.trans k5).trans k6).trans k7).trans k8).trans k9).trans k10).trans k11).trans k12).trans k13).trans k14).trans k15).trans k16).lst _ _ hpr
    have hwr8 := ((((((((((k6.trans k7).trans k8).trans k9).trans k10).trans k11).trans k12).trans k13).trans k14).trans k15).trans k16).lst _ _ hwr
    have hWr8 := WtL.keep hWr ((((((((((k6.trans k7).trans k8).trans k9).trans k10).trans k11).trans k12).trans k13).trans k14).trans k15).trans k16).tup
    have hHm8 := hHm.kpi nxs (((((((((((((k3.trans k4).trans k5).trans k6).trans k7).trans k8).trans k9).trans k10).trans k11).trans k12).trans k13).trans k14).trans k15).trans k16)
    refine ⟨_, rfl, _, rfl, sc, CS, dx, _, _, rfl, X16, cl, n_orders, (lk_at 6 ["home", "post_rows", "watcher_rows", "has_meet", "relief_beats", "span_beats"] rfl (by decide +kernel) rfl), St, orr, _, _, rfl, .inl ⟨SqL.of hst8, SqL.of hor8, fun Lg nLg => ?_⟩⟩
    refine it_any (walk_zip (n := W) (xs := sv) (ys := ov) (by rw [svl, ovl, Nat.min_self])) (fun j H' => Same A8 H' ∧ ∃ zs', H' Lg = some (.lst zs') ∧ SsL H' zs' ((List.range j).map (litAt zs (lnk zs ss) (ps.map (·.2)) ws mt rl)) ∧ ∀ v ∈ zs', ∃ q, v = V.ref q ∧ q ≠ Lg) ⟨same_new nLg, [], upd_same, AL.nil, (fun v hv => by cases hv)⟩ (fun j H' _ z => ⟨SqL.of (z.1 _ _ hst8), SqL.of (z.1 _ _ hor8)⟩) ?_ ?_
    · rintro j y G1 G2 hj ⟨g1, zs', hD, hS, hne⟩ ⟨tq, x1, y1, rfl, ntq, rfl, e1, e2⟩
      have zl : zs'.length = j := by rw [hS.1, List.length_map, List.length_range]
      obtain ⟨l1, el1, q1, rfl, hq1⟩ := (SsL.same hSv8 g1).at e1
      obtain ⟨l2, el2, q2, rfl, hq2⟩ := (OrL.same hOr8 g1).at e2
      rw [List.getElem?_map, List.getElem?_range hj] at el1 el2
      cases el1
      cases el2
      have g2 := same_new (o := .tup [V.ref q1, V.ref q2]) ntq
      have g12 := g1.trans g2
      have oo := ordN_ok (tr := ps.map (·.2)) (many := ws.length) (mt := mt) (rl := rl) (by rw [List.length_map]; exact bare) j
      refine ⟨tq, _, rfl, SqT.of upd_same, rfl, _, _, rfl, _, _, rfl, rfl, rfl, ?_⟩
      refine ⟨_, rfl, sc, CS, dx, _, _, rfl, g12 _ _ X16, cl, n_home, (lk_at 0 [] rfl (by decide +kernel) rfl), _, rfl, _, rfl, sc, dx, _, rfl, g12 _ _ X16, (lk_none ["home", "post_rows", "watcher_rows", "has_meet", "relief_beats", "span_beats", "orders", "hands"] rfl (by decide +kernel)), _, rfl, sc, q2, pr, wr, dx, _, pv, wv, ws, _, rfl, g12 _ _ X16, (lk_at 1 ["home"] rfl (by decide +kernel) rfl), (lk_at 2 ["home", "post_rows"] rfl (by decide +kernel) rfl), g12 _ _ hpr8, g12 _ _ hwr8, WtL.same hWr8 g12, g2 _ _ hq2, by rw [oo.1, hPr.1]; exact bare, by rw [oo.1]; exact l6, oo.2, fun G3 rp g3 nrp hrp => ?_⟩
      have g13 := g12.trans g3
      have trl : (ps.map (·.2)).length = pv.length := by rw [List.length_map, hPr.1]
      refine ⟨x, q1, rp, zs, _, _, _, _, rfl, Hs.of (hHm8.same g13), (g2.trans g3) _ _ hq1, hrp, by unfold reachN; rw [stnd_len, List.length_map, List.length_map, List.length_take, oo.1]; have := hPr.1; omega, by rw [stnd_len, List.length_map]; exact l5, fun r hr => ?_, fun G4 q g4 nq hq => ?_⟩
      · obtain ⟨pp, hpp, rfl⟩ := List.mem_map.mp hr
        exact ok.trIn pp hpp _ (plcS_mem (hTr.pos pp hpp) _)
      have g24 := (g2.trans g3).trans g4
      have hD2 := g24 _ _ hD
      have nq2 : q ≠ Lg := (ne_of_none ((g2.trans g3) _ _ hD) nq).symm
      refine ⟨_, hD2, Nat.lt_of_lt_of_le (show zs'.length < 2 ^ 24 by omega) (by decide), same_put (g13.trans g4) nLg, zs' ++ [.ref q], upd_same, ?_, ?_⟩
      · rw [List.range_succ, List.map_append]
        refine AL.snoc (AL.mono2 hS fun v hv l z => ?_) ⟨q, rfl, ?_⟩
        · obtain ⟨q', rfl, hq'⟩ := z
          obtain ⟨q'', e, n⟩ := hne _ hv
          cases e
          exact ⟨q', rfl, by rw [upd_ne n]; exact g24 _ _ hq'⟩
        · rw [upd_ne nq2, hq]
          unfold litAt
          rw [trl]
      · intro v hv
        rcases List.mem_append.mp hv with z | z
        · exact hne v z
        · rw [List.mem_singleton.mp z]
          exact ⟨q, rfl, nq2⟩
    rintro H12 ⟨s12', lv, hlg, hLv, _⟩
    have S17 := S16.trans s12'
    have X17 := s12' _ _ X16
    have k17 : KpI sc A8 H12 := KpI.of s12'
    refine ⟨_, rfl, sc, CS, dx, _, rfl, X17, cl, n_lights, by show 8 < 1000; decide, ?_⟩
    rw [show putF ("lights" : Str) (V.ref Lg) [(("home" : Str), V.ref x), (("post_rows" : Str), V.ref pr), (("watcher_rows" : Str), V.ref wr), (("has_meet" : Str), V.bl mt), (("relief_beats" : Str), V.int ((rl : Nat) : Int)), (("span_beats" : Str), V.int ((spanN (ps.map (·.2)) ws.length rl : Nat) : Int)), (("orders" : Str), V.ref orr), (("hands" : Str), V.ref hd)] = [(("home" : Str), V.ref x), (("post_rows" : Str), V.ref pr), (("watcher_rows" : Str), V.ref wr), (("has_meet" : Str), V.bl mt), (("relief_beats" : Str), V.int ((rl : Nat) : Int)), (("span_beats" : Str), V.int ((spanN (ps.map (·.2)) ws.length rl : Nat) : Int)), (("orders" : Str), V.ref orr), (("hands" : Str), V.ref hd), (("lights" : Str), V.ref Lg)] from putF_new (f := ("lights" : Str)) (v := V.ref Lg) (fs := [(("home" : Str), V.ref x), (("post_rows" : Str), V.ref pr), (("watcher_rows" : Str), V.ref wr), (("has_meet" : Str), V.bl mt), (("relief_beats" : Str), V.int ((rl : Nat) : Int)), (("span_beats" : Str), V.int ((spanN (ps.map (·.2)) ws.length rl : Nat) : Int)), (("orders" : Str), V.ref orr), (("hands" : Str), V.ref hd)]) ["home", "post_rows", "watcher_rows", "has_meet", "relief_beats", "span_beats", "orders", "hands"] rfl (by decide +kernel)]
    have S18 := same_put (o := (.ins CS dx [(("home" : Str), V.ref x), (("post_rows" : Str), V.ref pr), (("watcher_rows" : Str), V.ref wr), (("has_meet" : Str), V.bl mt), (("relief_beats" : Str), V.int ((rl : Nat) : Int)), (("span_beats" : Str), V.int ((spanN (ps.map (·.2)) ws.length rl : Nat) : Int)), (("orders" : Str), V.ref orr), (("hands" : Str), V.ref hd), (("lights" : Str), V.ref Lg)])) S17 x0
    have k18 := KpI.put (o := (.ins CS dx [(("home" : Str), V.ref x), (("post_rows" : Str), V.ref pr), (("watcher_rows" : Str), V.ref wr), (("has_meet" : Str), V.bl mt), (("relief_beats" : Str), V.int ((rl : Nat) : Int)), (("span_beats" : Str), V.int ((spanN (ps.map (·.2)) ws.length rl : Nat) : Int)), (("orders" : Str), V.ref orr), (("hands" : Str), V.ref hd), (("lights" : Str), V.ref Lg)])) X17
    have X18 : (upd H12 sc (.ins CS dx [(("home" : Str), V.ref x), (("post_rows" : Str), V.ref pr), (("watcher_rows" : Str), V.ref wr), (("has_meet" : Str), V.bl mt), (("relief_beats" : Str), V.int ((rl : Nat) : Int)), (("span_beats" : Str), V.int ((spanN (ps.map (·.2)) ws.length rl : Nat) : Int)), (("orders" : Str), V.ref orr), (("hands" : Str), V.ref hd), (("lights" : Str), V.ref Lg)])) sc = some (.ins CS dx [(("home" : Str), V.ref x), (("post_rows" : Str), V.ref pr), (("watcher_rows" : Str), V.ref wr), (("has_meet" : Str), V.bl mt), (("relief_beats" : Str), V.int ((rl : Nat) : Int)), (("span_beats" : Str), V.int ((spanN (ps.map (·.2)) ws.length rl : Nat) : Int)), (("orders" : Str), V.ref orr), (("hands" : Str), V.ref hd), (("lights" : Str), V.ref Lg)]) := upd_same
    generalize upd H12 sc (.ins CS dx [(("home" : Str), V.ref x), (("post_rows" : Str), V.ref pr), (("watcher_rows" : Str), V.ref wr), (("has_meet" : Str), V.bl mt), (("relief_beats" : Str), V.int ((rl : Nat) : Int)), (("span_beats" : Str), V.int ((spanN (ps.map (·.2)) ws.length rl : Nat) : Int)), (("orders" : Str), V.ref orr), (("hands" : Str), V.ref hd), (("lights" : Str), V.ref Lg)]) = A9 at S18 k18 X18
    have hst9 := (((k15.trans k16).trans k17).trans k18).lst _ _ hst
    have hSv9 := SsL.kpi hSv (((k15.trans k16).trans k17).trans k18)
    refine ⟨_, rfl, St, _, rfl, SqL.of hst9, fun Mv nMv => ?_⟩
    refine it_any (walk_enum (K := K) (a := St) (xs := sv)) (fun j H' => Same A9 H' ∧ ∃ zs', H' Mv = some (.lst zs') ∧ MvL H' zs' ((List.range j).map (movAt (ps.map (·.2)))) ∧ ∀ v ∈ zs', ∃ q, v = V.ref q ∧ q ≠ Mv) ⟨same_new nMv, [], upd_same, AL.nil, (fun v hv => by cases hv)⟩ (fun j H' _ z => SqL.of (z.1 _ _ hst9)) ?_ ?_
    · rintro j y G1 G2 hj ⟨g1, zs', hD, hS, hne⟩ ⟨tq, x1, y1, rfl, ntq, rfl, e1, e2⟩
      have e1' : x1 = .int (j : Nat) := (Option.some.inj e1).symm
      subst e1'
      rw [svl] at hj
      have zl : zs'.length = j := by rw [hS.1, List.length_map, List.length_range]
      obtain ⟨l1, el1, q1, rfl, hq1⟩ := (SsL.same hSv9 g1).at e2
      rw [List.getElem?_map, List.getElem?_range hj] at el1
      cases el1
      have g2 := same_new (o := .tup [V.int ((j : Nat) : Int), V.ref q1]) ntq
      have g12 := g1.trans g2
      -- the place ahead
      obtain ⟨i0, hi0, ei0, es0⟩ : ∃ i0, i0 < W ∧ ixN sv.length (((j : Nat) : Int) - 1) = some i0 ∧ stnd (ps.map (·.2)) ((i0 : Nat) : Int) = stnd (ps.map (·.2)) (((j : Nat) : Int) - 1) := by
        by_cases z : j = 0
        · subst z
          refine ⟨W - 1, by omega, ?_, ?_⟩
          · unfold ixN
            rw [svl, if_neg (by decide), if_pos (by omega)]
            congr 1
            omega
          · have dv : ∀ q ∈ ps.map (·.2), q.1.length ∣ W := fun q hq => Nat.dvd_trans (span_len hq) (Nat.dvd_of_mod_eq_zero W2)
            rw [← stnd_per dv (((0 : Nat) : Int) - 1)]
            congr 1
            omega
        · refine ⟨j - 1, by omega, ?_, ?_⟩
          · rw [svl, show ((j : Nat) : Int) - 1 = ((j - 1 : Nat) : Int) by omega]
            exact ixN_nat (by omega)
          · congr 1
            omega
      have ep : ((List.range W).map fun r => stnd (ps.map (·.2)) ((r : Nat) : Int))[i0]? = some (stnd (ps.map (·.2)) ((i0 : Nat) : Int)) := by
        rw [List.getElem?_map, List.getElem?_range hi0]
        rfl
      obtain ⟨xv, ex, q0, rfl, hq0⟩ := (SsL.same hSv9 g12).of ep
      rw [es0] at hq0
      refine ⟨tq, _, rfl, SqT.of upd_same, rfl, _, _, rfl, _, _, rfl, rfl, rfl, ?_⟩
      refine ⟨_, rfl, _, rfl, _, _, rfl, rfl, St, _, _, _, rfl, rfl, SqL.of (g12 _ _ hst9), by unfold atI; rw [ei0]; exact ex, _, rfl, q0, q1, _, _, rfl, hq0, g2 _ _ hq1, by rw [stnd_len, stnd_len], by rw [stnd_len, List.length_map]; exact l5, fun G4 q mv g4 nq hq hmv => ?_⟩
      have g24 := g2.trans g4
      have hD2 := g24 _ _ hD
      have nq2 : q ≠ Mv := (ne_of_none (g2 _ _ hD) nq).symm
      have kt := KeepT.lst (o := .lst (zs' ++ [.ref q])) hD2
      refine ⟨_, hD2, Nat.lt_of_lt_of_le (show zs'.length < 2 ^ 24 by omega) (by decide), same_put (g12.trans g4) nMv, zs' ++ [.ref q], upd_same, ?_, ?_⟩
      · rw [List.range_succ, List.map_append]
        refine AL.snoc (AL.mono2 hS fun v hv l z => ?_) ⟨q, mv, rfl, ?_, hmv.keep kt⟩
        · obtain ⟨q', mv', rfl, hq', hm'⟩ := z
          obtain ⟨q'', e, n⟩ := hne _ hv
          cases e
          exact ⟨q', mv', rfl, by rw [upd_ne n]; exact g24 _ _ hq', (hm'.same g24).keep kt⟩
        · rw [upd_ne nq2]
          exact hq
      · intro v hv
        rcases List.mem_append.mp hv with z | z
        · exact hne v z
        · rw [List.mem_singleton.mp z]
          exact ⟨q, rfl, nq2⟩
    rintro H13 ⟨s13', mvv, hmv, hMv, _⟩
    rw [svl] at hMv
    have S19 := S18.trans s13'
    have X19 := s13' _ _ X18
    have k19 : KpI sc A9 H13 := KpI.of s13'
    refine ⟨_, rfl, sc, CS, dx, _, rfl, X19, cl, n_moves, by show 9 < 1000; decide, ?_⟩
    rw [show putF ("moves" : Str) (V.ref Mv) [(("home" : Str), V.ref x), (("post_rows" : Str), V.ref pr), (("watcher_rows" : Str), V.ref wr), (("has_meet" : Str), V.bl mt), (("relief_beats" : Str), V.int ((rl : Nat) : Int)), (("span_beats" : Str), V.int ((spanN (ps.map (·.2)) ws.length rl : Nat) : Int)), (("orders" : Str), V.ref orr), (("hands" : Str), V.ref hd), (("lights" : Str), V.ref Lg)] = [(("home" : Str), V.ref x), (("post_rows" : Str), V.ref pr), (("watcher_rows" : Str), V.ref wr), (("has_meet" : Str), V.bl mt), (("relief_beats" : Str), V.int ((rl : Nat) : Int)), (("span_beats" : Str), V.int ((spanN (ps.map (·.2)) ws.length rl : Nat) : Int)), (("orders" : Str), V.ref orr), (("hands" : Str), V.ref hd), (("lights" : Str), V.ref Lg), (("moves" : Str), V.ref Mv)] from putF_new (f := ("moves" : Str)) (v := V.ref Mv) (fs := [(("home" : Str), V.ref x), (("post_rows" : Str), V.ref pr), (("watcher_rows" : Str), V.ref wr), (("has_meet" : Str), V.bl mt), (("relief_beats" : Str), V.int ((rl : Nat) : Int)), (("span_beats" : Str), V.int ((spanN (ps.map (·.2)) ws.length rl : Nat) : Int)), (("orders" : Str), V.ref orr), (("hands" : Str), V.ref hd), (("lights" : Str), V.ref Lg)]) ["home", "post_rows", "watcher_rows", "has_meet", "relief_beats", "span_beats", "orders", "hands", "lights"] rfl (by decide +kernel)]
    have S20 := same_put (o := (.ins CS dx [(("home" : Str), V.ref x), (("post_rows" : Str), V.ref pr), (("watcher_rows" : Str), V.ref wr), (("has_meet" : Str), V.bl mt), (("relief_beats" : Str), V.int ((rl : Nat) : Int)), (("span_beats" : Str), V.int ((spanN (ps.map (·.2)) ws.length rl : Nat) : Int)), (("orders" : Str), V.ref orr), (("hands" : Str), V.ref hd), (("lights" : Str), V.ref Lg), (("moves" : Str), V.ref Mv)])) S19 x0
    have k20 := KpI.put (o := (.ins CS dx [(("home" : Str), V.ref x), (("post_rows" : Str), V.ref pr), (("watcher_rows" : Str), V.ref wr), (("has_meet" : Str), V.bl mt), (("relief_beats" : Str), V.int ((rl : Nat) : Int)), (("span_beats" : Str), V.int ((spanN (ps.map (·.2)) ws.length rl : Nat) : Int)), (("orders" : Str), V.ref orr), (("hands" : Str), V.ref hd), (("lights" : Str), V.ref Lg), (("moves" : Str), V.ref Mv)])) X19
    have X20 : (upd H13 sc (.ins CS dx [(("home" : Str), V.ref x), (("post_rows" : Str), V.ref pr), (("watcher_rows" : Str), V.ref wr), (("has_meet" : Str), V.bl mt), (("relief_beats" : Str), V.int ((rl : Nat) : Int)), (("span_beats" : Str), V.int ((spanN (ps.map (·.2)) ws.length rl : Nat) : Int)), (("orders" : Str), V.ref orr), (("hands" : Str), V.ref hd), (("lights" : Str), V.ref Lg), (("moves" : Str), V.ref Mv)])) sc = some (.ins CS dx [(("home" : Str), V.ref x), (("post_rows" : Str), V.ref pr), (("watcher_rows" : Str), V.ref wr), (("has_meet" : Str), V.bl mt), (("relief_beats" : Str), V.int ((rl : Nat) : Int)), (("span_beats" : Str), V.int ((spanN (ps.map (·.2)) ws.length rl : Nat) : Int)), (("orders" : Str), V.ref orr), (("hands" : Str), V.ref hd), (("lights" : Str), V.ref Lg), (("moves" : Str), V.ref Mv)]) := upd_same
    generalize upd H13 sc (.ins CS dx [(("home" : Str), V.ref x), (("post_rows" : Str), V.ref pr), (("watcher_rows" : Str), V.ref wr), (("has_meet" : Str), V.bl mt), (("relief_beats" : Str), V.int ((rl : Nat) : Int)), (("span_beats" : Str), V.int ((spanN (ps.map (·.2)) ws.length rl : Nat) : Int)), (("orders" : Str), V.ref orr), (("hands" : Str), V.ref hd), (("lights" : Str), V.ref Lg), (("moves" : Str), V.ref Mv)]) = A10 at S20 k20 X20
    refine k A10 W S20 ⟨ok, dx, x, pr, wr, orr, hd, Lg, Mv, pv, wv, ov, lv, mvv, ⟨X20, hHm.kpi nxs (((((((((((((((((k3.trans k4).trans k5).trans k6).trans k7).trans k8).trans k9).trans k10).trans k11).trans k12).trans k13).trans k14).trans k15).trans k16).trans k17).trans k18).trans k19).trans k20), ((((((((((((((((k4.trans k5).trans k6).trans k7).trans k8).trans k9).trans k10).trans k11).trans k12).trans k13).trans k14).trans k15).trans k16).trans k17).trans k18).trans k19).trans k20).lst _ _ hpr, PsL.keep hPr ((((((((((((((((k4.trans k5).trans k6).trans k7).trans k8).trans k9).trans k10).trans k11).trans k12).trans k13).trans k14).trans k15).trans k16).trans k17).trans k18).trans k19).trans k20).tup, ((((((((((((((k6.trans k7).trans k8).trans k9).trans k10).trans k11).trans k12).trans k13).trans k14).trans k15).trans k16).trans k17).trans k18).trans k19).trans k20).lst _ _ hwr, WtL.keep hWr ((((((((((((((k6.trans k7).trans k8).trans k9).trans k10).trans k11).trans k12).trans k13).trans k14).trans k15).trans k16).trans k17).trans k18).trans k19).trans k20).tup, (((((((k13.trans k14).trans k15).trans k16).trans k17).trans k18).trans k19).trans k20).lst _ _ hor, OrL.kpi hOr (((((((k13.trans k14).trans k15).trans k16).trans k17).trans k18).trans k19).trans k20), hHd.kpi ((((k16.trans k17).trans k18).trans k19).trans k20), ((k18.trans k19).trans k20).lst _ _ hlg, SsL.kpi hLv ((k18.trans k19).trans k20), k20.lst _ _ hmv, MvL.kpi hMv k20, hWh⟩⟩
end
end Dk
namespace Dk
open PySem L2
section
variable {P : Program} {w : World} {K : PySem.W.Frag} {mg : Str → Option Value} {base : Heap}
theorem scLawNear : FnScope ["_law_house_here", "_law_room", "_law_other"] ["_law_house_here", "_law_room"] (defScope sLawNear) := ⟨rfl, rfl, rfl, by decide +kernel, rfl, by decide +kernel, by decide +kernel⟩
theorem ok_lawnear {f : Addr} {fd : FuncData} (F : Fun K "_law_near" "_law_near" sLawNear f fd) : FnOk P w K mg base CX0 1 f fd ["_law_house_here", "_law_room"] spLawNear := by
  refine F.ok scLawNear (fun vs H Q E h => ?_) (fun cdv A outer s H vs Q E hr h => ?_)
  · obtain ⟨t, zs, ds, ss, z, rfl, _⟩ := h
    rfl
  · obtain ⟨t, zs, ds, ss, z, rfl, ⟨r, d, s', xs, us, h1, h2, h3, h4, h5, h6⟩, hg, hz, k⟩ := h
    have hu65 : (A.deeper (PyProof.Rows.envOfC "_law_near" (defScope sLawNear) s.heap.objs.size f cdv)).units + 65 < cLine := by
      have := hr.un
      omega
    refine ⟨_, pss_one (ps_ret (pe_lc (own := [("_law_other", 2)]) (g := gName 2) (tt := tOr (tTest (tOp (rInD K) (tTup (tCons (tVar 1) (tCons (tVar 2) tNil))) (tOp (rIxT K) (tVar 0) (tC (.int 1))))) (tTest (tOp (rInD K) (tTup (tCons (tVar 2) (tCons (tVar 1) tNil))) (tOp (rIxT K) (tVar 0) (tC (.int 1)))))) rfl scLawNear.nd (pi_list (pe_ix ix_tup (pv 0) pe_int (fun _ _ => rfl))) (blkOk_by (N := ["_law_house_here", "_law_room", "_law_other"]) (sc := defScope sLawNear) (by decide +kernel)) (fun _ _ _ _ _ => (pg_name (i := 2) scLawNear.nd rfl (Or.inl rfl))) (fun _ _ _ _ _ => pts_one (PW.pt (pw_or (pt_cmpR (op_inD hu65) (pe_tup (pa_cons (pv 1) (pa_cons (pv 2) pa_nil))) (pe_ix ix_tup (pv 0) pe_int (fun _ _ => rfl)) (by rfl)) (pw_or1 (pt_cmpR (op_inD hu65) (pe_tup (pa_cons (pv 2) (pa_cons (pv 1) pa_nil))) (pe_ix ix_tup (pv 0) pe_int (fun _ _ => rfl)) (by rfl)))))) (fun _ _ _ _ _ => (pv 2)))), ?_⟩
    refine ⟨_, rfl, t, _, 0, _, rfl, rfl, SqT.of h1, rfl, r, rfl, ⟨_, SqL.of h2⟩, fun D nD => ?_⟩
    refine it_any (walk_list (K := K) (a := r) (xs := zs.map V.str)) (fun i H' => Same H H' ∧ H' D = some (.lst ((lnk (zs.take i) (both ds) z).map V.str))) ⟨same_new nD, upd_same⟩ (fun i H' _ h => SqL.of (h.1 _ _ h2)) ?_ ?_
    · rintro i x H1 H2 hi ⟨s1, hD⟩ ⟨rfl, hx⟩
      obtain ⟨c, ec, rfl⟩ := str_at hx
      have hi8 : i < zs.length := (List.getElem?_eq_some_iff.mp ec).1
      have okz := nm_ok (hg.names.2 _ hz)
      have okc := nm_ok (hg.names.2 _ (List.mem_of_getElem? ec))
      have okd : ∀ ab ∈ ds, okP ab := fun ab hab => pred_ok hg.names (hg.dg ab hab)
      have oks : ∀ ab ∈ ss, okP ab := fun ab hab => pred_ok hg.names (hg.sg ab hab)
      have ll := lnk_len (zs.take i) (both ds) z
      rw [List.length_take] at ll
      have e8 := hg.eight
      have hit : ∀ H3 : Hp, Same H2 H3 → (z, c) ∈ (both ds) → ∃ acc, H3 D = some (.lst acc) ∧ acc.length < sizeLine ∧ Same H (upd H3 D (.lst (acc ++ [.str c]))) ∧ (upd H3 D (.lst (acc ++ [.str c]))) D = some (.lst ((lnk (zs.take (i + 1)) (both ds) z).map V.str)) := fun H3 s3 hm => by
        refine ⟨_, s3 _ _ hD, by rw [List.length_map]; exact small1000 (by omega), same_put (s1.trans s3) nD, ?_⟩
        rw [upd_same, lnk_take ec, if_pos hm, List.map_append]
        rfl
      have miss : ∀ H3 : Hp, Same H2 H3 → ¬ (z, c) ∈ (both ds) → Same H H3 ∧ H3 D = some (.lst ((lnk (zs.take (i + 1)) (both ds) z).map V.str)) := fun H3 s3 hm => by
        refine ⟨s1.trans s3, ?_⟩
        rw [lnk_take ec, if_neg hm, List.append_nil]
        exact s3 _ _ hD
      refine ⟨rfl, ?_⟩
      refine ⟨_, rfl, _, rfl, by show 2 ≤ sizeLine; decide, fun q nq => ?_⟩
      have s2 := same_new (o := .tup [.str z, .str c]) nq
      have sH := s1.trans s2
      refine ⟨_, rfl, t, _, 1, _, rfl, rfl, SqT.of (sH _ _ h1), rfl, pd (z, c), ds.map pd, pr_dp ⟨q, rfl, upd_same⟩, .lst (SqL.of (sH _ _ h3)) (pl_dp (h4.same sH)), pd_shaped ⟨okz, okc⟩, pds_shaped okd, _, rfl, ?_⟩
      rw [any_pd]
      refine ite2 (fun e => ?_) (fun e => ?_)
      · exact ⟨_, rfl, hit _ s2 ((both_iff ds z c).mpr (.inl (of_decide_eq_true e)))⟩
      · refine ⟨_, rfl, _, rfl, by show 2 ≤ sizeLine; decide, fun q2 nq2 => ?_⟩
        have s3 := same_new (o := .tup [.str c, .str z]) nq2
        have sH3 := sH.trans s3
        refine ⟨_, rfl, t, _, 1, _, rfl, rfl, SqT.of (sH3 _ _ h1), rfl, pd (c, z), ds.map pd, pr_dp ⟨q2, rfl, upd_same⟩, .lst (SqL.of (sH3 _ _ h3)) (pl_dp (h4.same sH3)), pd_shaped ⟨okc, okz⟩, pds_shaped okd, _, rfl, ?_⟩
        rw [any_pd]
        refine ite2 (fun e2 => ?_) (fun e2 => ?_)
        · exact ⟨_, rfl, hit _ (s2.trans s3) ((both_iff ds z c).mpr (.inr (of_decide_eq_true e2)))⟩
        · refine miss _ (s2.trans s3) fun hm => ?_
          rcases (both_iff ds z c).mp hm with h | h
          · exact e (decide_eq_true h)
          · exact e2 (decide_eq_true h)
    · rintro H1 ⟨s1, hD⟩
      rw [List.length_map, List.take_length] at hD
      exact k H1 D s1 nD hD
theorem scLHd : FnScope ["_law_house_here", "_law_room", "_law_near_here", "_law_other"] ["_law_house_here", "_law_room"] (defScope sLawHand) := ⟨rfl, rfl, rfl, by decide +kernel, rfl, by decide +kernel, by decide +kernel⟩
theorem ok_lawhand {f fNe : Addr} {fd dNe : FuncData} (F : Fun K "_law_hand" "_law_hand" sLawHand f fd) (FNe : Fun K "_law_near" "_law_near" sLawNear fNe dNe) (bNe : Binds K dNe ["_law_house_here", "_law_room"] []) (gNe : mg "_law_near" = some (.ref fNe)) (GNe : FnOk P w K mg base CX0 1 fNe dNe ["_law_house_here", "_law_room"] spLawNear) : FnOk P w K mg base CX0 2 f fd ["_law_house_here", "_law_room"] spLawHand := by
  refine F.ok scLHd (fun vs H Q E h => ?_) (fun cdv A outer s H vs Q E hr h => ?_)
  · obtain ⟨t, zs, ds, ss, z, rfl, _⟩ := h
    rfl
  · obtain ⟨t, zs, ds, ss, z, rfl, hL, hg, hz, k⟩ := h
    refine ⟨_, pss_cons (ps_set (i := 2) scLHd.nd rfl (Or.inr rfl) (pe_call GNe hr (by rfl) gNe FNe.kp bNe .nil pass0 (pa_cons (pv 0) (pa_cons (pv 1) pa_nil))))
      (pss_one (ps_ret (pe_lc (own := [("_law_other", 3)]) (g := gName 3) (tt := tOr (tTest (tOp rEq (tVar 3) (tVar 1))) (tTest (tOp (rIn K false) (tVar 3) (tVar 2)))) rfl scLHd.nd (pi_list (pe_ix ix_tup (pv 0) pe_int (fun _ _ => rfl))) (blkOk_by (N := ["_law_house_here", "_law_room", "_law_near_here", "_law_other"]) (sc := defScope sLawHand) (by decide +kernel)) (fun _ _ _ _ _ => (pg_name (i := 3) scLHd.nd rfl (Or.inl rfl))) (fun _ _ _ _ _ => pts_one (PW.pt (pw_or (pt_cmpR op_eq (pv 3) (pv 1) (nomark _)) (pw_or1 (pt_cmpR op_in_seq (pv 3) (pv 2) (by rfl)))))) (fun _ _ _ _ _ => (pv 3))))), ?_⟩
    have e8 := hg.eight
    refine ⟨_, rfl, _, rfl, t, zs, ds, ss, z, rfl, hL, hg, hz, fun H1 p s1 np hp => ?_⟩
    obtain ⟨r, d, s', xs, us, h1, h2, h3, h4, h5, h6⟩ := hL.same s1
    refine ⟨_, rfl, t, _, 0, _, rfl, rfl, SqT.of h1, rfl, r, rfl, ⟨_, SqL.of h2⟩, fun D nD => ?_⟩
    refine it_any (walk_list (K := K) (a := r) (xs := zs.map V.str)) (fun j H' => Same H1 H' ∧ H' D = some (.lst ((handN (zs.take j) (lnk zs (both ds)) z).map V.str))) ⟨same_new nD, upd_same⟩ (fun j H' _ q => SqL.of (q.1 _ _ h2)) ?_ ?_
    · rintro j x H2 H3 hj ⟨s2, hD⟩ ⟨rfl, hx⟩
      obtain ⟨a, ea, rfl⟩ := str_at hx
      have ef : handN (zs.take (j + 1)) (lnk zs (both ds)) z = handN (zs.take j) (lnk zs (both ds)) z ++ (if (decide (a ∈ lnk zs (both ds) z) || decide (z = a)) = true then [a] else []) := filter_take ea
      have hit : (decide (a ∈ lnk zs (both ds) z) || decide (z = a)) = true → ∃ acc, H3 D = some (.lst acc) ∧ acc.length < sizeLine ∧ Same H1 (upd H3 D (.lst (acc ++ [.str a]))) ∧ (upd H3 D (.lst (acc ++ [.str a]))) D = some (.lst ((handN (zs.take (j + 1)) (lnk zs (both ds)) z).map V.str)) := fun e => by
        refine ⟨_, hD, small1000 (by rw [List.length_map]; have := List.length_filter_le (fun b => decide (b ∈ lnk zs (both ds) z) || decide (z = b)) (zs.take j); rw [List.length_take] at this; show (List.filter _ _).length ≤ 1000; omega), same_put s2 nD, ?_⟩
        rw [upd_same, ef, if_pos e, List.map_append]
        rfl
      refine ⟨rfl, _, rfl, _, rfl, rfl, _, rfl, ?_⟩
      by_cases e1 : a = z
      · rw [decide_eq_true (show V.str a = V.str z by rw [e1])]
        exact iteT ⟨_, rfl, hit (by rw [decide_eq_true e1.symm, Bool.or_true])⟩
      · rw [decide_eq_false (show ¬ V.str a = V.str z from fun y => e1 (V.str.inj y))]
        refine iteF ⟨_, rfl, _, rfl, p, _, rfl, .inl (SqL.of (s2 _ _ hp)), rfl, flat_all _, _, rfl, ?_⟩
        show if (inV (.str a) ((lnk zs (both ds) z).map V.str)) = true then _ else _
        rw [in_strs]
        refine ite2 (fun e => ?_) (fun e => ?_)
        · exact ⟨_, rfl, hit (by rw [e]; rfl)⟩
        · refine ⟨s2, ?_⟩
          rw [hD, ef, if_neg (by intro y; rw [Bool.or_eq_true] at y; rcases y with y | y; exact e y; exact e1 (of_decide_eq_true y).symm), List.append_nil]
    · rintro H2 ⟨s2, hD⟩
      rw [List.length_map, List.take_length] at hD
      exact k H2 D (s1.trans s2) (s1.free nD) hD
theorem scDraw : FnScope ["_law_box_here", "_law_many_here", "_law_cell", "_law_got"] ["_law_box_here", "_law_many_here"] (defScope sDraw) := ⟨rfl, rfl, rfl, by decide +kernel, rfl, by decide +kernel, by decide +kernel⟩
theorem ok_draw {f : Addr} {fd : FuncData} (F : Fun K "_law_draw" "_law_draw" sDraw f fd) (ml : mg "len" = none) (mx : mg "max" = none) : FnOk P w K mg base CX0 1 f fd ["_law_box_here", "_law_many_here"] spDraw := by
  refine F.ok scDraw (fun vs H Q E h => ?_) (fun cdv A outer s H vs Q E hr h => ?_)
  · obtain ⟨b, l, m, rfl, _⟩ := h
    rfl
  · obtain ⟨b, l, m, rfl, ⟨ns, i, c, s0, t, hb, hl, hi, hc, hs0, hs1⟩, hm, hm2, k⟩ := h
    refine ⟨_, pss_cons (ps_mid (ps_if (PW.pt (pw_and (pt_cmpR op_lt (pe_ix ix_list (pv 0) pe_int (fun _ _ => rfl)) pe_int (nomark _))
          (pw_and1 (pt_cmpR op_lt (pe_ix ix_list (pv 0) pe_int (fun _ _ => rfl)) (pe_callB call_len_seq (by rfl) ml PySem.boot_len (pa_cons (pe_ix ix_list (pv 0) pe_int (fun _ _ => rfl)) pa_nil)) (nomark _)))))
        (pss_cons (ps_set (i := 2) scDraw.nd rfl (Or.inl rfl) (pe_ix ix_list (pe_ix ix_list (pv 0) pe_int (fun _ _ => rfl)) (pe_ix ix_list (pv 0) pe_int (fun _ _ => rfl)) (fun _ _ => rfl)))
        (pss_cons (ps_asg (pe_op op_add (pe_ix ix_list (pv 0) pe_int (fun _ _ => rfl)) pe_int) (pg_sub (pv 0) pe_int set_list))
        (pss_cons (ps_asg (pe_callB (call_max2 rfl) (by rfl) mx (by decide +kernel) (pa_cons pe_int (pa_cons (pe_op op_sub (pv 2) (pe_op op_pow pe_int pe_int)) pa_nil))) (pg_sub (pv 0) pe_int set_list))
        (pss_one (ps_asg (pe_op op_mod (pe_op op_add (pe_op op_add (pe_op op_mul (pe_ix ix_list (pv 0) pe_int (fun _ _ => rfl)) pe_int) (pe_op op_mul (pe_op op_mod (pv 2) pe_int) pe_int)) pe_int) pe_int) (pg_sub (pv 0) pe_int set_list))))))
        pss_nil))
      (pss_cons (ps_if (pt_cmpR op_gt (pe_ix ix_list (pv 0) pe_int (fun _ _ => rfl)) pe_int (nomark _))
        (pss_cons (ps_set (i := 3) scDraw.nd rfl (Or.inl rfl) (pe_op op_mod (pe_ix ix_list (pv 0) pe_int (fun _ _ => rfl)) (pv 1)))
        (pss_cons (ps_asg (pe_op op_fdivW (pe_ix ix_list (pv 0) pe_int (fun _ _ => rfl)) (pv 1)) (pg_sub (pv 0) pe_int set_list))
        (pss_one (ps_ret (pv 3)))))
        pss_nil)
      (pss_cons (ps_asg (pe_op op_add (pe_ix ix_list (pv 0) pe_int (fun _ _ => rfl)) pe_int) (pg_sub (pv 0) pe_int set_list))
      (pss_cons (ps_asg (pe_op op_mod (pe_op op_add (pe_op op_add (pe_op op_pow (pe_ix ix_list (pv 0) pe_int (fun _ _ => rfl)) pe_int) (pe_op op_mul pe_int (pe_ix ix_list (pv 0) pe_int (fun _ _ => rfl)))) pe_int) pe_int) (pg_sub (pv 0) pe_int set_list))
      (pss_one (ps_ret (pe_op op_mod (pe_op op_fdiv (pe_ix ix_list (pv 0) pe_int (fun _ _ => rfl)) pe_int) (pv 1))))))), ?_⟩
    have nlb : l ≠ b := Box.ne hb hl
    have mk : ∀ (i c s0 t : Int), 0 ≤ i → 0 ≤ c → 0 ≤ s0 → s0 < 2147483629 → Box (upd H b (.lst (bxv l i c s0 t))) b l := fun i c s0 t h1 h2 h3 h4 =>
      ⟨ns, i, c, s0, t, upd_same, by rw [upd_ne nlb]; exact hl, h1, h2, h3, h4⟩
    refine ⟨fun σ H1 => ∃ (y : Option V) (i c s0 : Int), σ = [some (.ref b), some (.int m), y, none] ∧ H1 = upd H b (.lst (bxv l i c s0 t)) ∧ 0 ≤ i ∧ 0 ≤ c ∧ 0 ≤ s0 ∧ s0 < 2147483629, ?_, ?_⟩
    · refine ⟨_, rfl, b, _, _, _, rfl, rfl, SqL.of hb, rfl, _, _, rfl, rfl, _, rfl, ite2 (fun _ => ?_) (fun _ => ?_)⟩
      · refine ⟨_, rfl, b, _, _, _, rfl, rfl, SqL.of hb, rfl, _, rfl, b, _, _, _, rfl, rfl, SqL.of hb, rfl, l, _, rfl, .inl (SqL.of hl), _, _, rfl, rfl, _, rfl, ite2 (fun e => ?_) (fun _ => ?_)⟩
        · have e1 : i < ((ns.map V.int).length : Int) := of_decide_eq_true e
          rw [List.length_map] at e1
          have hx : atI (ns.map V.int) i = some (.int (ns.getD i.toNat 0)) := by
            have e2 : ((i.toNat : Nat) : Int) = i := Int.toNat_of_nonneg hi
            have e3 : i.toNat < ns.length := by omega
            have e4 : (ns.map V.int)[i.toNat]? = some (.int (ns.getD i.toNat 0)) := by
              rw [List.getElem?_map, List.getElem?_eq_getElem e3]
              simp [e3]
            have e5 := atI_nat e4
            rw [e2] at e5
            exact e5
          refine ⟨_, rfl, b, _, _, _, rfl, rfl, SqL.of hb, rfl, _, rfl, b, _, _, _, rfl, rfl, SqL.of hb, rfl, l, _, _, _, rfl, rfl, SqL.of hl, hx, ?_⟩
          refine ⟨_, rfl, b, _, _, _, rfl, rfl, SqL.of hb, rfl, _, _, rfl, rfl, _, rfl, b, _, _, _, rfl, rfl, hb, rfl, ?_⟩
          refine ⟨_, rfl, _, _, rfl, rfl, ⟨by decide, by decide, by decide⟩, _, _, rfl, rfl, _, _, rfl, _, rfl, b, _, _, _, rfl, rfl, upd_same, rfl, ?_⟩
          refine ⟨_, rfl, b, _, _, _, rfl, rfl, SqL.of upd_same, rfl, _, _, rfl, rfl, .inr ⟨by decide, by decide⟩, _, rfl, _, _, rfl, rfl, (by show (0 : Int) < 2147483629; decide), _, _, rfl, rfl, .inr ⟨by decide, by decide⟩, _, _, rfl, rfl, _, _, rfl, rfl, _, _, rfl, rfl, (by show (0 : Int) < 2147483629; decide), _, rfl, b, _, _, _, rfl, rfl, upd_same, rfl, ?_⟩
          refine ⟨_, _, _, _, rfl, by rw [upd_upd, upd_upd]; rfl, by omega, ?_, Int.emod_nonneg _ (by decide), Int.emod_lt_of_pos _ (by decide)⟩
          split <;> omega
        · exact ⟨none, i, c, s0, rfl, (upd_id hb).symm, hi, hc, hs0, hs1⟩
      · exact ⟨none, i, c, s0, rfl, (upd_id hb).symm, hi, hc, hs0, hs1⟩
    · rintro σ H1 ⟨y, i, c, s0, rfl, rfl, hi, hc, hs0, hs1⟩
      have hm3 : CDivW c m := wide_div hm hm2 (by decide) (by decide)
      refine ⟨_, rfl, b, _, _, _, rfl, rfl, SqL.of upd_same, rfl, _, _, rfl, rfl, _, rfl, ite2 (fun _ => ?_) (fun _ => ?_)⟩
      · refine ⟨_, rfl, b, _, _, _, rfl, rfl, SqL.of upd_same, rfl, _, rfl, _, _, rfl, rfl, hm, ?_⟩
        refine ⟨_, rfl, b, _, _, _, rfl, rfl, SqL.of upd_same, rfl, _, rfl, _, _, rfl, rfl, hm3, _, rfl, b, _, _, _, rfl, rfl, upd_same, rfl, ?_⟩
        refine ⟨_, rfl, ?_⟩
        rw [upd_upd]
        exact k _ _ (Int.emod_nonneg _ (by omega)) (Int.emod_lt_of_pos _ hm) Sav.upd (mk _ _ _ _ hi (Int.ediv_nonneg hc (by omega)) hs0 hs1)
      · refine ⟨_, rfl, b, _, _, _, rfl, rfl, SqL.of upd_same, rfl, _, _, rfl, rfl, _, rfl, b, _, _, _, rfl, rfl, upd_same, rfl, ?_⟩
        refine ⟨_, rfl, b, _, _, _, rfl, rfl, SqL.of upd_same, rfl, _, _, rfl, rfl, ⟨by decide, by decide, ?_⟩, _, rfl, b, _, _, _, rfl, rfl, SqL.of upd_same, rfl, _, _, rfl, rfl, .inl ⟨by decide, by decide⟩, _, _, rfl, rfl, _, _, rfl, rfl, _, _, rfl, rfl, (by show (0 : Int) < 2147483629; decide), _, rfl, b, _, _, _, rfl, rfl, upd_same, rfl, ?_⟩
        · omega
        · refine ⟨_, rfl, b, _, _, _, rfl, rfl, SqL.of upd_same, rfl, _, _, rfl, rfl, ⟨by decide, by decide⟩, _, rfl, _, _, rfl, rfl, hm, ?_⟩
          rw [upd_upd, upd_upd]
          exact k _ _ (Int.emod_nonneg _ (by omega)) (Int.emod_lt_of_pos _ hm) Sav.upd (mk _ _ _ _ hi hc (Int.emod_nonneg _ (by decide)) (Int.emod_lt_of_pos _ (by decide)))
theorem scBox : FnScope ["_law_script"] ["_law_script"] (defScope sBox) := ⟨rfl, rfl, rfl, by decide +kernel, rfl, by decide +kernel, by decide +kernel⟩
theorem ok_box {f : Addr} {fd : FuncData} (F : Fun K "_law_box" "_law_box" sBox f fd) (ml : mg "list" = none) : FnOk P w K mg base CX0 1 f fd ["_law_script"] (spBox K) := by
  refine F.ok scBox (fun vs H Q E h => ?_) (fun cdv A outer s H vs Q E hr h => ?_)
  · obtain ⟨a, ns, rfl, _⟩ := h
    rfl
  · obtain ⟨a, ns, rfl, hS, k⟩ := h
    refine ⟨_, pss_one (ps_ret (pe_lst (pa_cons (pe_callTy call_list_of (by rfl) ml (by decide +kernel) (pa_cons (pe_slice sl_list (pv 0) po_none (po_some pe_int)) pa_nil)) (pa_cons pe_int (pa_cons pe_int (pa_cons pe_int (pa_cons pe_int pa_nil))))))), ?_⟩
    obtain ⟨ms, em⟩ := cut_ints ns none (some 63)
    refine ⟨_, rfl, 63, rfl, a, _, rfl, hS, fun c nc => ?_⟩
    refine ⟨c, _, rfl, .inl (SqL.of upd_same), fun l nl => ?_⟩
    refine ⟨by show 5 ≤ sizeLine; decide, fun b nb => ?_⟩
    have nlb : l ≠ b := ne_of_none upd_same nb
    have s1 := same_new (o := .lst (cutV (ns.map V.int) none (some 63))) nc
    have s2 := same_new (o := .lst (cutV (ns.map V.int) none (some 63))) nl
    have s3 := same_new (o := .lst [V.ref l, .int 0, .int 0, .int 29, .int 0]) nb
    have s12 := s1.trans s2
    refine k _ b l (s12.trans s3) (s12.free nb) (s1.free nl) ⟨ms, 0, 0, 29, 0, upd_same, ?_, by decide, by decide, by decide, by decide⟩
    rw [upd_ne nlb, upd_same, em]
theorem scOf : FnScope ["_law_box_here", "_law_some"] ["_law_box_here", "_law_some"] (defScope sOf) := ⟨rfl, rfl, rfl, by decide +kernel, rfl, by decide +kernel, by decide +kernel⟩
theorem ok_of {f fD : Addr} {fd fdD : FuncData} (F : Fun K "_law_of" "_law_of" sOf f fd) (FD : Fun K "_law_draw" "_law_draw" sDraw fD fdD) (bD : Binds K fdD ["_law_box_here", "_law_many_here"] []) (gD : mg "_law_draw" = some (.ref fD)) (ml : mg "len" = none) (mx : mg "max" = none) :
    FnOk P w K mg base CX0 2 f fd ["_law_box_here", "_law_some"] spOf := by
  have GD : FnOk P w K mg base CX0 1 fD fdD ["_law_box_here", "_law_many_here"] spDraw := ok_draw FD ml mx
  refine F.ok scOf (fun vs H Q E h => ?_) (fun cdv A outer s H vs Q E hr h => ?_)
  · obtain ⟨b, l, v, rfl, _⟩ := h
    rfl
  · obtain ⟨b, l, v, rfl, hB, h⟩ := h
    refine ⟨_, pss_one (ps_ret (pe_ix ix_seq (pv 1) (pe_call GD hr (by rfl) gD FD.kp bD .nil pass0 (pa_cons (pv 0) (pa_cons (pe_callB call_len (by rfl) ml PySem.boot_len (pa_cons (pv 1) pa_nil)) pa_nil))) (fun _ _ => rfl))), ?_⟩
    rcases h with ⟨p, xs, rfl, npb, hp, h0, h1, k⟩ | ⟨z, rfl, h0, h1, k⟩
    · refine ⟨_, rfl, _, rfl, _, rfl, _, xs.length, rfl, .inl ⟨xs, SqL.of hp, rfl⟩, b, l, _, rfl, hB, by omega, small h1, fun r H' hr0 hr1 sv hB' => ?_⟩
      obtain ⟨x, hx, ha⟩ := at_some hr0 hr1
      exact .inl ⟨p, xs, r, x, rfl, rfl, SqL.of (sv _ _ npb hp), ha, k x H' hx sv hB'⟩
    · refine ⟨_, rfl, _, rfl, _, rfl, _, z.length, rfl, ⟨Nat.le_of_lt (small1000 h1), rfl⟩, b, l, _, rfl, hB, by omega, small h1, fun r H' hr0 hr1 sv hB' => ?_⟩
      have el : z.cps.toList.length = z.length := by simp [Str.length]
      obtain ⟨c, hc, ha⟩ := at_some (xs := z.cps.toList) hr0 (by rw [el]; exact hr1)
      exact .inr (.inr ⟨z, r, c, rfl, rfl, Nat.le_of_lt (small1000 h1), ha, k c H' hc sv hB'⟩)
theorem scNames : FnScope ["_law_box_here", "_law_many_here", "_law_letters", "_law_start", "_law_step", "_law_tail", "_law_pick", "_law_found", "_law_k", "_law_sign"] ["_law_box_here", "_law_many_here"] (defScope sNames) := ⟨rfl, rfl, rfl, by decide +kernel, rfl, by decide +kernel, by decide +kernel⟩
theorem ok_names {f fD fO : Addr} {fd fdD fdO : FuncData} (F : Fun K "_law_names" "_law_names" sNames f fd) (FD : Fun K "_law_draw" "_law_draw" sDraw fD fdD) (bD : Binds K fdD ["_law_box_here", "_law_many_here"] []) (gD : mg "_law_draw" = some (.ref fD))
    (FO : Fun K "_law_of" "_law_of" sOf fO fdO) (bO : Binds K fdO ["_law_box_here", "_law_some"] []) (gO : mg "_law_of" = some (.ref fO)) (ml : mg "len" = none) (mx : mg "max" = none) (mr : mg "range" = none) :
    FnOk P w K mg base CX0 3 f fd ["_law_box_here", "_law_many_here"] spNames := by
  have GD : FnOk P w K mg base CX0 1 fD fdD ["_law_box_here", "_law_many_here"] spDraw := ok_draw FD ml mx
  have GO : FnOk P w K mg base CX0 2 fO fdO ["_law_box_here", "_law_some"] spOf := ok_of FO FD bD gD ml mx
  refine F.ok scNames (fun vs H Q E h => ?_) (fun cdv A outer s H vs Q E hr h => ?_)
  · obtain ⟨b, l, m, rfl, _⟩ := h
    rfl
  · obtain ⟨b, l, m, rfl, hB, hm0, hm1, k⟩ := h
    have hr1 : Room 1 _ := hr.mono (by decide)
    refine ⟨_, pss_cons (ps_set (i := 2) scNames.nd rfl (Or.inl rfl) pe_str)
      (pss_cons (ps_par (i := 3) (j := 4) (by rfl) scNames.nd rfl rfl (by decide) rfl rfl
        (pa_cons (pe_call GD hr1 (by rfl) gD FD.kp bD .nil pass0 (pa_cons (pv 0) (pa_cons pe_int pa_nil)))
        (pa_cons (pe_call GO hr (by rfl) gO FO.kp bO .nil pass0 (pa_cons (pv 0) (pa_cons (pe_lst (pa_cons pe_int (pa_cons pe_int (pa_cons pe_int (pa_cons pe_int (pa_cons pe_int (pa_cons pe_int pa_nil))))))) pa_nil))) pa_nil)) (by rfl))
      (pss_cons (ps_par (i := 5) (j := 6) (by rfl) scNames.nd rfl rfl (by decide) rfl rfl
        (pa_cons (pe_call GO hr (by rfl) gO FO.kp bO .nil pass0 (pa_cons (pv 0) (pa_cons (pe_lst (pa_cons pe_str (pa_cons pe_str (pa_cons pe_str (pa_cons pe_str (pa_cons pe_str pa_nil)))))) pa_nil)))
        (pa_cons (pe_call GD hr1 (by rfl) gD FD.kp bD .nil pass0 (pa_cons (pv 0) (pa_cons pe_int pa_nil))) pa_nil)) (by rfl))
      (pss_cons (ps_set (i := 7) scNames.nd rfl (Or.inl rfl) (pe_lst pa_nil))
      (pss_cons (ps_for PassesOwn.never rfl (pi_range1 (by rfl) mr (pa_cons (pv 1) pa_nil)) (pg_name (i := 8) scNames.nd rfl (Or.inl rfl))
        (pss_cons (ps_set (i := 9) scNames.nd rfl (Or.inl rfl) (pe_ix ix_str (pv 2) (pe_op op_mod (pe_op op_add (pv 3) (pe_op op_mul (pv 4) (pv 8))) pe_int) (fun _ _ => rfl)))
        (pss_one (ps_expr (pe_bm PySem.F.plainAttrs_list PySem.F.slot_list_append PySem.F.type_list_append mt_append (pv 7)
          (pa_cons (pe_ix ix_list (pe_lst (pa_cons (pe_op op_add_str (pv 9) (pv 5)) (pa_cons (pe_op op_add_str (pv 5) (pv 9)) (pa_cons (pe_op op_add_str (pv 9) (pe_op op_mul01 (pv 5) (pe_op op_mod (pv 8) pe_int))) pa_nil)))) (pv 6) (fun _ _ => rfl)) pa_nil))))))
      (pss_one (ps_ret (pv 7))))))), ?_⟩
    refine ⟨_, rfl, b, l, 26, rfl, hB, by decide, by decide, fun a H1 ha0 ha1 v1 hB1 => ?_⟩
    refine ⟨_, rfl, by show 6 ≤ sizeLine; decide, fun q1 nq1 => ?_⟩
    refine ⟨b, l, _, rfl, hB1.new nq1, .inl ⟨q1, _, rfl, hB1.b1 nq1, upd_same, by decide, by decide, fun x H2 hx v2 hB2 => ?_⟩⟩
    have hc : ∃ c : Int, x = .int c ∧ (c = 1 ∨ c = 3 ∨ c = 5 ∨ c = 7 ∨ c = 9 ∨ c = 11) := by
      simp only [List.mem_cons, List.mem_nil_iff, or_false] at hx
      rcases hx with rfl | rfl | rfl | rfl | rfl | rfl <;> exact ⟨_, rfl, by decide⟩
    obtain ⟨c, rfl, hc⟩ := hc
    refine ⟨_, _, rfl, ?_⟩
    refine ⟨_, rfl, by show 5 ≤ sizeLine; decide, fun q2 nq2 => ?_⟩
    refine ⟨b, l, _, rfl, hB2.new nq2, .inl ⟨q2, _, rfl, hB2.b1 nq2, upd_same, by decide, by decide, fun x H3 hx v3 hB3 => ?_⟩⟩
    have ht : ∃ t : Str, x = .str t ∧ Tail t := by
      simp only [List.mem_cons, List.mem_nil_iff, or_false] at hx
      rcases hx with rfl | rfl | rfl | rfl | rfl <;> exact ⟨_, rfl, by decide +kernel, by decide +kernel, by decide +kernel, by decide +kernel, by decide +kernel, by decide +kernel, by decide +kernel, by decide +kernel, by decide +kernel, by decide +kernel⟩
    obtain ⟨t, rfl, ht⟩ := ht
    refine ⟨_, rfl, b, l, 3, rfl, hB3, by decide, by decide, fun p H4 hp0 hp1 v4 hB4 => ?_⟩
    refine ⟨_, _, rfl, ?_⟩
    refine ⟨Nat.zero_le _, fun g ng => ?_⟩
    have sv0 := v1.trans ((Sav.of (same_new nq1)).trans (v2.trans ((Sav.of (same_new nq2)).trans (v3.trans v4))))
    have ngb := hB4.b1 ng
    have ngl := hB4.l1 ng
    have ngH : H g = none := sv0.free ngb ng
    have sv := sv0.trans (Sav.of (same_new (o := .lst []) ng))
    refine ⟨_, rfl, m, rfl, by omega, by omega, for_range (n := m.toNat) (fun i σ H' => ∃ y8 y9 : Option V, σ = [some (.ref b), some (.int m), some (.str abc), some (.int a), some (.int c), some (.str t), some (.int p), some (.ref g), y8, y9] ∧ Sav b H H' ∧ Box H' b l ∧ H' g = some (.lst ((nms a c t p i).map V.str)))
      ⟨none, none, rfl, sv, hB4.new ng, upd_same⟩ ?_ ?_⟩
    · rintro i σ H1 hi ⟨y8, y9, rfl, s1, hB1, hg⟩
      have hc1 : -(2 ^ 64) < c ∧ c < 2 ^ 64 := by omega
      refine ⟨_, rfl, _, rfl, _, rfl, _, rfl, _, _, rfl, rfl, .inl hc1, _, _, rfl, rfl, _, _, rfl, rfl, (by show (0 : Int) < 26; decide), _, _, _, rfl, rfl, by decide +kernel, sgn_at a c i, ?_⟩
      have tl := tail_len (a := a) (c := c) (i := i) ht
      have hk2 : (0 + (i : Int)) % 2 = 0 ∨ (0 + (i : Int)) % 2 = 1 := by omega
      refine ⟨_, rfl, .inl ⟨rfl, _, SqL.of hg⟩, ?_⟩
      refine ⟨_, rfl, _, rfl, _, _, rfl, rfl, tl.1, _, rfl, _, rfl, _, _, rfl, rfl, tl.2, _, rfl, _, rfl, _, rfl, _, _, rfl, rfl, (by show (0 : Int) < 2; decide), _, _, rfl, rfl, hk2, _, _, rfl, rfl, ?_, ?_⟩
      · split
        · exact tl.1
        · show 1 + 0 ≤ sizeLine
          decide
      · refine ⟨by show 3 ≤ sizeLine; decide, fun q nq => ?_⟩
        have ngq : g ≠ q := ne_of_none hg nq
        refine ⟨_, rfl, q, _, p, _, rfl, rfl, SqL.of upd_same, pick3 hp0 hp1, ?_⟩
        refine ⟨g, _, _, rfl, rfl, by rw [upd_ne ngq]; exact hg, ?_, ?_⟩
        · rw [List.length_map, nms_len]
          exact small1000 (by omega)
        · refine ⟨_, _, rfl, fun x o n hx => ?_, (hB1.new nq).put ngb ngl, ?_⟩
          · have nx : x ≠ g := fun e => by
              rw [e, ngH] at hx
              cases hx
            rw [upd_ne nx]
            exact same_new nq _ _ (s1 x o n hx)
          · rw [upd_same, nms_succ, List.map_append]
            rfl
    · rintro σ H1 ⟨y8, y9, rfl, s1, hB1, hg⟩
      exact ⟨_, rfl, k H1 g _ s1 hB1 ngH hg (nms_len _ _ _ _ _) ⟨nms_nodup hc (by omega), nms_all ht _⟩ (nms_lens ht _)⟩
end
end Dk
namespace Dk
open PySem L2
section
variable {P : Program} {w : World} {K : PySem.W.Frag} {mg : Str → Option Value} {base : Heap}
theorem scLRn : FnScope ["_law_box_here", "_law_house_here", "_law_limit", "_law_size", "_law_walk", "_law_k", "_law_half"] ["_law_box_here", "_law_house_here", "_law_limit"] (defScope sLawRound) := ⟨rfl, rfl, rfl, by decide +kernel, rfl, by decide +kernel, by decide +kernel⟩
theorem ok_lawround {f fDr fOf fNe fHa : Addr} {fd dDr dOf dNe dHa : FuncData} (F : Fun K "_law_round" "_law_round" sLawRound f fd) (FDr : Fun K "_law_draw" "_law_draw" sDraw fDr dDr) (bDr : Binds K dDr ["_law_box_here", "_law_many_here"] []) (gDr : mg "_law_draw" = some (.ref fDr)) (GDr : FnOk P w K mg base CX0 1 fDr dDr ["_law_box_here", "_law_many_here"] spDraw) (FOf : Fun K "_law_of" "_law_of" sOf fOf dOf) (bOf : Binds K dOf ["_law_box_here", "_law_some"] []) (gOf : mg "_law_of" = some (.ref fOf)) (GOf : FnOk P w K mg base CX0 2 fOf dOf ["_law_box_here", "_law_some"] spOf) (FNe : Fun K "_law_near" "_law_near" sLawNear fNe dNe) (bNe : Binds K dNe ["_law_house_here", "_law_room"] []) (gNe : mg "_law_near" = some (.ref fNe)) (GNe : FnOk P w K mg base CX0 1 fNe dNe ["_law_house_here", "_law_room"] spLawNear) (FHa : Fun K "_law_hand" "_law_hand" sLawHand fHa dHa) (bHa : Binds K dHa ["_law_house_here", "_law_room"] []) (gHa : mg "_law_hand" = some (.ref fHa)) (GHa : FnOk P w K mg base CX0 2 fHa dHa ["_law_house_here", "_law_room"] spLawHand) (m_range : mg "range" = none) (m_tuple : mg "tuple" = none) : FnOk P w K mg base CX0 3 f fd ["_law_box_here", "_law_house_here", "_law_limit"] spLawRound := by
  refine F.ok scLRn (fun vs H Q E h => ?_) (fun cdv A outer s H vs Q E hr h => ?_)
  · obtain ⟨b, l, t, m, zs, ds, ss, rfl, _⟩ := h
    rfl
  · obtain ⟨b, l, t, m, zs, ds, ss, rfl, hB, hL, hg, m1, m6, k⟩ := h
    refine ⟨_, pss_cons (ps_set (i := 3) scLRn.nd rfl (Or.inl rfl) (pe_op op_add pe_int (pe_call GDr (hr.mono (by decide)) (by rfl) gDr FDr.kp bDr .nil pass0 (pa_cons (pv 0) (pa_cons (pv 2) pa_nil)))))
      (pss_cons (ps_set (i := 4) scLRn.nd rfl (Or.inl rfl) (pe_lst (pa_cons (pe_call GOf (hr.mono (by decide)) (by rfl) gOf FOf.kp bOf .nil pass0 (pa_cons (pv 0) (pa_cons (pe_ix ix_tup (pv 1) pe_int (fun _ _ => rfl)) pa_nil))) pa_nil)))
      (pss_cons (ps_for PassesOwn.never rfl (pi_range1 (by rfl) m_range (pa_cons (pe_op op_sub (pv 3) pe_int) pa_nil)) (pg_name (i := 5) scLRn.nd rfl (Or.inl rfl))
      (pss_one (ps_expr (pe_bm PySem.F.plainAttrs_list PySem.F.slot_list_append PySem.F.type_list_append mt_append (pv 4) (pa_cons (pe_call GOf (hr.mono (by decide)) (by rfl) gOf FOf.kp bOf .nil pass0 (pa_cons (pv 0) (pa_cons (pe_op op_cat (pe_lst (pa_cons (pe_ix ix_list (pv 4) (pe_un un_neg pe_int) (fun _ _ => rfl)) pa_nil)) (pe_call GNe (hr.mono (by decide)) (by rfl) gNe FNe.kp bNe .nil pass0 (pa_cons (pv 1) (pa_cons (pe_ix ix_list (pv 4) (pe_un un_neg pe_int) (fun _ _ => rfl)) pa_nil)))) pa_nil))) pa_nil)))))
      (pss_cons (ps_if (pt_cmpR op_in_seq (pe_ix ix_list (pv 4) pe_int (fun _ _ => rfl)) (pe_call GHa hr (by rfl) gHa FHa.kp bHa .nil pass0 (pa_cons (pv 1) (pa_cons (pe_ix ix_list (pv 4) (pe_un un_neg pe_int) (fun _ _ => rfl)) pa_nil))) (by rfl)) (pss_one (ps_ret (pe_callTy call_tuple_of (by rfl) m_tuple (by decide +kernel) (pa_cons (pv 4) pa_nil)))) pss_nil)
      (pss_cons (ps_set (i := 6) scLRn.nd rfl (Or.inl rfl) (pe_slice sl_list (pv 4) po_none (po_some (pe_op op_add (pe_op op_fdiv (pv 3) pe_int) pe_int))))
      (pss_one (ps_ret (pe_callTy call_tuple_of (by rfl) m_tuple (by decide +kernel) (pa_cons (pe_op op_cat (pv 6) (pe_revL (pe_slice sl_list (pv 6) (po_some pe_int) (po_some (pe_un un_neg pe_int))))) pa_nil)))))))), ?_⟩
    have e8 := hg.eight
    have z1 := hg.one
    refine ⟨_, rfl, _, rfl, b, l, m, rfl, hB, by omega, Nat.lt_of_le_of_lt (show m.natAbs ≤ 6 by omega) (by decide), fun q0 H1 a0 a1 v1 hB1 => ?_⟩
    refine ⟨_, _, rfl, rfl, ?_⟩
    have hL1 := hL.sav hB v1
    obtain ⟨r, d, s', xs, us, n1, n2, n3, h1, h2, h3, h4, h5, h6⟩ := id hL1
    refine ⟨_, rfl, _, rfl, t, _, 0, _, rfl, rfl, SqT.of h1, rfl, b, l, .ref r, rfl, hB1, .inl ⟨r, _, rfl, n1, h2, by rw [List.length_map]; omega, by rw [List.length_map]; omega, fun x H2 hx v2 hB2 => ?_⟩⟩
    obtain ⟨w0, hw0, rfl⟩ := str_of hx
    refine ⟨by show 1 ≤ sizeLine; decide, fun Wk nW => ?_⟩
    have nWb := hB2.b1 nW
    have nWl := hB2.l1 nW
    have v12 := v1.trans v2
    have nW0 : H Wk = none := v12.free nWb nW
    refine ⟨_, rfl, _, _, rfl, rfl, _, rfl, by omega, by omega, ?_⟩
    obtain ⟨n, en⟩ : ∃ n : Nat, q0 = (n : Nat) := ⟨q0.toNat, by omega⟩
    subst en
    rw [show (1 + ((n : Nat) : Int) - 1).toNat = n by omega]
    refine for_range (n := n) (fun i σ H' => ∃ y5 ws, σ = [some (.ref b), some (.ref t), some (.int m), some (.int (1 + ((n : Nat) : Int))), some (.ref Wk), y5, none] ∧ Sav b H H' ∧ Box H' b l ∧ H' Wk = some (.lst (ws.map V.str)) ∧ ws.length = i + 1 ∧ Walk1 zs (lnk zs (both ds)) ws) ⟨_, [w0], rfl, v12.put nW0, hB2.put nWb nWl, upd_same, rfl, Walk1.one hw0⟩ ?_ ?_
    · rintro i σ H3 hi ⟨y5, ws, rfl, v3, hB3, hW, wl, hw⟩
      have hL3 := hL.sav hB v3
      have el : ws[ws.length - 1]? = some (ws[ws.length - 1]'(by omega)) := List.getElem?_eq_getElem (by omega)
      generalize ws[ws.length - 1]'(by omega) = x at el
      have xm := hw.1 x (List.mem_of_getElem? el)
      have eL : (ws.map V.str)[(ws.map V.str).length - 1]? = some (.str x) := by rw [List.length_map, List.getElem?_map, el]; rfl
      refine ⟨_, rfl, .inl ⟨rfl, _, SqL.of hW⟩, _, rfl, _, rfl, 1, rfl, Wk, _, -1, _, rfl, rfl, SqL.of hW, at_last eL, by show 1 ≤ sizeLine; decide, fun c nc => ?_⟩
      have s4 := same_new (o := .lst [V.str x]) nc
      have hW4 := s4 _ _ hW
      refine ⟨_, rfl, _, rfl, 1, rfl, Wk, _, -1, _, rfl, rfl, SqL.of hW4, at_last eL, t, zs, ds, ss, x, rfl, (hL3.same s4).of, hg, xm, fun H5 p s5 np hp => ?_⟩
      have s45 := s4.trans s5
      refine ⟨c, p, _, _, rfl, rfl, s5 _ _ upd_same, hp, Nat.le_of_lt (small1000 (by rw [List.length_map]; have := lnk_len zs (both ds) x; show 1 + _ ≤ 1000; omega)), fun g ng => ?_⟩
      have s6 := s45.trans (same_new (o := .lst ([V.str x] ++ (lnk zs (both ds) x).map V.str)) ng)
      have hB6 := hB3.same s6
      have ngb := (hB3.same s45).b1 ng
      refine ⟨b, l, .ref g, rfl, hB6, .inl ⟨g, _, rfl, ngb, upd_same, by show 0 < _ + 1; omega, by rw [List.length_append, List.length_map]; have := lnk_len zs (both ds) x; show 1 + _ ≤ 1000; omega, fun y H7 hy v7 hB7 => ?_⟩⟩
      have hW7 := v7 _ _ nWb (s6 _ _ hW)
      have v37 := (v3.trans (Sav.of s6)).trans v7
      obtain ⟨y', ey, hy', ha⟩ : ∃ y', y = V.str y' ∧ y' ∈ zs ∧ adj (lnk zs (both ds)) x y' := by
        rcases List.mem_append.mp hy with q | q
        · exact ⟨x, List.mem_singleton.mp q, xm, .inr rfl⟩
        · obtain ⟨z, hz, rfl⟩ := str_of q
          exact ⟨z, rfl, (lnk_mem.mp hz).1, .inl hz⟩
      subst ey
      refine ⟨Wk, _, _, rfl, rfl, hW7, small1000 (by rw [List.length_map]; omega), ?_⟩
      refine ⟨_, ws ++ [y'], rfl, v37.put nW0, hB7.put nWb nWl, by rw [upd_same, List.map_append]; rfl, by rw [List.length_append, wl]; rfl, hw.snoc el hy' ha⟩
    · rintro σ H3 ⟨y5, ws, rfl, v3, hB3, hW, wl, hw⟩
      have hL3 := hL.sav hB v3
      have el : ws[ws.length - 1]? = some (ws[ws.length - 1]'(by omega)) := List.getElem?_eq_getElem (by omega)
      generalize ws[ws.length - 1]'(by omega) = x at el
      have e0 : ws[0]? = some (ws[0]'(by omega)) := List.getElem?_eq_getElem (by omega)
      generalize ws[0]'(by omega) = y at e0
      have xm := hw.1 x (List.mem_of_getElem? el)
      have ym := hw.1 y (List.mem_of_getElem? e0)
      have eL : (ws.map V.str)[(ws.map V.str).length - 1]? = some (.str x) := by rw [List.length_map, List.getElem?_map, el]; rfl
      refine ⟨_, rfl, Wk, _, 0, _, rfl, rfl, SqL.of hW, at_str e0 rfl, _, rfl, _, rfl, 1, rfl, Wk, _, -1, _, rfl, rfl, SqL.of hW, at_last eL, t, zs, ds, ss, x, rfl, hL3.of, hg, xm, fun H4 p s4 np hp => ?_⟩
      have hW4 := s4 _ _ hW
      have v4 := v3.trans (Sav.of s4)
      have hB4 := hB3.same s4
      refine ⟨p, _, rfl, .inl (SqL.of hp), rfl, flat_all _, _, rfl, ?_⟩
      show if (inV (.str y) ((handN zs (lnk zs (both ds)) x).map V.str)) = true then _ else _
      rw [in_strs]
      refine ite2 (fun e => ?_) (fun e => ?_)
      · have hc := (hand_iff.mp (of_decide_eq_true e)).2
        refine ⟨_, rfl, Wk, _, rfl, .inl ⟨SqL.of hW4, fun T nT => ?_⟩⟩
        have nTb := hB4.b1 nT
        refine k _ T ws (v4.trans (Sav.of (same_new nT))) (hB4.new nT) (v4.free nTb nT) upd_same (walk_rnd hw (by omega) (by omega) el e0 hc) (by omega)
      · have n1' : 1 ≤ n := by
          rcases Nat.eq_zero_or_pos n with z | z
          · exfalso
            apply e
            have e1 : ws.length - 1 = 0 := by omega
            rw [e1] at el
            have exy : x = y := Option.some.inj (el.symm.trans e0)
            exact decide_eq_true (hand_iff.mpr ⟨ym, .inr exy⟩)
          · exact z
        have eh : (1 + ((n : Nat) : Int)) / 2 + 1 = (((1 + n) / 2 + 1 : Nat) : Int) := by omega
        refine ⟨_, rfl, _, rfl, _, _, rfl, rfl, ⟨by decide, by decide⟩, _, _, rfl, rfl, _, rfl, Wk, _, rfl, SqL.of hW4, fun c nc => ?_⟩
        rw [eh, cut_to (by rw [List.length_map]; omega), ← List.map_take]
        have hl : (ws.take ((1 + n) / 2 + 1)).length = (1 + n) / 2 + 1 := by
          rw [List.length_take]
          omega
        have hwt := hw.take ((1 + n) / 2 + 1)
        generalize ws.take ((1 + n) / 2 + 1) = wt at hl hwt
        have ncb := hB4.b1 nc
        have s5 := same_new (o := .lst (wt.map V.str)) nc
        have hc5 : (upd H4 c (.lst (wt.map V.str))) c = some (.lst (wt.map V.str)) := upd_same
        have hB5 := hB4.same s5
        generalize upd H4 c (.lst (wt.map V.str)) = H5 at s5 hc5 hB5
        refine ⟨_, rfl, _, rfl, 1, rfl, 1, rfl, -1, rfl, c, _, rfl, SqL.of hc5, fun e1 ne1 => ?_⟩
        rw [cut_mid (by rw [List.length_map]; omega), List.length_map, ← List.map_drop, ← List.map_take]
        have s6 := same_new (o := .lst (((wt.drop 1).take (wt.length - 2)).map V.str)) ne1
        refine ⟨e1, _, rfl, SqL.of upd_same, fun f1 nf1 => ?_⟩
        rw [← List.map_reverse]
        have s7 := same_new (o := .lst (((wt.drop 1).take (wt.length - 2)).reverse.map V.str)) nf1
        have s57 := s6.trans s7
        refine ⟨c, f1, _, _, rfl, rfl, s57 _ _ hc5, upd_same, Nat.le_of_lt (small1000 (by rw [List.length_map, List.length_map, List.length_reverse, List.length_take, List.length_drop]; omega)), fun g ng => ?_⟩
        have s8 := same_new (o := .lst (wt.map V.str ++ ((wt.drop 1).take (wt.length - 2)).reverse.map V.str)) ng
        refine ⟨g, _, rfl, .inl ⟨SqL.of upd_same, fun T nT => ?_⟩⟩
        have s58 := s57.trans s8
        have v8 := (v4.trans (Sav.of s5)).trans (Sav.of s58)
        have hB8 := hB5.same s58
        have nTb := hB8.b1 nT
        refine k _ T (bnc wt) (v8.trans (Sav.of (same_new nT))) (hB8.new nT) (v8.free nTb nT) (by rw [upd_same]; unfold bnc; rw [List.map_append]) (bnc_rnd hwt (by omega) (by omega)) (by rw [bnc_len (by omega)]; omega)
theorem scLawHouse : FnScope ["_law_box_here", "_law_limit", "_law_rooms", "_law_thick", "_law_doors", "_law_sights", "_law_at", "_law_to", "_law_one", "_law_other"] ["_law_box_here", "_law_limit"] (defScope sLawHouse) := ⟨rfl, rfl, rfl, by decide +kernel, rfl, by decide +kernel, by decide +kernel⟩
theorem ok_lawhouse {f fN fD : Addr} {fd fdN fdD : FuncData} (F : Fun K "_law_house" "_law_house" sLawHouse f fd) (m_len : mg "len" = none) (m_range : mg "range" = none)
    (FN : Fun K "_law_names" "_law_names" sNames fN fdN) (bN : Binds K fdN ["_law_box_here", "_law_many_here"] []) (gN : mg "_law_names" = some (.ref fN)) (GN : FnOk P w K mg base CX0 3 fN fdN ["_law_box_here", "_law_many_here"] spNames)
    (FD : Fun K "_law_draw" "_law_draw" sDraw fD fdD) (bD : Binds K fdD ["_law_box_here", "_law_many_here"] []) (gD : mg "_law_draw" = some (.ref fD)) (GD : FnOk P w K mg base CX0 1 fD fdD ["_law_box_here", "_law_many_here"] spDraw) :
    FnOk P w K mg base CX0 4 f fd ["_law_box_here", "_law_limit"] spLawHouseX := by
  refine F.ok scLawHouse (fun vs H Q E h => ?_) (fun cdv A outer s H vs Q E hr h => ?_)
  · obtain ⟨b, l, m, rfl, _⟩ := h
    rfl
  · obtain ⟨b, l, m, rfl, hB, hm0, hm1, k⟩ := h
    refine ⟨_, pss_cons (ps_set (i := 2) scLawHouse.nd rfl (Or.inl rfl) (pe_call GN hr (by rfl) gN FN.kp bN .nil pass0 (pa_cons (pv 0) (pa_cons (pe_op op_add pe_int (pe_call GD (hr.mono (by decide)) (by rfl) gD FD.kp bD .nil pass0 (pa_cons (pv 0) (pa_cons (pv 1) pa_nil)))) pa_nil))))
      (pss_cons (ps_par3 (i := 3) (j := 4) (l := 5) (by rfl) scLawHouse.nd rfl rfl rfl (by decide) (by decide) (by decide) rfl rfl rfl (pa_cons (pe_call GD (hr.mono (by decide)) (by rfl) gD FD.kp bD .nil pass0 (pa_cons (pv 0) (pa_cons pe_int pa_nil))) (pa_cons (pe_lst pa_nil) (pa_cons (pe_lst pa_nil) pa_nil))) (by rfl))
      (pss_cons (ps_for PassesOwn.never rfl (pi_range1 (by rfl) m_range (pa_cons (pe_callB call_len_seq (by rfl) m_len PySem.boot_len (pa_cons (pv 2) pa_nil)) pa_nil)) (pg_name (i := 6) scLawHouse.nd rfl (Or.inl rfl))
      (pss_one (ps_for PassesOwn.never rfl (pi_range2 (by rfl) m_range (pa_cons (pe_op op_add (pv 6) pe_int) (pa_cons (pe_callB call_len_seq (by rfl) m_len PySem.boot_len (pa_cons (pv 2) pa_nil)) pa_nil))) (pg_name (i := 7) scLawHouse.nd rfl (Or.inl rfl))
      (pss_one (ps_if (pt_mid (PW.pt (pw_or (PW.pt (pw_and (pt_cmpR op_eq (pv 7) (pe_op op_add (pv 6) pe_int) (nomark _)) (pw_and1 (pt_cmpR op_gt (pe_call GD (hr.mono (by decide)) (by rfl) gD FD.kp bD .nil pass0 (pa_cons (pv 0) (pa_cons pe_int pa_nil))) pe_int (nomark _))))) (pw_or1 (pt_cmpR op_lt (pe_call GD (hr.mono (by decide)) (by rfl) gD FD.kp bD .nil pass0 (pa_cons (pv 0) (pa_cons pe_int pa_nil))) (pv 3) (nomark _)))))) (pss_one (ps_expr (pe_bm PySem.F.plainAttrs_list PySem.F.slot_list_append PySem.F.type_list_append mt_append (pv 4) (pa_cons (pe_ix ix_list (pe_lst (pa_cons (pe_tup (pa_cons (pe_ix ix_list (pv 2) (pv 6) (fun _ _ => rfl)) (pa_cons (pe_ix ix_list (pv 2) (pv 7) (fun _ _ => rfl)) pa_nil))) (pa_cons (pe_tup (pa_cons (pe_ix ix_list (pv 2) (pv 7) (fun _ _ => rfl)) (pa_cons (pe_ix ix_list (pv 2) (pv 6) (fun _ _ => rfl)) pa_nil))) pa_nil))) (pe_call GD (hr.mono (by decide)) (by rfl) gD FD.kp bD .nil pass0 (pa_cons (pv 0) (pa_cons pe_int pa_nil))) (fun _ _ => rfl)) pa_nil)))) pss_nil)))))
      (pss_cons (ps_for PassesOwn.never rfl (pi_list (pv 2)) (pg_name (i := 8) scLawHouse.nd rfl (Or.inr rfl))
      (pss_one (ps_set (i := 5) scLawHouse.nd rfl (Or.inl rfl) (pe_op op_cat (pv 5) (pe_lc (own := [("_law_other", 9)]) (g := gName 9)  rfl scLawHouse.nd (pi_list (pv 2)) (blkOk_by (N := ["_law_box_here", "_law_limit", "_law_rooms", "_law_thick", "_law_doors", "_law_sights", "_law_at", "_law_to", "_law_one", "_law_other"]) (sc := defScope sLawHouse) (by decide +kernel)) (fun _ _ _ _ _ => (pg_name (i := 9) scLawHouse.nd rfl (Or.inl rfl))) (fun _ _ _ _ _ => pts_one (pt_mid (PW.pt (pw_and (pt_cmpR op_ne (pv 9) (pv 8) (nomark _)) (pw_and1 (pt_cmpR op_eq (pe_call GD (hr.mono (by decide)) (by rfl) gD FD.kp bD .nil pass0 (pa_cons (pv 0) (pa_cons pe_int pa_nil))) pe_int (nomark _))))))) (fun _ _ _ _ _ => (pe_tup (pa_cons (pv 8) (pa_cons (pv 9) pa_nil)))))))))
      (pss_one (ps_ret (pe_tup (pa_cons (pv 2) (pa_cons (pv 4) (pa_cons (pv 5) pa_nil))))))))), ?_⟩
    refine ⟨_, rfl, _, rfl, _, rfl, b, l, m, rfl, hB, by omega, ?_, fun r0 H1 h00 h01 v1 hB1 => ?_⟩
    · exact Nat.lt_of_le_of_lt (show m.natAbs ≤ 8 by omega) (by decide)
    refine ⟨_, _, rfl, rfl, b, l, _, rfl, hB1, by omega, by omega, fun H2 r zs v2 hB2 nr hr2 hzl hN hLn => ?_⟩
    have nrb : r ≠ b := hB1.b1 nr
    have hz8 : zs.length ≤ 8 := by omega
    have hz1 : 1 ≤ zs.length := by omega
    -- thick, doors, sights
    refine ⟨_, rfl, b, l, 4, rfl, hB2, by decide, by decide, fun th H3 _ _ v3 hB3 => ?_⟩
    have hr3 := v3 _ _ nrb hr2
    refine ⟨Nat.zero_le _, fun d nd => ⟨Nat.zero_le _, fun s nsd => ?_⟩⟩
    have ndb : d ≠ b := hB3.b1 nd
    have ndl : d ≠ l := hB3.l1 nd
    have nds : d ≠ s := ne_of_none upd_same nsd
    have nrd : r ≠ d := ne_of_none hr3 nd
    have sv3 := v1.trans (v2.trans v3)
    have ndH : H d = none := sv3.free ndb nd
    have hB4 := (hB3.new (o := .lst []) nd).new (o := .lst []) nsd
    have nsb : s ≠ b := (hB3.new nd).b1 nsd
    have sv4 := sv3.trans (Sav.of ((same_new (o := .lst []) nd).trans (same_new (o := .lst []) nsd)))
    have hr4 := same_new (o := .lst []) nsd _ _ (same_new (o := .lst []) nd _ _ hr3)
    refine ⟨_, _, _, rfl, ?_⟩
    have hd4 := same_new (o := .lst []) nsd _ _ (upd_same (H := H3) (a := d) (o := .lst []))
    have hs4 : (upd (upd H3 d (.lst [])) s (.lst [])) s = some (.lst []) := upd_same
    generalize upd (upd H3 d (.lst [])) s (.lst []) = H4 at hB4 sv4 hr4 hd4 hs4
    -- doors
    refine ⟨_, rfl, r, _, rfl, .inl (SqL.of hr4), _, rfl, by rw [List.length_map]; omega, by rw [List.length_map]; omega, ?_⟩
    rw [List.length_map, Int.toNat_natCast]
    refine for_range (n := zs.length) (fun i σ H' => ∃ y6 y7 y8 : Option V, σ = [some (.ref b), some (.int m), some (.ref r), some (.int th), some (.ref d), some (.ref s), y6, y7, y8, none] ∧ Sav b H H' ∧ Box H' b l ∧ H' r = some (.lst (zs.map V.str)) ∧ H' s = some (.lst []) ∧ ∃ xs ds, H' d = some (.lst xs) ∧ PL H' xs ds ∧ (∀ p ∈ ds, goodP zs p) ∧ ds.length ≤ i * 8)
      ⟨_, _, _, rfl, sv4, hB4, hr4, hs4, [], [], hd4, PL.nil, (fun p hp => by cases hp), Nat.le_refl _⟩ ?_ ?_
    · rintro i σ H5 hi ⟨y6, y7, y8, rfl, sv5, hB5, hr5, hs5, xs5, ds5, hd5, hP5, hg5, hl5⟩
      refine ⟨_, rfl, _, _, rfl, rfl, _, rfl, r, _, rfl, .inl (SqL.of hr5), _, _, rfl, ⟨by omega, by omega, by rw [List.length_map]; omega, by rw [List.length_map]; omega⟩, ?_⟩
      rw [List.length_map]
      refine for_range (lo := 0 + (i : Int) + 1) (n := (((zs.length : Nat) : Int) - (0 + (i : Int) + 1)).toNat) (fun j σ H' => ∃ y7 y8 : Option V, σ = [some (.ref b), some (.int m), some (.ref r), some (.int th), some (.ref d), some (.ref s), some (.int (0 + (i : Int))), y7, y8, none] ∧ Sav b H H' ∧ Box H' b l ∧ H' r = some (.lst (zs.map V.str)) ∧ H' s = some (.lst []) ∧ ∃ xs ds, H' d = some (.lst xs) ∧ PL H' xs ds ∧ (∀ p ∈ ds, goodP zs p) ∧ ds.length ≤ i * 8 + j)
        ⟨_, _, rfl, sv5, hB5, hr5, hs5, xs5, ds5, hd5, hP5, hg5, hl5⟩ ?_ ?_
      · rintro j σ H6 hj ⟨y7, y8, rfl, sv6, hB6, hr6, hs6, xs6, ds6, hd6, hP6, hg6, hl6⟩
        have hij : i + 1 + j < zs.length := by omega
        -- the test, whatever it comes to
        refine ⟨fun _ H' => Sav b H6 H' ∧ Box H' b l, ?_, ?_⟩
        · refine ⟨_, rfl, _, rfl, _, _, rfl, rfl, rfl, _, rfl, ite2 (fun _ => ?_) (fun _ => ?_)⟩
          · refine ⟨_, rfl, b, l, 8, rfl, hB6, by decide, by decide, fun q1 H7 _ _ v7 hB7 => ?_⟩
            refine ⟨_, _, rfl, rfl, _, rfl, ite2 (fun _ => ⟨v7, hB7⟩) (fun _ => ?_)⟩
            refine ⟨_, rfl, b, l, 6, rfl, hB7, by decide, by decide, fun q2 H8 _ _ v8 hB8 => ?_⟩
            exact ⟨_, rfl, _, _, rfl, rfl, _, rfl, v7.trans v8, hB8⟩
          · refine ⟨_, rfl, b, l, 6, rfl, hB6, by decide, by decide, fun q2 H8 _ _ v8 hB8 => ?_⟩
            exact ⟨_, rfl, _, _, rfl, rfl, _, rfl, v8, hB8⟩
        rintro bb H7 ⟨v7, hB7⟩
        have hr7 := v7 _ _ nrb hr6
        have hs7 := v7 _ _ nsb hs6
        have hd7 := v7 _ _ ndb hd6
        have hP7 := hP6.keep (v7.keepT hB6)
        have sv7 := sv6.trans v7
        cases bb with
        | false => exact ⟨_, _, rfl, sv7, hB7, hr7, hs7, xs6, ds6, hd7, hP7, hg6, by omega⟩
        | true =>
          have e1 : zs[i]? = some zs[i] := List.getElem?_eq_getElem (by omega)
          have e2 : zs[i + 1 + j]? = some zs[i + 1 + j] := List.getElem?_eq_getElem hij
          have ha := at_str e1 (k := 0 + (i : Int)) (by omega)
          have hc := at_str e2 (k := 0 + (i : Int) + 1 + (j : Int)) (by omega)
          have hne : zs[i] ≠ zs[i + 1 + j] := List.pairwise_iff_getElem.mp hN.1 i (i + 1 + j) (by omega) hij (by omega)
          refine ⟨_, rfl, .inl ⟨rfl, _, SqL.of hd7⟩, ?_⟩
          refine ⟨_, rfl, _, rfl, r, _, _, _, rfl, rfl, SqL.of hr7, ha, _, rfl, _, rfl, r, _, _, _, rfl, rfl, SqL.of hr7, hc, by show 2 ≤ sizeLine; decide, fun t1 n1 => ?_⟩
          have hr8 := same_new (o := .tup [.str zs[i], .str zs[i + 1 + j]]) n1 _ _ hr7
          refine ⟨_, rfl, _, rfl, r, _, _, _, rfl, rfl, SqL.of hr8, hc, _, rfl, _, rfl, r, _, _, _, rfl, rfl, SqL.of hr8, ha, by show 2 ≤ sizeLine; decide, fun t2 n2 => ?_⟩
          refine ⟨by show 2 ≤ sizeLine; decide, fun g ng => ?_⟩
          have s9 := (same_new (o := .tup [.str zs[i], .str zs[i + 1 + j]]) n1).trans ((same_new (o := .tup [.str zs[i + 1 + j], .str zs[i]]) n2).trans (same_new (o := .lst [V.ref t1, V.ref t2]) ng))
          have ht1 := (same_new (o := .lst [V.ref t1, V.ref t2]) ng) _ _ ((same_new (o := .tup [.str zs[i + 1 + j], .str zs[i]]) n2) _ _ (upd_same (H := H7) (a := t1) (o := .tup [.str zs[i], .str zs[i + 1 + j]])))
          have ht2 := (same_new (o := .lst [V.ref t1, V.ref t2]) ng) _ _ (upd_same (H := upd H7 t1 (.tup [.str zs[i], .str zs[i + 1 + j]])) (a := t2) (o := .tup [.str zs[i + 1 + j], .str zs[i]]))
          have hB9 := hB7.same s9
          have ngb : g ≠ b := fun z => by
            obtain ⟨ns, a1, a2, a3, a4, hb1, _⟩ := hB7
            have := ((same_new (o := .tup [.str zs[i], .str zs[i + 1 + j]]) n1).trans (same_new (o := .tup [.str zs[i + 1 + j], .str zs[i]]) n2)) _ _ hb1
            rw [z, this] at ng
            cases ng
          refine ⟨_, rfl, b, l, 2, rfl, hB9, by decide, by decide, fun q H10 hq0 hq1 v10 hB10 => ?_⟩
          obtain ⟨v, hv, hvv⟩ := two_at (x := V.ref t1) (y := V.ref t2) hq0 hq1
          have hd10 := v10 _ _ ndb (s9 _ _ hd7)
          have kt10 := v10.keepT hB9
          have ht1' := kt10 _ _ ht1
          have ht2' := kt10 _ _ ht2
          refine ⟨g, _, q, v, rfl, rfl, SqL.of (v10 _ _ ngb upd_same), hv, ?_⟩
          have hxl : xs6.length ≤ 100 := by
            rw [hP6.1]
            omega
          refine ⟨d, _, _, rfl, rfl, hd10, small1000 (by omega), ?_⟩
          have kt11 : KeepT H10 (upd H10 d (.lst (xs6 ++ [v]))) := KeepT.lst hd10
          have hP10 := (((hP7.same s9).keep kt10).keep kt11)
          have sv10 := (sv7.trans (Sav.of s9)).trans v10
          have hv2 : ∃ p : SS, goodP zs p ∧ Pr (upd H10 d (.lst (xs6 ++ [v]))) v p := by
            rcases hvv with rfl | rfl
            · exact ⟨(zs[i], zs[i + 1 + j]), ⟨List.getElem_mem _, List.getElem_mem _, hne⟩, t1, rfl, kt11 _ _ ht1'⟩
            · exact ⟨(zs[i + 1 + j], zs[i]), ⟨List.getElem_mem _, List.getElem_mem _, fun e => hne e.symm⟩, t2, rfl, kt11 _ _ ht2'⟩
          obtain ⟨p, hpg, hpv⟩ := hv2
          refine ⟨_, _, rfl, sv10.put ndH, hB10.put ndb ndl, ?_, ?_, xs6 ++ [v], ds6 ++ [p], upd_same, hP10.snoc hpv, ?_, ?_⟩
          · rw [upd_ne nrd]
            exact v10 _ _ nrb (s9 _ _ hr7)
          · rw [upd_ne nds.symm]
            exact v10 _ _ nsb (s9 _ _ hs7)
          · intro q hq
            rcases List.mem_append.mp hq with h | h
            · exact hg6 q h
            · rw [List.mem_singleton.mp h]
              exact hpg
          · rw [List.length_append]
            show ds6.length + 1 ≤ i * 8 + (j + 1)
            omega
      · rintro σ H6 ⟨y7, y8, rfl, sv6, hB6, hr6, hs6, xs6, ds6, hd6, hP6, hg6, hl6⟩
        refine ⟨_, _, _, rfl, sv6, hB6, hr6, hs6, xs6, ds6, hd6, hP6, hg6, ?_⟩
        rw [Nat.succ_mul]
        omega
    rintro σ H5 ⟨y6, y7, y8, rfl, sv5, hB5, hr5, hs5, xs5, ds5, hd5, hP5, hg5, hl5⟩
    -- sights
    refine ⟨_, rfl, r, rfl, ⟨_, SqL.of hr5⟩, for_list (K := K) (a := r) (xs := zs.map V.str) (fun i σ H' => ∃ (y6 y7 y8 : Option V) (s : Addr), σ = [some (.ref b), some (.int m), some (.ref r), some (.int th), some (.ref d), some (.ref s), y6, y7, y8, none] ∧ Sav b H5 H' ∧ Box H' b l ∧ s ≠ b ∧ ∃ us ss, H' s = some (.lst us) ∧ PL H' us ss ∧ (∀ p ∈ ss, goodP zs p) ∧ ss.length ≤ i * 8 ∧ (∀ p ∈ ss, p.1 ∈ zs.take i) ∧ ss.Nodup)
      ⟨_, _, _, s, rfl, Sav.refl _ _, hB5, nsb, [], [], hs5, PL.nil, (fun p hp => by cases hp), Nat.le_refl _, (fun p hp => by cases hp), List.nodup_nil⟩ (fun i σ H' _ h => by obtain ⟨_, _, _, _, _, v, _⟩ := h; exact SqL.of (v _ _ nrb hr5)) ?_ ?_⟩
    · rintro i x σ H6 hx ⟨y6, y7, y8, s, rfl, v6, hB6, nsb, us6, ss6, hs6, hP6, hg6, hl6, hf6, hn6⟩
      obtain ⟨a, ea, rfl⟩ := str_at hx
      have hi8 : i < zs.length := (List.getElem?_eq_some_iff.mp ea).1
      have hr6 := v6 _ _ nrb hr5
      refine ⟨_, rfl, _, rfl, r, rfl, ⟨_, SqL.of hr6⟩, fun D nD => ?_⟩
      have nDb := hB6.b1 nD
      have nDl := hB6.l1 nD
      refine it_any (walk_list (K := K) (a := r) (xs := zs.map V.str)) (fun j H' => Sav b H6 H' ∧ Box H' b l ∧ ∃ ys qs, H' D = some (.lst ys) ∧ PL H' ys qs ∧ (∀ p ∈ qs, goodP zs p) ∧ qs.length ≤ j ∧ (∀ p ∈ qs, p.1 = a ∧ p.2 ∈ zs.take j) ∧ qs.Nodup) ⟨Sav.of (same_new nD), hB6.new nD, [], [], upd_same, PL.nil, (fun p hp => by cases hp), Nat.le_refl _, (fun p hp => by cases hp), List.nodup_nil⟩ (fun j H' _ h => SqL.of (h.1 _ _ nrb hr6)) ?_ ?_
      · rintro j x H7 H8 hj ⟨v7, hB7, ys, qs, hD, hPq, hgq, hlq, hfq, hnq⟩ ⟨rfl, hx⟩
        obtain ⟨c, ec, rfl⟩ := str_at hx
        have hj8 : j < zs.length := (List.getElem?_eq_some_iff.mp ec).1
        refine ⟨rfl, ?_⟩
        refine ⟨fun bb H' => Sav b H8 H' ∧ Box H' b l ∧ (bb = true → c ≠ a), ?_, ?_⟩
        · refine ⟨_, rfl, _, rfl, rfl, _, rfl, ?_⟩
          by_cases hca : c = a
          · rw [decide_eq_true (show V.str c = V.str a by rw [hca])]
            exact ⟨Sav.refl _ _, hB7, fun h => by cases h⟩
          · rw [decide_eq_false (fun e => hca (V.str.inj e))]
            refine iteT ?_
            refine ⟨_, rfl, b, l, 5, rfl, hB7, by decide, by decide, fun q H9 _ _ v9 hB9 => ?_⟩
            exact ⟨rfl, _, rfl, v9, hB9, fun _ => hca⟩
        rintro bb H9 ⟨v9, hB9, hbb⟩
        have hD9 := v9 _ _ nDb hD
        have hP9 := hPq.keep (v9.keepT hB7)
        cases bb with
        | false => exact ⟨v7.trans v9, hB9, ys, qs, hD9, hP9, hgq, by omega, (fun p hp => ⟨(hfq p hp).1, take_more (hfq p hp).2⟩), hnq⟩
        | true =>
          have hca := hbb rfl
          refine ⟨_, rfl, _, rfl, by show 2 ≤ sizeLine; decide, fun t nt => ?_⟩
          have s10 := same_new (o := .tup [.str a, .str c]) nt
          have nDt : D ≠ t := ne_of_none hD9 nt
          have yl : ys.length ≤ 100 := by
            rw [hPq.1]
            omega
          have kt : KeepT H9 (upd (upd H9 t (.tup [.str a, .str c])) D (.lst (ys ++ [.ref t]))) := (KeepT.of s10).trans (KeepT.lst (s10 _ _ hD9))
          refine ⟨_, s10 _ _ hD9, small1000 (by omega), ((v7.trans v9).trans (Sav.of s10)).put nD, (hB9.new nt).put nDb nDl, ys ++ [.ref t], qs ++ [(a, c)], upd_same, (hP9.keep kt).snoc ⟨t, rfl, by rw [upd_ne nDt.symm, upd_same]⟩, ?_, ?_, ?_, ?_⟩
          · intro q hq
            rcases List.mem_append.mp hq with h | h
            · exact hgq q h
            · rw [List.mem_singleton.mp h]
              exact ⟨List.mem_of_getElem? ea, List.mem_of_getElem? ec, fun e => hca e.symm⟩
          · rw [List.length_append]
            show qs.length + 1 ≤ j + 1
            omega
          · intro q hq
            rcases List.mem_append.mp hq with h | h
            · exact ⟨(hfq q h).1, take_more (hfq q h).2⟩
            · rw [List.mem_singleton.mp h]
              refine ⟨rfl, ?_⟩
              rw [take_snoc ec]
              exact List.mem_append.mpr (.inr (List.mem_singleton.mpr rfl))
          · refine nodup_snoc hnq fun hm => ?_
            exact nodup_at hN.1 ec (hfq _ hm).2
      rintro H7 ⟨v7, hB7, ys, qs, hD, hPq, hgq, hlq, hfq, hnq⟩
      rw [List.length_map] at hlq
      have hs7 := v7 _ _ nsb hs6
      have hP7 := hP6.keep (v7.keepT hB6)
      have ul : us6.length ≤ 100 := by
        rw [hP6.1]
        omega
      have yl : ys.length ≤ 100 := by
        rw [hPq.1]
        omega
      refine ⟨s, D, _, _, rfl, rfl, hs7, hD, Nat.le_of_lt (small1000 (by omega)), fun g ng => ?_⟩
      have s8 := same_new (o := .lst (us6 ++ ys)) ng
      refine ⟨_, _, _, g, rfl, (v6.trans v7).trans (Sav.of s8), hB7.new ng, hB7.b1 ng, us6 ++ ys, ss6 ++ qs, upd_same, (hP7.same s8).append (hPq.same s8), ?_, ?_, ?_, ?_⟩
      · intro q hq
        rcases List.mem_append.mp hq with h | h
        · exact hg6 q h
        · exact hgq q h
      · rw [List.length_append, Nat.succ_mul]
        omega
      · intro q hq
        rcases List.mem_append.mp hq with h | h
        · exact take_more (hf6 q h)
        · rw [(hfq q h).1, take_snoc ea]
          exact List.mem_append.mpr (.inr (List.mem_singleton.mpr rfl))
      · refine List.nodup_append.mpr ⟨hn6, hnq, fun x hx y hy e => ?_⟩
        subst e
        have h1 := hf6 _ hx
        rw [(hfq _ hy).1] at h1
        exact nodup_at hN.1 ea h1
    rintro σ H6 ⟨y6, y7, y8, s, rfl, v6, hB6, nsb, us6, ss6, hs6, hP6, hg6, hl6, hf6, hn6⟩
    rw [List.length_map] at hl6
    refine ⟨_, rfl, _, rfl, _, rfl, by show 3 ≤ sizeLine; decide, fun t nt => ?_⟩
    have s7 := same_new (o := .tup [V.ref r, V.ref d, V.ref s]) nt
    have sv6 := sv5.trans v6
    have ntb := hB6.b1 nt
    refine k _ t zs ds5 ss6 (sv6.trans (Sav.of s7)) (hB6.new nt) (sv6.free ntb nt) ⟨r, d, s, xs5, us6, nrb, ndb, nsb, upd_same, s7 _ _ (v6 _ _ nrb hr5), s7 _ _ (v6 _ _ ndb hd5), (hP5.keep (v6.keepT hB5)).same s7, s7 _ _ hs6, hP6.same s7⟩ ⟨hN, hz1, hz8, hg5, hg6, ?_, ?_, hn6, hLn⟩ (by omega) hl5
    · have : zs.length * 8 ≤ 8 * 8 := Nat.mul_le_mul_right 8 hz8
      omega
    · have : zs.length * 8 ≤ 8 * 8 := Nat.mul_le_mul_right 8 hz8
      omega
theorem scLSc : FnScope ["_law_box_here", "_law_rooms", "_law_posts", "_law_size", "_law_house_here", "_law_names_here", "_law_folk", "_law_found", "_law_k", "_law_walk", "_law_many_here", "_law_lamps", "_law_changing", "_law_easing", "_law_made_here"] ["_law_box_here", "_law_rooms", "_law_posts", "_law_size"] (defScope sLawScene) := ⟨rfl, rfl, rfl, by decide +kernel, rfl, by decide +kernel, by decide +kernel⟩
theorem ok_lawscene {f fHo fNm fDr fRn fOf : Addr} {fd dHo dNm dDr dRn dOf : FuncData} (F : Fun K "_law_scene" "_law_scene" sLawScene f fd) (FHo : Fun K "_law_house" "_law_house" sLawHouse fHo dHo) (bHo : Binds K dHo ["_law_box_here", "_law_limit"] []) (gHo : mg "_law_house" = some (.ref fHo)) (GHo : FnOk P w K mg base CX0 4 fHo dHo ["_law_box_here", "_law_limit"] spLawHouseX) (FNm : Fun K "_law_names" "_law_names" sNames fNm dNm) (bNm : Binds K dNm ["_law_box_here", "_law_many_here"] []) (gNm : mg "_law_names" = some (.ref fNm)) (GNm : FnOk P w K mg base CX0 3 fNm dNm ["_law_box_here", "_law_many_here"] spNames) (FDr : Fun K "_law_draw" "_law_draw" sDraw fDr dDr) (bDr : Binds K dDr ["_law_box_here", "_law_many_here"] []) (gDr : mg "_law_draw" = some (.ref fDr)) (GDr : FnOk P w K mg base CX0 1 fDr dDr ["_law_box_here", "_law_many_here"] spDraw) (FRn : Fun K "_law_round" "_law_round" sLawRound fRn dRn) (bRn : Binds K dRn ["_law_box_here", "_law_house_here", "_law_limit"] []) (gRn : mg "_law_round" = some (.ref fRn)) (GRn : FnOk P w K mg base CX0 3 fRn dRn ["_law_box_here", "_law_house_here", "_law_limit"] spLawRound) (FOf : Fun K "_law_of" "_law_of" sOf fOf dOf) (bOf : Binds K dOf ["_law_box_here", "_law_some"] []) (gOf : mg "_law_of" = some (.ref fOf)) (GOf : FnOk P w K mg base CX0 2 fOf dOf ["_law_box_here", "_law_some"] spOf) (m_range : mg "range" = none) (m_len : mg "len" = none) (m_min : mg "min" = none) : FnOk P w K mg base CX0 5 f fd ["_law_box_here", "_law_rooms", "_law_posts", "_law_size"] spLawSceneX := by
  refine F.ok scLSc (fun vs H Q E h => ?_) (fun cdv A outer s H vs Q E hr h => ?_)
  · obtain ⟨b, l, r, p, sz, rfl, _⟩ := h
    rfl
  · obtain ⟨b, l, r, p, sz, rfl, hB, r1, r8, p0, p5, z1, z6, k⟩ := h
    refine ⟨_, pss_cons (ps_set (i := 4) scLSc.nd rfl (Or.inl rfl) (pe_call GHo hr (by rfl) gHo FHo.kp bHo .nil pass0 (pa_cons (pv 0) (pa_cons (pv 1) pa_nil))))
      (pss_cons (ps_asg (pe_tup (pa_cons (pe_call GNm (hr.mono (by decide)) (by rfl) gNm FNm.kp bNm .nil pass0 (pa_cons (pv 0) (pa_cons pe_int pa_nil))) (pa_cons (pe_call GNm (hr.mono (by decide)) (by rfl) gNm FNm.kp bNm .nil pass0 (pa_cons (pv 0) (pa_cons pe_int pa_nil))) (pa_cons (pe_lst pa_nil) pa_nil)))) (pg_tup rfl (pgs_cons (pg_name (i := 5) scLSc.nd rfl (Or.inl rfl)) (pgs_cons (pg_name (i := 6) scLSc.nd rfl (Or.inr rfl)) (pgs_cons (pg_name (i := 7) scLSc.nd rfl (Or.inl rfl)) pgs_nil)))))
      (pss_cons (ps_for PassesOwn.never rfl (pi_range1 (by rfl) m_range (pa_cons (pe_call GDr (hr.mono (by decide)) (by rfl) gDr FDr.kp bDr .nil pass0 (pa_cons (pv 0) (pa_cons (pe_op op_add (pv 2) pe_int) pa_nil))) pa_nil)) (pg_name (i := 8) scLSc.nd rfl (Or.inl rfl))
      (pss_cons (ps_set (i := 9) scLSc.nd rfl (Or.inl rfl) (pe_call GRn (hr.mono (by decide)) (by rfl) gRn FRn.kp bRn .nil pass0 (pa_cons (pv 0) (pa_cons (pv 4) (pa_cons (pv 3) pa_nil)))))
      (pss_one (ps_expr (pe_bm PySem.F.plainAttrs_list PySem.F.slot_list_append PySem.F.type_list_append mt_append (pv 7) (pa_cons (pe_tup (pa_cons (pe_ix ix_list (pv 5) (pv 8) (fun _ _ => rfl)) (pa_cons (pv 9) (pa_cons (pe_call GDr (hr.mono (by decide)) (by rfl) gDr FDr.kp bDr .nil pass0 (pa_cons (pv 0) (pa_cons (pe_callB call_len_seq (by rfl) m_len PySem.boot_len (pa_cons (pv 9) pa_nil)) pa_nil))) pa_nil)))) pa_nil))))))
      (pss_cons (ps_set (i := 10) scLSc.nd rfl (Or.inl rfl) (pe_callB (call_min2 rfl) (by rfl) m_min (by decide +kernel) (pa_cons pe_int (pa_cons (pe_op op_add (pe_callB call_len_seq (by rfl) m_len PySem.boot_len (pa_cons (pv 7) pa_nil)) (pe_call GDr (hr.mono (by decide)) (by rfl) gDr FDr.kp bDr .nil pass0 (pa_cons (pv 0) (pa_cons pe_int pa_nil)))) pa_nil))))
      (pss_cons (ps_setLc (i := 11) (own := [("_law_k", 8)]) (g := gName 8) (tt := tYes) (te := tTup (tCons (tOp (rIxL K) (tVar 6) (tVar 8)) (tCons (tCall spDraw [] E0 (tCons (tVar 0) (tCons (tC (.int 2)) tNil))) tNil))) rfl scLSc.nd rfl rfl (sw_true rfl rfl rfl (by decide +kernel)) (pi_range1 (by rfl) m_range (pa_cons (pv 10) pa_nil)) (blkOk_by (N := ["_law_box_here", "_law_rooms", "_law_posts", "_law_size", "_law_house_here", "_law_names_here", "_law_folk", "_law_found", "_law_k", "_law_walk", "_law_many_here", "_law_lamps", "_law_changing", "_law_easing", "_law_made_here"]) (sc := defScope sLawScene) (by decide +kernel)) (fun _ _ _ _ _ => (pg_name (i := 8) scLSc.nd rfl (Or.inl rfl))) (fun _ _ _ _ _ => pts_nil) (fun _ _ _ _ _ => (pe_tup (pa_cons (pe_ix ix_list (pv 6) (pv 8) (fun _ _ => rfl)) (pa_cons (pe_call GDr (hr.mono (by decide)) (by rfl) gDr FDr.kp bDr .nil pass0 (pa_cons (pv 0) (pa_cons pe_int pa_nil))) pa_nil)))))
      (pss_cons (ps_par (i := 12) (j := 13) (by rfl) scLSc.nd rfl rfl (by decide) rfl rfl (pa_cons (pe_cmpR op_eq (pe_call GDr (hr.mono (by decide)) (by rfl) gDr FDr.kp bDr .nil pass0 (pa_cons (pv 0) (pa_cons pe_int pa_nil))) pe_int (nomark _)) (pa_cons (pe_call GOf (hr.mono (by decide)) (by rfl) gOf FOf.kp bOf .nil pass0 (pa_cons (pv 0) (pa_cons (pe_lst (pa_cons pe_int (pa_cons pe_int (pa_cons pe_int (pa_cons pe_int (pa_cons pe_int (pa_cons pe_int pa_nil))))))) pa_nil))) pa_nil)) (by rfl))
      (pss_cons (ps_set (i := 14) scLSc.nd rfl (Or.inl rfl) (pe_disp (pps_cons pe_str (pv 4) (pps_cons pe_str (pv 7) (pps_cons pe_str (pv 11) pps_nil))) rfl rfl (by simp) (by decide)))
      (pss_cons (ps_asg (pe_tup (pa_cons (pv 12) (pa_cons (pv 13) pa_nil))) (pg_tup rfl (pgs_cons (pg_sub (pv 14) pe_str (set_dict (hu_of hr))) (pgs_cons (pg_sub (pv 14) pe_str (set_dict (hu_of hr))) pgs_nil))))
      (pss_one (ps_ret (pv 14)))))))))), ?_⟩
    refine ⟨_, rfl, _, rfl, b, l, r, rfl, hB, r1, r8, fun H1 t zs ds ss v1 hB1 nt hL hg hz hdl => ?_⟩
    refine ⟨_, rfl, b, l, 5, rfl, hB1, by decide, by decide, fun H2 n5 zs5 v2 hB2 nn5 hn5 l5 hN5 hX5 => ?_⟩
    have b5 := hB1.b1 nn5
    refine ⟨_, rfl, b, l, 6, rfl, hB2, by decide, by decide, fun H3 n6 zs6 v3 hB3 nn6 hn6 l6 hN6 hX6 => ?_⟩
    have b6 := hB2.b1 nn6
    refine ⟨Nat.zero_le _, fun Fo nFo => ?_⟩
    have bF := hB3.b1 nFo
    have lF := hB3.l1 nFo
    have v13 := v1.trans (v2.trans v3)
    have nFo0 : H Fo = none := v13.free bF nFo
    have s4 := same_new (o := .lst []) nFo
    refine ⟨by show 3 ≤ sizeLine; decide, fun tp ntp => ?_⟩
    have s5 := s4.trans (same_new (o := .tup [V.ref n5, V.ref n6, V.ref Fo]) ntp)
    have hFo5 : (upd (upd H3 Fo (.lst [])) tp (.tup [V.ref n5, V.ref n6, V.ref Fo])) Fo = some (.lst []) := same_new ntp _ _ upd_same
    refine ⟨tp, _, rfl, SqT.of upd_same, rfl, _, _, rfl, _, _, rfl, _, _, rfl, rfl, ?_⟩
    generalize upd (upd H3 Fo (.lst [])) tp (.tup [V.ref n5, V.ref n6, V.ref Fo]) = H5 at s5 hFo5
    have hB5 := hB3.same s5
    have v5 := v13.trans (Sav.of s5)
    have hn53 := v3 _ _ b5 hn5
    have f5 := ne_of_none hn53 nFo
    have f6 := ne_of_none hn6 nFo
    obtain ⟨lr, ld, ls, lx, lu, m1, m2, m3, g1, g2, g3, g4, g5, g6⟩ := hL.sav hB1 (v2.trans v3)
    have hL5 : LH2 b Fo H5 t lr ld ls zs ds ss lx lu := ⟨m1, m2, m3, ne_of_none g2 nFo, ne_of_none g3 nFo, ne_of_none g5 nFo, s5 _ _ g1, s5 _ _ g2, s5 _ _ g3, g4.same s5, s5 _ _ g5, g6.same s5⟩
    have hn55 := s5 _ _ hn53
    have hn65 := s5 _ _ hn6
    clear v1 v2 v3 v13 s4 s5 hn5 hn6 hn53 hB1 hB2 hB3 nt nn5 nn6 ntp g1 g2 g3 g4 g5 g6 hL
    refine ⟨_, rfl, _, rfl, _, _, rfl, rfl, b, l, _, rfl, hB5, by omega, Nat.lt_of_le_of_lt (show (p + 1).natAbs ≤ 6 by omega) (by decide), fun q0 H6 a0 a1 v6 hB6 => ?_⟩
    obtain ⟨n, en⟩ : ∃ n : Nat, q0 = (n : Nat) := ⟨q0.toNat, by omega⟩
    subst en
    have v06 := v5.trans v6
    refine ⟨_, rfl, by omega, by omega, ?_⟩
    rw [show ((n : Nat) : Int).toNat = n from rfl]
    refine for_range (n := n) (fun i σ H' => ∃ y8 y9 xs ps, σ = [some (.ref b), some (.int r), some (.int p), some (.int sz), some (.ref t), some (.ref n5), some (.ref n6), some (.ref Fo), y8, y9, none, none, none, none, none] ∧ Sav b H H' ∧ Box H' b l ∧ LH2 b Fo H' t lr ld ls zs ds ss lx lu ∧ H' n5 = some (.lst (zs5.map V.str)) ∧ H' n6 = some (.lst (zs6.map V.str)) ∧ H' Fo = some (.lst xs) ∧ PsL H' xs ps ∧ ps.length = i ∧ ps.map (·.1) = zs5.take i ∧ ∀ q ∈ ps, Rnd zs (lnk zs (both ds)) q.2.1 ∧ q.2.2 < q.2.1.length ∧ (q.2.1.length : Int) ≤ sz) ⟨_, _, [], [], rfl, v06, hB6, hL5.mv (.sav v6 hB5), v6 _ _ b5 hn55, v6 _ _ b6 hn65, v6 _ _ bF hFo5, AL.nil, rfl, rfl, (fun q hq => by cases hq)⟩ ?_ ?_
    · rintro i σ H7 hi ⟨y8, y9, xs, ps, rfl, v7, hB7, hL7, hn5, hn6, hFo, hP, pl, pn, pq⟩
      refine ⟨_, rfl, _, rfl, _, rfl, b, l, t, sz, zs, ds, ss, rfl, hB7, hL7.lh, hg, z1, z6, fun H8 pw rs v8 hB8 npw hpw hR hrl => ?_⟩
      have e5 : zs5[i]? = some (zs5[i]'(by omega)) := List.getElem?_eq_getElem (by omega)
      generalize zs5[i]'(by omega) = z at e5
      have hFo8 := v8 _ _ bF hFo
      have hn58 := v8 _ _ b5 hn5
      have o1 := hR.one
      have o6 := hR.six
      have ei : 0 + (i : Int) = ((i : Nat) : Int) := by omega
      refine ⟨_, rfl, .inl ⟨rfl, _, SqL.of hFo8⟩, _, rfl, _, rfl, n5, _, _, _, rfl, rfl, SqL.of hn58, at_str e5 ei, _, rfl, _, rfl, _, rfl, pw, _, rfl, .inr (SqT.of hpw), b, l, _, rfl, hB8, by rw [List.length_map]; omega, by rw [List.length_map]; exact small (by omega), fun q3 H9 c0 c1 v9 hB9 => ?_⟩
      rw [List.length_map] at c1
      obtain ⟨dl, edl⟩ : ∃ dl : Nat, q3 = (dl : Nat) := ⟨q3.toNat, by omega⟩
      subst edl
      refine ⟨by show 3 ≤ sizeLine; decide, fun T nT => ?_⟩
      have s10 := same_new (o := .tup [.str z, .ref pw, .int ((dl : Nat) : Int)]) nT
      have hFo10 := s10 _ _ (v9 _ _ bF hFo8)
      have nFT : Fo ≠ T := ne_of_none (v9 _ _ bF hFo8) nT
      refine ⟨Fo, _, _, rfl, rfl, hFo10, small1000 (by rw [hP.1]; omega), ?_⟩
      have w1 : Sv2 b Fo H7 H8 := .sav v8 hB7
      have w2 : Sv2 b Fo H8 H9 := .sav v9 hB8
      have w3 := (w2.trans (Sv2.of s10)).trans (Sv2.put (o := .lst (xs ++ [.ref T])) hFo10)
      have w := w1.trans w3
      refine ⟨_, _, xs ++ [.ref T], ps ++ [(z, rs, dl)], rfl, (v7.trans ((v8.trans v9).trans (Sav.of s10))).put nFo0, (hB9.new nT).put bF lF, hL7.mv w, w.old _ _ b5 f5 hn5, w.old _ _ b6 f6 hn6, upd_same, (PsL.keep hP w.tup).snoc ⟨T, pw, rfl, by rw [upd_ne nFT.symm, upd_same], w3.tup _ _ hpw⟩, by rw [List.length_append, pl]; rfl, by rw [List.map_append, pn, take_snoc' e5]; rfl, fun q hq => ?_⟩
      rcases List.mem_append.mp hq with y | y
      · exact pq q y
      · rw [List.mem_singleton.mp y]
        exact ⟨hR, by show dl < rs.length; omega, hrl⟩
    · rintro σ H7 ⟨y8, y9, xs, ps, rfl, v7, hB7, hL7, hn5, hn6, hFo, hP, pl, pn, pq⟩
      have xl := hP.1
      refine ⟨_, rfl, Fo, _, rfl, .inl (SqL.of hFo), _, rfl, b, l, 3, rfl, hB7, by decide, by decide, fun q3 H8 c0 c1 v8 hB8 => ?_⟩
      refine ⟨_, _, rfl, rfl, _, _, rfl, ?_⟩
      obtain ⟨M, eM, M1, M2⟩ : ∃ M : Nat, (if ((xs.length : Nat) : Int) + q3 < 6 then ((xs.length : Nat) : Int) + q3 else 6) = ((M : Nat) : Int) ∧ ps.length ≤ M ∧ M ≤ 6 := by
        by_cases z : ((xs.length : Nat) : Int) + q3 < 6
        · rw [if_pos z]
          exact ⟨(((xs.length : Nat) : Int) + q3).toNat, by omega, by omega, by omega⟩
        · rw [if_neg z]
          exact ⟨6, rfl, by omega, Nat.le_refl _⟩
      dsimp only
      rw [eM]
      have w8 : Sv2 b Fo H7 H8 := .sav v8 hB7
      have hL8 := hL7.mv w8
      have hn68 := w8.old _ _ b6 f6 hn6
      have hFo8 := v8 _ _ bF hFo
      have hP8 := PsL.keep hP w8.tup
      have v08 := v7.trans v8
      refine ⟨_, rfl, _, rfl, by omega, by omega, fun Lm nLm => ?_⟩
      rw [show ((M : Nat) : Int).toNat = M from rfl]
      have bL := hB8.b1 nLm
      have lL := hB8.l1 nLm
      have nL0 : H Lm = none := v08.free bL nLm
      refine lc_range (lo := 0) (n := M) (fun j H' => Sv2 b Lm H8 H' ∧ Sav b H H' ∧ Box H' b l ∧ ∃ ys ws, H' Lm = some (.lst ys) ∧ WtL H' ys ws ∧ ws.length = j ∧ ws.map (·.1) = zs6.take j ∧ ∀ q ∈ ws, q.2 ≤ 1) ⟨.of (same_new nLm), v08.trans (Sav.of (same_new nLm)), hB8.new nLm, [], [], upd_same, AL.nil, rfl, rfl, (fun q hq => by cases hq)⟩ ?_ ?_
      · rintro j H9 hj ⟨w9, v9, hB9, ys, ws, hLm, hW, wl, wn, wq⟩
        have e6 : zs6[j]? = some (zs6[j]'(by omega)) := List.getElem?_eq_getElem (by omega)
        generalize zs6[j]'(by omega) = z at e6
        have f6L : n6 ≠ Lm := ne_of_none hn68 nLm
        have ej : 0 + (j : Int) = ((j : Nat) : Int) := by omega
        refine ⟨rfl, _, rfl, _, rfl, n6, _, _, _, rfl, rfl, SqL.of (w9.old _ _ b6 f6L hn68), at_str e6 ej, _, rfl, b, l, 2, rfl, hB9, by decide, by decide, fun q4 H10 d0 d1 v10 hB10 => ?_⟩
        obtain ⟨rc, erc⟩ : ∃ rc : Nat, q4 = (rc : Nat) := ⟨q4.toNat, by omega⟩
        subst erc
        refine ⟨by show 2 ≤ sizeLine; decide, fun T nT => ?_⟩
        have s11 := same_new (o := .tup [.str z, .int ((rc : Nat) : Int)]) nT
        have hLm11 := s11 _ _ (v10 _ _ bL hLm)
        have nLT : Lm ≠ T := ne_of_none (v10 _ _ bL hLm) nT
        have w10 : Sv2 b Lm H9 H10 := .sav v10 hB9
        have wA := (w10.trans (Sv2.of s11)).trans (Sv2.put (o := .lst (ys ++ [.ref T])) hLm11)
        refine ⟨_, hLm11, small1000 (by rw [hW.1]; omega), w9.trans wA, ((v9.trans v10).trans (Sav.of s11)).put nL0, (hB10.new nT).put bL lL, ys ++ [.ref T], ws ++ [(z, rc)], upd_same, (WtL.keep hW wA.tup).snoc ⟨T, rfl, by rw [upd_ne nLT.symm, upd_same]⟩, by rw [List.length_append, wl]; rfl, by rw [List.map_append, wn, take_snoc' e6]; rfl, fun q hq => ?_⟩
        rcases List.mem_append.mp hq with y | y
        · exact wq q y
        · rw [List.mem_singleton.mp y]
          show rc ≤ 1
          omega
      · rintro H9 ⟨w9, v9, hB9, ys, ws, hLm, hW, wl, wn, wq⟩
        have lrL : lr ≠ Lm := ne_of_none hL8.h2 nLm
        have ldL : ld ≠ Lm := ne_of_none hL8.h3 nLm
        have lsL : ls ≠ Lm := ne_of_none hL8.h5 nLm
        have FL : Fo ≠ Lm := ne_of_none hFo8 nLm
        have hL9 : LHouseN b H9 t zs ds ss := ⟨lr, ld, ls, lx, lu, m1, m2, m3, w9.tup _ _ hL8.h1, w9.old _ _ m1 lrL hL8.h2, w9.old _ _ m2 ldL hL8.h3, hL8.h4.keep w9.tup, w9.old _ _ m3 lsL hL8.h5, hL8.h6.keep w9.tup⟩
        have hFo9 := w9.old _ _ bF FL hFo8
        have hP9 := PsL.keep hP8 w9.tup
        refine ⟨_, rfl, b, l, 2, rfl, hB9, by decide, by decide, fun q5 H10 _ _ v10 hB10 => ?_⟩
        refine ⟨rfl, _, rfl, by show 6 ≤ sizeLine; decide, fun c nc => ?_⟩
        have s11 := same_new (o := .lst [V.int 0, V.int 1, V.int 2, V.int 3, V.int 4, V.int 0]) nc
        have hB11 := hB10.same s11
        refine ⟨b, l, .ref c, rfl, hB11, .inl ⟨c, _, rfl, hB10.b1 nc, upd_same, by show 0 < 6; decide, by show 6 ≤ 1000; decide, fun x H12 hx v12 hB12 => ?_⟩⟩
        obtain ⟨rl, erl, r4⟩ : ∃ rl : Nat, x = V.int ((rl : Nat) : Int) ∧ rl ≤ 4 := by
          simp only [List.mem_cons, List.mem_nil_iff, or_false] at hx
          rcases hx with rfl | rfl | rfl | rfl | rfl | rfl
          · exact ⟨0, rfl, by decide⟩
          · exact ⟨1, rfl, by decide⟩
          · exact ⟨2, rfl, by decide⟩
          · exact ⟨3, rfl, by decide⟩
          · exact ⟨4, rfl, by decide⟩
          · exact ⟨0, rfl, by decide⟩
        subst erl
        have v912 := (v10.trans (Sav.of s11)).trans v12
        have kt := v912.keepT hB9
        have hL12 := hL9.sav hB9 v912
        have hFo12 := v912 _ _ bF hFo9
        have hP12 := PsL.keep hP9 kt
        have hLm12 := v912 _ _ bL hLm
        have hW12 := WtL.keep hW kt
        have v012 := v9.trans v912
        refine ⟨_, _, rfl, ?_⟩
        intro md nmd
        have nmb := hB12.b1 nmd
        have nml := hB12.l1 nmd
        have nm0 : H md = none := v012.free nmb nmd
        have s13 := same_new (o := .dK []) nmd
        refine ⟨_, rfl, _, rfl, _, rfl, upd_same, [((.inr "house" : Key), .ref t), (.inr "posts", .ref Fo), (.inr "lamps", .ref Lm)], rfl, by show 3 ≤ 15; decide, ?_⟩
        rw [upd_upd]
        have s14 : Same H12 (upd H12 md (.dK (mergeK [] [((.inr "house" : Key), V.ref t), (.inr "posts", .ref Fo), (.inr "lamps", .ref Lm)]))) := same_new nmd
        have em : mergeK [] [((.inr "house" : Key), V.ref t), (.inr "posts", .ref Fo), (.inr "lamps", .ref Lm)] = [((.inr "house" : Key), V.ref t), (.inr "posts", .ref Fo), (.inr "lamps", .ref Lm)] := by
          show putK (putK (putK [] (.inr "house" : Key) (V.ref t)) (.inr "posts") (.ref Fo)) (.inr "lamps") (.ref Lm) = _
          have p1 : putK [] (.inr "house" : Key) (V.ref t) = [((.inr "house" : Key), V.ref t)] := putK_str [] rfl (by simp)
          have p2 : putK [((.inr "house" : Key), V.ref t)] (.inr "posts" : Key) (V.ref Fo) = [((.inr "house" : Key), V.ref t), (.inr "posts", .ref Fo)] := putK_str ["house"] rfl (by decide +kernel)
          rw [p1, p2]
          exact putK_str ["house", "posts"] rfl (by decide +kernel)
        rw [em] at s14 ⊢
        have hm14 : (upd H12 md (.dK [((.inr "house" : Key), V.ref t), (.inr "posts", .ref Fo), (.inr "lamps", .ref Lm)])) md = some (.dK [((.inr "house" : Key), V.ref t), (.inr "posts", .ref Fo), (.inr "lamps", .ref Lm)]) := upd_same
        generalize upd H12 md (.dK [((.inr "house" : Key), V.ref t), (.inr "posts", .ref Fo), (.inr "lamps", .ref Lm)]) = H14 at s14 hm14
        refine ⟨_, rfl, _, rfl, by show 2 ≤ sizeLine; decide, fun tp ntp => ?_⟩
        have s15 := same_new (o := .tup [V.bl (decide (V.int q5 = V.int 0)), V.int ((rl : Nat) : Int)]) ntp
        have hm15 := s15 _ _ hm14
        refine ⟨tp, _, rfl, SqT.of upd_same, rfl, _, _, rfl, _, rfl, md, _, rfl, DPut.k (k := (.inr "meet" : Key)) hm15 (small1000 (by show 3 ≤ 1000; decide)), _, _, rfl, _, rfl, md, _, rfl, DPut.k (k := (.inr "relief" : Key)) upd_same (small1000 (Nat.le_trans (length_putK _ _ _) (by show 4 ≤ 1000; decide))), rfl, ?_⟩
        rw [upd_upd]
        have p4 : putK [((.inr "house" : Key), V.ref t), (.inr "posts", .ref Fo), (.inr "lamps", .ref Lm)] (.inr "meet" : Key) (V.bl (decide (V.int q5 = V.int 0))) = [((.inr "house" : Key), V.ref t), (.inr "posts", .ref Fo), (.inr "lamps", .ref Lm), (.inr "meet", V.bl (decide (V.int q5 = V.int 0)))] := putK_str ["house", "posts", "lamps"] rfl (by decide +kernel)
        have p5 : putK [((.inr "house" : Key), V.ref t), (.inr "posts", .ref Fo), (.inr "lamps", .ref Lm), (.inr "meet", V.bl (decide (V.int q5 = V.int 0)))] (.inr "relief" : Key) (V.int ((rl : Nat) : Int)) = mkv t Fo Lm (decide (V.int q5 = V.int 0)) rl := putK_str ["house", "posts", "lamps", "meet"] rfl (by decide +kernel)
        rw [p4, p5]
        have nd12 : ∀ {q : Addr} {o : HO}, H12 q = some o → q ≠ md := fun {q o} h z => by rw [z, nmd] at h; cases h
        have fin : Same H12 (upd (upd H14 tp (.tup [V.bl (decide (V.int q5 = V.int 0)), V.int ((rl : Nat) : Int)])) md (.dK (mkv t Fo Lm (decide (V.int q5 = V.int 0)) rl))) := same_put (s14.trans s15) nmd
        refine ⟨_, rfl, k _ md t Fo Lm zs ds ss xs ys ps ws (decide (V.int q5 = V.int 0)) rl (v012.trans (Sav.of fin)) (hB12.same fin) nm0 ⟨upd_same, nmb, bF, bL, hL12.same fin, fin _ _ hFo12, PsL.same hP12 fin, fin _ _ hLm12, WtL.same hW12 fin, hg, ?_⟩ hz (by omega) (fun q hq => (pq q hq).2.2) (fun z hz => hX5 z (List.mem_of_mem_take (by rw [← pn]; exact hz))) (fun z hz => hX6 z (List.mem_of_mem_take (by rw [← wn]; exact hz))) hdl⟩
        exact ⟨hg.names, hg.eight, hg.dg, hg.sg, ⟨by omega, Names.eq pn (hN5.take _), fun q hq => (pq q hq).1, fun q hq => (pq q hq).2.1⟩, ⟨by omega, Names.eq wn (hN6.take _), wq⟩, by omega, r4⟩
end
end Dk
namespace Dk
open PySem L2
section
variable {P : Program} {w : World} {K : PySem.W.Frag} {mg : Str → Option Value} {base : Heap}
theorem scIB : FnScope ["number"] ["number"] (defScope sIsBeat) := ⟨rfl, rfl, rfl, by decide +kernel, rfl, by decide +kernel, by decide +kernel⟩
theorem ok_isbeat {f : Addr} {fd : FuncData} (F : Fun K "is_beat" "is_beat" sIsBeat f fd) {tk : Tok} (cF : mg "FARTHEST" = some (.int 1000000000 tk)) : FnOk P w K mg base CX0 1 f fd ["number"] spIsBeat := by
  refine F.ok scIB (fun vs H Q E h => ?_) (fun cdv A outer s H vs Q E hr h => ?_)
  · obtain ⟨b, rfl, _⟩ := h
    rfl
  · obtain ⟨b, rfl, hb, k⟩ := h
    refine ⟨_, pss_one (ps_ret (pe_chain op_le op_le (pe_un un_neg (pe_glob (v := .int 1000000000) (by rfl) cF ⟨_, rfl⟩)) (pv 0) (pe_glob (v := .int 1000000000) (by rfl) cF ⟨_, rfl⟩))), ?_⟩
    refine ⟨_, rfl, _, rfl, _, _, rfl, rfl, _, rfl, ?_⟩
    rw [decide_eq_true (show -(1000000000 : Int) ≤ b from hb.1)]
    refine iteT ⟨_, _, rfl, rfl, ?_⟩
    show Q (.bl (decide (b ≤ (1000000000 : Int)))) H
    rw [decide_eq_true (show b ≤ (1000000000 : Int) from hb.2)]
    exact k
theorem scNB : FnScope ["beat"] ["beat"] (defScope sNeedBeat) := ⟨rfl, rfl, rfl, by decide +kernel, rfl, by decide +kernel, by decide +kernel⟩
theorem ok_needbeat {f fIb : Addr} {fd dIb : FuncData} (F : Fun K "need_beat" "need_beat" sNeedBeat f fd) (FIb : Fun K "is_beat" "is_beat" sIsBeat fIb dIb) (bIb : Binds K dIb ["number"] []) (gIb : mg "is_beat" = some (.ref fIb)) (GIb : FnOk P w K mg base CX0 1 fIb dIb ["number"] spIsBeat) : FnOk P w K mg base CX0 2 f fd ["beat"] spNeedBeat := by
  refine F.ok scNB (fun vs H Q E h => ?_) (fun cdv A outer s H vs Q E hr h => ?_)
  · obtain ⟨b, rfl, _⟩ := h
    rfl
  · obtain ⟨b, rfl, hb, k⟩ := h
    refine ⟨_, pss_one (ps_if (pt_not (pt_val (pe_call GIb hr (by rfl) gIb FIb.kp bIb .nil pass0 (pa_cons (pv 0) pa_nil)))) (pss_one (ps_never)) pss_nil), ?_⟩
    refine ⟨_, rfl, b, rfl, hb, ?_⟩
    exact ⟨true, rfl, iteF k⟩
theorem scWhl : FnScope ["self"] ["self"] (defScope sc_wheel) := ⟨rfl, rfl, rfl, by decide +kernel, rfl, by decide +kernel, by decide +kernel⟩
theorem ok_wheelm {f C CS : Addr} {fd : FuncData} (F : Fun K "wheel" "Scene.wheel" sc_wheel f fd) (T : STxt K CS) (m_len : mg "len" = none) : FnOk P w K mg base CX0 1 f fd ["self"] (spWheelM C CS) := by
  refine F.ok scWhl (fun vs H Q E h => ?_) (fun cdv A outer s H vs Q E hr h => ?_)
  · obtain ⟨sc, zs, ds, ss, ps, ws, mt, rl, W, rfl, _⟩ := h
    rfl
  · obtain ⟨sc, zs, ds, ss, ps, ws, mt, rl, W, rfl, hS, k⟩ := h
    refine ⟨_, pss_one (ps_ret (pe_callB call_len_seq (by rfl) m_len PySem.boot_len (pa_cons (pe_fld (pv 0) rfl) pa_nil))), ?_⟩
    obtain ⟨ok, dx, h, p, w', o, hd, l, m, xs, ys, os, ls, ms, a⟩ := id hS
    have ol := (a.order 0).1
    refine ⟨_, rfl, sc, CS, dx, _, _, rfl, a.obj, T.cl, T.n_orders, sfl_orders, o, _, rfl, .inl (SqL.of a.fo), ?_⟩
    rw [ol]
    exact k
theorem scDrk : FnScope ["self", "room", "beat"] ["self", "room", "beat"] (defScope sc_is_dark) := ⟨rfl, rfl, rfl, by decide +kernel, rfl, by decide +kernel, by decide +kernel⟩
theorem ok_dark {f C CS fNb fNe fWl : Addr} {fd dNb dNe dWl : FuncData} (F : Fun K "is_dark" "Scene.is_dark" sc_is_dark f fd) (T : STxt K CS) (FNb : Fun K "need_beat" "need_beat" sNeedBeat fNb dNb) (bNb : Binds K dNb ["beat"] []) (gNb : mg "need_beat" = some (.ref fNb)) (GNb : FnOk P w K mg base CX0 2 fNb dNb ["beat"] spNeedBeat) (FNe : Fun K "need_room" "need_room" sNeed fNe dNe) (bNe : Binds K dNe ["house", "room"] []) (gNe : mg "need_room" = some (.ref fNe)) (GNe : FnOk P w K mg base CX0 2 fNe dNe ["house", "room"] (spNeed C)) (mWl : Meth K CS "wheel" fWl) (bWl : Binds K dWl ["self"] []) (GWl : FnOk P w K mg base CX0 1 fWl dWl ["self"] (spWheelM C CS)) : FnOk P w K mg base CX0 3 f fd ["self", "room", "beat"] (spDarkM C CS) := by
  refine F.ok scDrk (fun vs H Q E h => ?_) (fun cdv A outer s H vs Q E hr h => ?_)
  · obtain ⟨sc, zs, ds, ss, ps, ws, mt, rl, W, z, b, rfl, _⟩ := h
    rfl
  · obtain ⟨sc, zs, ds, ss, ps, ws, mt, rl, W, z, b, rfl, hS, hz, hb, k⟩ := h
    refine ⟨_, pss_cons (ps_expr (pe_call GNe hr (by rfl) gNe FNe.kp bNe .nil pass0 (pa_cons (pe_fld (pv 0) rfl) (pa_cons (pv 1) pa_nil))))
      (pss_cons (ps_expr (pe_call GNb hr (by rfl) gNb FNb.kp bNb .nil pass0 (pa_cons (pv 2) pa_nil)))
      (pss_one (ps_ret (pe_cmpR op_notIn_seq (pv 1) (pe_ix ix_list (pe_fld (pv 0) rfl) (pe_op op_mod (pv 2) (pe_meth0 (pv 0) T.cl mWl GWl (hr.mono (by decide)) bWl .nil pass0)) (fun _ _ => rfl)) (by rfl))))), ?_⟩
    obtain ⟨ok, dx, h, p, w', o, hd, l, m, xs, ys, os, ls, ms, a⟩ := id hS
    have W0 := a.fwh.1
    obtain ⟨oq, eo, hoq⟩ := a.light b
    refine ⟨_, rfl, sc, CS, dx, _, _, rfl, a.obj, T.cl, T.n_home, sfl_home, _, rfl, h, zs, z, rfl, (Hs.of a.fh).nmd, hz, ?_⟩
    refine ⟨_, rfl, b, rfl, hb, ?_⟩
    refine ⟨_, rfl, _, rfl, sc, CS, dx, _, _, rfl, a.obj, T.cl, T.n_lights, sfl_lights, _, rfl, _, rfl, sc, dx, _, rfl, a.obj, sf_no (by decide +kernel), sc, zs, ds, ss, ps, ws, mt, rl, W, rfl, hS, _, _, rfl, rfl, by omega, l, _, _, _, rfl, rfl, SqL.of a.fl, eo, oq, _, rfl, .inl (SqL.of hoq), rfl, flat_all _, ?_⟩
    show Q (V.bl (!inV (.str z) ((litAt zs (lnk zs ss) (ps.map (·.2)) ws mt rl (rest b W)).map V.str))) H
    rw [in_strs]
    exact k H (fun _ _ z => z)
theorem scStp : FnScope ["self", "room", "beat", "rest", "lights", "moves", "other"] ["self", "room", "beat"] (defScope sc_steps) := ⟨rfl, rfl, rfl, by decide +kernel, rfl, by decide +kernel, by decide +kernel⟩
theorem ok_steps {f C CS fNb fNe fWl : Addr} {fd dNb dNe dWl : FuncData} (F : Fun K "steps" "Scene.steps" sc_steps f fd) (T : STxt K CS) (FNb : Fun K "need_beat" "need_beat" sNeedBeat fNb dNb) (bNb : Binds K dNb ["beat"] []) (gNb : mg "need_beat" = some (.ref fNb)) (GNb : FnOk P w K mg base CX0 2 fNb dNb ["beat"] spNeedBeat) (FNe : Fun K "need_room" "need_room" sNeed fNe dNe) (bNe : Binds K dNe ["house", "room"] []) (gNe : mg "need_room" = some (.ref fNe)) (GNe : FnOk P w K mg base CX0 2 fNe dNe ["house", "room"] (spNeed C)) (mWl : Meth K CS "wheel" fWl) (bWl : Binds K dWl ["self"] []) (GWl : FnOk P w K mg base CX0 1 fWl dWl ["self"] (spWheelM C CS)) : FnOk P w K mg base CX0 3 f fd ["self", "room", "beat"] (spSteps C CS) := by
  refine F.ok scStp (fun vs H Q E h => ?_) (fun cdv A outer s H vs Q E hr h => ?_)
  · obtain ⟨sc, zs, ds, ss, ps, ws, mt, rl, W, z, b, rfl, _⟩ := h
    rfl
  · obtain ⟨sc, zs, ds, ss, ps, ws, mt, rl, W, z, b, rfl, hS, hz, hb, k⟩ := h
    have hu65 : (A.deeper (PyProof.Rows.envOfC "Scene.steps" (defScope sc_steps) s.heap.objs.size f cdv)).units + 65 < cLine := by
      have := hr.un
      omega
    refine ⟨_, pss_cons (ps_expr (pe_call GNe hr (by rfl) gNe FNe.kp bNe .nil pass0 (pa_cons (pe_fld (pv 0) rfl) (pa_cons (pv 1) pa_nil))))
      (pss_cons (ps_expr (pe_call GNb hr (by rfl) gNb FNb.kp bNb .nil pass0 (pa_cons (pv 2) pa_nil)))
      (pss_cons (ps_set (i := 3) scStp.nd rfl (Or.inl rfl) (pe_op op_mod (pe_op op_add (pv 2) pe_int) (pe_meth0 (pv 0) T.cl mWl GWl (hr.mono (by decide)) bWl .nil pass0)))
      (pss_cons (ps_set (i := 4) scStp.nd rfl (Or.inr rfl) (pe_ix ix_list (pe_fld (pv 0) rfl) (pv 3) (fun _ _ => rfl)))
      (pss_cons (ps_set (i := 5) scStp.nd rfl (Or.inr rfl) (pe_ix ix_list (pe_fld (pv 0) rfl) (pv 3) (fun _ _ => rfl)))
      (pss_one (ps_ret (pe_lc (own := [("other", 6)]) (g := gName 6) (tt := tAnd (tTest (tOp (rIn K true) (tVar 6) (tVar 4))) (tTest (tOp (rNotInD K) (tTup (tCons (tVar 6) (tCons (tVar 1) tNil))) (tVar 5)))) (te := tVar 6) rfl scStp.nd (pi_list (pe_dget (hu_of hr) (pe_fld (pv 0) rfl) (pv 1) (fun _ _ => rfl))) (blkOk_by (N := ["self", "room", "beat", "rest", "lights", "moves", "other"]) (sc := defScope sc_steps) (by decide +kernel)) (fun _ _ _ _ _ => (pg_name (i := 6) scStp.nd rfl (Or.inl rfl))) (fun _ _ _ _ _ => pts_one (PW.pt (pw_and (pt_cmpR op_notIn_seq (pv 6) (pv 4) (by rfl)) (pw_and1 (pt_cmpR (op_notInD hu65) (pe_tup (pa_cons (pv 6) (pa_cons (pv 1) pa_nil))) (pv 5) (by rfl)))))) (fun _ _ _ _ _ => (pv 6))))))))), ?_⟩
    obtain ⟨ok, dx, h, p, w', o, hd, l, m, xs, ys, os, ls, ms, a⟩ := id hS
    have W0 := a.fwh.1
    obtain ⟨lq, el, hlq⟩ := a.light (b + 1)
    obtain ⟨mq', us, em, hmq, hus⟩ := a.move (b + 1)
    obtain ⟨hp, hhp, hget⟩ := a.fhd.get ok.names.1 hz
    refine ⟨_, rfl, sc, CS, dx, _, _, rfl, a.obj, T.cl, T.n_home, sfl_home, _, rfl, h, zs, z, rfl, (Hs.of a.fh).nmd, hz, ?_⟩
    refine ⟨_, rfl, b, rfl, hb, ?_⟩
    refine ⟨_, rfl, _, _, rfl, rfl, _, rfl, sc, dx, _, rfl, a.obj, sf_no (by decide +kernel), sc, zs, ds, ss, ps, ws, mt, rl, W, rfl, hS, _, _, rfl, rfl, by omega, ?_⟩
    refine ⟨_, rfl, sc, CS, dx, _, _, rfl, a.obj, T.cl, T.n_lights, sfl_lights, _, rfl, l, _, _, _, rfl, rfl, SqL.of a.fl, el, ?_⟩
    refine ⟨_, rfl, sc, CS, dx, _, _, rfl, a.obj, T.cl, T.n_moves, sfl_moves, _, rfl, m, _, _, _, rfl, rfl, SqL.of a.fm, em, ?_⟩
    have mo := mov_ok (zs := zs) ok.names (fun t ht => by obtain ⟨q, hq, rfl⟩ := List.mem_map.mp ht; exact (ok.pok.rnd q hq).one) ok.trIn (rest (b + 1) W)
    have es : litAt zs (lnk zs ss) (ps.map (·.2)) ws mt rl (rest (b + 1) W) = litN zs (lnk zs ss) (stnd (ps.map (·.2)) (b + 1)) (reachN ws ((ordN (ps.map (·.2)) ws.length mt rl (rest (b + 1) W)).take (ps.map (·.2)).length)) := by
      unfold litAt
      rw [stnd_rest a.fwh.1 a.fwh.dvd]
    rw [es] at hlq
    have emv := fun o => mvB_mov a.fwh (b + 1) o z
    unfold stpN at k
    generalize litN zs (lnk zs ss) (stnd (ps.map (·.2)) (b + 1)) (reachN ws ((ordN (ps.map (·.2)) ws.length mt rl (rest (b + 1) W)).take (ps.map (·.2)).length)) = lit at hlq k
    generalize movAt (ps.map (·.2)) (rest (b + 1) W) = mov at hus mo emv
    refine ⟨_, rfl, sc, CS, dx, _, _, rfl, a.obj, T.cl, T.n_hands, sfl_hands, _, rfl, hd, _, rfl, hget _ (fun _ _ z => z), hp, rfl, ⟨_, SqL.of hhp⟩, fun D nD => ?_⟩
    have hln : ∀ j, ((handN zs (lnk zs (both ds)) z).take j).length ≤ 8 := fun j => by
      rw [List.length_take]
      have := List.length_filter_le (fun b => decide (b ∈ lnk zs (both ds) z) || decide (z = b)) zs
      have := ok.eight
      unfold handN
      omega
    have hin : ∀ o ∈ handN zs (lnk zs (both ds)) z, o ∈ zs := fun o h => (List.mem_filter.mp h).1
    generalize handN zs (lnk zs (both ds)) z = hs at hhp hln hin k
    refine it_any (walk_list (K := K) (a := hp) (xs := hs.map V.str)) (fun j H' => Same H H' ∧ H' D = some (.lst (((hs.take j).filter fun o => !decide (o ∈ lit) && !mvB (ps.map (·.2)) (b + 1) o z).map V.str))) ⟨same_new nD, upd_same⟩ (fun j H' _ z => SqL.of (z.1 _ _ hhp)) ?_ ?_
    · rintro j x G1 G2 hj ⟨g1, hD⟩ ⟨rfl, hx⟩
      obtain ⟨oo, eo, rfl⟩ := str_at hx
      have eo' : hs[j]? = some oo := eo
      have ef : ((hs.take (j + 1)).filter fun o => !decide (o ∈ lit) && !mvB (ps.map (·.2)) (b + 1) o z) = ((hs.take j).filter fun o => !decide (o ∈ lit) && !mvB (ps.map (·.2)) (b + 1) o z) ++ (if (!decide (oo ∈ lit) && !mvB (ps.map (·.2)) (b + 1) oo z) = true then [oo] else []) := filter_takeG eo'
      refine ⟨rfl, _, rfl, _, rfl, lq, _, rfl, .inl (SqL.of (g1 _ _ hlq)), rfl, flat_all _, _, rfl, ?_⟩
      show if (!inV (.str oo) (lit.map V.str)) = true then _ else _
      rw [in_strs]
      refine ite2 (fun e => ?_) (fun e => ?_)
      · refine ⟨_, rfl, _, rfl, by show 2 ≤ sizeLine; decide, fun tq ntq => ?_⟩
        have s2 := same_new (o := .tup [.str oo, .str z]) ntq
        have htq : (upd G2 tq (.tup [.str oo, .str z])) tq = some (.tup [.str oo, .str z]) := upd_same
        generalize upd G2 tq (.tup [.str oo, .str z]) = G3 at s2 htq ⊢
        have g13 := g1.trans s2
        refine ⟨_, rfl, pd (oo, z), mov.map pd, pr_dp ⟨tq, rfl, htq⟩, .lst (SqL.of (g13 _ _ hmq)) (pl_dp (hus.same g13)), pd_shaped ⟨nm_ok (ok.names.2 _ (hin oo (List.mem_of_getElem? eo'))), nm_ok (ok.names.2 _ hz)⟩, pds_shaped mo, _, rfl, ?_⟩
        rw [any_pd, emv]
        refine ite2 (fun e2 => ?_) (fun e2 => ?_)
        · refine ⟨_, rfl, _, s2 _ _ hD, small1000 (by rw [List.length_map]; exact Nat.le_trans (List.length_filter_le ..) (Nat.le_trans (hln j) (by decide))), same_put g13 nD, ?_⟩
          rw [upd_same, ef, if_pos (by rw [e, e2]; rfl), List.map_append]
          rfl
        · refine ⟨g13, ?_⟩
          rw [s2 _ _ hD, ef, if_neg (by rw [e]; simpa using e2), List.append_nil]
      · refine ⟨g1, ?_⟩
        rw [hD, ef, if_neg (by intro y; rw [Bool.and_eq_true] at y; exact e y.1), List.append_nil]
    rintro G1 ⟨g1, hD⟩
    rw [List.length_map, List.take_length] at hD
    exact k G1 D g1 nD hD
theorem scHou : FnScope ["self"] ["self"] (defScope sc_house) := ⟨rfl, rfl, rfl, by decide +kernel, rfl, by decide +kernel, by decide +kernel⟩
theorem ok_housem {f C CS : Addr} {fd : FuncData} (F : Fun K "house" "Scene.house" sc_house f fd) (T : STxt K CS) : FnOk P w K mg base CX0 1 f fd ["self"] (spHouseM C CS) := by
  refine F.ok scHou (fun vs H Q E h => ?_) (fun cdv A outer s H vs Q E hr h => ?_)
  · obtain ⟨sc, zs, ds, ss, ps, ws, mt, rl, W, rfl, _⟩ := h
    rfl
  · obtain ⟨sc, zs, ds, ss, ps, ws, mt, rl, W, rfl, hS, k⟩ := h
    refine ⟨_, pss_one (ps_ret (pe_fld (pv 0) rfl)), ?_⟩
    obtain ⟨ok, dx, h, p, w', o, hd, l, m, xs, ys, os, ls, ms, a⟩ := id hS
    exact ⟨_, rfl, sc, CS, dx, _, _, rfl, a.obj, T.cl, T.n_home, sfl_home, k h a.fh⟩
end
end Dk
namespace Dk
open PySem L2
section
variable {P : Program} {w : World} {K : PySem.W.Frag} {mg : Str → Option Value} {base : Heap}
theorem scMade : FnScope ["_law_house_here"] ["_law_house_here"] (defScope sLawMade) := ⟨rfl, rfl, rfl, by decide +kernel, rfl, by decide +kernel, by decide +kernel⟩
theorem ok_made {f C fI : Addr} {fd dI : FuncData} (F : Fun K "_law_made" "_law_made" sLawMade f fd) (mk : Mk K C fI) (GI : FnOk P w K mg base CX0 6 fI dI ["self", "rooms", "doors", "sights"] (spInit K C)) (gC : mg "House" = some (.ref C)) (bI : Binds K dI ["self", "rooms", "doors", "sights"] []) (m_list : mg "list" = none) :
    FnOk P w K mg base CX0 8 f fd ["_law_house_here"] (spMade C) := by
  refine F.ok scMade (fun vs H Q E h => ?_) (fun cdv A outer s H vs Q E hr h => ?_)
  · obtain ⟨t, zs, ds, ss, rfl, _⟩ := h
    rfl
  · obtain ⟨t, zs, ds, ss, rfl, ⟨r, d, s', xs, us, h1, h2, h3, h4, h5, h6⟩, ft, k⟩ := h
    refine ⟨_, pss_one (ps_ret (pe_make mk GI hr (by rfl) gC bI .nil pass0 (pa_cons (pe_callTy call_list_of (by rfl) m_list (by decide +kernel) (pa_cons (pe_ix ix_tup (pv 0) pe_int (fun _ _ => rfl)) pa_nil)) (pa_cons (pe_callTy call_list_of (by rfl) m_list (by decide +kernel) (pa_cons (pe_ix ix_tup (pv 0) pe_int (fun _ _ => rfl)) pa_nil)) (pa_cons (pe_callTy call_list_of (by rfl) m_list (by decide +kernel) (pa_cons (pe_ix ix_tup (pv 0) pe_int (fun _ _ => rfl)) pa_nil)) pa_nil))))), ?_⟩
    refine ⟨_, rfl, t, _, 0, _, rfl, rfl, SqT.of h1, rfl, r, _, rfl, .inl (SqL.of h2), fun r1 n1 => ?_⟩
    have s1 := same_new (o := .lst (zs.map V.str)) n1
    refine ⟨_, rfl, t, _, 1, _, rfl, rfl, SqT.of (s1 _ _ h1), rfl, d, _, rfl, .inl (SqL.of (s1 _ _ h3)), fun d1 n2 => ?_⟩
    have s2 := same_new (o := .lst xs) n2
    have s02 := s1.trans s2
    refine ⟨_, rfl, t, _, 2, _, rfl, rfl, SqT.of (s02 _ _ h1), rfl, s', _, rfl, .inl (SqL.of (s02 _ _ h5)), fun u1 n3 => ?_⟩
    have s3 := same_new (o := .lst us) n3
    have s03 := s02.trans s3
    have g1 := (s2.trans s3) _ _ (upd_same (H := H) (a := r1) (o := .lst (zs.map V.str)))
    have g2 := s3 _ _ (upd_same (H := upd H r1 (.lst (zs.map V.str))) (a := d1) (o := .lst xs))
    intro x dx nx ndx ndxx
    refine ⟨_, x, dx, r1, d1, u1, zs, xs, us, ds, ss, rfl, (same_new ndx).trans (same_new (by rw [upd_ne ndxx.symm]; exact nx)), nx, upd_same, .inl (SqL.of g1), ft.names, ft.eight, .inl (SqL.of g2), h4.same s03, by rw [h4.1]; have := ft.dl; omega, ft.dg, .inl (SqL.of upd_same), h6.same s03, by rw [h6.1]; have := ft.sl; omega, ft.sg, fun H4 s4 hH => ⟨rfl, ?_⟩⟩
    exact k H4 x (s03.trans s4) (s03.free nx) (hH.same (new_up s03 (fun q o _ h2 => h2)))
end
end Dk
namespace Dk
open PySem L2
section
variable {P : Program} {w : World} {K : PySem.W.Frag} {mg : Str → Option Value} {base : Heap}
theorem scNeedX : FnScope ["house", "room"] ["house", "room"] (defScope sNeed) := ⟨rfl, rfl, rfl, by decide +kernel, rfl, by decide +kernel, by decide +kernel⟩
theorem ok_needX {f fH C : Addr} {fd dH : FuncData} {cs : Nat → Addr} (F : Fun K "need_room" "need_room" sNeed f fd) (T : HTxt K C) (mH : Meth K C "has_room" fH) (bH : Binds K dH ["self", "name"] []) (GH : FnOk P w K mg base CX0 1 fH dH ["self", "name"] (spHas C)) (R_NoRoom : Rai P w K mg base cs 16 "NoRoom" "name" okT) : FnOk P w K mg base (L2N.CX P w) 4 f fd ["house", "room"] (spNeedX C cs) := by
  refine fun_okN F scNeedX (fun vs H Q E h => ?_) (fun cdv A outer s H vs Q E hr h tk => ?_)
  · obtain ⟨h, zs, z, rfl, _⟩ := h
    rfl
  · obtain ⟨h, zs, z, rfl, ⟨dx, n, fs, h1, h2, h3, h4⟩, k1, k2⟩ := h
    refine ⟨_, pss_one (ps_if (pt_not (pt_val (pe_meth (pv 0) T.cl mH GH (hr.mono (by decide)) bH .nil pass0 (pa_cons (pv 1) pa_nil)))) (pss_one (ps_rai R_NoRoom rfl tk (hr.mono (by decide)) pass0 (by rfl) (pv 1))) pss_nil), ?_⟩
    refine ⟨_, rfl, h, dx, fs, rfl, h1, h3, _, rfl, h, zs, z, rfl, ⟨dx, n, fs, h1, h2, h3, h4⟩, ?_⟩
    by_cases hz : z ∈ zs
    · rw [decide_eq_true hz]
      exact ⟨true, rfl, iteF (k1 hz)⟩
    · rw [decide_eq_false hz]
      obtain ⟨l, r⟩ := k2 hz
      exact ⟨false, rfl, iteT ⟨_, rfl, ⟨z, rfl, l⟩, r⟩⟩
theorem scIBA : FnScope ["number"] ["number"] (defScope sIsBeat) := ⟨rfl, rfl, rfl, by decide +kernel, rfl, by decide +kernel, by decide +kernel⟩
theorem ok_isbeatA {f : Addr} {fd : FuncData} (F : Fun K "is_beat" "is_beat" sIsBeat f fd) {tkF : Tok} (cF : mg "FARTHEST" = some (.int 1000000000 tkF)) : FnOk P w K mg base CX0 1 f fd ["number"] spIsBeatA := by
  refine F.ok scIBA (fun vs H Q E h => ?_) (fun cdv A outer s H vs Q E hr h => ?_)
  · obtain ⟨b, rfl, _⟩ := h
    rfl
  · obtain ⟨b, rfl, k⟩ := h
    refine ⟨_, pss_one (ps_ret (pe_chain op_le op_le (pe_un un_neg (pe_glob (v := .int 1000000000) (by rfl) cF ⟨_, rfl⟩)) (pv 0) (pe_glob (v := .int 1000000000) (by rfl) cF ⟨_, rfl⟩))), ?_⟩
    refine ⟨_, rfl, _, rfl, _, _, rfl, rfl, _, rfl, ?_⟩
    by_cases h1 : -(1000000000 : Int) ≤ b
    · rw [decide_eq_true h1]
      refine iteT ⟨_, _, rfl, rfl, ?_⟩
      show Q (.bl (decide (b ≤ (1000000000 : Int)))) H
      have e : decide (beatOk b) = decide (b ≤ (1000000000 : Int)) := by
        rw [Bool.eq_iff_iff, decide_eq_true_eq, decide_eq_true_eq]
        unfold beatOk
        omega
      rw [← e]
      exact k
    · rw [decide_eq_false h1]
      rw [decide_eq_false (show ¬ beatOk b from fun z => h1 z.1)] at k
      exact iteF k
theorem scNBX : FnScope ["beat"] ["beat"] (defScope sNeedBeat) := ⟨rfl, rfl, rfl, by decide +kernel, rfl, by decide +kernel, by decide +kernel⟩
theorem ok_needbeatX {f fIb : Addr} {fd dIb : FuncData} {cs : Nat → Addr} (F : Fun K "need_beat" "need_beat" sNeedBeat f fd) (FIb : Fun K "is_beat" "is_beat" sIsBeat fIb dIb) (bIb : Binds K dIb ["number"] []) (gIb : mg "is_beat" = some (.ref fIb)) (GIb : FnOk P w K mg base CX0 1 fIb dIb ["number"] spIsBeatA) (R_BadNumber : Rai P w K mg base cs 3 "BadNumber" "asked" okI) : FnOk P w K mg base (L2N.CX P w) 4 f fd ["beat"] (spNeedBeatX cs) := by
  refine fun_okN F scNBX (fun vs H Q E h => ?_) (fun cdv A outer s H vs Q E hr h tk => ?_)
  · obtain ⟨b, rfl, _⟩ := h
    rfl
  · obtain ⟨b, rfl, k1, k2⟩ := h
    refine ⟨_, pss_one (ps_if (pt_not (pt_val (pe_call GIb (hr.mono (by decide)) (by rfl) gIb FIb.kp bIb .nil pass0 (pa_cons (pv 0) pa_nil)))) (pss_one (ps_rai R_BadNumber rfl tk (hr.mono (by decide)) pass0 (by rfl) (pv 0))) pss_nil), ?_⟩
    refine ⟨_, rfl, b, rfl, ?_⟩
    by_cases hb : beatOk b
    · rw [decide_eq_true hb]
      exact ⟨true, rfl, iteF (k1 hb)⟩
    · rw [decide_eq_false hb]
      obtain ⟨l, r⟩ := k2 hb
      exact ⟨false, rfl, iteT ⟨_, rfl, ⟨b, rfl, l⟩, r⟩⟩
end
end Dk
namespace Dk
open PySem L2
section
variable {P : Program} {w : World} {K : PySem.W.Frag} {mg : Str → Option Value} {base : Heap}
theorem scNAX : FnScope ["scene", "starts", "goals", "begin", "house", "room"] ["scene", "starts", "goals", "begin"] (defScope sNeedAsked) := ⟨rfl, rfl, rfl, by decide +kernel, rfl, by decide +kernel, by decide +kernel⟩
theorem ok_needaskedX {f C CS fNe fNb fHo : Addr} {fd dNe dNb dHo : FuncData} {cs : Nat → Addr} (F : Fun K "need_asked" "need_asked" sNeedAsked f fd) (T : STxt K CS) (FNe : Fun K "need_room" "need_room" sNeed fNe dNe) (bNe : Binds K dNe ["house", "room"] []) (gNe : mg "need_room" = some (.ref fNe)) (GNe : FnOk P w K mg base (L2N.CX P w) 4 fNe dNe ["house", "room"] (spNeedX C cs)) (FNb : Fun K "need_beat" "need_beat" sNeedBeat fNb dNb) (bNb : Binds K dNb ["beat"] []) (gNb : mg "need_beat" = some (.ref fNb)) (GNb : FnOk P w K mg base (L2N.CX P w) 4 fNb dNb ["beat"] (spNeedBeatX cs)) (mHo : Meth K CS "house" fHo) (bHo : Binds K dHo ["self"] []) (GHo : FnOk P w K mg base CX0 1 fHo dHo ["self"] (spHouseM C CS)) : FnOk P w K mg base (L2N.CX P w) 5 f fd ["scene", "starts", "goals", "begin"] (spNeedAskedX K C CS cs) := by
  refine fun_okN F scNAX (fun vs H Q E h => ?_) (fun cdv A outer s H vs Q E hr h tk => ?_)
  · obtain ⟨sc, st, gl, zs, ds, ss, ps, ws, mt, rl, W, sl, gs, ob, rfl, _⟩ := h
    rfl
  · obtain ⟨sc, st, gl, zs, ds, ss, ps, ws, mt, rl, W, sl, gs, ob, rfl, hS, hst, hgl, is, ig, ls', lg', hb, k1, k2⟩ := h
    refine ⟨_, pss_cons (ps_set (i := 4) scNAX.nd rfl (Or.inl rfl) (pe_meth0 (pv 0) T.cl mHo GHo (hr.mono (by decide)) bHo .nil pass0))
      (pss_cons (ps_for (L2.passes_of rfl) rfl (pi_list (pe_lst (StX.pa_star (pv 1) (StX.pa_star (pv 2) pa_nil)))) (pg_name (i := 5) scNAX.nd rfl (Or.inl rfl))
      (pss_one (ps_expr (pe_call GNe (hr.mono (by decide)) (by rfl) gNe FNe.kp bNe .nil (L2N.passes_call tk (fun _ _ _ _ h => h)) (pa_cons (pv 4) (pa_cons (pv 5) pa_nil))))))
      (pss_one (ps_if (pt_cmpR op_notN (pv 3) pe_non (nomark _)) (pss_one (ps_expr (pe_call GNb (hr.mono (by decide)) (by rfl) gNb FNb.kp bNb .nil (L2N.passes_call tk (fun _ _ _ _ h => h)) (pa_cons (pv 3) pa_nil)))) pss_nil))), ?_⟩
    obtain ⟨ok, dx, h, p, w', o, hd, l, m, xs, ys, os, ls, ms, a⟩ := id hS
    refine ⟨_, rfl, sc, dx, _, rfl, a.obj, sf_no (by decide +kernel), sc, zs, ds, ss, ps, ws, mt, rl, W, rfl, hS, fun h' hh => ?_⟩
    refine ⟨_, rfl, st, _, rfl, hst.symm, _, rfl, gl, _, rfl, hgl.symm, ?_, fun c nc => ?_⟩
    · refine Nat.le_of_lt (small1000 ?_)
      rw [List.append_nil, List.length_append, List.length_map, List.length_map]
      omega
    rw [List.append_nil, ← List.map_append]
    have s1 := same_new (o := .lst ((sl ++ gs).map V.str)) nc
    have hc : (upd H c (.lst ((sl ++ gs).map V.str))) c = some (.lst ((sl ++ gs).map V.str)) := upd_same
    generalize upd H c (.lst ((sl ++ gs).map V.str)) = H1 at s1 hc ⊢
    have il : ∀ z ∈ sl ++ gs, okR z := fun z hz => (List.mem_append.mp hz).elim (is z) (ig z)
    generalize sl ++ gs = al at hc k1 k2 il ⊢
    obtain ⟨S, hS'⟩ : ∃ S, S = strW zs al := ⟨_, rfl⟩
    refine ⟨c, rfl, ⟨_, SqL.of hc⟩, for_list (K := K) (a := c) (xs := al.map V.str) (fun j σ G => (∃ y5, σ = [some (.ref sc), some (.ref st), some (.ref gl), some (optI ob), some (.ref h'), y5]) ∧ Same H1 G ∧ strW zs (al.drop j) = S) ⟨⟨_, rfl⟩, (fun _ _ z => z), by rw [List.drop_zero]; exact hS'.symm⟩ (fun j σ G _ z => SqL.of (z.2.1 _ _ hc)) ?_ ?_⟩
    · rintro j x σ G hx ⟨⟨y5, rfl⟩, g1, hw⟩
      obtain ⟨z, ez, rfl⟩ := str_at hx
      have jl := (List.getElem?_eq_some_iff.mp ez).1
      have ed : al.drop j = z :: al.drop (j + 1) := by
        rw [List.drop_eq_getElem_cons jl]
        rw [List.getElem?_eq_getElem jl] at ez
        rw [Option.some.inj ez]
      rw [ed] at hw
      unfold strW at hw
      have okz := il z (List.mem_of_getElem? ez)
      have hs := (Hs.of (hh.same (s1.trans g1))).nmd
      refine ⟨_, rfl, _, rfl, h', zs, z, rfl, hs, fun hz => ?_, fun hz => ?_⟩
      · rw [if_neg (fun n => n hz)] at hw
        exact ⟨⟨_, rfl⟩, g1, hw⟩
      · rw [if_pos hz] at hw
        refine ⟨okz.2, (k2 16 (.str z) ?_).same (s1.trans g1)⟩
        unfold askW
        rw [← hS', ← hw]
    · rintro σ G ⟨⟨y5, rfl⟩, g1, hw⟩
      rw [List.length_map, List.drop_length] at hw
      have eA : askW zs al ob = begW ob := by
        unfold askW
        rw [← hS', ← hw]
        rfl
      rw [eA] at k1 k2
      refine ⟨_, rfl, rfl, _, rfl, ?_⟩
      cases ob with
      | none => exact iteF (k1 rfl G (s1.trans g1))
      | some b =>
        refine iteT ⟨_, rfl, b, rfl, fun hb' => ?_, fun hb' => ?_⟩
        · exact k1 (by unfold begW; exact if_pos hb') G (s1.trans g1)
        · exact ⟨hb b rfl, (k2 3 (.int b) (by unfold begW; exact if_neg hb')).same (s1.trans g1)⟩
end
end Dk
namespace Dk
open PySem L2
section
variable {P : Program} {w : World} {K : PySem.W.Frag} {mg : Str → Option Value} {base : Heap}
theorem scBegQ : FnScope ["scene", "starts", "begin", "wheel", "rests", "rest", "room"] ["scene", "starts", "begin"] (defScope sBegin) := ⟨rfl, rfl, rfl, by decide +kernel, rfl, by decide +kernel, by decide +kernel⟩
theorem ok_beginQ {f C CS fWl fHo fRo fDk : Addr} {fd dWl dHo dRo dDk : FuncData} (F : Fun K "beginnings" "beginnings" sBegin f fd) (T : STxt K CS) (cl : Cls K C) (mWl : Meth K CS "wheel" fWl) (bWl : Binds K dWl ["self"] []) (GWl : FnOk P w K mg base CX0 1 fWl dWl ["self"] (spWheelM C CS)) (mHo : Meth K CS "house" fHo) (bHo : Binds K dHo ["self"] []) (GHo : FnOk P w K mg base CX0 1 fHo dHo ["self"] (spHouseM C CS)) (mRo : Meth K C "rooms" fRo) (bRo : Binds K dRo ["self"] []) (GRo : FnOk P w K mg base CX0 1 fRo dRo ["self"] (spRooms C))  (mDk : Meth K CS "is_dark" fDk) (bDk : Binds K dDk ["self", "room", "beat"] []) (GDk : FnOk P w K mg base CX0 3 fDk dDk ["self", "room", "beat"] (spDarkM C CS)) (m_list : mg "list" = none) (m_range : mg "range" = none) : FnOk P w K mg base CX0 4 f fd ["scene", "starts", "begin"] (spBeginQ K C CS) := by
  refine F.ok scBegQ (fun vs H Q E h => ?_) (fun cdv A outer s H vs Q E hr h => ?_)
  · obtain ⟨sc, st, zs, ds, ss, ps, ws, mt, rl, W, sl, ob, rfl, _⟩ := h
    rfl
  · obtain ⟨sc, st, zs, ds, ss, ps, ws, mt, rl, W, sl, ob, rfl, hS, hW, hst, k⟩ := h
    refine ⟨_, pss_cons (ps_set (i := 3) scBegQ.nd rfl (Or.inl rfl) (pe_meth0 (pv 0) T.cl mWl GWl (hr.mono (by decide)) bWl .nil pass0))
      (pss_cons (ps_mid (ps_set (i := 4) scBegQ.nd rfl (Or.inl rfl) (pe_ifExp (pt_cmpR op_isN (pv 2) pe_non (nomark _)) (pe_listRg rfl (by rfl) m_list (prg_1 (by rfl) m_range (pv 3))) (pe_lst (pa_cons (pe_op op_mod (pv 2) (pv 3)) pa_nil)))))
      (pss_one (ps_ret (pe_lc2 (own := [("rest", 5), ("room", 6)]) (vs1 := [6]) (g := gName 5) (tt := tYes) (g1 := gName 6) (wi1 := iList K (tMeth C "rooms" (spRooms C) [] E0 (tMeth CS "house" (spHouseM C CS) [] E0 (tVar 0) tNil) tNil)) (tt1 := tAnd (tTest (tOp (rIn K false) (tVar 6) (tVar 1))) (tTest (tMeth CS "is_dark" (spDarkM C CS) [] E0 (tVar 0) (tCons (tVar 6) (tCons (tVar 5) tNil))))) rfl scBegQ.nd (pi_list (pv 4)) (blkOk_by (N := ["scene", "starts", "begin", "wheel", "rests", "rest", "room"]) (sc := defScope sBegin) (by decide +kernel)) (by decide) (fun _ _ _ _ _ => (pg_name (i := 5) scBegQ.nd rfl (Or.inl rfl))) (fun _ _ _ _ _ => pts_nil) (fun _ _ _ _ _ => (pi_list (pe_meth0 (pe_meth0 (pv 0) T.cl mHo GHo (hr.mono (by decide)) bHo .nil pass0) cl mRo GRo (hr.mono (by decide)) bRo .nil pass0 (mcall_of rfl (fun _ => rfl))))) (fun _ _ _ _ _ => (pg_name (i := 6) scBegQ.nd rfl (Or.inl rfl))) (fun _ _ _ _ _ => pts_one (PW.pt (pw_and (pt_cmpR op_in_seq (pv 6) (pv 1) (by rfl)) (pw_and1 (pt_val (pe_meth (pv 0) T.cl mDk GDk hr bDk .nil pass0 (pa_cons (pv 6) (pa_cons (pv 5) pa_nil)))))))) (fun _ _ _ _ _ => (pe_tup (pa_cons (pv 6) (pa_cons (pv 5) pa_nil)))))))), ?_⟩
    obtain ⟨ok, dx, h, p, w', o, hd, l, m, xs, ys, os, ls, ms, a⟩ := id hS
    have W0 := a.fwh.1
    have l8 := ok.eight
    refine ⟨_, rfl, sc, dx, _, rfl, a.obj, sf_no (by decide +kernel), sc, zs, ds, ss, ps, ws, mt, rl, W, rfl, hS, ?_⟩
    refine ⟨fun σ' H' => ∃ R, σ' = [some (.ref sc), some (.ref st), some (optI ob), some (.int ((W : Nat) : Int)), some (.ref R), none, none] ∧ Same H H' ∧ H' R = some (.lst ((rsts W ob).map natV)), ?_, ?_⟩
    · refine ⟨_, rfl, rfl, _, rfl, ?_⟩
      cases ob with
      | none =>
        refine iteT ⟨_, rfl, _, rfl, ⟨by omega, by omega, by omega, by omega, Nat.le_trans (show (((W : Nat) : Int) - 0).toNat ≤ 1440 by omega) (by decide)⟩, fun R nR => ⟨R, rfl, same_new nR, ?_⟩⟩
        rw [upd_same]
        unfold rgV rsts
        rw [show (((W : Nat) : Int) - 0).toNat = W by omega]
        congr 2
        apply List.map_congr_left
        intro i _
        show V.int (0 + ((i : Nat) : Int)) = V.int ((i : Nat) : Int)
        rw [Int.zero_add]
      | some b =>
        refine iteF ⟨_, rfl, _, rfl, _, _, rfl, rfl, by omega, by show 1 ≤ sizeLine; decide, fun R nR => ⟨R, rfl, same_new nR, ?_⟩⟩
        rw [upd_same]
        show some (HO.lst [V.int (b % ((W : Nat) : Int))]) = some (HO.lst [V.int ((rest b W : Nat) : Int)])
        rw [(rest_lt W0 b).2]
    rintro σ' H1 ⟨R, rfl, s1, hR⟩
    have lr : (rsts W ob).length ≤ 1440 := by
      cases ob with
      | none => show (List.range W).length ≤ 1440; rw [List.length_range]; exact hW
      | some b => show 1 ≤ 1440; decide
    have hlt : ∀ r ∈ rsts W ob, r < W := by
      cases ob with
      | none => intro r hr; exact List.mem_range.mp hr
      | some b => intro r hr; rw [List.mem_singleton.mp hr]; exact (rest_lt W0 b).1
    have W24 := a.fwh.2.1
    have e24 : (2 : Nat) ^ 24 = 16777216 := by decide
    rw [e24] at W24
    have bl : ∀ r, (begS zs ss ps ws mt rl W sl r).length ≤ 8 := fun r => by
      unfold begS
      rw [List.length_map]
      exact Nat.le_trans (List.length_filter_le ..) l8
    have fl : ∀ (l : List Nat), ((l.map (begS zs ss ps ws mt rl W sl)).flatten).length ≤ 8 * l.length := fun l => by
      induction l with
      | nil => exact Nat.le_refl _
      | cons r l ih =>
        rw [List.map_cons, List.flatten_cons, List.length_append, List.length_cons]
        have := bl r
        omega
    refine ⟨_, rfl, R, rfl, ⟨_, SqL.of hR⟩, fun D nD => ?_⟩
    refine it_any (walk_list (K := K) (a := R) (xs := (rsts W ob).map natV)) (fun j G => Same H1 G ∧ ∃ ys, G D = some (.lst ys) ∧ CeL G ys ((((rsts W ob).take j).map (begS zs ss ps ws mt rl W sl)).flatten)) ⟨same_new nD, [], upd_same, AL.nil⟩ (fun j G _ z => SqL.of (z.1 _ _ hR)) ?_ ?_
    · rintro j x G1 G2 hj ⟨g1, ys, hD, hY⟩ ⟨rfl, hx⟩
      obtain ⟨r, er, rfl⟩ := nat_of_at hx
      have hrW := hlt r (List.mem_of_getElem? er)
      have er' : (rsts W ob)[j]? = some r := er
      have s01 := s1.trans g1
      have hS1 := hS.same s01
      obtain ⟨ok1, dx1, h1', p1, w1', o1, hd1, l1, m1, xs1, ys1, os1, ls1, ms1, a1⟩ := id hS1
      refine ⟨rfl, ?_⟩
      refine ⟨_, rfl, sc, dx1, _, rfl, a1.obj, sf_no (by decide +kernel), sc, zs, ds, ss, ps, ws, mt, rl, W, rfl, hS1, fun h2 hh2 => ?_⟩
      obtain ⟨dxh, nh, bh, vh, hh2o, _⟩ := id hh2
      refine ⟨h2, dxh, _, rfl, hh2o, hf_no _ _ _ (by decide +kernel) (by decide +kernel) (by decide +kernel), h2, zs, _, _, rfl, Hs.of hh2, fun G3 q g3 nq hq => ?_⟩
      refine ⟨q, rfl, ⟨_, SqL.of hq⟩, ?_⟩
      have hD3 := g3 _ _ hD
      have hY3 := CeL.same hY g3
      have bs0 : ∀ i, ((zs.take i).filter fun z => decide (z ∈ sl) && !decide (z ∈ litAt zs (lnk zs ss) (ps.map (·.2)) ws mt rl r)).length ≤ 8 := fun i => Nat.le_trans (List.length_filter_le ..) (by rw [List.length_take]; omega)
      have lY : ys.length ≤ 11520 := by
        have := fl ((rsts W ob).take j)
        rw [hY.1]
        rw [List.length_take] at this
        omega
      have nqD : q ≠ D := (ne_of_none hD nq).symm
      have nD1 : H1 D = none := nD
      generalize hpre : (((rsts W ob).take j).map (begS zs ss ps ws mt rl W sl)).flatten = pre at hY3 hY
      refine it_any (walk_list (K := K) (a := q) (xs := zs.map V.str)) (fun i G => Same H1 G ∧ G q = some (.lst (zs.map V.str)) ∧ ∃ ys', G D = some (.lst ys') ∧ CeL G ys' (pre ++ ((zs.take i).filter fun z => decide (z ∈ sl) && !decide (z ∈ litAt zs (lnk zs ss) (ps.map (·.2)) ws mt rl r)).map fun z => (z, r))) ⟨g1.trans g3, hq, ys, hD3, by rw [List.take_zero]; show CeL G3 ys (pre ++ []); rw [List.append_nil]; exact hY3⟩ (fun i G _ z => SqL.of z.2.1) ?_ ?_
      · rintro i y G4 G5 hi ⟨g4, hq4, ys', hD4, hY4⟩ ⟨rfl, hy⟩
        obtain ⟨z, ez, rfl⟩ := str_at hy
        have ez' : zs[i]? = some z := ez
        have ef := filter_takeG' (f := fun z => decide (z ∈ sl) && !decide (z ∈ litAt zs (lnk zs ss) (ps.map (·.2)) ws mt rl r)) ez'
        have s04 := s1.trans g4
        have no : ∀ G, Same H1 G → G q = some (.lst (zs.map V.str)) → G D = some (.lst ys') → CeL G ys' (pre ++ ((zs.take i).filter fun z => decide (z ∈ sl) && !decide (z ∈ litAt zs (lnk zs ss) (ps.map (·.2)) ws mt rl r)).map fun z => (z, r)) → (decide (z ∈ sl) && !decide (z ∈ litAt zs (lnk zs ss) (ps.map (·.2)) ws mt rl r)) = false → Same H1 G ∧ G q = some (.lst (zs.map V.str)) ∧ ∃ ys', G D = some (.lst ys') ∧ CeL G ys' (pre ++ ((zs.take (i + 1)).filter fun z => decide (z ∈ sl) && !decide (z ∈ litAt zs (lnk zs ss) (ps.map (·.2)) ws mt rl r)).map fun z => (z, r)) := fun G y1 y2 y3 y4 e => by
          refine ⟨y1, y2, ys', y3, ?_⟩
          rw [ef, if_neg (by rw [e]; decide), List.append_nil]
          exact y4
        refine ⟨rfl, _, rfl, _, rfl, st, _, rfl, hst.same s04, rfl, flat_all _, _, rfl, ?_⟩
        show if (inV (.str z) (sl.map V.str)) = true then _ else _
        rw [in_strs]
        refine ite2 (fun e1 => ?_) (fun e1 => ?_)
        · have hS4 := hS.same s04
          obtain ⟨ok4, dx4, h4', p4, w4', o4, hd4, l4, m4, xs4, ys4, os4, ls4, ms4, a4⟩ := id hS4
          refine ⟨_, rfl, sc, dx4, _, rfl, a4.obj, sf_no (by decide +kernel), _, rfl, _, rfl, sc, zs, ds, ss, ps, ws, mt, rl, W, z, ((r : Nat) : Int), rfl, hS4, List.mem_of_getElem? ez', ⟨by omega, by omega⟩, fun G6 g6 => ⟨_, rfl, ?_⟩⟩
          have er0 : rest ((r : Nat) : Int) W = r := by
            unfold rest
            rw [← Int.natCast_emod, Nat.mod_eq_of_lt hrW]
            rfl
          rw [er0]
          refine ite2 (fun e2 => ?_) (fun e2 => ?_)
          · refine ⟨_, rfl, _, rfl, by show 2 ≤ sizeLine; decide, fun tp ntp => ?_⟩
            have s7 := same_new (o := .tup [V.str z, V.int ((r : Nat) : Int)]) ntp
            have hD7 := s7 _ _ (g6 _ _ hD4)
            have yl' : ys'.length ≤ 11528 := by
              have y1 := hY4.1
              have y2 := bs0 i
              have y3 := hY.1
              rw [List.length_append, List.length_map] at y1
              omega
            refine ⟨_, hD7, Nat.lt_of_le_of_lt yl' (by decide), same_put ((g4.trans g6).trans s7) nD1, by rw [upd_ne nqD]; exact s7 _ _ (g6 _ _ hq4), _, upd_same, ?_⟩
            rw [ef, if_pos (by rw [e1, e2]; rfl), List.map_append, ← List.append_assoc]
            exact CeL.keep (AL.snoc (CeL.same hY4 (g6.trans s7)) ⟨tp, rfl, upd_same⟩) (KeepT.lst hD7)
          · exact no G6 (g4.trans g6) (g6 _ _ hq4) (g6 _ _ hD4) (CeL.same hY4 g6) (by rw [e1]; simpa using e2)
        · exact no G5 g4 hq4 hD4 hY4 (by cases h : decide (z ∈ sl) with | true => exact absurd h e1 | false => rfl)
      · rintro G4 ⟨g4, hq4, ys', hD4, hY4⟩
        rw [List.length_map, List.take_length] at hY4
        refine ⟨g4, ys', hD4, ?_⟩
        rw [take_snoc' er', List.map_append, List.flatten_append, hpre]
        show CeL G4 ys' (pre ++ (begS zs ss ps ws mt rl W sl r ++ []))
        rw [List.append_nil]
        exact hY4
    · rintro G1 ⟨g1, ys, hD, hY⟩
      rw [List.length_map, List.take_length] at hY
      exact k G1 D ys (s1.trans g1) (s1.free nD) hD hY
theorem scNxC : FnScope ["scene", "cell", "room", "rest", "next_rest", "other"] ["scene", "cell"] (defScope sNextCells) := ⟨rfl, rfl, rfl, by decide +kernel, rfl, by decide +kernel, by decide +kernel⟩
theorem ok_nextcells {f C CS fWl fStp : Addr} {fd dWl dStp : FuncData} (F : Fun K "next_cells" "next_cells" sNextCells f fd) (T : STxt K CS) (mWl : Meth K CS "wheel" fWl) (bWl : Binds K dWl ["self"] []) (GWl : FnOk P w K mg base CX0 1 fWl dWl ["self"] (spWheelM C CS)) (mStp : Meth K CS "steps" fStp) (bStp : Binds K dStp ["self", "room", "beat"] []) (GStp : FnOk P w K mg base CX0 3 fStp dStp ["self", "room", "beat"] (spSteps C CS)) : FnOk P w K mg base CX0 4 f fd ["scene", "cell"] (spNextCells C CS) := by
  refine F.ok scNxC (fun vs H Q E h => ?_) (fun cdv A outer s H vs Q E hr h => ?_)
  · obtain ⟨sc, q, zs, ds, ss, ps, ws, mt, rl, W, c, rfl, _⟩ := h
    rfl
  · obtain ⟨sc, q, zs, ds, ss, ps, ws, mt, rl, W, c, rfl, hS, hq, hz, hw, k⟩ := h
    refine ⟨_, pss_cons (ps_asg (pv 1) (pg_tup rfl (pgs_cons (pg_name (i := 2) scNxC.nd rfl (Or.inl rfl)) (pgs_cons (pg_name (i := 3) scNxC.nd rfl (Or.inl rfl)) pgs_nil))))
      (pss_cons (ps_set (i := 4) scNxC.nd rfl (Or.inr rfl) (pe_op op_mod (pe_op op_add (pv 3) pe_int) (pe_meth0 (pv 0) T.cl mWl GWl (hr.mono (by decide)) bWl .nil pass0)))
      (pss_one (ps_ret (pe_lc (own := [("other", 5)]) (g := gName 5) (tt := tYes)  rfl scNxC.nd (pi_list (pe_meth (pv 0) T.cl mStp GStp hr bStp .nil pass0 (pa_cons (pv 2) (pa_cons (pv 3) pa_nil)))) (blkOk_by (N := ["scene", "cell", "room", "rest", "next_rest", "other"]) (sc := defScope sNextCells) (by decide +kernel)) (fun _ _ _ _ _ => (pg_name (i := 5) scNxC.nd rfl (Or.inl rfl))) (fun _ _ _ _ _ => pts_nil) (fun _ _ _ _ _ => (pe_tup (pa_cons (pv 5) (pa_cons (pv 4) pa_nil)))))))), ?_⟩
    obtain ⟨ok, dx, h, p, w', o, hd, l, m, xs, ys, os, ls, ms, a⟩ := id hS
    have W0 := a.fwh.1
    have W24 := a.fwh.2.1
    have e24 : (2 : Nat) ^ 24 = 16777216 := by decide
    rw [e24] at W24
    refine ⟨_, rfl, q, _, rfl, SqT.of hq, rfl, _, _, rfl, _, _, rfl, rfl, ?_⟩
    refine ⟨_, rfl, _, _, rfl, rfl, _, rfl, sc, dx, _, rfl, a.obj, sf_no (by decide +kernel), sc, zs, ds, ss, ps, ws, mt, rl, W, rfl, hS, _, _, rfl, rfl, by omega, ?_⟩
    have en : (((c.2 : Nat) : Int) + 1) % ((W : Nat) : Int) = (((c.2 + 1) % W : Nat) : Int) := by
      rw [Int.natCast_emod]
      rfl
    show gName 4 (V.int ((((c.2 : Nat) : Int) + 1) % ((W : Nat) : Int))) _ _ _
    rw [en]
    refine ⟨_, rfl, sc, dx, _, rfl, a.obj, sf_no (by decide +kernel), _, rfl, _, rfl, sc, zs, ds, ss, ps, ws, mt, rl, W, c.1, ((c.2 : Nat) : Int), rfl, hS, hz, ⟨by omega, by omega⟩, fun H1 p1 s1 np1 hp1 => ?_⟩
    have hp1' : H1 p1 = some (.lst ((stpS zs ds ss ps ws mt rl W ((c.2 : Nat) : Int) c.1).map V.str)) := hp1
    have l8 : (stpS zs ds ss ps ws mt rl W ((c.2 : Nat) : Int) c.1).length ≤ 8 := Nat.le_trans stp_len ok.eight
    have ek : nxS zs ds ss ps ws mt rl W c = (stpS zs ds ss ps ws mt rl W ((c.2 : Nat) : Int) c.1).map fun o => (o, (c.2 + 1) % W) := rfl
    rw [ek] at k
    clear hp1 ek
    generalize stpS zs ds ss ps ws mt rl W ((c.2 : Nat) : Int) c.1 = os' at hp1' l8 k
    refine ⟨p1, rfl, ⟨_, SqL.of hp1'⟩, fun D nD => ?_⟩
    refine it_any (walk_list (K := K) (a := p1) (xs := os'.map V.str)) (fun j G => Same H1 G ∧ ∃ ys, G D = some (.lst ys) ∧ CeL G ys ((os'.take j).map fun o => (o, (c.2 + 1) % W))) ⟨same_new nD, [], upd_same, AL.nil⟩ (fun j G _ z => SqL.of (z.1 _ _ hp1')) ?_ ?_
    · rintro j x G1 G2 hj ⟨s2, ys, hD, hY⟩ ⟨rfl, hx⟩
      obtain ⟨z, ez, rfl⟩ := str_at hx
      have ez' : os'[j]? = some z := ez
      refine ⟨rfl, _, rfl, _, rfl, by show 2 ≤ sizeLine; decide, fun tp ntp => ?_⟩
      have s3 := same_new (o := .tup [V.str z, V.int (((c.2 + 1) % W : Nat) : Int)]) ntp
      have yl : ys.length ≤ 8 := by rw [hY.1, List.length_map, List.length_take]; omega
      refine ⟨_, s3 _ _ hD, small1000 (by omega), same_put (s2.trans s3) nD, _, upd_same, ?_⟩
      rw [take_snoc' ez', List.map_append]
      exact CeL.keep (AL.snoc (CeL.same hY s3) ⟨tp, rfl, upd_same⟩) (KeepT.lst (s3 _ _ hD))
    · rintro G1 ⟨s2, ys, hD, hY⟩
      rw [List.length_map, List.take_length] at hY
      exact k G1 D ys (s1.trans s2) (s1.free nD) hD hY
end
end Dk
namespace Dk
open PySem L2
section
variable {P : Program} {w : World} {K : PySem.W.Frag} {mg : Str → Option Value} {base : Heap}
theorem scTrc : FnScope ["ahead", "end", "row", "cell"] ["ahead", "end"] (defScope sTraced) := ⟨rfl, rfl, rfl, by decide +kernel, rfl, by decide +kernel, by decide +kernel⟩
theorem ok_traced {f : Addr} {fd : FuncData} (F : Fun K "traced" "traced" sTraced f fd)  : FnOk P w K mg base CX0 1 f fd ["ahead", "end"] spTraced := by
  refine F.ok scTrc (fun vs H Q E h => ?_) (fun cdv A outer s H vs Q E hr h => ?_)
  · obtain ⟨a, q, ms, ps, e, rfl, _⟩ := h
    rfl
  · obtain ⟨a, q, ms, ps, e, rfl, ha, hA, nd, tl, he, hq, el, k⟩ := h
    refine ⟨_, pss_cons (ps_set (i := 2) scTrc.nd rfl (Or.inl rfl) (pe_lst pa_nil))
      (pss_cons (ps_set (i := 3) scTrc.nd rfl (Or.inl rfl) (pv 1))
      (pss_cons (ps_while PassesOwn.never (pt_cmpR op_notN (pv 3) pe_non (nomark _))
      (pss_cons (ps_expr (pe_bm PySem.F.plainAttrs_list PySem.F.slot_list_append PySem.F.type_list_append mt_append (pv 2) (pa_cons (pv 3) pa_nil)))
      (pss_one (ps_set (i := 3) scTrc.nd rfl (Or.inl rfl) (pe_dget (hu_of hr) (pv 0) (pv 3) (fun _ _ => rfl))))))
      (pss_one (ps_ret (pe_revL (pv 2)))))), ?_⟩
    refine ⟨Nat.zero_le _, fun R nR => ?_⟩
    have s1 := same_new (o := .lst []) nR
    have hR1 : (upd H R (.lst [])) R = some (.lst []) := upd_same
    generalize upd H R (.lst []) = H1 at s1 hR1 ⊢
    refine ⟨_, rfl, ?_⟩
    refine ⟨fun m σ G => ∃ (v : V) (rem dn : List Cell) (ys : List V), σ = [some (.ref a), some (.ref q), some (.ref R), some v] ∧ m = rem.length ∧ dn ++ rem = e.1 :: e.2 ∧ Same H G ∧ G R = some (.lst ys) ∧ CeL G ys dn ∧ ((rem = [] ∧ v = .non) ∨ ∃ (x : Cell × List Cell), x ∈ ps ∧ rem = x.1 :: x.2 ∧ CeA G v x.1), ⟨_, .ref q, e.1 :: e.2, [], [], rfl, rfl, rfl, s1, hR1, AL.nil, .inr ⟨e, he, rfl, q, rfl, s1 _ _ hq⟩⟩, ?_⟩
    rintro m σ G ⟨v, rem, dn, ys, rfl, rfl, ed, s2, hR, hY, hv⟩
    refine ⟨_, rfl, rfl, _, rfl, ?_⟩
    rcases hv with ⟨rfl, rfl⟩ | ⟨x, hx, rfl, p, rfl, hp⟩
    · refine iteF ⟨_, rfl, R, _, rfl, SqL.of hR, fun R2 nR2 => ?_⟩
      rw [List.append_nil] at ed
      have s3 := same_new (o := .lst ys.reverse) nR2
      refine k _ R2 _ (s2.trans s3) (s2.free nR2) upd_same ?_
      rw [← ed]
      exact CeL.same (AL.rev' hY) s3
    · obtain ⟨v', ev, hv'⟩ := hA.get nd hx
      have dl : dn.length < 1000000 := by
        have := congrArg List.length ed
        rw [List.length_append, List.length_cons, List.length_cons] at this
        omega
      refine iteT ⟨fun σ' G' => ∃ (v : V) (dn' : List Cell) (ys : List V), σ' = [some (.ref a), some (.ref q), some (.ref R), some v] ∧ dn' ++ x.2 = e.1 :: e.2 ∧ Same H G' ∧ G' R = some (.lst ys) ∧ CeL G' ys dn' ∧ ((x.2 = [] ∧ v = .non) ∨ ∃ (y : Cell × List Cell), y ∈ ps ∧ x.2 = y.1 :: y.2 ∧ CeA G' v y.1), ?_, ?_⟩
      · rintro σ' G' ⟨v, dn', ys', rfl, z1, z2, z3, z4, z5⟩
        exact ⟨x.2.length, by show x.2.length < x.2.length + 1; omega, v, x.2, dn', ys', rfl, rfl, z1, z2, z3, z4, z5⟩
      refine ⟨_, rfl, .inl ⟨rfl, _, SqL.of hR⟩, _, rfl, R, _, _, rfl, rfl, hR, Nat.lt_of_le_of_lt (show ys.length ≤ 1000000 by rw [hY.1]; omega) (by decide), ?_⟩
      have s4 := same_put (o := .lst (ys ++ [V.ref p])) s2 nR
      have hR4 : (upd G R (.lst (ys ++ [V.ref p]))) R = some (.lst (ys ++ [V.ref p])) := upd_same
      have kt : KeepT G (upd G R (.lst (ys ++ [V.ref p]))) := KeepT.lst hR
      have hY4 := CeL.keep hY kt
      have hp4 := kt _ _ hp
      generalize upd G R (.lst (ys ++ [V.ref p])) = G4 at s4 hR4 hY4 hp4 ⊢
      have g4 : DGet G4 a (V.ref p) (some v') := by
        rw [← ev]
        exact DGet.t (k := ckey x.1) (s4 _ _ ha) hp4
      refine ⟨_, rfl, _, rfl, a, v', rfl, g4, v', dn ++ [x.1], _, rfl, by rw [List.append_assoc]; exact ed, s4, hR4, AL.snoc hY4 ⟨p, rfl, hp4⟩, ?_⟩
      rcases hv' with z | ⟨c', t', e1, e2⟩
      · exact .inl z
      · rcases tl x hx with z | ⟨y, hy, ey⟩
        · rw [z] at e1
          cases e1
        · rw [ey] at e1
          have e3 := (List.cons.inj e1).1
          exact .inr ⟨y, hy, ey, by rw [e3]; exact CeA.keep (KeepT.of s4) e2⟩
end
end Dk
namespace Dk
open PySem L2
section
variable {P : Program} {w : World} {K : PySem.W.Frag} {mg : Str → Option Value} {base : Heap}
theorem scSrc : FnScope ["beginnings", "behind", "is_end", "cells", "ahead", "looked", "cell", "other"] ["beginnings", "behind", "is_end"] (defScope sSearched) := ⟨rfl, rfl, rfl, by decide +kernel, rfl, by decide +kernel, by decide +kernel⟩
theorem ok_searchedL {f fTr : Addr} {fd dTr : FuncData} (F : Fun K "searched" "searched" sSearched f fd) (FTr : Fun K "traced" "traced" sTraced fTr dTr) (bTr : Binds K dTr ["ahead", "end"] []) (gTr : mg "traced" = some (.ref fTr)) (GTr : FnOk P w K mg base CX0 1 fTr dTr ["ahead", "end"] spTraced) (m_list : mg "list" = none) (m_len : mg "len" = none) : FnS P w K mg base CX0 6 f fd ["beginnings", "behind", "is_end"] (spSearchedU P w K mg base) := by
  refine fns_of F scSrc (fun s vs H Q E h => ?_) (fun cdv A outer s H vs Q E hr h => ?_)
  · obtain ⟨bg, f1, f2, xs, B, U, nx, en, ok, rfl, _⟩ := h
    rfl
  · obtain ⟨bg, f1, f2, xs, B, U, nx, en, ok, rfl, h1, h2, hb, hX, nd, okB, okN, okU, lU, kf, kn⟩ := h
    refine ⟨_, pss_cons (ps_set (i := 3) scSrc.nd rfl (Or.inl rfl) (pe_callTy call_list_of (by rfl) m_list (by decide +kernel) (pa_cons (pv 0) pa_nil)))
      (pss_cons (ps_setDcT (i := 4) (own := [("cell", 6)]) (g := gName 6) (tt := tYes)  (hu_of hr) rfl scSrc.nd rfl rfl (sw_dc rfl rfl rfl (by decide +kernel)) (pi_list (pv 3)) (blkOk_by (N := ["beginnings", "behind", "is_end", "cells", "ahead", "looked", "cell", "other"]) (sc := defScope sSearched) (by decide +kernel)) (fun _ _ _ _ _ => (pg_name (i := 6) scSrc.nd rfl (Or.inl rfl))) (fun _ _ _ _ _ => pts_nil) (fun _ _ _ _ _ => (pv 6)) (fun _ _ _ _ _ => pe_non))
      (pss_cons (ps_set (i := 5) scSrc.nd rfl (Or.inl rfl) pe_int)
      (pss_cons (ps_while PassesOwn.never (pt_cmpR op_lt (pv 5) (pe_callB call_len_seq (by rfl) m_len PySem.boot_len (pa_cons (pv 3) pa_nil)) (nomark _))
      (pss_cons (ps_set (i := 6) scSrc.nd rfl (Or.inl rfl) (pe_ix ix_list (pv 3) (pv 5) (fun _ _ => rfl)))
      (pss_cons (ps_aug (i := 5) scSrc.nd rfl (Or.inl rfl) pe_int ip_add)
      (pss_cons (ps_if (pt_val (pe_hf h2 rfl hr (i := 2) rfl (Or.inl rfl) (pa_cons (pv 6) pa_nil))) (pss_one (ps_ret (pe_tup (pa_cons (pe_call GTr (hr.mono (by decide)) (by rfl) gTr FTr.kp bTr .nil pass0 (pa_cons (pv 4) (pa_cons (pv 6) pa_nil))) (pa_cons (pv 3) pa_nil))))) pss_nil)
      (pss_one (ps_for PassesOwn.never rfl (pi_list (pe_hf h1 rfl hr (i := 1) rfl (Or.inl rfl) (pa_cons (pv 6) pa_nil))) (pg_name (i := 7) scSrc.nd rfl (Or.inl rfl))
      (pss_one (ps_if (pt_cmp (pc_dnotin (hu_of hr) (pv 7) (pv 4))) (pss_cons (ps_dput (hu_of hr) (pv 4) (pv 7) (pv 6) rfl)
      (pss_one (ps_expr (pe_bm PySem.F.plainAttrs_list PySem.F.slot_list_append PySem.F.type_list_append mt_append (pv 3) (pa_cons (pv 7) pa_nil))))) pss_nil))))))))
      (pss_one (ps_ret (pe_tup (pa_cons pe_non (pa_cons (pv 3) pa_nil)))))))), ?_⟩
    refine ⟨_, rfl, bg, _, rfl, .inl (SqL.of hb), fun cl ncl => ?_⟩
    have s1 := same_new (o := .lst xs) ncl
    have hc1 : (upd H cl (.lst xs)) cl = some (.lst xs) := upd_same
    have hX1 := CeL.same hX s1
    generalize upd H cl (.lst xs) = H1 at s1 hc1 hX1 ⊢
    have lB : B.length ≤ 100000 := Nat.le_trans (nodup_le nd (fun b hb => okU b (okB b hb))) lU
    refine ⟨_, rfl, cl, rfl, ⟨_, SqL.of hc1⟩, fun D nD => ?_⟩
    have ncD : cl ≠ D := ne_of_none hc1 nD
    refine it_any (walk_list (K := K) (a := cl) (xs := xs)) (fun j G => Same H1 G ∧ ∃ ms, G D = some (.dT ms) ∧ AhL G ms ((B.take j).map fun b => (b, []))) ⟨same_new nD, [], upd_same, AhL.nil⟩ (fun j G _ z => SqL.of (z.1 _ _ hc1)) ?_ ?_
    · rintro j x G1 G2 hj ⟨g1, ms, hD, hA⟩ ⟨rfl, hx⟩
      obtain ⟨b, eb, q, rfl, hq⟩ := AL.at (CeL.same hX1 g1) hx
      refine ⟨rfl, _, rfl, ms, ckey b, q, rfl, hq, hD, ?_, same_put g1 nD, _, upd_same, ?_⟩
      · rw [hA.1, List.length_map, List.length_take]
        exact Nat.lt_of_le_of_lt (show min j B.length ≤ 100000 by omega) (by decide)
      · have nk : valV ms (ckey b) = none := hA.no fun z => by
          rw [List.map_map] at z
          obtain ⟨y, hy, ey⟩ := List.mem_map.mp z
          have ey' : y = b := ey
          subst ey'
          have hm : y ∈ B.take j := hy
          obtain ⟨i, hi, ei⟩ := List.getElem_of_mem hm
          rw [List.getElem_take] at ei
          rw [List.length_take] at hi
          obtain ⟨hj', ej⟩ := List.getElem?_eq_some_iff.mp eb
          exact List.pairwise_iff_getElem.mp nd i j (by omega) hj' (by omega) (by rw [ei, ej])
        rw [putK_new _ nk, take_snoc' eb, List.map_append]
        refine AhL.snoc (AhL.keep hA ?_) ⟨rfl, .inl ⟨rfl, rfl⟩⟩
        intro t ys e
        rw [upd_ne (fun z => by rw [z, hD] at e; cases e)]
        exact e
    rintro H2 ⟨s2, ms0, hD2, hA2⟩
    rw [hX1.1, List.take_length] at hA2
    have s02 := s1.trans s2
    have nD0 := s1.free nD
    refine ⟨fun m σ G => ∃ (n : Nat) (ps : List (Cell × List Cell)) (ys : List V) (ms : List (List Key × V)) (y6 y7 : Option V), σ = [some (.ref bg), some (.ref f1), some (.ref f2), some (.ref cl), some (.ref D), some (.int ((n : Nat) : Int)), y6, y7] ∧ m = U.length - n ∧ Same H G ∧ G cl = some (.lst ys) ∧ CeL G ys (ps.map (·.1)) ∧ G D = some (.dT ms) ∧ AhL G ms ps ∧ BfsD nx B en ps n ∧ n ≤ ps.length ∧ ∀ e ∈ ps, ok e.1, ⟨_, 0, B.map fun b => (b, []), xs, ms0, none, none, rfl, rfl, s02, s2 _ _ hc1, ?_, hD2, hA2, BfsD.start nd, Nat.zero_le _, ?_⟩, ?_⟩
    · rw [List.map_map]
      show CeL H2 xs (B.map fun b => b)
      rw [List.map_id']
      exact CeL.same hX1 s2
    · intro e he
      obtain ⟨b, hb', rfl⟩ := List.mem_map.mp he
      exact okB b hb'
    rintro m σ G ⟨n, ps, ys, ms, y6, y7, rfl, rfl, sG, hc, hY, hD, hA, bf, nl, okp⟩
    have pl : ps.length ≤ U.length := by
      have := nodup_le bf.nd (U := U) (fun c hc => by
        obtain ⟨e, he, rfl⟩ := List.mem_map.mp hc
        exact okU e.1 (okp e he))
      rw [List.length_map] at this
      exact this
    have yl : ys.length = ps.length := by rw [hY.1, List.length_map]
    refine ⟨_, rfl, _, rfl, cl, _, rfl, .inl (SqL.of hc), _, _, rfl, rfl, _, rfl, ?_⟩
    by_cases hn : n < ps.length
    · rw [decide_eq_true (show ((n : Nat) : Int) < ((ys.length : Nat) : Int) by omega)]
      refine iteT ⟨fun σ' G' => ∃ (ps : List (Cell × List Cell)) (ys : List V) (ms : List (List Key × V)) (y6 y7 : Option V), σ' = [some (.ref bg), some (.ref f1), some (.ref f2), some (.ref cl), some (.ref D), some (.int ((n + 1 : Nat) : Int)), y6, y7] ∧ Same H G' ∧ G' cl = some (.lst ys) ∧ CeL G' ys (ps.map (·.1)) ∧ G' D = some (.dT ms) ∧ AhL G' ms ps ∧ BfsD nx B en ps (n + 1) ∧ n + 1 ≤ ps.length ∧ ∀ e ∈ ps, ok e.1, ?_, ?_⟩
      · rintro σ' G' ⟨ps', ys', ms', y6', y7', rfl, z⟩
        exact ⟨U.length - (n + 1), by omega, n + 1, ps', ys', ms', y6', y7', rfl, rfl, z⟩
      obtain ⟨e, ee⟩ : ∃ e, ps[n]? = some e := ⟨_, List.getElem?_eq_getElem hn⟩
      have em := List.mem_of_getElem? ee
      obtain ⟨x, ex, q, rfl, hq⟩ := AL.of hY (i := n) (p := e.1) (by rw [List.getElem?_map, ee]; rfl)
      refine ⟨_, rfl, _, rfl, cl, _, _, _, rfl, rfl, SqL.of hc, atI_nat (j := n) ex, ?_⟩
      refine ⟨_, rfl, _, _, rfl, rfl, ?_⟩
      refine ⟨rfl, sG, _, rfl, sG, q, e.1, rfl, sG, hq, okp e em, fun G1 g1 => ⟨_, rfl, ?_⟩⟩
      have s01 := sG.trans g1
      cases hen : en e.1 with
      | true =>
        refine iteT ⟨_, rfl, _, rfl, D, q, ms, ps, e, rfl, g1 _ _ hD, AhL.keep hA (KeepT.of g1), bf.nd, bf.tails, em, g1 _ _ hq, ?_, fun G2 rp zs g2 nrp hrp hR => ?_⟩
        · have := bf.lt n e ee
          omega
        refine ⟨_, rfl, by show 2 ≤ sizeLine; decide, fun tp ntp => ?_⟩
        have s3 := same_new (o := .tup [V.ref rp, V.ref cl]) ntp
        exact kf _ tp rp cl zs e.1 e.2 ((s01.trans g2).trans s3) ((s01.trans g2).free ntp) upd_same (s3 _ _ hrp) (CeL.same hR s3) (bf.rp _ e rfl em) hen (bf.found ee hen) (by have := bf.lt n e ee; omega) ⟨ps, n, bf, ee, hen⟩
      | false =>
        refine iteF ?_
        have hq1 := g1 _ _ hq
        refine ⟨rfl, s01, _, rfl, s01, q, e.1, rfl, s01, hq1, okp e em, fun G2 p2 os g2 np2 hp2 hO => ?_⟩
        have s02' := s01.trans g2
        refine ⟨p2, rfl, ⟨_, SqL.of hp2⟩, for_list (K := K) (a := p2) (xs := os) (fun j σ' G' => ∃ (ps : List (Cell × List Cell)) (ys : List V) (ms : List (List Key × V)) (y7 : Option V), σ' = [some (.ref bg), some (.ref f1), some (.ref f2), some (.ref cl), some (.ref D), some (.int ((n + 1 : Nat) : Int)), some (.ref q), y7] ∧ Same H G' ∧ G' q = some (.tup [.str e.1.1, .int ((e.1.2 : Nat) : Int)]) ∧ G' p2 = some (.lst os) ∧ CeL G' os (nx e.1) ∧ G' cl = some (.lst ys) ∧ CeL G' ys (ps.map (·.1)) ∧ G' D = some (.dT ms) ∧ AhL G' ms ps ∧ BfsInD nx B en ps n e j ∧ ∀ e ∈ ps, ok e.1) ⟨ps, ys, ms, _, rfl, s02', g2 _ _ hq1, hp2, hO, g2 _ _ (g1 _ _ hc), CeL.same hY (g1.trans g2), g2 _ _ (g1 _ _ hD), AhL.keep hA (KeepT.of (g1.trans g2)), bf.into ee hen, okp⟩ (fun j σ' G' _ z => by obtain ⟨_, _, _, _, _, _, _, z, _⟩ := z; exact SqL.of z) ?_ ?_⟩
        · rintro j x σ' G3 hx ⟨ps3, ys3, ms3, y7', rfl, s3, hq3, hp3, hO3, hc3, hY3, hD3, hA3, bi, okp3⟩
          obtain ⟨o, eo, oq, rfl, hoq⟩ := AL.at hO3 hx
          have oko := okN e.1 (okp e em) o (List.mem_of_getElem? eo)
          have pl3 : ps3.length ≤ U.length := by
            have := nodup_le bi.nd (U := U) (fun c hc => by
              obtain ⟨e, he, rfl⟩ := List.mem_map.mp hc
              exact okU e.1 (okp3 e he))
            rw [List.length_map] at this
            exact this
          refine ⟨_, rfl, _, rfl, D, valV ms3 (ckey o), rfl, DGet.t (k := ckey o) hD3 hoq, _, rfl, ?_⟩
          by_cases hin : o ∈ ps3.map (·.1)
          · obtain ⟨e', he', rfl⟩ := List.mem_map.mp hin
            obtain ⟨v, ev, _⟩ := hA3.get bi.nd he'
            rw [ev]
            exact iteF ⟨ps3, ys3, ms3, _, rfl, s3, hq3, hp3, hO3, hc3, hY3, hD3, hA3, bi.there eo hin, okp3⟩
          · have nk := hA3.no hin
            rw [nk]
            have yl3 : ys3.length = ps3.length := by rw [hY3.1, List.length_map]
            have ml3 : ms3.length = ps3.length := hA3.1
            refine iteT ⟨_, rfl, _, rfl, _, rfl, D, _, rfl, DPut.t (k := ckey o) hD3 hoq (Nat.lt_of_le_of_lt (show ms3.length ≤ 100000 by omega) (by decide)), ?_⟩
            rw [putK_new _ nk]
            have k4 : KeepT G3 (upd G3 D (.dT (ms3 ++ [(ckey o, V.ref q)]))) := fun t zs z => by
              rw [upd_ne (fun y => by rw [y, hD3] at z; cases z)]
              exact z
            have l4 : ∀ a zs, G3 a = some (.lst zs) → (upd G3 D (.dT (ms3 ++ [(ckey o, V.ref q)]))) a = some (.lst zs) := fun a zs z => by
              rw [upd_ne (fun y => by rw [y, hD3] at z; cases z)]
              exact z
            have s4 : Same H (upd G3 D (.dT (ms3 ++ [(ckey o, V.ref q)]))) := same_put s3 nD0
            have hD4 : (upd G3 D (.dT (ms3 ++ [(ckey o, V.ref q)]))) D = some (.dT (ms3 ++ [(ckey o, V.ref q)])) := upd_same
            have hA4 : AhL (upd G3 D (.dT (ms3 ++ [(ckey o, V.ref q)]))) (ms3 ++ [(ckey o, V.ref q)]) (ps3 ++ [(o, e.1 :: e.2)]) := AhL.snoc (AhL.keep hA3 k4) ⟨rfl, .inr ⟨e.1, e.2, rfl, q, rfl, k4 _ _ hq3⟩⟩
            have hc4 := l4 _ _ hc3
            have hp4 := l4 _ _ hp3
            have hq4 := k4 _ _ hq3
            have ho4 := k4 _ _ hoq
            have hO4 := CeL.keep hO3 k4
            have hY4 := CeL.keep hY3 k4
            generalize upd G3 D (.dT (ms3 ++ [(ckey o, V.ref q)])) = G4 at k4 s4 hD4 hA4 hc4 hp4 hq4 ho4 hO4 hY4 ⊢
            refine ⟨_, rfl, .inl ⟨rfl, _, SqL.of hc4⟩, _, rfl, cl, _, _, rfl, rfl, hc4, Nat.lt_of_le_of_lt (show ys3.length ≤ 100000 by omega) (by decide), ?_⟩
            have k5 : KeepT G4 (upd G4 cl (.lst (ys3 ++ [V.ref oq]))) := KeepT.lst hc4
            have npc : p2 ≠ cl := fun z => by
              rw [z] at np2
              rw [(g1 _ _ hc)] at np2
              cases np2
            refine ⟨ps3 ++ [(o, e.1 :: e.2)], _, _, _, rfl, same_put s4 ncl, k5 _ _ hq4, by rw [upd_ne npc]; exact hp4, CeL.keep hO4 k5, upd_same, ?_, by rw [upd_ne ncD.symm]; exact hD4, AhL.keep hA4 k5, bi.more eo hin, ?_⟩
            · rw [List.map_append]
              exact CeL.keep (AL.snoc hY4 ⟨oq, rfl, ho4⟩) k5
            · intro x hx
              rcases List.mem_append.mp hx with z | z
              · exact okp3 x z
              · rw [List.mem_singleton.mp z]
                exact oko
        · rintro σ' G3 ⟨ps3, ys3, ms3, y7', rfl, s3, hq3, hp3, hO3, hc3, hY3, hD3, hA3, bi, okp3⟩
          rw [hO3.1] at bi
          have := (List.getElem?_eq_some_iff.mp bi.at_).1
          exact ⟨ps3, ys3, ms3, _, _, rfl, s3, hc3, hY3, hD3, hA3, bi.done, by omega, okp3⟩
    · rw [decide_eq_false (show ¬ ((n : Nat) : Int) < ((ys.length : Nat) : Int) by omega)]
      refine iteF ⟨_, rfl, by show 2 ≤ sizeLine; decide, fun tp ntp => ?_⟩
      have s3 := same_new (o := .tup [V.non, V.ref cl]) ntp
      exact kn _ tp cl ys (ps.map (·.1)) (sG.trans s3) (sG.free ntp) upd_same ncl (s3 _ _ hc) (CeL.same hY s3) (bf.lot (by omega)) (fun c hc' => by
        obtain ⟨e, he, rfl⟩ := List.mem_map.mp hc'
        exact okp e he) (bf.none_ (by omega)) ⟨ps, n, bf, by omega, rfl⟩
end
end Dk
namespace Dk
open PySem L2
section
variable {P : Program} {w : World} {K : PySem.W.Frag} {mg : Str → Option Value} {base : Heap}
theorem scNAs : FnScope ["scene", "starts", "goals", "begin", "house", "room"] ["scene", "starts", "goals", "begin"] (defScope sNeedAsked) := ⟨rfl, rfl, rfl, by decide +kernel, rfl, by decide +kernel, by decide +kernel⟩
theorem ok_needasked {f C CS fNe fNb fHo : Addr} {fd dNe dNb dHo : FuncData} (F : Fun K "need_asked" "need_asked" sNeedAsked f fd) (T : STxt K CS) (FNe : Fun K "need_room" "need_room" sNeed fNe dNe) (bNe : Binds K dNe ["house", "room"] []) (gNe : mg "need_room" = some (.ref fNe)) (GNe : FnOk P w K mg base CX0 2 fNe dNe ["house", "room"] (spNeed C)) (FNb : Fun K "need_beat" "need_beat" sNeedBeat fNb dNb) (bNb : Binds K dNb ["beat"] []) (gNb : mg "need_beat" = some (.ref fNb)) (GNb : FnOk P w K mg base CX0 2 fNb dNb ["beat"] spNeedBeat) (mHo : Meth K CS "house" fHo) (bHo : Binds K dHo ["self"] []) (GHo : FnOk P w K mg base CX0 1 fHo dHo ["self"] (spHouseM C CS)) : FnOk P w K mg base CX0 3 f fd ["scene", "starts", "goals", "begin"] (spNeedAsked C CS) := by
  refine F.ok scNAs (fun vs H Q E h => ?_) (fun cdv A outer s H vs Q E hr h => ?_)
  · obtain ⟨sc, st, gl, zs, ds, ss, ps, ws, mt, rl, W, sl, gs, ob, rfl, _⟩ := h
    rfl
  · obtain ⟨sc, st, gl, zs, ds, ss, ps, ws, mt, rl, W, sl, gs, ob, rfl, hS, hst, hgl, is, ig, ls', lg', hb, k⟩ := h
    refine ⟨_, pss_cons (ps_set (i := 4) scNAs.nd rfl (Or.inl rfl) (pe_meth0 (pv 0) T.cl mHo GHo (hr.mono (by decide)) bHo .nil pass0))
      (pss_cons (ps_for PassesOwn.never rfl (pi_list (pe_lst (StX.pa_star (pv 1) (StX.pa_star (pv 2) pa_nil)))) (pg_name (i := 5) scNAs.nd rfl (Or.inl rfl))
      (pss_one (ps_expr (pe_call GNe hr (by rfl) gNe FNe.kp bNe .nil pass0 (pa_cons (pv 4) (pa_cons (pv 5) pa_nil))))))
      (pss_one (ps_if (pt_cmpR op_notN (pv 3) pe_non (nomark _)) (pss_one (ps_expr (pe_call GNb hr (by rfl) gNb FNb.kp bNb .nil pass0 (pa_cons (pv 3) pa_nil)))) pss_nil))), ?_⟩
    obtain ⟨ok, dx, h, p, w', o, hd, l, m, xs, ys, os, ls, ms, a⟩ := id hS
    refine ⟨_, rfl, sc, dx, _, rfl, a.obj, sf_no (by decide +kernel), sc, zs, ds, ss, ps, ws, mt, rl, W, rfl, hS, fun h' hh => ?_⟩
    refine ⟨_, rfl, st, _, rfl, .inr (SqL.of hst), _, rfl, gl, _, rfl, .inr (SqL.of hgl), ?_, fun c nc => ?_⟩
    · refine Nat.le_of_lt (small1000 ?_)
      rw [List.append_nil, List.length_append, List.length_map, List.length_map]
      omega
    rw [List.append_nil, ← List.map_append]
    have s1 := same_new (o := .lst ((sl ++ gs).map V.str)) nc
    have hc : (upd H c (.lst ((sl ++ gs).map V.str))) c = some (.lst ((sl ++ gs).map V.str)) := upd_same
    generalize upd H c (.lst ((sl ++ gs).map V.str)) = H1 at s1 hc ⊢
    refine ⟨c, rfl, ⟨_, SqL.of hc⟩, for_list (K := K) (a := c) (xs := (sl ++ gs).map V.str) (fun j σ G => ∃ y5, σ = [some (.ref sc), some (.ref st), some (.ref gl), some (optI ob), some (.ref h'), y5] ∧ Same H1 G) ⟨_, rfl, fun _ _ z => z⟩ (fun j σ G _ z => by obtain ⟨_, _, z⟩ := z; exact SqL.of (z _ _ hc)) ?_ ?_⟩
    · rintro j x σ G hx ⟨y5, rfl, g1⟩
      obtain ⟨z, ez, rfl⟩ := str_at hx
      have hm : z ∈ zs := (List.mem_append.mp (List.mem_of_getElem? ez)).elim (is z) (ig z)
      exact ⟨_, rfl, _, rfl, h', zs, z, rfl, (Hs.of (hh.same (s1.trans g1))).nmd, hm, _, rfl, g1⟩
    · rintro σ G ⟨y5, rfl, g1⟩
      refine ⟨_, rfl, rfl, _, rfl, ?_⟩
      cases ob with
      | none => exact iteF (k G (s1.trans g1))
      | some b => exact iteT ⟨_, rfl, b, rfl, hb b rfl, k G (s1.trans g1)⟩
end
end Dk
namespace Dk
open PySem L2
section
variable {P : Program} {w : World} {K : PySem.W.Frag} {mg : Str → Option Value} {base : Heap}
theorem scTol : FnScope ["row", "begin", "beat", "room", "rest"] ["row", "begin"] (defScope sToldWay) := ⟨rfl, rfl, rfl, by decide +kernel, rfl, by decide +kernel, by decide +kernel⟩
theorem ok_toldway {f : Addr} {fd : FuncData} (F : Fun K "told_way" "told_way" sToldWay f fd) (m_tuple : mg "tuple" = none) : FnOk P w K mg base CX0 1 f fd ["row", "begin"] spTold := by
  refine F.ok scTol (fun vs H Q E h => ?_) (fun cdv A outer s H vs Q E hr h => ?_)
  · obtain ⟨p, xs, cs, c, r, ob, rfl, _⟩ := h
    rfl
  · obtain ⟨p, xs, cs, c, r, ob, rfl, hp, hX, ec, l6, k⟩ := h
    refine ⟨_, pss_cons (ps_mid (ps_set (i := 2) scTol.nd rfl (Or.inl rfl) (pe_ifExp (pt_cmpR op_isN (pv 1) pe_non (nomark _)) (pe_ix ix_tup (pe_ix ix_list (pv 0) pe_int (fun _ _ => rfl)) pe_int (fun _ _ => rfl)) (pv 1))))
      (pss_one (ps_ret (pe_tup (pa_cons pe_str (pa_cons (pv 2) (pa_cons (pe_callTy call_tuple_of (by rfl) m_tuple (by decide +kernel) (pa_cons (pe_lc (own := [("room", 3), ("rest", 4)]) (g := gTup K 2 (gCons (gName 3) (gCons (gName 4) gNil))) (tt := tYes)  rfl scTol.nd (pi_list (pv 0)) (blkOk_by (N := ["row", "begin", "beat", "room", "rest"]) (sc := defScope sToldWay) (by decide +kernel)) (fun _ _ _ _ _ => (pg_tup rfl (pgs_cons (pg_name (i := 3) scTol.nd rfl (Or.inl rfl)) (pgs_cons (pg_name (i := 4) scTol.nd rfl (Or.inl rfl)) pgs_nil)))) (fun _ _ _ _ _ => pts_nil) (fun _ _ _ _ _ => (pv 3))) pa_nil)) pa_nil)))))), ?_⟩
    subst ec
    have hx0 : ∃ q, xs[0]? = some (.ref q) ∧ H q = some (.tup [.str c.1, .int ((c.2 : Nat) : Int)]) := by
      obtain ⟨x, ex, q, rfl, hq⟩ := AL.of hX (i := 0) (p := c) rfl
      exact ⟨q, ex, hq⟩
    obtain ⟨q0, e0, hq0⟩ := hx0
    refine ⟨fun σ' H' => σ' = [some (.ref p), some (optI ob), some (.int (ob.getD ((c.2 : Nat) : Int))), none, none] ∧ H' = H, ?_, ?_⟩
    · refine ⟨_, rfl, rfl, _, rfl, ?_⟩
      cases ob with
      | none => exact iteT ⟨_, rfl, p, _, 0, _, rfl, rfl, SqL.of hp, atI_nat (j := 0) e0, q0, _, 1, _, rfl, rfl, SqT.of hq0, atI_nat (j := 1) rfl, rfl, rfl⟩
      | some b => exact iteF ⟨_, rfl, rfl, rfl⟩
    rintro σ' H' ⟨rfl, rfl⟩
    have xl := hX.1
    refine ⟨_, rfl, _, rfl, p, rfl, ⟨_, SqL.of hp⟩, fun D nD => ?_⟩
    refine it_any (walk_list (K := K) (a := p) (xs := xs)) (fun j G => Same H' G ∧ G D = some (.lst ((((c :: r).take j).map (·.1)).map V.str))) ⟨same_new nD, upd_same⟩ (fun j G _ z => SqL.of (z.1 _ _ hp)) ?_ ?_
    · rintro j x G1 G2 hj ⟨g1, hD⟩ ⟨rfl, hx⟩
      obtain ⟨b, eb, q, rfl, hq⟩ := AL.at (CeL.same hX g1) hx
      refine ⟨q, _, rfl, SqT.of hq, rfl, _, _, rfl, _, _, rfl, rfl, rfl, ?_⟩
      refine ⟨_, rfl, _, hD, Nat.lt_of_le_of_lt (show _ ≤ 1000000 by rw [List.length_map, List.length_map, List.length_take]; omega) (by decide), same_put g1 nD, ?_⟩
      rw [upd_same, take_snoc' eb, List.map_append, List.map_append]
      rfl
    rintro G1 ⟨g1, hD⟩
    rw [xl, List.take_length] at hD
    refine ⟨D, _, rfl, .inl ⟨SqL.of hD, fun rp nrp => ?_⟩⟩
    have s2 := same_new (o := .tup (((c :: r).map (·.1)).map V.str)) nrp
    have hrp : (upd G1 rp (.tup (((c :: r).map (·.1)).map V.str))) rp = some (.tup (((c :: r).map (·.1)).map V.str)) := upd_same
    generalize upd G1 rp (.tup (((c :: r).map (·.1)).map V.str)) = G2 at s2 hrp ⊢
    refine ⟨by show 3 ≤ sizeLine; decide, fun tp ntp => ?_⟩
    have s12 := g1.trans s2
    have s3 := same_new (o := .tup [V.str "way", V.int (ob.getD ((c.2 : Nat) : Int)), V.ref rp]) ntp
    exact k _ tp rp (s12.trans s3) (s12.free ntp) upd_same (s3 _ _ hrp)
end
end Dk
namespace Dk
open PySem L2
section
variable {P : Program} {w : World} {K : PySem.W.Frag} {mg : Str → Option Value} {base : Heap}
theorem scPln : FnScope ["_law_m", "_law_found"] ["_law_m"] (defScope sPlain) := ⟨rfl, rfl, rfl, by decide +kernel, rfl, by decide +kernel, by decide +kernel⟩
theorem ok_plain {f : Addr} {fd : FuncData} (F : Fun K "_law_plain" "_law_plain" sPlain f fd) (m_dict : mg "dict" = none) : FnOk P w K mg base CX0 1 f fd ["_law_m"] spPlain := by
  refine F.ok scPln (fun vs H Q E h => ?_) (fun cdv A outer s H vs Q E hr h => ?_)
  · obtain ⟨b, l, m, t, f0, lm, zs, ds, ss, xs, ys, ps, ws, mt, rl, rfl, _⟩ := h
    rfl
  · obtain ⟨b, l, m, t, f0, lm, zs, ds, ss, xs, ys, ps, ws, mt, rl, rfl, hB, hM, k⟩ := h
    refine ⟨_, pss_cons (ps_set (i := 1) scPln.nd rfl (Or.inl rfl) (pe_callTy call_dictD (by rfl) m_dict (by decide +kernel) (pa_cons (pv 0) pa_nil)))
      (pss_cons (ps_asg (pe_tup (pa_cons pe_bl (pa_cons pe_int pa_nil))) (pg_tup rfl (pgs_cons (pg_sub (pv 1) pe_str (set_dict (hu_of hr))) (pgs_cons (pg_sub (pv 1) pe_str (set_dict (hu_of hr))) pgs_nil))))
      (pss_one (ps_ret (pv 1)))), ?_⟩
    refine ⟨_, rfl, m, _, rfl, .inl hM.md, fun q nq => ?_⟩
    have nqb := hB.b1 nq
    have s1 := same_new (o := .dK (mkv t f0 lm mt rl)) nq
    have h1 := hM.copy nq nqb
    generalize upd H q (.dK (mkv t f0 lm mt rl)) = H1 at s1 h1 ⊢
    refine ⟨by show 2 ≤ sizeLine; decide, fun tq ntq => ?_⟩
    have s2 := same_new (o := .tup [V.bl false, V.int 0]) ntq
    have h2 := h1.same s2
    have htq : (upd H1 tq (.tup [V.bl false, V.int 0])) tq = some (.tup [V.bl false, V.int ((0 : Nat) : Int)]) := upd_same
    generalize upd H1 tq (.tup [V.bl false, V.int 0]) = H2 at s2 h2 htq ⊢
    refine ⟨tq, _, rfl, SqT.of htq, rfl, _, _, rfl, _, rfl, q, _, rfl, DPut.k (k := (Sum.inr "meet" : Key)) h2.md (by show 5 < sizeLine; decide), ?_⟩
    rw [mkv_meet]
    have h3 := h2.put (mt2 := false) (rl2 := rl) h2.nl h2.fl h2.fls h2.ok
    have s3 : Same H (upd H2 q (.dK (mkv t f0 lm false rl))) := same_put (s1.trans s2) nq
    generalize upd H2 q (.dK (mkv t f0 lm false rl)) = H3 at h3 s3 ⊢
    refine ⟨_, _, rfl, _, rfl, q, _, rfl, DPut.k (k := (Sum.inr "relief" : Key)) h3.md (by show 5 < sizeLine; decide), ?_⟩
    rw [mkv_relief]
    have ok := h3.ok
    have h4 := h3.put (mt2 := false) (rl2 := 0) h3.nl h3.fl h3.fls ⟨ok.names, ok.eight, ok.dg, ok.sg, ok.pok, ok.wok, ok.bare, by decide⟩
    have s4 : Same H (upd H3 q (.dK (mkv t f0 lm false 0))) := same_put s3 nq
    generalize upd H3 q (.dK (mkv t f0 lm false 0)) = H4 at h4 s4 ⊢
    exact ⟨rfl, _, rfl, k H4 q s4 nq h4⟩
end
end Dk
namespace Dk
open PySem L2
section
variable {P : Program} {w : World} {K : PySem.W.Frag} {mg : Str → Option Value} {base : Heap}
theorem scLGu : FnScope ["_law_box_here", "_law_rooms", "_law_posts", "_law_size", "_law_m", "_law_post"] ["_law_box_here", "_law_rooms", "_law_posts", "_law_size"] (defScope s_law_guarded) := ⟨rfl, rfl, rfl, by decide +kernel, rfl, by decide +kernel, by decide +kernel⟩
theorem ok_lguarded {f fSc fPl fDr : Addr} {fd dSc dPl dDr : FuncData} (F : Fun K "_law_guarded" "_law_guarded" s_law_guarded f fd) (FSc : Fun K "_law_scene" "_law_scene" sLawScene fSc dSc) (bSc : Binds K dSc ["_law_box_here", "_law_rooms", "_law_posts", "_law_size"] []) (gSc : mg "_law_scene" = some (.ref fSc)) (GSc : FnOk P w K mg base CX0 5 fSc dSc ["_law_box_here", "_law_rooms", "_law_posts", "_law_size"] spLawSceneX) (FPl : Fun K "_law_plain" "_law_plain" sPlain fPl dPl) (bPl : Binds K dPl ["_law_m"] []) (gPl : mg "_law_plain" = some (.ref fPl)) (GPl : FnOk P w K mg base CX0 1 fPl dPl ["_law_m"] spPlain) (FDr : Fun K "_law_draw" "_law_draw" sDraw fDr dDr) (bDr : Binds K dDr ["_law_box_here", "_law_many_here"] []) (gDr : mg "_law_draw" = some (.ref fDr)) (GDr : FnOk P w K mg base CX0 1 fDr dDr ["_law_box_here", "_law_many_here"] spDraw) : FnOk P w K mg base CX0 6 f fd ["_law_box_here", "_law_rooms", "_law_posts", "_law_size"] spLGuarded := by
  refine F.ok scLGu (fun vs H Q E h => ?_) (fun cdv A outer s H vs Q E hr h => ?_)
  · obtain ⟨b, l, r, p, s0, rfl, _⟩ := h
    rfl
  · obtain ⟨b, l, r, p, s0, rfl, hB, r1, r2, p1, p2, z1, z2, k⟩ := h
    refine ⟨_, pss_cons (ps_set (i := 4) scLGu.nd rfl (Or.inl rfl) (pe_call GPl (hr.mono (by decide)) (by rfl) gPl FPl.kp bPl .nil pass0 (pa_cons (pe_call GSc (hr.mono (by decide)) (by rfl) gSc FSc.kp bSc .nil pass0 (pa_cons (pv 0) (pa_cons (pv 1) (pa_cons (pv 2) (pa_cons (pv 3) pa_nil))))) pa_nil)))
      (pss_cons (ps_asg (pe_lc (own := [("_law_post", 5)]) (g := gName 5) (tt := tYes) (te := tTup (tCons (tOp (rIxT K) (tVar 5) (tC (.int 0))) (tCons (tCall spDraw [] E0 (tCons (tVar 0) (tCons (tC (.int 2)) tNil))) tNil))) rfl scLGu.nd (pi_list (pe_dget (hu_of hr) (pv 4) pe_str (fun _ _ => rfl))) (blkOk_by (N := ["_law_box_here", "_law_rooms", "_law_posts", "_law_size", "_law_m", "_law_post"]) (sc := defScope s_law_guarded) (by decide +kernel)) (fun _ _ _ _ _ => (pg_name (i := 5) scLGu.nd rfl (Or.inl rfl))) (fun _ _ _ _ _ => pts_nil) (fun _ _ _ _ _ => (pe_tup (pa_cons (pe_ix ix_tup (pv 5) pe_int (fun _ _ => rfl)) (pa_cons (pe_call GDr (hr.mono (by decide)) (by rfl) gDr FDr.kp bDr .nil pass0 (pa_cons (pv 0) (pa_cons pe_int pa_nil))) pa_nil))))) (pg_sub (pv 4) pe_str (set_dict (hu_of hr))))
      (pss_one (ps_ret (pv 4)))), ?_⟩
    refine ⟨_, rfl, _, rfl, _, rfl, _, rfl, b, l, r, p, s0, rfl, hB, r1, r2, p1, p2, z1, z2, fun H1 m0 t f0 lm zs ds ss xs ys ps ws mt rl v1 hB1 nm hM lz lp lr lnP lnW dl => ?_⟩
    refine ⟨b, l, m0, t, f0, lm, zs, ds, ss, xs, ys, ps, ws, mt, rl, rfl, hB1, hM, fun H2 m s2 nm2 hM2 => ?_⟩
    show gName 4 (V.ref m) _ _ _
    have hB2 := hB1.same s2
    have v2 := v1.trans (Sav.of s2)
    have l5 := hM.ok.pok.five
    refine ⟨_, rfl, m, _, rfl, hM2.posts (fun _ _ z => z), f0, rfl, ⟨_, SqL.of hM2.fp⟩, fun D nD => ?_⟩
    have nDb := hB2.b1 nD
    have s3 := same_new (o := .lst []) nD
    refine it_any (walk_list (K := K) (a := f0) (xs := xs)) (fun i G => Sav b H2 G ∧ Box G b l ∧ ∃ (us : List V) (rs : List Nat), G D = some (.lst us) ∧ rs.length = i ∧ (∀ r ∈ rs, r ≤ 1) ∧ WtL G us (gws ((ps.take i).zip rs))) ⟨Sav.of s3, hB2.same s3, [], [], upd_same, rfl, fun r hr => (by cases hr), AL.nil⟩ (fun _ G _ z => SqL.of (z.1 _ _ hM2.nf hM2.fp)) ?_ ?_
    · rintro i v G1 G2 hi ⟨w1, hB3, us, rs, hD, rl1, rb, hU⟩ ⟨rfl, ev⟩
      have hPs := PsL.keep hM2.fps (w1.keepT hB2)
      obtain ⟨pp, ep, q, tq, rfl, hq, htq⟩ := hPs.at ev
      have ul := hU.1
      have i5 : i < ps.length := by rw [← hM2.fps.1]; exact hi
      have gl0 : (gws ((ps.take i).zip rs)).length = i := by
        unfold gws
        rw [List.length_map, List.length_zip, List.length_take, rl1]
        omega
      refine ⟨rfl, _, rfl, q, _, 0, _, rfl, rfl, SqT.of hq, atI_nat (j := 0) rfl, _, rfl, b, l, 2, rfl, hB3, by decide, by decide, fun x G3 x0 x1 w2 hB4 => ?_⟩
      refine ⟨by show 2 ≤ sizeLine; decide, fun tp ntp => ?_⟩
      have s4 := same_new (o := .tup [V.str pp.1, V.int x]) ntp
      have hD4 := s4 _ _ (w2 _ _ nDb hD)
      have w14 := (w1.trans w2).trans (Sav.of s4)
      have hB5 := hB4.same s4
      have hU4 := WtL.same (WtL.keep hU (w2.keepT hB3)) s4
      have htp : (upd G3 tp (.tup [V.str pp.1, V.int x])) tp = some (.tup [V.str pp.1, V.int x]) := upd_same
      generalize upd G3 tp (.tup [V.str pp.1, V.int x]) = G4 at s4 hD4 w14 hB5 hU4 htp ⊢
      obtain ⟨n, rfl⟩ : ∃ n : Nat, x = ((n : Nat) : Int) := ⟨x.toNat, by omega⟩
      have kp : KeepT G4 (upd G4 D (.lst (us ++ [V.ref tp]))) := KeepT.lst hD4
      refine ⟨_, hD4, len5 (by omega), ?_, hB5.put nDb (hB2.l1 nD), us ++ [V.ref tp], rs ++ [n], upd_same, by rw [List.length_append, rl1]; rfl, fun r hr => ?_, ?_⟩
      · exact fun z o n h => by rw [upd_ne (ne_of_none h nD)]; exact w14 z o n h
      · rcases List.mem_append.mp hr with hr | hr
        · exact rb r hr
        · rw [List.mem_singleton.mp hr]
          omega
      · rw [zip_snoc rl1 (by omega) ep]
        unfold gws
        rw [List.map_append]
        exact WtL.keep (AL.snoc hU4 ⟨tp, rfl, htp⟩) kp
    rintro G1 ⟨w1, hB3, us, rs, hD, rl1, rb, hU⟩
    rw [hM2.fps.1] at rl1
    rw [hM2.fps.1, List.take_length] at hU
    have hM3 := hM2.sav hB2 w1
    refine ⟨_, rfl, m, _, rfl, DPut.k (k := (Sum.inr "lamps" : Key)) hM3.md (by show 5 < sizeLine; decide), ?_⟩
    rw [mkv_lamps]
    have h4 := hM3.put (mt2 := false) (rl2 := 0) nDb hD hU (sc_guard hM3.ok rl1 rb)
    have nm0 : H m = none := by
      cases e : H m with
      | none => rfl
      | some o =>
        have := v1 m o (fun z => hM2.nm z) e
        rw [nm2] at this
        cases this
    refine ⟨_, rfl, k _ m t f0 D zs ds ss xs us ps rs (fun z o n h => ?_) (hB3.put hM2.nm (hB2.ndl hM2.md)) nm0 h4 rl1 lz lp lr lnP⟩
    rw [upd_ne (ne_of_none h nm0)]
    exact (v2.trans w1) z o n h
end
end Dk
namespace Dk
open PySem L2
section
variable {P : Program} {w : World} {K : PySem.W.Frag} {mg : Str → Option Value} {base : Heap}
theorem scLRe : FnScope ["_law_m", "_law_name", "_law_reach"] ["_law_m"] (defScope s_law_reaches) := ⟨rfl, rfl, rfl, by decide +kernel, rfl, by decide +kernel, by decide +kernel⟩
theorem ok_lreaches {f : Addr} {fd : FuncData} (F : Fun K "_law_reaches" "_law_reaches" s_law_reaches f fd)  : FnOk P w K mg base CX0 1 f fd ["_law_m"] spLReaches := by
  refine F.ok scLRe (fun vs H Q E h => ?_) (fun cdv A outer s H vs Q E hr h => ?_)
  · obtain ⟨b, m, t, f0, lm, zs, ds, ss, xs, ys, ps, ws, mt, rl, rfl, _⟩ := h
    rfl
  · obtain ⟨b, m, t, f0, lm, zs, ds, ss, xs, ys, ps, ws, mt, rl, rfl, hM, k⟩ := h
    refine ⟨_, pss_one (ps_ret (pe_lc (own := [("_law_name", 1), ("_law_reach", 2)]) (g := gTup K 2 (gCons (gName 1) (gCons (gName 2) gNil))) (tt := tYes) (te := (tVar 2))  rfl scLRe.nd (pi_list (pe_dget (hu_of hr) (pv 0) pe_str (fun _ _ => rfl))) (blkOk_by (N := ["_law_m", "_law_name", "_law_reach"]) (sc := defScope s_law_reaches) (by decide +kernel)) (fun _ _ _ _ _ => (pg_tup rfl (pgs_cons (pg_name (i := 1) scLRe.nd rfl (Or.inl rfl)) (pgs_cons (pg_name (i := 2) scLRe.nd rfl (Or.inl rfl)) pgs_nil)))) (fun _ _ _ _ _ => pts_nil) (fun _ _ _ _ _ => (pv 2)))), ?_⟩
    have l6 := hM.ok.wok.six
    refine ⟨_, rfl, m, _, rfl, hM.lamps (fun _ _ z => z), lm, rfl, ⟨_, SqL.of hM.fl⟩, fun D nD => ?_⟩
    refine it_any (walk_list (K := K) (a := lm) (xs := ys)) (fun i G => Same H G ∧ G D = some (.lst (((ws.take i).map (·.2)).map natV))) ⟨same_new nD, upd_same⟩ (fun _ G _ z => SqL.of (z.1 _ _ hM.fl)) ?_ ?_
    · rintro i v G1 G2 hi ⟨s1, hD⟩ ⟨rfl, ev⟩
      obtain ⟨w, ew, q, rfl, hq⟩ := (WtL.same hM.fls s1).at ev
      refine ⟨q, _, rfl, SqT.of hq, rfl, _, _, rfl, _, _, rfl, rfl, rfl, ?_⟩
      refine ⟨_, rfl, _, hD, len5 (by rw [List.length_map, List.length_map, List.length_take]; omega), same_put s1 nD, ?_⟩
      rw [upd_same, take_snoc' ew, List.map_append, List.map_append]
      rfl
    rintro G1 ⟨s1, hD⟩
    rw [hM.fls.1, List.take_length] at hD
    exact k G1 D s1 nD hD
theorem scLMa : FnScope ["_law_told"] ["_law_told"] (defScope s_law_many) := ⟨rfl, rfl, rfl, by decide +kernel, rfl, by decide +kernel, by decide +kernel⟩
theorem ok_lmany {f : Addr} {fd : FuncData} (F : Fun K "_law_many" "_law_many" s_law_many f fd) (m_len : mg "len" = none) : FnOk P w K mg base CX0 1 f fd ["_law_told"] spLMany := by
  refine F.ok scLMa (fun vs H Q E h => ?_) (fun cdv A outer s H vs Q E hr h => ?_)
  · obtain ⟨tp, zs, ds, ss, gs, st, gl, H0, rfl, _⟩ := h
    rfl
  · obtain ⟨tp, zs, ds, ss, gs, st, gl, H0, rfl, hT, k⟩ := h
    refine ⟨_, pss_one (ps_ret (pe_ifExp (pt_cmpR op_eq (pe_ix ix_tup (pv 0) pe_int (fun _ _ => rfl)) pe_str (nomark _)) (pe_callB call_len_seq (by rfl) m_len PySem.boot_len (pa_cons (pe_ix ix_tup (pv 0) pe_int (fun _ _ => rfl)) pa_nil)) pe_non)), ?_⟩
    rcases hT with ⟨bt, rp, ht, tt, all⟩ | ⟨np, wl, i, l, ys, ht, few, hn, _⟩
    · refine ⟨_, rfl, tp, _, 0, _, rfl, rfl, SqT.of ht, atI_nat (j := 0) rfl, rfl, _, rfl, ?_⟩
      refine iteFX (decide_eq_false (show ¬ V.str "open" = V.str "bars" from fun z => absurd (V.str.inj z) (by decide +kernel))) ?_
      exact k none all
    · refine ⟨_, rfl, tp, _, 0, _, rfl, rfl, SqT.of ht, atI_nat (j := 0) rfl, rfl, _, rfl, iteTX (decide_eq_true rfl) ?_⟩
      refine ⟨_, rfl, tp, _, 1, _, rfl, rfl, SqT.of ht, atI_nat (j := 1) rfl, np, _, rfl, .inr (SqT.of hn), ?_⟩
      rw [List.length_map, List.length_map]
      exact k (some l.length) ⟨i, l, few, rfl⟩
end
end Dk
namespace Dk
open PySem L2
section
variable {P : Program} {w : World} {K : PySem.W.Frag} {mg : Str → Option Value} {base : Heap}
theorem bind_scD {K : PySem.W.Frag} {dvs : List V} {f : Addr} {fd : FuncData} (F : FunSI K dvs f fd) (h2 : dvs.length = 2) : ∃ ds, Vals [V.bl false, V.int 0] ds ∧ Binds K fd ["self", "house", "posts", "watchers", "meet", "relief"] ds := by
  have z := FunD.binds (ps := ["self", "house", "posts", "watchers", "meet", "relief"]) F 4 2 (by intro z; rw [z] at h2; cases h2) (by rw [h2]; rfl) (by
    intro T D doc pm an cdv ct us its ks h1 hi h3
    match us, h1, its, (hi.trans h2), ks, h3 with
    | [_, _, _, _], _, [_, _], _, [_, _], _ => exact ⟨_, rfl, _, _, _, _, _, _, rfl, rfl, _, _, _, _, _, _, rfl, rfl, rfl⟩) (by simp)
  rw [List.drop_of_length_le (by omega)] at z
  exact z
end
end Dk
namespace Dk
open PySem PySem.Spec PyProof.Rows L2 L2H HotX LamX NdefX
section
variable {P : Program} {w : World} {K : PySem.W.Frag} {mg : Str → Option Value} {base : Heap}
theorem scMiI : FnScope ["self", "about", "word"] ["self", "about", "word"] (defScope sx_Missing) := ⟨rfl, rfl, rfl, by decide +kernel, rfl, by decide +kernel, by decide +kernel⟩
theorem ok_misI {f : Addr} {fd : FuncData} {dvs : List V} (F : FunD K "__init__" "Missing.__init__" (defArgs sx_Missing) (defBody sx_Missing) (defScope sx_Missing) dvs [] f fd) (gL : mg "LookupError" = none) (vV : PySem.W.findCls K (.type "LookupError") (.type "type") "__init__" = some (.val (.builtin "LookupError.__init__"))) :
    FnOk P w K mg base CX0 1 f fd ["self", "about", "word"] (spXBase K leT "LookupError.__new__") := by
  refine F.ok scMiI (fun vs H Q E h => ?_) (fun cdv A outer s H vs Q E hr h => ?_)
  · obtain ⟨a, C, ab, wd, rfl, _⟩ := h
    rfl
  · obtain ⟨a, C, ab, wd, rfl, hl, T, hw, ha, k⟩ := h
    refine ⟨_, pss_cons (ps_expr (pe_xbinit PySem.F.excBase_LookupError (by rfl) gL (by decide +kernel) (by kernel_rfl) (by decide +kernel) vV (by decide +kernel) (pa_cons (pv 0) (pa_cons (pe_joined (PJ.cons pe_str (PJ.cons (pe_fmt (pv 1)) PJ.nil))) pa_nil))))
      (pss_one (ps_xst (newId := "LookupError.__new__") PySem.F.store_LookupError (pv 0) (pv 2))), ?_⟩
    have la : (Str.empty ++ ("refused: " : Str) ++ ab).length ≤ sizeLine := by
      rw [Str.length_append, sizeLine_eq]
      have : (Str.empty ++ ("refused: " : Str)).length = 9 := by decide +kernel
      omega
    refine ⟨_, rfl, _, rfl, by rw [sizeLine_eq]; decide +kernel, _, rfl, .inl ⟨ab, rfl, by rw [sizeLine_eq]; omega, _, rfl, la, ?_⟩⟩
    refine ⟨a, C, _, rfl, by show 1 ≤ 1000; decide, T, ha, ?_⟩
    exact ⟨_, rfl, _, rfl, a, C, rfl, T, hw, .inl ⟨ha, fun dx nd ne => k dx nd ne⟩⟩
theorem scDkI : FnScope ["self", "about", "word"] ["self", "about", "word"] (defScope sx_DarkError) := ⟨rfl, rfl, rfl, by decide +kernel, rfl, by decide +kernel, by decide +kernel⟩
theorem ok_dkI {f : Addr} {fd : FuncData} {dvs : List V} (F : FunD K "__init__" "DarkError.__init__" (defArgs sx_DarkError) (defBody sx_DarkError) (defScope sx_DarkError) dvs [] f fd) (gL : mg "ValueError" = none) (vV : PySem.W.findCls K (.type "ValueError") (.type "type") "__init__" = some (.val (.builtin "ValueError.__init__"))) :
    FnOk P w K mg base CX0 1 f fd ["self", "about", "word"] (spXBase K veT "ValueError.__new__") := by
  refine F.ok scDkI (fun vs H Q E h => ?_) (fun cdv A outer s H vs Q E hr h => ?_)
  · obtain ⟨a, C, ab, wd, rfl, _⟩ := h
    rfl
  · obtain ⟨a, C, ab, wd, rfl, hl, T, hw, ha, k⟩ := h
    refine ⟨_, pss_cons (ps_expr (pe_xbinit PySem.F.excBase_ValueError (by rfl) gL (by decide +kernel) (by kernel_rfl) (by decide +kernel) vV (by decide +kernel) (pa_cons (pv 0) (pa_cons (pe_joined (PJ.cons pe_str (PJ.cons (pe_fmt (pv 1)) PJ.nil))) pa_nil))))
      (pss_one (ps_xst (newId := "ValueError.__new__") PySem.F.store_ValueError (pv 0) (pv 2))), ?_⟩
    have la : (Str.empty ++ ("refused: " : Str) ++ ab).length ≤ sizeLine := by
      rw [Str.length_append, sizeLine_eq]
      have : (Str.empty ++ ("refused: " : Str)).length = 9 := by decide +kernel
      omega
    refine ⟨_, rfl, _, rfl, by rw [sizeLine_eq]; decide +kernel, _, rfl, .inl ⟨ab, rfl, by rw [sizeLine_eq]; omega, _, rfl, la, ?_⟩⟩
    refine ⟨a, C, _, rfl, by show 1 ≤ 1000; decide, T, ha, ?_⟩
    exact ⟨_, rfl, _, rfl, a, C, rfl, T, hw, .inl ⟨ha, fun dx nd ne => k dx nd ne⟩⟩
theorem scBuV : FnScope ["self", "asked"] ["self", "asked"] (defScope sx_BadNumber) := ⟨rfl, rfl, rfl, by decide +kernel, rfl, by decide +kernel, by decide +kernel⟩
theorem ok_BuV {f fM DM : Addr} {fd dM : FuncData} (F : Fun K "__init__" "BadNumber.__init__" sx_BadNumber f fd) (hga : PySem.W.specialIn K (.ref DM) "__getattribute__" = some (some (.builtin "type.__getattribute__"))) (hrd : PySem.W.readsIn K DM (.type "type") = true) (hfM : PySem.W.findCls K (.ref DM) (.type "type") "__init__" = some (.val (.ref fM)))
    (kM : PySem.W.keepIn K (.ref fM) = true) (bM : Binds K dM ["self", "about", "word"] []) (gM : mg "DarkError" = some (.ref DM)) (GM : FnOk P w K mg base CX0 1 fM dM ["self", "about", "word"] (spXBase K veT "ValueError.__new__")) :
    FnOk P w K mg base CX0 2 f fd ["self", "asked"] (spXV K veT "ValueError.__new__" "asked" "BadNumber" okI) := by
  refine F.ok scBuV (fun vs H Q E h => ?_) (fun cdv A outer s H vs Q E hr h => ?_)
  · obtain ⟨a, C, n, rfl, _⟩ := h
    rfl
  · obtain ⟨a, C, v, rfl, ⟨n, rfl, hn⟩, T, hw, hno, ha, k⟩ := h
    refine ⟨_, pss_cons (ps_expr (pe_clsfn hga hrd hfM GM hr kM bM .nil pass0 (by rfl) gM (pa_cons (pv 0) (pa_cons (pe_joined (PJ.cons (pe_fmt (pv 1)) (PJ.cons pe_str PJ.nil))) (pa_cons pe_str pa_nil)))))
      (pss_one (ps_xst (newId := "ValueError.__new__") PySem.F.store_ValueError (pv 0) (pv 1))), ?_⟩
    have e0 : Str.empty.length = 0 := by decide +kernel
    have e1 : (" is out of bounds" : Str).length ≤ 40 := by decide +kernel
    have lz : ∀ m, m ≤ 1000 → m ≤ sizeLine := fun m h => by rw [sizeLine_eq]; omega
    have ti := int_text hn
    refine ⟨_, rfl, _, rfl, .inr ⟨n, rfl, int_log hn, _, rfl, lz _ (by (repeat rw [Str.length_append]); omega), _, rfl, lz _ (by (repeat rw [Str.length_append]); omega), ?_⟩⟩
    refine ⟨a, C, _, _, rfl, (by (repeat rw [Str.length_append]); omega), T, hw, ha, fun dx nd ne => ?_⟩
    refine ⟨_, rfl, _, rfl, a, C, rfl, T, hno, .inr ⟨dx, [("word", V.str "BadNumber")], upd_same, ?_, by show 1 ≤ 900; decide, ?_⟩⟩
    · rw [upd_ne ne, upd_same]
    · refine k dx _ nd ne (fun b o hb e => ?_) ?_ upd_same fun b hb hd e => ?_
      · rw [upd_ne (ne_of_none e nd), upd_ne hb, upd_ne (ne_of_none e nd)]
        exact e
      · rw [upd_ne ne.symm, upd_same]
      · rw [upd_ne hd, upd_ne hb, upd_ne hd]
        exact e
theorem scNrV : FnScope ["self", "name"] ["self", "name"] (defScope sx_NoRoom) := ⟨rfl, rfl, rfl, by decide +kernel, rfl, by decide +kernel, by decide +kernel⟩
theorem ok_NrV {f fM DM : Addr} {fd dM : FuncData} (F : Fun K "__init__" "NoRoom.__init__" sx_NoRoom f fd) (hga : PySem.W.specialIn K (.ref DM) "__getattribute__" = some (some (.builtin "type.__getattribute__"))) (hrd : PySem.W.readsIn K DM (.type "type") = true) (hfM : PySem.W.findCls K (.ref DM) (.type "type") "__init__" = some (.val (.ref fM)))
    (kM : PySem.W.keepIn K (.ref fM) = true) (bM : Binds K dM ["self", "about", "word"] []) (gM : mg "Missing" = some (.ref DM)) (GM : FnOk P w K mg base CX0 1 fM dM ["self", "about", "word"] (spXBase K leT "LookupError.__new__")) :
    FnOk P w K mg base CX0 2 f fd ["self", "name"] (spXV K leT "LookupError.__new__" "name" "NoRoom" okT) := by
  refine F.ok scNrV (fun vs H Q E h => ?_) (fun cdv A outer s H vs Q E hr h => ?_)
  · obtain ⟨a, C, n, rfl, _⟩ := h
    rfl
  · obtain ⟨a, C, v, rfl, ⟨n, rfl, hn⟩, T, hw, hno, ha, k⟩ := h
    refine ⟨_, pss_cons (ps_expr (pe_clsfn hga hrd hfM GM hr kM bM .nil pass0 (by rfl) gM (pa_cons (pv 0) (pa_cons (pe_joined (PJ.cons pe_str (PJ.cons (pe_fmtR (pv 1)) PJ.nil))) (pa_cons pe_str pa_nil)))))
      (pss_one (ps_xst (newId := "LookupError.__new__") PySem.F.store_LookupError (pv 0) (pv 1))), ?_⟩
    have e0 : Str.empty.length = 0 := by decide +kernel
    have e1 : ("there is no room " : Str).length ≤ 40 := by decide +kernel
    have lz : ∀ m, m ≤ 1000 → m ≤ sizeLine := fun m h => by rw [sizeLine_eq]; omega
    refine ⟨_, rfl, _, rfl, lz _ (by (repeat rw [Str.length_append]); omega), _, rfl, .inl ⟨n, rfl, lz _ (by omega), _, rfl, lz _ (by (repeat rw [Str.length_append]); omega), ?_⟩⟩
    refine ⟨a, C, _, _, rfl, (by (repeat rw [Str.length_append]); omega), T, hw, ha, fun dx nd ne => ?_⟩
    refine ⟨_, rfl, _, rfl, a, C, rfl, T, hno, .inr ⟨dx, [("word", V.str "NoRoom")], upd_same, ?_, by show 1 ≤ 900; decide, ?_⟩⟩
    · rw [upd_ne ne, upd_same]
    · refine k dx _ nd ne (fun b o hb e => ?_) ?_ upd_same fun b hb hd e => ?_
      · rw [upd_ne (ne_of_none e nd), upd_ne hb, upd_ne (ne_of_none e nd)]
        exact e
      · rw [upd_ne ne.symm, upd_same]
      · rw [upd_ne hd, upd_ne hb, upd_ne hd]
        exact e
end
end Dk
namespace Dk
open PySem L2
section
variable {P : Program} {w : World} {K : PySem.W.Frag} {mg : Str → Option Value} {base : Heap}
theorem sc_guards_of : FnScope ["posts", "reaches", "post", "reach"] ["posts", "reaches"] (defScope s_guards_of) := ⟨rfl, rfl, rfl, by decide +kernel, rfl, by decide +kernel, by decide +kernel⟩
theorem ok_guardsof {f : Addr} {fd : FuncData} (F : Fun K "guards_of" "guards_of" s_guards_of f fd) (m_zip : mg "zip" = none) : FnOk P w K mg base CX0 1 f fd ["posts", "reaches"] (spGuardsOf K) := by
  refine F.ok sc_guards_of (fun vs H Q E h => ?_) (fun cdv A outer s H vs Q E hr h => ?_)
  · obtain ⟨p, r, xs, ps, rs, rfl, _⟩ := h
    rfl
  · obtain ⟨p, r, xs, ps, rs, rfl, hz, hP, el, l5, k⟩ := h
    refine ⟨_, pss_one (ps_ret (pe_lc (own := [("post", 2), ("reach", 3)]) (g := gTup K 2 (gCons (gName 2) (gCons (gName 3) gNil))) (tt := tYes) (te := (tTup (tCons (tVar 2) (tCons (tTup (tCons (tOp (rIxT K) (tVar 2) (tC (.int 0))) (tCons (tVar 3) tNil))) tNil))))  rfl sc_guards_of.nd (pi_any (RZ.pi_zipA (by rfl) m_zip (pa_cons (pv 0) (pa_cons (pv 1) pa_nil))) (pi_zipM (by rfl) m_zip (pa_cons (pv 0) (pa_cons (pv 1) pa_nil)))) (blkOk_by (N := ["posts", "reaches", "post", "reach"]) (sc := defScope s_guards_of) (by decide +kernel)) (fun _ _ _ _ _ => (pg_tup rfl (pgs_cons (pg_name (i := 2) sc_guards_of.nd rfl (Or.inl rfl)) (pgs_cons (pg_name (i := 3) sc_guards_of.nd rfl (Or.inl rfl)) pgs_nil)))) (fun _ _ _ _ _ => pts_nil) (fun _ _ _ _ _ => (pe_tup (pa_cons (pv 2) (pa_cons (pe_tup (pa_cons (pe_ix ix_tup (pv 2) pe_int (fun _ _ => rfl)) (pa_cons (pv 3) pa_nil))) pa_nil)))))), ?_⟩
    have e5 : ps.length = min xs.length (rs.map natV).length := by rw [List.length_map, hP.1, el, Nat.min_self]
    rcases hz with ⟨h1, h2⟩ | ⟨h1, h2⟩ | ⟨h1, h2⟩
    · refine .inl ⟨_, rfl, _, rfl, p, r, xs, _, rfl, .inl ⟨h1, h2, fun D nD => ?_⟩⟩
      refine it_any (walk_zipL (K := K) (n := ps.length) e5) (fun i G => Same H G ∧ ∃ ys, G D = some (.lst ys) ∧ GdL G ys ((ps.zip rs).take i)) ⟨same_new nD, [], upd_same, AL.nil⟩ (fun _ G _ z => ⟨sqL_same h1 z.1, sqL_same h2 z.1⟩) ?_ ?_
      · rintro i v G1 G2 hi ⟨s1, ys, hD, hY⟩ ⟨tp, x1, x2, rfl, ntp, rfl, ex1, ex2⟩
        obtain ⟨pp, epp, hpp⟩ := hP.at ex1
        obtain ⟨n, en, rfl⟩ := nat_of_at ex2
        obtain ⟨q, t, rfl, hq, ht⟩ := id hpp
        have ez : (ps.zip rs)[i]? = some (pp, n) := List.getElem?_zip_eq_some.mpr ⟨epp, en⟩
        have s2 := s1.trans (same_new (o := .tup [V.ref q, natV n]) ntp)
        have htp : (upd G1 tp (.tup [V.ref q, natV n])) tp = some (.tup [V.ref q, natV n]) := upd_same
        have hD2 := same_new (o := .tup [V.ref q, natV n]) ntp _ _ hD
        have hY2 := hY.same (same_new (o := .tup [V.ref q, natV n]) ntp)
        generalize upd G1 tp (.tup [V.ref q, natV n]) = G3 at s2 htp hD2 hY2 ⊢
        refine ⟨tp, _, rfl, SqT.of htp, rfl, _, _, rfl, _, _, rfl, rfl, rfl, ?_⟩
        refine ⟨_, rfl, _, rfl, q, _, 0, _, rfl, rfl, SqT.of (s2 _ _ hq), atI_nat (j := 0) rfl, _, rfl, by show 2 ≤ sizeLine; decide, fun w nw => ⟨by show 2 ≤ sizeLine; decide, fun e ne => ?_⟩⟩
        have s3 := same_new (o := .tup [V.str pp.1, natV n]) nw
        have hw : (upd G3 w (.tup [V.str pp.1, natV n])) w = some (.tup [V.str pp.1, natV n]) := upd_same
        have hD3 := s3 _ _ hD2
        have s23 := s2.trans s3
        have hY3 := hY2.same s3
        generalize upd G3 w (.tup [V.str pp.1, natV n]) = G4 at s3 hw hD3 s23 hY3 ne ⊢
        have s4 := same_new (o := .tup [V.ref q, V.ref w]) ne
        have hD4 := s4 _ _ hD3
        have yl := hY.1
        rw [List.length_take] at yl
        refine ⟨_, hD4, len5 (by omega), same_put (s23.trans s4) nD, _, upd_same, ?_⟩
        rw [take_snoc' ez]
        refine GdL.keep (AL.snoc (hY3.same s4) ⟨e, _, _, rfl, upd_same, PsA.keep (KeepT.of (s23.trans s4)) hpp, w, rfl, s4 _ _ hw⟩) (KeepT.lst hD4)
      · rintro G1 ⟨s1, ys, hD, hY⟩
        rw [List.take_of_length_le (by rw [List.length_zip]; omega)] at hY
        exact k G1 D ys s1 nD hD hY
    · refine .inl ⟨_, rfl, _, rfl, p, r, xs, _, rfl, .inr ⟨h1, h2, fun D nD => ?_⟩⟩
      refine it_any (walk_zipT (K := K) (n := ps.length) e5) (fun i G => Same H G ∧ ∃ ys, G D = some (.lst ys) ∧ GdL G ys ((ps.zip rs).take i)) ⟨same_new nD, [], upd_same, AL.nil⟩ (fun _ G _ z => ⟨sqT_same h1 z.1, sqT_same h2 z.1⟩) ?_ ?_
      · rintro i v G1 G2 hi ⟨s1, ys, hD, hY⟩ ⟨tp, x1, x2, rfl, ntp, rfl, ex1, ex2⟩
        obtain ⟨pp, epp, hpp⟩ := hP.at ex1
        obtain ⟨n, en, rfl⟩ := nat_of_at ex2
        obtain ⟨q, t, rfl, hq, ht⟩ := id hpp
        have ez : (ps.zip rs)[i]? = some (pp, n) := List.getElem?_zip_eq_some.mpr ⟨epp, en⟩
        have s2 := s1.trans (same_new (o := .tup [V.ref q, natV n]) ntp)
        have htp : (upd G1 tp (.tup [V.ref q, natV n])) tp = some (.tup [V.ref q, natV n]) := upd_same
        have hD2 := same_new (o := .tup [V.ref q, natV n]) ntp _ _ hD
        have hY2 := hY.same (same_new (o := .tup [V.ref q, natV n]) ntp)
        generalize upd G1 tp (.tup [V.ref q, natV n]) = G3 at s2 htp hD2 hY2 ⊢
        refine ⟨tp, _, rfl, SqT.of htp, rfl, _, _, rfl, _, _, rfl, rfl, rfl, ?_⟩
        refine ⟨_, rfl, _, rfl, q, _, 0, _, rfl, rfl, SqT.of (s2 _ _ hq), atI_nat (j := 0) rfl, _, rfl, by show 2 ≤ sizeLine; decide, fun w nw => ⟨by show 2 ≤ sizeLine; decide, fun e ne => ?_⟩⟩
        have s3 := same_new (o := .tup [V.str pp.1, natV n]) nw
        have hw : (upd G3 w (.tup [V.str pp.1, natV n])) w = some (.tup [V.str pp.1, natV n]) := upd_same
        have hD3 := s3 _ _ hD2
        have s23 := s2.trans s3
        have hY3 := hY2.same s3
        generalize upd G3 w (.tup [V.str pp.1, natV n]) = G4 at s3 hw hD3 s23 hY3 ne ⊢
        have s4 := same_new (o := .tup [V.ref q, V.ref w]) ne
        have hD4 := s4 _ _ hD3
        have yl := hY.1
        rw [List.length_take] at yl
        refine ⟨_, hD4, len5 (by omega), same_put (s23.trans s4) nD, _, upd_same, ?_⟩
        rw [take_snoc' ez]
        refine GdL.keep (AL.snoc (hY3.same s4) ⟨e, _, _, rfl, upd_same, PsA.keep (KeepT.of (s23.trans s4)) hpp, w, rfl, s4 _ _ hw⟩) (KeepT.lst hD4)
      · rintro G1 ⟨s1, ys, hD, hY⟩
        rw [List.take_of_length_le (by rw [List.length_zip]; omega)] at hY
        exact k G1 D ys s1 nD hD hY
    · refine .inr ⟨_, rfl, _, rfl, p, r, xs, _, rfl, h1, h2, fun D nD => ?_⟩
      refine it_any (walk_zipM (K := K) (n := ps.length) e5) (fun i G => Same H G ∧ ∃ ys, G D = some (.lst ys) ∧ GdL G ys ((ps.zip rs).take i)) ⟨same_new nD, [], upd_same, AL.nil⟩ (fun _ G _ z => ⟨sqL_same h1 z.1, sqT_same h2 z.1⟩) ?_ ?_
      · rintro i v G1 G2 hi ⟨s1, ys, hD, hY⟩ ⟨tp, x1, x2, rfl, ntp, rfl, ex1, ex2⟩
        obtain ⟨pp, epp, hpp⟩ := hP.at ex1
        obtain ⟨n, en, rfl⟩ := nat_of_at ex2
        obtain ⟨q, t, rfl, hq, ht⟩ := id hpp
        have ez : (ps.zip rs)[i]? = some (pp, n) := List.getElem?_zip_eq_some.mpr ⟨epp, en⟩
        have s2 := s1.trans (same_new (o := .tup [V.ref q, natV n]) ntp)
        have htp : (upd G1 tp (.tup [V.ref q, natV n])) tp = some (.tup [V.ref q, natV n]) := upd_same
        have hD2 := same_new (o := .tup [V.ref q, natV n]) ntp _ _ hD
        have hY2 := hY.same (same_new (o := .tup [V.ref q, natV n]) ntp)
        generalize upd G1 tp (.tup [V.ref q, natV n]) = G3 at s2 htp hD2 hY2 ⊢
        refine ⟨tp, _, rfl, SqT.of htp, rfl, _, _, rfl, _, _, rfl, rfl, rfl, ?_⟩
        refine ⟨_, rfl, _, rfl, q, _, 0, _, rfl, rfl, SqT.of (s2 _ _ hq), atI_nat (j := 0) rfl, _, rfl, by show 2 ≤ sizeLine; decide, fun w nw => ⟨by show 2 ≤ sizeLine; decide, fun e ne => ?_⟩⟩
        have s3 := same_new (o := .tup [V.str pp.1, natV n]) nw
        have hw : (upd G3 w (.tup [V.str pp.1, natV n])) w = some (.tup [V.str pp.1, natV n]) := upd_same
        have hD3 := s3 _ _ hD2
        have s23 := s2.trans s3
        have hY3 := hY2.same s3
        generalize upd G3 w (.tup [V.str pp.1, natV n]) = G4 at s3 hw hD3 s23 hY3 ne ⊢
        have s4 := same_new (o := .tup [V.ref q, V.ref w]) ne
        have hD4 := s4 _ _ hD3
        have yl := hY.1
        rw [List.length_take] at yl
        refine ⟨_, hD4, len5 (by omega), same_put (s23.trans s4) nD, _, upd_same, ?_⟩
        rw [take_snoc' ez]
        refine GdL.keep (AL.snoc (hY3.same s4) ⟨e, _, _, rfl, upd_same, PsA.keep (KeepT.of (s23.trans s4)) hpp, w, rfl, s4 _ _ hw⟩) (KeepT.lst hD4)
      · rintro G1 ⟨s1, ys, hD, hY⟩
        rw [List.take_of_length_le (by rw [List.length_zip]; omega)] at hY
        exact k G1 D ys s1 nD hD hY
end
end Dk
namespace Dk
open PySem L2
section
variable {P : Program} {w : World} {K : PySem.W.Frag} {mg : Str → Option Value} {base : Heap}
theorem sc_guarded : FnScope ["house", "guards", "post", "watcher"] ["house", "guards"] (defScope s_guarded) := ⟨rfl, rfl, rfl, by decide +kernel, rfl, by decide +kernel, by decide +kernel⟩
theorem ok_guarded {f C CS : Addr} {fd : FuncData} (F : Fun K "guarded" "guarded" s_guarded f fd) {dS : FuncData} {fS : Addr} {dsS : List Value} (vS4 : Vals [V.bl false, V.int 0] dsS) (bS4 : Binds K dS ["self", "house", "posts", "watchers", "meet", "relief"] dsS) (mkS : Mk K CS fS) (GS : FnOk P w K mg base CX0 8 fS dS ["self", "house", "posts", "watchers", "meet", "relief"] (spScInit C CS)) (gS : mg "Scene" = some (.ref CS)) : FnOk P w K mg base CX0 10 f fd ["house", "guards"] (spGuarded C CS) := by
  refine F.ok sc_guarded (fun vs H Q E h => ?_) (fun cdv A outer s H vs Q E hr h => ?_)
  · obtain ⟨h, g, zs, ds, ss, xs, gs, rfl, _⟩ := h
    rfl
  · obtain ⟨h, g, zs, ds, ss, xs, gs, rfl, hh, hg, hG, ok, k⟩ := h
    refine ⟨_, pss_one (ps_ret (pe_make mkS GS (hr.mono (by decide)) (by rfl) gS bS4 vS4 pass0 (pa_cons (pv 0) (pa_cons (pe_lc (own := [("post", 2), ("watcher", 3)]) (g := gTup K 2 (gCons (gName 2) (gCons (gName 3) gNil))) (tt := tYes) (te := (tVar 2))  rfl sc_guarded.nd (pi_list (pv 1)) (blkOk_by (N := ["house", "guards", "post", "watcher"]) (sc := defScope s_guarded) (by decide +kernel)) (fun _ _ _ _ _ => (pg_tup rfl (pgs_cons (pg_name (i := 2) sc_guarded.nd rfl (Or.inl rfl)) (pgs_cons (pg_name (i := 3) sc_guarded.nd rfl (Or.inl rfl)) pgs_nil)))) (fun _ _ _ _ _ => pts_nil) (fun _ _ _ _ _ => (pv 2))) (pa_cons (pe_lc (own := [("post", 2), ("watcher", 3)]) (g := gTup K 2 (gCons (gName 2) (gCons (gName 3) gNil))) (tt := tYes) (te := (tVar 3))  rfl sc_guarded.nd (pi_list (pv 1)) (blkOk_by (N := ["house", "guards", "post", "watcher"]) (sc := defScope s_guarded) (by decide +kernel)) (fun _ _ _ _ _ => (pg_tup rfl (pgs_cons (pg_name (i := 2) sc_guarded.nd rfl (Or.inl rfl)) (pgs_cons (pg_name (i := 3) sc_guarded.nd rfl (Or.inl rfl)) pgs_nil)))) (fun _ _ _ _ _ => pts_nil) (fun _ _ _ _ _ => (pv 3))) pa_nil))))), ?_⟩
    have gl6 : gs.length ≤ 6 := by
      have := ok.wok.six
      unfold gws at this
      rw [List.length_map] at this
      exact this
    have hG0 := hG
    refine ⟨_, rfl, _, rfl, g, rfl, ⟨_, SqL.of hg⟩, fun D nD => ?_⟩
    refine it_any (walk_list (K := K) (a := g) (xs := xs)) (fun i G => Same H G ∧ ∃ ys, G D = some (.lst ys) ∧ PsL G ys (gps (gs.take i))) ⟨same_new nD, [], upd_same, AL.nil⟩ (fun _ G _ z => SqL.of (z.1 _ _ hg)) ?_ ?_
    · rintro i v G1 G2 hi ⟨s1, ys, hD, hY⟩ ⟨rfl, ev⟩
      obtain ⟨gd, eg, hgd⟩ := (hG0.same s1).at ev
      obtain ⟨t, p, w, rfl, ht, hp, hw⟩ := hgd
      have yl := hY.1
      refine ⟨t, _, rfl, SqT.of ht, rfl, _, _, rfl, _, _, rfl, rfl, rfl, ?_⟩
      unfold gps at yl
      rw [List.length_map, List.length_take] at yl
      refine ⟨_, rfl, _, hD, len5 (by have := hG.1; have := gl6; omega), same_put s1 nD, _, upd_same, ?_⟩
      rw [take_snoc' eg]
      unfold gps
      rw [List.map_append]
      exact PsL.keep (AL.snoc hY hp) (KeepT.lst hD)
    rintro G1 ⟨s1, ys, hD, hY⟩
    rw [List.take_of_length_le (by rw [hG.1]; exact Nat.le_refl _)] at hY
    have hg1 := s1 _ _ hg
    have hG1 := hG.same s1
    refine ⟨_, rfl, g, rfl, ⟨_, SqL.of hg1⟩, fun D2 nD2 => ?_⟩
    refine it_any (walk_list (K := K) (a := g) (xs := xs)) (fun i G => Same G1 G ∧ ∃ ys, G D2 = some (.lst ys) ∧ WtL G ys (gws (gs.take i))) ⟨same_new nD2, [], upd_same, AL.nil⟩ (fun _ G _ z => SqL.of (z.1 _ _ hg1)) ?_ ?_
    · rintro i v G2 G3 hi ⟨s2, us, hD2, hU⟩ ⟨rfl, ev⟩
      obtain ⟨gd, eg, hgd⟩ := (hG1.same s2).at ev
      obtain ⟨t, p, w, rfl, ht, hp, hw⟩ := hgd
      have yl := hU.1
      refine ⟨t, _, rfl, SqT.of ht, rfl, _, _, rfl, _, _, rfl, rfl, rfl, ?_⟩
      unfold gws at yl
      rw [List.length_map, List.length_take] at yl
      refine ⟨_, rfl, _, hD2, len5 (by have := hG.1; have := gl6; omega), same_put s2 nD2, _, upd_same, ?_⟩
      rw [take_snoc' eg]
      unfold gws
      rw [List.map_append]
      exact WtL.keep (AL.snoc hU hw) (KeepT.lst hD2)
    rintro G2 ⟨s2, us, hD2, hU⟩
    rw [List.take_of_length_le (by rw [hG.1]; exact Nat.le_refl _)] at hU
    have s12 := s1.trans s2
    intro sc dx nsc ndx ndd
    refine ⟨G2, sc, dx, h, D, D2, zs, ds, ss, ys, us, gps gs, gws gs, false, 0, rfl, (same_new ndx).trans (same_new (by rw [upd_ne ndd.symm]; exact nsc)), nsc, upd_same, hh.same s12, s2 _ _ hD, hY.same s2, hD2, hU, ok, fun H4 W s4 hS => ⟨rfl, ?_⟩⟩
    exact k H4 sc W (s12.trans s4) (s12.free nsc) hS
end
end Dk
namespace Dk
open PySem L2
section
variable {P : Program} {w : World} {K : PySem.W.Frag} {mg : Str → Option Value} {base : Heap}
theorem sc_asked_scene : FnScope ["house", "guards", "starts", "goals", "scene"] ["house", "guards", "starts", "goals"] (defScope s_asked_scene) := ⟨rfl, rfl, rfl, by decide +kernel, rfl, by decide +kernel, by decide +kernel⟩
theorem ok_askedsc {f C CS fGd fNa : Addr} {fd dGd dNa : FuncData} {cs : Nat → Addr} (F : Fun K "asked_scene" "asked_scene" s_asked_scene f fd) (FGd : Fun K "guarded" "guarded" s_guarded fGd dGd) (bGd : Binds K dGd ["house", "guards"] []) (gGd : mg "guarded" = some (.ref fGd)) (GGd : FnOk P w K mg base CX0 10 fGd dGd ["house", "guards"] (spGuarded C CS)) (FNa : Fun K "need_asked" "need_asked" sNeedAsked fNa dNa) (bNa : Binds K dNa ["scene", "starts", "goals", "begin"] []) (gNa : mg "need_asked" = some (.ref fNa)) (GNa : FnOk P w K mg base CX0 5 fNa dNa ["scene", "starts", "goals", "begin"] (spCalm (spNeedAskedX K C CS cs))) : FnOk P w K mg base CX0 11 f fd ["house", "guards", "starts", "goals"] (spAskedSc K C CS) := by
  refine F.ok sc_asked_scene (fun vs H Q E h => ?_) (fun cdv A outer s H vs Q E hr h => ?_)
  · obtain ⟨h, g, a, b, zs, ds, ss, xs, gs, st, gl, rfl, _⟩ := h
    rfl
  · obtain ⟨h, g, a, b, zs, ds, ss, xs, gs, st, gl, rfl, hh, hg, hG, ok, ha, hb, is, ig, ls, lg, k⟩ := h
    refine ⟨_, pss_cons (ps_set (i := 4) sc_asked_scene.nd rfl (Or.inl rfl) (pe_call GGd (hr.mono (by decide)) (by rfl) gGd FGd.kp bGd .nil pass0 (pa_cons (pv 0) (pa_cons (pv 1) pa_nil))))
      (pss_cons (ps_expr (pe_call GNa (hr.mono (by decide)) (by rfl) gNa FNa.kp bNa .nil pass0 (pa_cons (pv 4) (pa_cons (pv 2) (pa_cons (pv 3) (pa_cons pe_non pa_nil))))))
      (pss_one (ps_ret (pv 4)))), ?_⟩
    refine ⟨_, rfl, _, rfl, h, g, zs, ds, ss, xs, gs, rfl, hh, hg, hG, ok, fun H1 sc W s1 nsc hS => ?_⟩
    have zok : ∀ z ∈ zs, okR z := fun z hz => nm_okR (ok.names.2 z hz)
    show gName 4 (V.ref sc) _ _ _
    refine ⟨_, rfl, _, rfl, _, rfl, ?_⟩
    refine ⟨sc, a, b, zs, ds, ss, gps gs, gws gs, false, 0, W, st, gl, none, rfl, hS, sq_same ha s1, sq_same hb s1, fun z hz => zok z (is z hz), fun z hz => zok z (ig z hz), ls, lg, fun b e => (by cases e), fun _ H2 s2 => ?_, fun j v e => ?_⟩
    · exact ⟨_, rfl, k H2 sc W (s1.trans s2) nsc (hS.same s2)⟩
    · rw [askW_calm (fun z hz => (List.mem_append.mp hz).elim (is z) (ig z)) (fun b e => by cases e)] at e
      cases e
end
end Dk
namespace Dk
open PySem L2
section
variable {P : Program} {w : World} {K : PySem.W.Frag} {mg : Str → Option Value} {base : Heap}
theorem sc_choices : FnScope ["row", "many", "at", "others"] ["row", "many"] (defScope s_choices) := ⟨rfl, rfl, rfl, by decide +kernel, rfl, by decide +kernel, by decide +kernel⟩
theorem ok_choices {f : Addr} {fd : FuncData} (F : Fun K "choices" "choices" s_choices f fd) (bF : Binds K fd ["row", "many"] []) (gm : mg "choices" = some (.ref f)) (m_len : mg "len" = none) (m_range : mg "range" = none) : ∀ n : Nat, FnOk P w K mg base CX0 (n + 1) f fd ["row", "many"] (spChoices n)
  | 0 => by
    refine F.ok sc_choices (fun vs H Q E h => ?_) (fun cdv A outer s H vs Q E hr h => ?_)
    · obtain ⟨r, xs, m, rfl, _⟩ := h
      rfl
    · obtain ⟨r, xs, m, rfl, hr0, ln, n8, mm, k⟩ := h
      refine ⟨_, pss_cons (ps_if (pt_cmpR op_eq (pv 1) pe_int (nomark _)) (pss_one (ps_ret (pe_lst (pa_cons (pe_lst pa_nil) pa_nil)))) pss_nil)
      (pss_one (ps_ret (pe_lc2 (own := [("at", 2), ("others", 3)]) (vs1 := [3]) (g := gName 2) (tt := tYes) (g1 := gName 3) (wi1 := iList K (tCall (spNo) [] E0 (tCons (tSl (rSlL K) (tVar 0) (tPart (tOp (rI0 fun i j => .int (i + j)) (tVar 2) (tC (.int 1)))) tNoPart) (tCons (tOp (rI0 fun i j => .int (i - j)) (tVar 1) (tC (.int 1))) tNil)))) (tt1 := tYes) (te := tLst (tCons (tOp (rIxL K) (tVar 0) (tVar 2)) (StX.tStar K (tVar 3) tNil))) rfl sc_choices.nd (pi_range1 (by rfl) m_range (pa_cons (pe_callB call_len_seq (by rfl) m_len PySem.boot_len (pa_cons (pv 0) pa_nil)) pa_nil)) (blkOk_by (N := ["row", "many", "at", "others"]) (sc := defScope s_choices) (by decide +kernel)) (by decide) (fun _ _ _ _ _ => (pg_name (i := 2) sc_choices.nd rfl (Or.inl rfl))) (fun _ _ _ _ _ => pts_nil) (fun _ _ _ _ _ => (pi_list (pe_call (fn_no (k := 0)) hr (by rfl) gm F.kp bF .nil pass0 (pa_cons (pe_slice sl_list (pv 0) (po_some (pe_op op_add (pv 2) pe_int)) po_none) (pa_cons (pe_op op_sub (pv 1) pe_int) pa_nil))))) (fun _ _ _ _ _ => (pg_name (i := 3) sc_choices.nd rfl (Or.inl rfl))) (fun _ _ _ _ _ => pts_nil) (fun _ _ _ _ _ => (pe_lst (pa_cons (pe_ix ix_list (pv 0) (pv 2) (fun _ _ => rfl)) (StX.pa_star (pv 3) pa_nil))))))), ?_⟩
      refine ⟨_, rfl, rfl, _, rfl, ?_⟩
      by_cases hm : m = 0
      · subst hm
        rw [decide_eq_true (show V.int 0 = V.int 0 from rfl)]
        refine iteT ⟨by show 0 ≤ sizeLine; decide, fun e ne => ⟨by show 1 ≤ sizeLine; decide, fun D nD => ?_⟩⟩
        have s1 := same_new (o := .lst []) ne
        have s2 := same_new (o := .lst [V.ref e]) nD
        refine k _ D _ (s1.trans s2) (s1.free nD) upd_same ?_ (fun p hp => by cases List.mem_singleton.mp hp; exact ne)
        rw [chZ_zero]
        exact AL.snoc AL.nil ⟨e, rfl, s2 _ _ upd_same⟩
      rw [decide_eq_false (show ¬ V.int m = V.int 0 from fun z => hm (V.int.inj z))]
      refine iteF ⟨_, rfl, r, _, rfl, .inl (SqL.of hr0), _, rfl, by omega, by omega, fun D nD => ?_⟩
      rw [Int.toNat_natCast]
      refine it_any (walk_itr 0 xs.length) (fun i G => Same H G ∧ ∃ ys, G D = some (.lst ys) ∧ VlL G ys ((List.range i).flatMap (chP xs m)) ∧ (∀ p, V.ref p ∈ ys → p ≠ D ∧ H p = none)) ⟨same_new nD, [], upd_same, AL.nil, fun p hp => by cases hp⟩ (fun _ _ _ _ => trivial) ?_ ?_
      · intro i v G1 G2 hi
        exact absurd hi (by omega)
      · rintro G1 ⟨s1, ys, hD, hY, hF⟩
        rw [← chZ_flat hm] at hY
        exact k G1 D ys s1 nD hD hY fun p hp => (hF p hp).2
  | n + 1 => by
    have G := ok_choices F bF gm m_len m_range n
    refine F.ok sc_choices (fun vs H Q E h => ?_) (fun cdv A outer s H vs Q E hr h => ?_)
    · obtain ⟨r, xs, m, rfl, _⟩ := h
      rfl
    · obtain ⟨r, xs, m, rfl, hr0, ln, n8, mm, k⟩ := h
      refine ⟨_, pss_cons (ps_if (pt_cmpR op_eq (pv 1) pe_int (nomark _)) (pss_one (ps_ret (pe_lst (pa_cons (pe_lst pa_nil) pa_nil)))) pss_nil)
      (pss_one (ps_ret (pe_lc2 (own := [("at", 2), ("others", 3)]) (vs1 := [3]) (g := gName 2) (tt := tYes) (g1 := gName 3) (wi1 := iList K (tCall (spChoices n) [] E0 (tCons (tSl (rSlL K) (tVar 0) (tPart (tOp (rI0 fun i j => .int (i + j)) (tVar 2) (tC (.int 1)))) tNoPart) (tCons (tOp (rI0 fun i j => .int (i - j)) (tVar 1) (tC (.int 1))) tNil)))) (tt1 := tYes) (te := tLst (tCons (tOp (rIxL K) (tVar 0) (tVar 2)) (StX.tStar K (tVar 3) tNil))) rfl sc_choices.nd (pi_range1 (by rfl) m_range (pa_cons (pe_callB call_len_seq (by rfl) m_len PySem.boot_len (pa_cons (pv 0) pa_nil)) pa_nil)) (blkOk_by (N := ["row", "many", "at", "others"]) (sc := defScope s_choices) (by decide +kernel)) (by decide) (fun _ _ _ _ _ => (pg_name (i := 2) sc_choices.nd rfl (Or.inl rfl))) (fun _ _ _ _ _ => pts_nil) (fun _ _ _ _ _ => (pi_list (pe_call G hr (by rfl) gm F.kp bF .nil pass0 (pa_cons (pe_slice sl_list (pv 0) (po_some (pe_op op_add (pv 2) pe_int)) po_none) (pa_cons (pe_op op_sub (pv 1) pe_int) pa_nil))))) (fun _ _ _ _ _ => (pg_name (i := 3) sc_choices.nd rfl (Or.inl rfl))) (fun _ _ _ _ _ => pts_nil) (fun _ _ _ _ _ => (pe_lst (pa_cons (pe_ix ix_list (pv 0) (pv 2) (fun _ _ => rfl)) (StX.pa_star (pv 3) pa_nil))))))), ?_⟩
      refine ⟨_, rfl, rfl, _, rfl, ?_⟩
      by_cases hm : m = 0
      · subst hm
        rw [decide_eq_true (show V.int 0 = V.int 0 from rfl)]
        refine iteT ⟨by show 0 ≤ sizeLine; decide, fun e ne => ⟨by show 1 ≤ sizeLine; decide, fun D nD => ?_⟩⟩
        have s1 := same_new (o := .lst []) ne
        have s2 := same_new (o := .lst [V.ref e]) nD
        refine k _ D _ (s1.trans s2) (s1.free nD) upd_same ?_ (fun p hp => by cases List.mem_singleton.mp hp; exact ne)
        rw [chZ_zero]
        exact AL.snoc AL.nil ⟨e, rfl, s2 _ _ upd_same⟩
      rw [decide_eq_false (show ¬ V.int m = V.int 0 from fun z => hm (V.int.inj z))]
      refine iteF ⟨_, rfl, r, _, rfl, .inl (SqL.of hr0), _, rfl, by omega, by omega, fun D nD => ?_⟩
      rw [Int.toNat_natCast]
      refine it_any (walk_itr 0 xs.length) (fun i G => Same H G ∧ ∃ ys, G D = some (.lst ys) ∧ VlL G ys ((List.range i).flatMap (chP xs m)) ∧ (∀ p, V.ref p ∈ ys → p ≠ D ∧ H p = none)) ⟨same_new nD, [], upd_same, AL.nil, fun p hp => by cases hp⟩ (fun _ _ _ _ => trivial) ?_ ?_
      · rintro i v G0 G1 hi ⟨s1, ys, hD, hY, hF⟩ ⟨rfl, rfl⟩
        obtain ⟨x, ex⟩ : ∃ x, xs[i]? = some x := ⟨_, List.getElem?_eq_getElem hi⟩
        have e0 : (0 : Int) + (i : Int) = ((i : Nat) : Int) := Int.zero_add _
        rw [e0]
        refine ⟨rfl, ?_⟩
        refine ⟨_, rfl, _, rfl, _, _, rfl, rfl, _, rfl, r, _, rfl, SqL.of (s1 _ _ hr0), fun p np => ?_⟩
        have ec : cutV xs (some (((i : Nat) : Int) + 1)) none = xs.drop (i + 1) := by
          unfold cutV
          rw [show ((i : Nat) : Int) + 1 = ((i + 1 : Nat) : Int) by omega, show HT.sIx xs.length 0 (some ((i + 1 : Nat) : Int)) = min (i + 1) xs.length from HT.sIx_nat _ 0 _, HT.sIx_none, Nat.min_eq_left (by omega)]
          exact List.take_of_length_le (by rw [List.length_drop]; exact Nat.le_refl _)
        rw [ec]
        have s2 := same_new (o := .lst (xs.drop (i + 1))) np
        have hp : (upd G1 p (.lst (xs.drop (i + 1)))) p = some (.lst (xs.drop (i + 1))) := upd_same
        have hD2 := s2 _ _ hD
        have hY2 := hY.same s2
        have s12 := s1.trans s2
        generalize upd G1 p (.lst (xs.drop (i + 1))) = G3 at s2 hp hD2 hY2 s12 ⊢
        refine ⟨_, rfl, _, _, rfl, rfl, p, _, _, rfl, hp, by rw [List.length_drop]; omega, by omega, by omega, fun G4 q us s3 nq hq hU hUF => ?_⟩
        refine ⟨q, rfl, ⟨_, SqL.of hq⟩, ?_⟩
        have nqD : q ≠ D := (ne_of_none hD2 nq).symm
        have hUF2 : ∀ p, V.ref p ∈ us → p ≠ D ∧ H p = none := fun p hp => ⟨(ne_of_none hD2 (hUF p hp)).symm, s12.free (hUF p hp)⟩
        have s13 := s12.trans s3
        have hD3 := s3 _ _ hD2
        have hY3 := hY2.same s3
        have hul : us.length ≤ 256 := by
          have a := chZ_len (xs.drop (i + 1)) (m - 1)
          have b : (xs.drop (i + 1)).length ≤ 8 := by rw [List.length_drop]; omega
          have c : 2 ^ (xs.drop (i + 1)).length ≤ 2 ^ 8 := Nat.pow_le_pow_right (by decide) b
          have d := hU.1
          omega
        have hyl : ys.length ≤ i * 256 := by rw [hY.1]; exact chF_len (by omega) i
        refine it_any (walk_list (K := K) (a := q) (xs := us)) (fun j G => Same H G ∧ Sav D G4 G ∧ ∃ zs, G D = some (.lst zs) ∧ VlL G zs ((List.range i).flatMap (chP xs m) ++ ((chZ (xs.drop (i + 1)) (m - 1)).take j).map (x :: ·)) ∧ (∀ p, V.ref p ∈ zs → p ≠ D ∧ H p = none)) ?_ (fun _ G _ z => SqL.of (z.2.1 _ _ nqD hq)) ?_ ?_
        · refine ⟨s13, Sav.refl D G4, ys, hD3, ?_, hF⟩
          rw [List.take_zero]
          show VlL G4 ys (_ ++ [])
          rw [List.append_nil]
          exact hY3
        · rintro j y G5 G6 hj ⟨s4, v4, zs, hD5, hZ, hZF⟩ ⟨rfl, ey⟩
          obtain ⟨l, el, t, rfl, ht0⟩ := hU.at ey
          have ht := v4 _ _ (hUF2 t (List.mem_of_getElem? ey)).1 ht0
          have lm := chZ_mem (List.mem_of_getElem? el)
          rw [List.length_drop] at lm
          have zl := hZ.1
          rw [List.length_append, List.length_map, List.length_take] at zl
          have cl := chF_len (xs := xs) (m := m) (by omega) i
          have i8 : i * 256 ≤ 2048 := by omega
          have uz := hU.1
          refine ⟨rfl, _, rfl, _, rfl, r, _, _, _, rfl, rfl, SqL.of (s4 _ _ hr0), atI_nat ex, _, rfl, t, l, rfl, .inr (SqL.of ht), by rw [sizeLine_eq]; show (x :: (l ++ [])).length ≤ _; rw [List.append_nil, List.length_cons]; omega, fun e ne => ?_⟩
          have s5 := same_new (o := .lst (x :: (l ++ []))) ne
          have neD : e ≠ D := (ne_of_none hD5 ne).symm
          refine ⟨_, s5 _ _ hD5, len5 (by omega), same_put (s4.trans s5) nD, (v4.trans (Sav.of s5)).trans Sav.upd, _, upd_same, ?_, fun p hp => ?_⟩
          · rw [take_snoc' el, List.map_append, ← List.append_assoc]
            refine AL.snoc ((hZ.same s5).put fun p hp => (hZF p hp).1) ⟨e, rfl, ?_⟩
            rw [upd_ne neD, upd_same, List.append_nil]
          · rcases List.mem_append.mp hp with hp | hp
            · exact hZF p hp
            · cases List.mem_singleton.mp hp
              exact ⟨neD, s4.free ne⟩
        · rintro G5 ⟨s4, v4, zs, hD5, hZ, hZF⟩
          rw [hU.1, List.take_length] at hZ
          refine ⟨s4, zs, hD5, ?_, hZF⟩
          rw [List.range_succ, List.flatMap_append, List.flatMap_cons, List.flatMap_nil, List.append_nil]
          have : chP xs m i = (chZ (xs.drop (i + 1)) (m - 1)).map (x :: ·) := by
            unfold chP
            rw [ex]
          rw [this]
          exact hZ
      · rintro G1 ⟨s1, ys, hD, hY, hF⟩
        rw [← chZ_flat hm] at hY
        exact k G1 D ys s1 nD hD hY fun p hp => (hF p hp).2
end
end Dk
namespace Dk
open PySem L2
section
variable {P : Program} {w : World} {K : PySem.W.Frag} {mg : Str → Option Value} {base : Heap}
theorem sc_fewest : FnScope ["house", "posts", "reaches", "starts", "goals", "guards", "lots", "ways", "beat", "rooms", "barring", "names", "many", "chosen", "post", "watcher", "told"] ["house", "posts", "reaches", "starts", "goals"] (defScope s_fewest) := ⟨rfl, rfl, rfl, by decide +kernel, rfl, by decide +kernel, by decide +kernel⟩
theorem ok_fewest {f C CS fGo fAs fCh fWl : Addr} {fd dGo dAs dCh dWl : FuncData} (F : Fun K "fewest" "fewest" s_fewest f fd) {T0 : List (Addr × PySem.Str)} (FGo : Fun K "guards_of" "guards_of" s_guards_of fGo dGo) (bGo : Binds K dGo ["posts", "reaches"] []) (gGo : mg "guards_of" = some (.ref fGo)) (GGo : FnOk P w K mg base CX0 1 fGo dGo ["posts", "reaches"] (spGuardsOf K)) (FAs : Fun K "asked_scene" "asked_scene" s_asked_scene fAs dAs) (bAs : Binds K dAs ["house", "guards", "starts", "goals"] []) (gAs : mg "asked_scene" = some (.ref fAs)) (GAs : FnOk P w K mg base CX0 11 fAs dAs ["house", "guards", "starts", "goals"] (spAskedSc K C CS)) (FCh : Fun K "choices" "choices" s_choices fCh dCh) (bCh : Binds K dCh ["row", "many"] []) (gCh : mg "choices" = some (.ref fCh)) (GCh : FnOk P w K mg base CX0 6 fCh dCh ["row", "many"] (spChoices 5)) (FWl : Fun K "ways_left" "ways_left" s_ways_left fWl dWl) (bWl : Binds K dWl ["house", "lots", "starts", "goals"] []) (gWl : mg "ways_left" = some (.ref fWl)) (GWl : FnOk P w K mg base CX0 11 fWl dWl ["house", "lots", "starts", "goals"] (spWaysLeft K C CS T0)) (m_len : mg "len" = none) (m_range : mg "range" = none) (m_tuple : mg "tuple" = none) (m_zip : mg "zip" = none) : FnOk P w K mg base CX0 12 f fd ["house", "posts", "reaches", "starts", "goals"] (spFewest K C CS T0) := by
  refine F.ok sc_fewest (fun vs H Q E h => ?_) (fun cdv A outer s H vs Q E hr h => ?_)
  · obtain ⟨h, p, r, a, b, zs, ds, ss, xs, ps, rs, st, gl, rfl, _⟩ := h
    rfl
  · obtain ⟨h, p, r, a, b, zs, ds, ss, xs, ps, rs, st, gl, rfl, hT, hh, hz, hP, el, ok, ha, hb, is, ig, ls, lg, k⟩ := h
    refine ⟨_, pss_cons (ps_set (i := 5) sc_fewest.nd rfl (Or.inr rfl) (pe_call GGo (hr.mono (by decide)) (by rfl) gGo FGo.kp bGo .nil pass0 (pa_cons (pv 1) (pa_cons (pv 2) pa_nil))))
      (pss_cons (ps_expr (pe_call GAs (hr.mono (by decide)) (by rfl) gAs FAs.kp bAs .nil pass0 (pa_cons (pv 0) (pa_cons (pv 5) (pa_cons (pv 3) (pa_cons (pv 4) pa_nil))))))
      (pss_cons (ps_setLc2 (i := 6) (own := [("many", 12), ("chosen", 13)]) (vs1 := [13]) (g := gName 12) (tt := tYes) (g1 := gName 13) (wi1 := iList K (tCall (spChoices 5) [] E0 (tCons (tVar 5) (tCons (tVar 12) tNil)))) (tt1 := tYes) rfl sc_fewest.nd rfl rfl (sw_true rfl rfl rfl (by decide +kernel)) (pi_range1 (by rfl) m_range (pa_cons (pe_op op_add (pe_callB call_len_seq (by rfl) m_len PySem.boot_len (pa_cons (pv 5) pa_nil)) pe_int) pa_nil)) (blkOk_by (N := ["house", "posts", "reaches", "starts", "goals", "guards", "lots", "ways", "beat", "rooms", "barring", "names", "many", "chosen", "post", "watcher", "told"]) (sc := defScope s_fewest) (by decide +kernel)) (by decide) (fun _ _ _ _ _ => (pg_name (i := 12) sc_fewest.nd rfl (Or.inl rfl))) (fun _ _ _ _ _ => pts_nil) (fun _ _ _ _ _ => (pi_list (pe_call GCh (hr.mono (by decide)) (by rfl) gCh FCh.kp bCh .nil pass0 (pa_cons (pv 5) (pa_cons (pv 12) pa_nil))))) (fun _ _ _ _ _ => (pg_name (i := 13) sc_fewest.nd rfl (Or.inl rfl))) (fun _ _ _ _ _ => pts_nil) (fun _ _ _ _ _ => (pv 13)))
      (pss_cons (ps_set (i := 7) sc_fewest.nd rfl (Or.inl rfl) (pe_call GWl (hr.mono (by decide)) (by rfl) gWl FWl.kp bWl .nil pass0 (pa_cons (pv 0) (pa_cons (pv 6) (pa_cons (pv 3) (pa_cons (pv 4) pa_nil))))))
      (pss_cons (ps_if (pt_cmpR op_eq (pe_callB call_len_seq (by rfl) m_len PySem.boot_len (pa_cons (pv 7) pa_nil)) (pe_callB call_len_seq (by rfl) m_len PySem.boot_len (pa_cons (pv 6) pa_nil)) (nomark _)) (pss_cons (ps_asg (pe_ix ix_list (pv 7) (pe_un un_neg pe_int) (fun _ _ => rfl)) (pg_tup rfl (pgs_cons (pg_name (i := 8) sc_fewest.nd rfl (Or.inl rfl)) (pgs_cons (pg_name (i := 9) sc_fewest.nd rfl (Or.inl rfl)) pgs_nil))))
      (pss_one (ps_ret (pe_tup (pa_cons pe_str (pa_cons (pv 8) (pa_cons (pv 9) pa_nil))))))) pss_nil)
      (pss_cons (ps_set (i := 10) sc_fewest.nd rfl (Or.inr rfl) (pe_ix ix_list (pv 6) (pe_callB call_len_seq (by rfl) m_len PySem.boot_len (pa_cons (pv 7) pa_nil)) (fun _ _ => rfl)))
      (pss_cons (ps_set (i := 11) sc_fewest.nd rfl (Or.inl rfl) (pe_callTy call_tuple_of (by rfl) m_tuple (by decide +kernel) (pa_cons (pe_lc (own := [("post", 14), ("watcher", 15)]) (g := gTup K 2 (gCons (gName 14) (gCons (gName 15) gNil))) (tt := tYes) (te := (tOp (rIxT K) (tVar 15) (tC (.int 0))))  rfl sc_fewest.nd (pi_list (pv 10)) (blkOk_by (N := ["house", "posts", "reaches", "starts", "goals", "guards", "lots", "ways", "beat", "rooms", "barring", "names", "many", "chosen", "post", "watcher", "told"]) (sc := defScope s_fewest) (by decide +kernel)) (fun _ _ _ _ _ => (pg_tup rfl (pgs_cons (pg_name (i := 14) sc_fewest.nd rfl (Or.inl rfl)) (pgs_cons (pg_name (i := 15) sc_fewest.nd rfl (Or.inl rfl)) pgs_nil)))) (fun _ _ _ _ _ => pts_nil) (fun _ _ _ _ _ => (pe_ix ix_tup (pv 15) pe_int (fun _ _ => rfl)))) pa_nil)))
      (pss_one (ps_ret (pe_tup (pa_cons pe_str (pa_cons (pv 11) (pa_cons (pe_lc (own := [("told", 16), ("chosen", 13)]) (g := gTup K 2 (gCons (gName 16) (gCons (gName 13) gNil))) (tt := (tTest (tOp (rI0 fun i j => .bl (decide (i < j))) (tCB (fun xs H Q => ∃ p ys, xs = [.ref p] ∧ (SqL K H p ys ∨ SqT K H p ys) ∧ Q (.int ys.length) H) (tCons (tVar 13) tNil)) (tCB (fun xs H Q => ∃ p ys, xs = [.ref p] ∧ (SqL K H p ys ∨ SqT K H p ys) ∧ Q (.int ys.length) H) (tCons (tVar 10) tNil))))) (te := (tVar 16))  rfl sc_fewest.nd (RZ.pi_zipA (by rfl) m_zip (pa_cons (pv 7) (pa_cons (pv 6) pa_nil))) (blkOk_by (N := ["house", "posts", "reaches", "starts", "goals", "guards", "lots", "ways", "beat", "rooms", "barring", "names", "many", "chosen", "post", "watcher", "told"]) (sc := defScope s_fewest) (by decide +kernel)) (fun _ _ _ _ _ => (pg_tup rfl (pgs_cons (pg_name (i := 16) sc_fewest.nd rfl (Or.inl rfl)) (pgs_cons (pg_name (i := 13) sc_fewest.nd rfl (Or.inl rfl)) pgs_nil)))) (fun _ _ _ _ _ => pts_one (pt_cmpR op_lt (pe_callB call_len_seq (by rfl) m_len PySem.boot_len (pa_cons (pv 13) pa_nil)) (pe_callB call_len_seq (by rfl) m_len PySem.boot_len (pa_cons (pv 10) pa_nil)) (nomark _))) (fun _ _ _ _ _ => (pv 16))) pa_nil)))))))))))), ?_⟩
    have l5 : ps.length ≤ 5 := by
      have := ok.pok.five
      unfold gps at this
      rw [List.length_map, List.length_zip, el, Nat.min_self] at this
      exact this
    obtain ⟨gs, egs⟩ : ∃ gs, gs = ps.zip rs := ⟨_, rfl⟩
    have gl5 : gs.length = ps.length := by rw [egs, List.length_zip, el, Nat.min_self]
    rw [← egs] at ok k
    refine ⟨_, rfl, _, rfl, p, r, xs, ps, rs, rfl, hz, hP, el, l5, fun G1 g ys s1 ng hg hG => ?_⟩
    rw [← egs] at hG
    show gName 5 (V.ref g) _ _ _
    refine ⟨_, rfl, _, rfl, _, rfl, _, rfl, h, g, a, b, zs, ds, ss, ys, gs, st, gl, rfl, hh.same s1, hg, hG, ok, sq_same ha s1, sq_same hb s1, is, ig, ls, lg, fun G2 sc W s2 nsc hS => ?_⟩
    have s12 := s1.trans s2
    have hg2 := s2 _ _ hg
    have hG2 := hG.same s2
    have yl : ys.length = gs.length := hG.1
    clear hS nsc hz hP
    refine ⟨_, rfl, g, _, rfl, .inl (SqL.of hg2), _, _, rfl, rfl, _, rfl, by omega, by omega, fun D nD => ?_⟩
    have nN : (((ys.length : Nat) : Int) + 1).toNat = ys.length + 1 := by omega
    rw [nN]
    refine it_any (walk_itr 0 (ys.length + 1)) (fun i G => Same G2 G ∧ ∃ us, G D = some (.lst us) ∧ VlL G us ((List.range i).flatMap (chN ys)) ∧ ∀ p, V.ref p ∈ us → p ≠ D) ⟨same_new nD, [], upd_same, AL.nil, fun p hp => by cases hp⟩ (fun _ _ _ _ => trivial) ?_ ?_
    · rintro i v G3 G4 hi ⟨s3, us, hD, hU, hF⟩ ⟨rfl, rfl⟩
      have e0 : (0 : Int) + (i : Int) = ((i : Nat) : Int) := Int.zero_add _
      rw [e0]
      refine ⟨rfl, _, rfl, _, rfl, g, ys, _, rfl, s3 _ _ hg2, by omega, by decide, by omega, fun G5 q vs s4 nq hq hV hVF => ?_⟩
      rw [chZ_nat] at hV
      refine ⟨q, rfl, ⟨_, SqL.of hq⟩, ?_⟩
      have nqD : q ≠ D := (ne_of_none hD nq).symm
      have s34 := s3.trans s4
      have hD5 := s4 _ _ hD
      have hU5 := hU.same s4
      have vl := hV.1
      have ul := hU.1
      have cl := flat_len (xs := ys) (by omega) i
      have c5 : (chN ys i).length ≤ 32 := by
        have a := ch_len_le ys i
        have c : 2 ^ ys.length ≤ 2 ^ 5 := Nat.pow_le_pow_right (by decide) (by omega)
        omega
      refine it_any (walk_list (K := K) (a := q) (xs := vs)) (fun j G => Same G2 G ∧ Sav D G5 G ∧ ∃ zs, G D = some (.lst zs) ∧ VlL G zs ((List.range i).flatMap (chN ys) ++ (chN ys i).take j) ∧ ∀ p, V.ref p ∈ zs → p ≠ D) ?_ (fun _ G _ z => SqL.of (z.2.1 _ _ nqD hq)) ?_ ?_
      · refine ⟨s34, Sav.refl D G5, us, hD5, ?_, hF⟩
        rw [List.take_zero, List.append_nil]
        exact hU5
      · rintro j y G6 G7 hj ⟨s5, v5, zs', hD6, hZ, hZF⟩ ⟨rfl, ey⟩
        obtain ⟨l, elz, t, rfl, ht⟩ := hV.at ey
        have zl := hZ.1
        rw [List.length_append, List.length_take] at zl
        have ntD : t ≠ D := (ne_of_none hD (hVF t (List.mem_of_getElem? ey))).symm
        refine ⟨rfl, _, rfl, _, hD6, len5 (by omega), same_put s5 nD, v5.trans Sav.upd, _, upd_same, ?_, fun p hp => ?_⟩
        · rw [take_snoc' elz, ← List.append_assoc]
          refine AL.snoc (hZ.put hZF) ⟨t, rfl, ?_⟩
          rw [upd_ne ntD]
          exact v5 _ _ ntD ht
        · rcases List.mem_append.mp hp with hp | hp
          · exact hZF p hp
          · cases List.mem_singleton.mp hp
            exact ntD
      · rintro G6 ⟨s5, v5, zs', hD6, hZ, hZF⟩
        rw [hV.1, List.take_length] at hZ
        refine ⟨s5, zs', hD6, ?_, hZF⟩
        rw [List.range_succ, List.flatMap_append, List.flatMap_cons, List.flatMap_nil, List.append_nil]
        exact hZ
    rintro G3 ⟨s3, us, hD, hU, _⟩
    show gName 6 (V.ref D) _ _ _
    have hG3 := hG2.same s3
    have s13 := s12.trans s3
    have hU : VlL G3 us (lotsN ys) := hU
    have hL : LtL G3 us (lotsN gs) := ltl_of hU (a2_lots hG3)
    have ll : (lotsN gs).length ≤ 192 := by
      have := flat_len (xs := gs) (by omega) (gs.length + 1)
      have e : (lotsN gs).length = ((List.range (gs.length + 1)).flatMap (chN gs)).length := rfl
      omega
    refine ⟨_, rfl, _, rfl, _, rfl, _, rfl, h, D, a, b, zs, ds, ss, us, lotsN gs, st, gl, rfl, hT.ext s13, hh.same s13, hD, hL, fun l hl => sc_sub ok (mem_lots.mp hl), by omega, sq_same ha s13, sq_same hb s13, is, ig, ls, lg, fun G4 wl ws kk e4 T4 nwl hwl hW kl hno => ?_⟩
    have e04 : Ex H G4 := (Ex.of s13).trans e4
    have hD4 := e4.lst hD
    have hL4 := hL.ex e4
    have wsl := hW.1
    rw [List.length_take, Nat.min_eq_left kl] at wsl
    have ul := hL.1
    have opn : ∀ j l, j < kk → (lotsN gs)[j]? = some l → Opn zs ds ss l st gl := fun j l hj ej => by
      have e1 : ((lotsN gs).take kk)[j]? = some l := by rw [List.getElem?_take, if_pos hj]; exact ej
      obtain ⟨x, ex, q, bt, rp, _, _, tt⟩ := hW.of e1
      exact tt.opn
    clear hU hL hG hG2 hG3 s1 s2 s3 s12 s13 hg hg2 hD
    refine ⟨_, rfl, wl, _, rfl, .inl (SqL.of hwl), _, rfl, D, _, rfl, .inl (SqL.of hD4), rfl, _, rfl, ?_⟩
    by_cases hk : kk = (lotsN gs).length
    · refine iteTX (decide_eq_true (show V.int ((ws.length : Nat) : Int) = V.int ((us.length : Nat) : Int) by rw [wsl, ul, hk])) ?_
      have lp1 : (lotsN gs).length = ((List.range gs.length).flatMap (chN gs)).length + 1 := by rw [lots_last, List.length_append]; rfl
      have elg : ((lotsN gs).take kk)[kk - 1]? = some gs := by
        rw [hk, List.take_length, lp1, Nat.add_sub_cancel, lots_last, List.getElem?_append_right (Nat.le_refl _), Nat.sub_self]
        rfl
      obtain ⟨x, ex, q, bt, rp, rfl, hq, tt⟩ := hW.of elg
      have exl : ws.getLast? = some (V.ref q) := by rw [List.getLast?_eq_getElem?, wsl]; exact ex
      refine ⟨_, rfl, _, rfl, wl, _, -1, _, rfl, rfl, SqL.of hwl, atI_last' exl, q, _, rfl, SqT.of hq, rfl, _, _, rfl, _, _, rfl, rfl, ?_⟩
      refine ⟨_, rfl, _, rfl, by show 3 ≤ sizeLine; decide, fun tp ntp => ?_⟩
      have s5 := same_new (o := .tup [V.str "open", V.int bt, V.ref rp]) ntp
      refine k _ tp (e04.trans (Ex.of s5)) (T4.ext s5) (.inl ⟨bt, rp, upd_same, tt.ex (Ex.of s5), fun l hl => ?_⟩)
      obtain ⟨j, hj, e⟩ := List.mem_iff_getElem.mp hl
      exact opn j l (by omega) (by rw [List.getElem?_eq_getElem hj, e])
    refine iteFX (decide_eq_false (fun z => hk (by have z := V.int.inj z; rw [wsl, ul] at z; omega))) ?_
    have kl2 : kk < (lotsN gs).length := by omega
    obtain ⟨l, el2⟩ : ∃ l, (lotsN gs)[kk]? = some l := ⟨_, List.getElem?_eq_getElem kl2⟩
    obtain ⟨x, ex, lp, lx, rfl, hlp, hlx⟩ := hL4.of el2
    have hl5 : l.length ≤ 5 := by
      have := (mem_lots.mp (List.mem_of_getElem? el2)).length_le
      omega
    refine ⟨_, rfl, _, rfl, wl, _, rfl, .inl (SqL.of hwl), D, _, _, _, rfl, rfl, SqL.of hD4, atI_nat (j := ws.length) (by rw [wsl]; exact ex), ?_⟩
    show gName 10 (V.ref lp) _ _ _
    refine ⟨_, rfl, lp, rfl, ⟨_, SqL.of hlp⟩, fun E nE => ?_⟩
    refine it_any (walk_list (K := K) (a := lp) (xs := lx)) (fun i G => Same G4 G ∧ G E = some (.lst (((l.take i).map fun g => g.1.1).map V.str))) ⟨same_new nE, upd_same⟩ (fun _ G _ z => SqL.of (z.1 _ _ hlp)) ?_ ?_
    · rintro i v G5 G6 hi ⟨s5, hE⟩ ⟨rfl, ev⟩
      obtain ⟨gd, eg, t, p1, w1, rfl, ht, hp1, w0, rfl, hw⟩ := (hlx.same s5).at ev
      refine ⟨t, _, rfl, SqT.of ht, rfl, _, _, rfl, _, _, rfl, rfl, rfl, ?_⟩
      refine ⟨_, rfl, w0, _, 0, _, rfl, rfl, SqT.of hw, atI_nat (j := 0) rfl, _, hE, len5 (by rw [List.length_map, List.length_map, List.length_take]; omega), same_put s5 nE, ?_⟩
      rw [upd_same, take_snoc' eg, List.map_append, List.map_append]
      rfl
    rintro G5 ⟨s5, hE⟩
    rw [hlx.1, List.take_length] at hE
    refine ⟨E, _, rfl, .inl ⟨SqL.of hE, fun np nnp => ?_⟩⟩
    show gName 11 (V.ref np) _ _ _
    have s6 := same_new (o := .tup ((l.map fun g => g.1.1).map V.str)) nnp
    have hnp : (upd G5 np (.tup ((l.map fun g => g.1.1).map V.str))) np = some (.tup ((l.map fun g => g.1.1).map V.str)) := upd_same
    have s56 := s5.trans s6
    generalize upd G5 np (.tup ((l.map fun g => g.1.1).map V.str)) = G6 at s6 hnp s56 ⊢
    have e06 := e04.trans (Ex.of s56)
    have T6 := T4.ext s56
    have hwl6 := s56 _ _ hwl
    have hD6 := s56 _ _ hD4
    have hL6 := hL4.ex (Ex.of s56)
    have hW6 := WlL.ex hW (Ex.of s56)
    have hlp6 := s56 _ _ hlp
    have lxl : lx.length = l.length := hlx.1
    clear hwl hD4 hL4 hW hlp s5 s6 s56 hE nE nnp T4 e04 hlx e4 nwl
    refine ⟨_, rfl, _, rfl, _, rfl, wl, D, ws, us, rfl, .inl ⟨SqL.of hwl6, SqL.of hD6, fun F nF => ?_⟩⟩
    refine it_any (walk_zipL (K := K) (n := kk) (by rw [wsl, ul]; omega)) (fun i G => Same G6 G ∧ ∃ ys', G F = some (.lst ys') ∧ WlL zs ds ss st gl G ys' (((lotsN gs).take i).filter fun k => decide (k.length < l.length))) ⟨same_new nF, [], upd_same, AL.nil⟩ (fun _ G _ z => ⟨SqL.of (z.1 _ _ hwl6), SqL.of (z.1 _ _ hD6)⟩) ?_ ?_
    · rintro i v G7 G8 hi ⟨s7, ys', hF, hY⟩ ⟨tp, x1, x2, rfl, ntp, rfl, ex1, ex2⟩
      obtain ⟨lj, elj, hx2⟩ := hL6.at ex2
      obtain ⟨cp, cx, rfl, hcp, hcx⟩ := hx2
      have elt : ((lotsN gs).take kk)[i]? = some lj := by rw [List.getElem?_take, if_pos hi]; exact elj
      obtain ⟨x, ex, hx1⟩ := hW6.of elt
      obtain rfl : x1 = x := Option.some.inj ((show ws[i]? = some x1 from ex1).symm.trans ex)
      have s8 := s7.trans (same_new (o := .tup [x1, V.ref cp]) ntp)
      have htp : (upd G7 tp (.tup [x1, V.ref cp])) tp = some (.tup [x1, V.ref cp]) := upd_same
      have hF8 := same_new (o := .tup [x1, V.ref cp]) ntp _ _ hF
      have hY8 := WlL.ex hY (Ex.of (same_new (o := .tup [x1, V.ref cp]) ntp))
      generalize upd G7 tp (.tup [x1, V.ref cp]) = G9 at s8 htp hF8 hY8 ⊢
      have yl := hY.1
      have yl2 : ys'.length ≤ 192 := by
        rw [hY.1]
        refine Nat.le_trans (List.length_filter_le _ _) ?_
        rw [List.length_take]
        omega
      have cxl : cx.length = lj.length := hcx.1
      refine ⟨tp, _, rfl, SqT.of htp, rfl, _, _, rfl, _, _, rfl, rfl, rfl, ?_⟩
      refine ⟨_, rfl, cp, _, rfl, .inl (SqL.of (s8 _ _ hcp)), _, rfl, lp, _, rfl, .inl (SqL.of (s8 _ _ hlp6)), _, _, rfl, rfl, _, rfl, ?_⟩
      by_cases hlt : lj.length < l.length
      · refine iteTX (decide_eq_true (show ((cx.length : Nat) : Int) < ((lx.length : Nat) : Int) by omega)) ?_
        refine ⟨_, rfl, _, hF8, len5 (by omega), same_put s8 nF, _, upd_same, ?_⟩
        rw [filter_take' elj, if_pos (decide_eq_true hlt)]
        have kp : KeepT G9 (upd G9 F (.lst (ys' ++ [x1]))) := KeepT.lst hF8
        exact AL.snoc (AL.mono hY8 fun _ _ z => WlA.keep kp z) (WlA.keep ((KeepT.of s8).trans kp) hx1)
      · refine iteFX (decide_eq_false (show ¬ ((cx.length : Nat) : Int) < ((lx.length : Nat) : Int) by omega)) ?_
        refine ⟨s8, ys', hF8, ?_⟩
        rw [filter_take' elj, if_neg (by rw [decide_eq_false hlt]; exact Bool.false_ne_true), List.append_nil]
        exact hY8
    rintro G7 ⟨s7, ys', hF, hY⟩
    refine ⟨by show 3 ≤ sizeLine; decide, fun tp ntp => ?_⟩
    have s8 := same_new (o := .tup [V.str "bars", V.ref np, V.ref F]) ntp
    have s78 := s7.trans s8
    refine k _ tp (e06.trans (Ex.of s78)) (T6.ext s78) (.inr ⟨np, F, kk, l, ys', upd_same, ⟨el2, hno l el2, fun j k hj ej => opn j k hj ej⟩, s78 _ _ hnp, e06.mono _ nF, s8 _ _ hF, WlL.ex hY (Ex.of s8)⟩)
end
end Dk
namespace Dk
open PySem L2
section
variable {P : Program} {w : World} {K : PySem.W.Frag} {mg : Str → Option Value} {base : Heap}
theorem scIWk : FnScope ["scene", "beat", "rooms", "house", "wheel", "room", "at"] ["scene", "beat", "rooms"] (defScope sIsWalk) := ⟨rfl, rfl, rfl, by decide +kernel, rfl, by decide +kernel, by decide +kernel⟩
theorem ok_iswalk {f C CS fNb fHo fWl fStp fDk fHa : Addr} {fd dNb dHo dWl dStp dDk dHa : FuncData} (F : Fun K "is_walk" "is_walk" sIsWalk f fd) (T : STxt K CS) (cl : Cls K C) (FNb : Fun K "need_beat" "need_beat" sNeedBeat fNb dNb) (bNb : Binds K dNb ["beat"] []) (gNb : mg "need_beat" = some (.ref fNb)) (GNb : FnOk P w K mg base CX0 2 fNb dNb ["beat"] spNeedBeat) (mHo : Meth K CS "house" fHo) (bHo : Binds K dHo ["self"] []) (GHo : FnOk P w K mg base CX0 1 fHo dHo ["self"] (spHouseM C CS)) (mWl : Meth K CS "wheel" fWl) (bWl : Binds K dWl ["self"] []) (GWl : FnOk P w K mg base CX0 1 fWl dWl ["self"] (spWheelM C CS)) (mStp : Meth K CS "steps" fStp) (bStp : Binds K dStp ["self", "room", "beat"] []) (GStp : FnOk P w K mg base CX0 3 fStp dStp ["self", "room", "beat"] (spSteps C CS)) (mDk : Meth K CS "is_dark" fDk) (bDk : Binds K dDk ["self", "room", "beat"] []) (GDk : FnOk P w K mg base CX0 3 fDk dDk ["self", "room", "beat"] (spDarkM C CS)) (mHa : Meth K C "has_room" fHa) (bHa : Binds K dHa ["self", "name"] []) (GHa : FnOk P w K mg base CX0 1 fHa dHa ["self", "name"] (spHas C)) (m_len : mg "len" = none) (m_all : mg "all" = none) (m_range : mg "range" = none) : FnOk P w K mg base CX0 4 f fd ["scene", "beat", "rooms"] (spIsWalk C CS) := by
  refine F.ok scIWk (fun vs H Q E h => ?_) (fun cdv A outer s H vs Q E hr h => ?_)
  · obtain ⟨sc, rp, zs, ds, ss, ps, ws, W, rs, b, rfl, _⟩ := h
    rfl
  · obtain ⟨sc, rp, zs, ds, ss, ps, ws, W, rs, b, rfl, hS, hrp, ll, hb, hw, k⟩ := h
    refine ⟨_, pss_cons (ps_expr (pe_call GNb (hr.mono (by decide)) (by rfl) gNb FNb.kp bNb .nil pass0 (pa_cons (pv 1) pa_nil)))
      (pss_cons (ps_set (i := 3) scIWk.nd rfl (Or.inr rfl) (pe_meth0 (pv 0) T.cl mHo GHo (hr.mono (by decide)) bHo .nil pass0))
      (pss_cons (ps_if (pt_mid (PW.pt (pw_or (pt_cmpR op_eq (pe_callB call_len_seq (by rfl) m_len PySem.boot_len (pa_cons (pv 2) pa_nil)) pe_int (nomark _)) (pw_or1 (pt_not (pt_val (pe_callB (cr_all rfl) (by rfl) m_all (by decide +kernel) (pa_cons (pe_lc (own := [("room", 5)]) (g := gName 5) (tt := tYes) (te := tMeth C "has_room" (spHas C) [] E0 (tVar 3) (tCons (tVar 5) tNil)) rfl scIWk.nd (pi_tup (pv 2)) (blkOk_by (N := ["scene", "beat", "rooms", "house", "wheel", "room", "at"]) (sc := defScope sIsWalk) (by decide +kernel)) (fun _ _ _ _ _ => (pg_name (i := 5) scIWk.nd rfl (Or.inl rfl))) (fun _ _ _ _ _ => pts_nil) (fun _ _ _ _ _ => (pe_meth (pv 3) cl mHa GHa (hr.mono (by decide)) bHa .nil pass0 (pa_cons (pv 5) pa_nil)))) pa_nil)))))))) (pss_one (ps_ret pe_bl)) pss_nil)
      (pss_cons (ps_if (pt_not (pt_val (pe_meth (pv 0) T.cl mDk GDk (hr.mono (by decide)) bDk .nil pass0 (pa_cons (pe_ix ix_tup (pv 2) pe_int (fun _ _ => rfl)) (pa_cons (pv 1) pa_nil))))) (pss_one (ps_ret pe_bl)) pss_nil)
      (pss_cons (ps_set (i := 4) scIWk.nd rfl (Or.inr rfl) (pe_meth0 (pv 0) T.cl mWl GWl (hr.mono (by decide)) bWl .nil pass0))
      (pss_one (ps_ret (pe_callB (cr_all rfl) (by rfl) m_all (by decide +kernel) (pa_cons (pe_lc (own := [("at", 6)]) (g := gName 6) (tt := tYes) (te := tOp (rIn K false) (tOp (rIxT K) (tVar 2) (tOp (rI0 fun i j => .int (i + j)) (tVar 6) (tC (.int 1)))) (tMeth CS "steps" (spSteps C CS) [] E0 (tVar 0) (tCons (tOp (rIxT K) (tVar 2) (tVar 6)) (tCons (tOp (rI (fun _ j => 0 < j) fun i j => .int (i % j)) (tOp (rI0 fun i j => .int (i + j)) (tVar 1) (tVar 6)) (tVar 4)) tNil)))) rfl scIWk.nd (pi_range1 (by rfl) m_range (pa_cons (pe_op op_sub (pe_callB call_len_seq (by rfl) m_len PySem.boot_len (pa_cons (pv 2) pa_nil)) pe_int) pa_nil)) (blkOk_by (N := ["scene", "beat", "rooms", "house", "wheel", "room", "at"]) (sc := defScope sIsWalk) (by decide +kernel)) (fun _ _ _ _ _ => (pg_name (i := 6) scIWk.nd rfl (Or.inl rfl))) (fun _ _ _ _ _ => pts_nil) (fun _ _ _ _ _ => (pe_cmpR op_in_seq (pe_ix ix_tup (pv 2) (pe_op op_add (pv 6) pe_int) (fun _ _ => rfl)) (pe_meth (pv 0) T.cl mStp GStp (hr.mono (by decide)) bStp .nil pass0 (pa_cons (pe_ix ix_tup (pv 2) (pv 6) (fun _ _ => rfl)) (pa_cons (pe_op op_mod (pe_op op_add (pv 1) (pv 6)) (pv 4)) pa_nil))) (by rfl)))) pa_nil)))))))), ?_⟩
    obtain ⟨ok, dx, h, p, w', o, hd, l, m, xs, ys, os, ls, ms, a⟩ := id hS
    have wh : IsWh (ps.map (·.2)) ws.length false 0 W := a.fwh
    have W0 := wh.1
    have Ws := hS.small
    have r0 := wk_ne hw
    have rz : ∀ z ∈ rs, z ∈ zs := fun z hz => by
      obtain ⟨i, hi⟩ := List.getElem?_of_mem hz
      exact (wk_at hw hi).1.1
    have lm : (rs.map V.str).length = rs.length := List.length_map ..
    refine ⟨_, rfl, b, rfl, hb, ?_⟩
    refine ⟨_, rfl, sc, dx, _, rfl, a.obj, sf_no (by decide +kernel), sc, zs, ds, ss, ps, ws, false, 0, W, rfl, hS, fun h' hH => ?_⟩
    refine ⟨fun v G => v = false ∧ Same H G, ?_, ?_⟩
    · refine ⟨_, rfl, rp, _, rfl, .inr (SqT.of hrp), rfl, _, rfl, ?_⟩
      refine ifF (decide_eq_false fun e => ?_) ?_
      · have := V.int.inj e
        rw [lm] at this
        omega
      refine ⟨_, rfl, rp, rfl, ⟨_, SqT.of hrp⟩, fun D nD => ?_⟩
      refine it_any (walk_tup (K := K) (a := rp) (xs := rs.map V.str)) (fun j G => Same H G ∧ G D = some (.lst ((List.replicate j true).map V.bl))) ⟨same_new nD, upd_same⟩ (fun j G _ z => SqT.of (z.1 _ _ hrp)) ?_ ?_
      · rintro j x G1 G2 hj ⟨g1, hD⟩ ⟨rfl, hx⟩
        obtain ⟨z, ez, rfl⟩ := str_at hx
        have hz := rz z (List.mem_of_getElem? ez)
        have hs1 := Hs.of (hH.same g1)
        obtain ⟨⟨dh, n, bx, v, h1, h2, h3, h4, hN, hl⟩, _⟩ := id hs1
        refine ⟨rfl, _, rfl, h', dh, _, rfl, h1, hf_no _ _ _ (by decide +kernel) (by decide +kernel) (by decide +kernel), _, rfl, h', zs, z, rfl, hs1.nmd, _, hD, by rw [List.length_map, List.length_replicate, sizeLine_eq]; omega, same_put g1 nD, ?_⟩
        rw [decide_eq_true hz, upd_same, List.replicate_succ', List.map_append]
        rfl
      rintro G1 ⟨g1, hD⟩
      refine ⟨D, _, rfl, SqL.of hD, _, rfl, ?_, g1⟩
      simp
    rintro v G ⟨rfl, sG⟩
    refine iteF ?_
    obtain ⟨f, hf⟩ : ∃ f, rs[0]? = some f := ⟨_, List.getElem?_eq_getElem r0⟩
    have hf' : (rs.map V.str)[0]? = some (V.str f) := by rw [List.getElem?_map, hf]; rfl
    have df := (wk_at hw hf).1
    rw [show b + ((0 : Nat) : Int) = b from Int.add_zero b] at df
    have hS1 := hS.same sG
    have ob1 := sG _ _ a.obj
    have hrp1 := sG _ _ hrp
    refine ⟨_, rfl, sc, dx, _, rfl, ob1, sf_no (by decide +kernel), _, rfl, rp, _, 0, _, rfl, rfl, SqT.of hrp1, atI_nat (j := 0) hf', _, rfl, sc, zs, ds, ss, ps, ws, false, 0, W, f, b, rfl, hS1, df.1, hb, fun G2 s2 => ?_⟩
    have nl : f ∉ litAt zs (lnk zs ss) (ps.map (·.2)) ws false 0 (rest b W) := by
      rw [lit_plain wh]
      exact df.2
    refine ⟨_, rfl, ?_⟩
    rw [decide_eq_false nl]
    refine iteF ?_
    have s02 := sG.trans s2
    have hS2 := hS.same s02
    refine ⟨_, rfl, sc, dx, _, rfl, s02 _ _ a.obj, sf_no (by decide +kernel), sc, zs, ds, ss, ps, ws, false, 0, W, rfl, hS2, ?_⟩
    have hrp2 := s02 _ _ hrp
    refine ⟨_, rfl, rp, _, rfl, .inr (SqT.of hrp2), _, _, rfl, rfl, ((((rs.map V.str).length : Nat) : Int) - 1), rfl, by omega, by omega, fun D nD => ?_⟩
    refine lc_range (lo := 0) (n := ((((rs.map V.str).length : Nat) : Int) - 1).toNat) (fun j G => Same G2 G ∧ G D = some (.lst ((List.replicate j true).map V.bl))) ⟨same_new nD, upd_same⟩ ?_ ?_
    · rintro j G3 hj ⟨g3, hD⟩
      have ob : (0 : Int) + (j : Int) = ((j : Nat) : Int) := Int.zero_add _
      rw [ob]
      have j1 : j + 1 < rs.length := by omega
      obtain ⟨x, hx⟩ : ∃ x, rs[j]? = some x := ⟨_, List.getElem?_eq_getElem (by omega)⟩
      obtain ⟨y, hy⟩ : ∃ y, rs[j + 1]? = some y := ⟨_, List.getElem?_eq_getElem j1⟩
      have hx' : (rs.map V.str)[j]? = some (V.str x) := by rw [List.getElem?_map, hx]; rfl
      have hy' : (rs.map V.str)[j + 1]? = some (V.str y) := by rw [List.getElem?_map, hy]; rfl
      obtain ⟨dx', nxt⟩ := wk_at hw hx
      obtain ⟨h1, h2⟩ := nxt y hy
      have hst := (stp_abs (ds := ds) wh (b + ((j : Nat) : Int)) x y dx'.1).mpr ⟨h1, h2⟩
      obtain ⟨rl', er⟩ := rest_lt W0 (b + ((j : Nat) : Int))
      have s03 := s02.trans g3
      have hrp3 := s03 _ _ hrp
      refine ⟨rfl, _, rfl, _, rfl, _, _, rfl, rfl, rp, _, _, _, rfl, rfl, SqT.of hrp3, (show atI (rs.map V.str) (((j : Nat) : Int) + 1) = some (V.str y) by rw [show ((j : Nat) : Int) + 1 = ((j + 1 : Nat) : Int) by omega]; exact atI_nat (j := j + 1) hy'), ?_⟩
      refine ⟨_, rfl, sc, dx, _, rfl, s03 _ _ a.obj, sf_no (by decide +kernel), _, rfl, _, rfl, rp, _, _, _, rfl, rfl, SqT.of hrp3, atI_nat (j := j) hx', _, rfl, _, rfl, _, _, rfl, rfl, _, rfl, _, _, rfl, rfl, by omega, sc, zs, ds, ss, ps, ws, false, 0, W, x, (b + ((j : Nat) : Int)) % ((W : Nat) : Int), rfl, hS.same s03, dx'.1, ⟨by omega, by omega⟩, fun G4 q s4 nq hq => ?_⟩
      refine ⟨q, _, rfl, .inl (SqL.of hq), rfl, flat_all _, _, s4 _ _ hD, by rw [List.length_map, List.length_replicate, sizeLine_eq]; omega, same_put (g3.trans s4) nD, ?_⟩
      rw [← er] at hq
      show (upd G4 D (.lst (_ ++ [V.bl (inV (.str y) ((stpN zs ds ss (ps.map (·.2)) (reachN ws ((ordN (ps.map (·.2)) ws.length false 0 (rest ((b + ((j : Nat) : Int)) % ((W : Nat) : Int) + 1) W)).take (ps.map (·.2)).length)) ((b + ((j : Nat) : Int)) % ((W : Nat) : Int) + 1) x).map V.str))]))) D = _
      rw [← er]
      show (upd G4 D (.lst (_ ++ [V.bl (inV (.str y) ((stpS zs ds ss ps ws false 0 W ((rest (b + ((j : Nat) : Int)) W : Nat) : Int) x).map V.str))]))) D = _
      rw [in_strs, decide_eq_true hst, upd_same, List.replicate_succ', List.map_append]
      rfl
    rintro G3 ⟨g3, hD⟩
    refine ⟨D, _, rfl, SqL.of hD, ?_⟩
    rw [show (List.replicate _ true).all id = true by simp]
    exact k G3 (s02.trans g3)
end
end Dk
namespace Dk
open PySem L2
section
variable {P : Program} {w : World} {K : PySem.W.Frag} {mg : Str → Option Value} {base : Heap}
theorem scIWy : FnScope ["scene", "starts", "goals", "beat", "rooms"] ["scene", "starts", "goals", "beat", "rooms"] (defScope sIsWay) := ⟨rfl, rfl, rfl, by decide +kernel, rfl, by decide +kernel, by decide +kernel⟩
theorem ok_isway {f C CS fNa fIw : Addr} {fd dNa dIw : FuncData} (F : Fun K "is_way" "is_way" sIsWay f fd) (FNa : Fun K "need_asked" "need_asked" sNeedAsked fNa dNa) (bNa : Binds K dNa ["scene", "starts", "goals", "begin"] []) (gNa : mg "need_asked" = some (.ref fNa)) (GNa : FnOk P w K mg base CX0 3 fNa dNa ["scene", "starts", "goals", "begin"] (spNeedAsked C CS)) (FIw : Fun K "is_walk" "is_walk" sIsWalk fIw dIw) (bIw : Binds K dIw ["scene", "beat", "rooms"] []) (gIw : mg "is_walk" = some (.ref fIw)) (GIw : FnOk P w K mg base CX0 4 fIw dIw ["scene", "beat", "rooms"] (spIsWalk C CS)) : FnOk P w K mg base CX0 5 f fd ["scene", "starts", "goals", "beat", "rooms"] (spIsWay C CS) := by
  refine F.ok scIWy (fun vs H Q E h => ?_) (fun cdv A outer s H vs Q E hr h => ?_)
  · obtain ⟨sc, ad, gd, rp, zs, ds, ss, ps, ws, W, st, gl, rs, b, f, z, l, rfl, _⟩ := h
    rfl
  · obtain ⟨sc, ad, gd, rp, zs, ds, ss, ps, ws, W, st, gl, rs, b, f, z, l, rfl, hS, ha, hg, i1, i2, l1, l2, hrp, ll, hb, hw, hf, fs, el, zg, k⟩ := h
    refine ⟨_, pss_cons (ps_expr (pe_call GNa (hr.mono (by decide)) (by rfl) gNa FNa.kp bNa .nil pass0 (pa_cons (pv 0) (pa_cons (pv 1) (pa_cons (pv 2) (pa_cons (pv 3) pa_nil))))))
      (pss_one (ps_ret (pe_and (pe_call GIw (hr.mono (by decide)) (by rfl) gIw FIw.kp bIw .nil pass0 (pa_cons (pv 0) (pa_cons (pv 3) (pa_cons (pv 4) pa_nil)))) (pe_and (pe_cmpR op_in_seq (pe_ix ix_tup (pv 4) pe_int (fun _ _ => rfl)) (pv 1) (by rfl)) (pe_one (pe_cmpR op_in_seq (pe_ix ix_tup (pv 4) (pe_un un_neg pe_int) (fun _ _ => rfl)) (pv 2) (by rfl))))))), ?_⟩
    refine ⟨_, rfl, _, rfl, _, rfl, _, rfl, sc, ad, gd, zs, ds, ss, ps, ws, false, 0, W, st, gl, some b, rfl, hS, ha, hg, i1, i2, l1, l2, fun c e => (by rw [← Option.some.inj e]; exact hb), fun H1 s1 => ?_⟩
    refine ⟨_, rfl, _, rfl, _, rfl, sc, rp, zs, ds, ss, ps, ws, W, rs, b, rfl, hS.same s1, s1 _ _ hrp, ll, hb, hw, fun H2 s2 => ⟨true, rfl, iteT ?_⟩⟩
    have s02 := s1.trans s2
    have hrp2 := s02 _ _ hrp
    have hf' : (rs.map V.str)[0]? = some (V.str f) := by
      rw [List.getElem?_map]
      cases rs with
      | nil => cases hf
      | cons x t => rw [← Option.some.inj hf]; rfl
    refine ⟨_, rfl, rp, _, 0, _, rfl, rfl, SqT.of hrp2, atI_nat (j := 0) hf', _, rfl, ad, _, rfl, .inl (SqL.of (s02 _ _ ha)), rfl, flat_all _, true, ?_, iteT ?_⟩
    · show V.bl (inV (.str f) (st.map V.str)) = V.bl true
      rw [in_strs, decide_eq_true fs]
    refine ⟨_, rfl, 1, rfl, rp, _, -1, _, rfl, rfl, SqT.of hrp2, (show atI (rs.map V.str) (-1) = some (V.str z) by rw [el, List.map_append]; exact atI_last _ _), _, rfl, gd, _, rfl, .inl (SqL.of (s02 _ _ hg)), rfl, flat_all _, ?_⟩
    show Q (V.bl (inV (.str z) (gl.map V.str))) H2
    rw [in_strs, decide_eq_true zg]
    exact k H2 s02
end
end Dk
namespace Dk
open PySem L2 PyProof.Rows
/-! ### the head: facts by names, one question more, and the tables of the defs that make lambdas -/
/-- a def's code object, as it is found by its name -/
theorem codeA_at {K : PySem.W.Frag} {x q : Str} {as : Arguments} {bd : List Stmt} {sc : Scope} {dv : List V} {kw : List (Str × V)} {p : Str × Option Str} {fd : FuncData} (F : FunD K x q as bd sc dv kw (He.fAd K p) fd) : codeA K (He.fAd K p) = some (He.cT K p).1 := by
  obtain ⟨oc, od, dV, kV, doc, pm, an, cdv, ct, osl, rfl, lk, hcd, _, _⟩ := F.ex
  obtain ⟨c, rfl⟩ := He.codeIn_ref hcd
  have e1 : (He.cT K p).1 = c := He.codeOf_eq lk rfl
  rw [e1]
  unfold codeA
  rw [lk]
end Dk
namespace Dk
open PySem PySem.Spec PyProof.Rows L2
/-! ### the head's facts about the refusals -/
theorem makB_ox {K : PySem.W.Frag} {bmB : List Value} {newId : String} {x : PySem.Str} (h : makB K bmB newId x = true) : OxC K bmB newId (He.ga K x) ∧ PySem.W.findIn K (.ref (He.ga K x)) "__init__" = some (some (.ref (He.fAd K (x, some "__init__")))) ∧ PySem.W.typeIn K (.ref (He.fAd K (x, some "__init__"))) = some (.type "function") ∧ PySem.W.findIn K (.ref (He.ga K x)) "word" = some none := by
  obtain ⟨h1, h⟩ := He.ba h
  obtain ⟨h2, h⟩ := He.ba h
  obtain ⟨h3, h⟩ := He.ba h
  obtain ⟨h4, h⟩ := He.ba h
  obtain ⟨h5, h⟩ := He.ba h
  obtain ⟨h6, h⟩ := He.ba h
  obtain ⟨h7, h⟩ := He.ba h
  obtain ⟨h8, h⟩ := He.ba h
  obtain ⟨h9, h10⟩ := He.ba h
  exact ⟨⟨h1, h2, h3, He.eqO_ok h4, of_decide_eq_true h5, of_decide_eq_true h6, h7⟩, He.eqO_ok h8, of_decide_eq_true h9, He.eqO_ok h10⟩
theorem basB_ok {K : PySem.W.Frag} {x : PySem.Str} {T init : String} (h : basB K x T init = true) : (He.Fa.glo x).ok K = true ∧ PySem.W.specialIn K (.ref (He.ga K x)) "__getattribute__" = some (some (.builtin "type.__getattribute__")) ∧ PySem.W.readsIn K (He.ga K x) (.type "type") = true ∧ PySem.W.findCls K (.ref (He.ga K x)) (.type "type") "__init__" = some (.val (.ref (He.fAd K (x, some "__init__")))) ∧ PySem.W.findCls K (.type T) (.type "type") "__init__" = some (.val (.builtin init)) := by
  obtain ⟨h1, h⟩ := He.ba h
  obtain ⟨h2, h⟩ := He.ba h
  obtain ⟨h3, h⟩ := He.ba h
  obtain ⟨h4, h5⟩ := He.ba h
  refine ⟨h1, He.eqO_ok h2, h3, ?_, ?_⟩
  · split at h4
    · rename_i v q
      rw [q, of_decide_eq_true h4]
    · cases h4
  · split at h5
    · rename_i v q
      rw [q, of_decide_eq_true h5]
    · cases h5
theorem bind_x3 {K : PySem.W.Frag} {q : PySem.Str} {st : Stmt} {d1 d2 : V} {f : Addr} {fd : FuncData} (F : FunD K "__init__" q (defArgs st) (defBody st) (defScope st) [d1, d2] [] f fd) (hb : ∀ (T : Addr) (kV doc pm : Value) (an : Option Addr) (cdv ct : Value) (us its : List Value), us.length = 3 → its.length = 2 →
      ∃ k, bindArgs (PySem.W.fnOf "__init__" q (defArgs st) (defBody st) (defScope st) (.ref T) kV doc pm an cdv ct) ⟨us, []⟩ = seqItems? (.ref T) >>= k ∧ k (some its.toArray) = pure ((["self", "about", "word"] : List PySem.Str).zip (us ++ its.drop 2))) : Binds K fd ["self", "about", "word"] [] := by
  obtain ⟨ds, v, b⟩ := FunD.binds1 (ps := ["self", "about", "word"]) F 3 2 (by simp) rfl hb
  cases v
  exact b
end Dk
namespace Dk
open PySem PySem.Spec PyProof.Rows L2
theorem raF_okD {K : PySem.W.Frag} {hp : Heap} {mg : PySem.Str → Option Value} {B newId initId : String} {bmB : List Value} {j : Nat} {x fl : PySem.Str} (X : K.In hp) (G : hp.Ns mainGlobals mg) (hA : gnoB K x fl = true) (e : kwords.getD j "" = x) (fb : ExcBaseFacts B newId initId bmB) (h : makB K bmB newId x = true) : RaF K mg (csK K) j x B newId initId bmB (He.fAd K (x, some "__init__")) := by
  subst e
  obtain ⟨h1, h2, h3, h4⟩ := makB_ox h
  exact ⟨fb, h1, h2, h3, He.glo_ok X G (He.ba hA).1, h4⟩
theorem nof_okD {K : PySem.W.Frag} {j : Nat} {x fl : PySem.Str} (e : kwords.getD j "" = x) (hA : gnoB K x fl = true) : PySem.W.findIn K (.ref (csK K j)) fl = some none := by
  subst e
  exact He.eqO_ok (He.ba hA).2
end Dk
namespace Dk
open PySem L2
theorem exC_ok {x : Str} {K : PySem.W.Frag} (h : exC1 x K = true) : PySem.W.findIn K (.ref (He.ga K x)) "__class__" = some (some (.builtin "object.__class__")) ∧ PySem.W.specialIn K (.builtin "object.__class__") "__get__" = some (some (.builtin "getset_descriptor.__get__")) ∧ PySem.W.takesIn K (.builtin "object.__class__") = some true ∧ PySem.W.mroIn K (He.ga K x) (.type "object") = some true ∧ PySem.W.isClsIn K (He.ga K x) = true ∧ PySem.W.typeIn K (.ref (He.ga K x)) = some (.type "type") := by
  obtain ⟨h1, h⟩ := He.ba h
  obtain ⟨h2, h⟩ := He.ba h
  obtain ⟨h3, h⟩ := He.ba h
  obtain ⟨h4, h⟩ := He.ba h
  obtain ⟨h5, h6⟩ := He.ba h
  exact ⟨He.eqO_ok h1, He.eqO_ok h2, of_decide_eq_true h3, of_decide_eq_true h4, h5, of_decide_eq_true h6⟩
theorem law_binds {K : PySem.W.Frag} {f : Addr} {fd : FuncData} (F : Fun K "law" "law" sLaw f fd) : ∀ (s : Shared) (v : Value), BindsTo s fd ⟨[v], []⟩ [("_law_script", v)] := by
  obtain ⟨oc, od, kV, doc, pm, an, cdv, ct, osl, rfl, lk, hcd⟩ := F.ex
  exact fun s v => .of_eq rfl
theorem facts {P : Program} {w : World} {K : PySem.W.Frag} {h : Heap} {mg : Str → Option Value} {fa : Addr} (X : K.In h) (G : h.Ns mainGlobals mg) (hfa : mg "law" = some (.ref fa)) (c : He.SaysD fsY dsY K) (c2 : exC K = true) :
    ∃ fd : FuncData, (∀ (s : Shared) (v : Value), BindsTo s fd ⟨[v], []⟩ [("_law_script", v)]) ∧ ∀ base : Heap, K.In base → base.Ns mainGlobals mg → (∀ p ∈ tfY.map (He.cT K), LamX.TabB base mg p.1 p.2) → FnOk P w K mg base CX0 13 fa fd ["_law_script"] (spLaw (He.cT K ("way", none)).2 K) := by
  obtain ⟨c2, cX⟩ := He.ba c2
  have cX0 := (He.ba cX).1
  have cX1 := (He.ba (He.ba cX).2).1
  have cX2 := (He.ba (He.ba (He.ba cX).2).2).1
  have cX3 := (He.ba (He.ba (He.ba (He.ba cX).2).2).2).1
  have cX4 := (He.ba (He.ba (He.ba (He.ba (He.ba cX).2).2).2).2).1
  have cX5 := (He.ba (He.ba (He.ba (He.ba (He.ba cX).2).2).2).2).2
  obtain ⟨f0, d0, F0, g0⟩ := glo_fun (x := "is_name") (st := sIsName) X G (c.def_ 0 (d := dY 0) rfl) (c.fact 0 (f := .glo "is_name") rfl)
  have k0 := F0.kp
  have b0 := F0.binds (ps := ["text"]) fun _ _ _ _ _ _ us hl => match us, hl with | [_], _ => rfl
  obtain ⟨f1, d1, F1, g1⟩ := glo_fun (x := "need_new_name") (st := sNewName) X G (c.def_ 1 (d := dY 1) rfl) (c.fact 1 (f := .glo "need_new_name") rfl)
  have k1 := F1.kp
  have b1 := F1.binds (ps := ["name", "others"]) fun _ _ _ _ _ _ us hl => match us, hl with | [_, _], _ => rfl
  obtain ⟨f2, d2, F2, g2⟩ := glo_fun (x := "need_room") (st := sNeed) X G (c.def_ 2 (d := dY 2) rfl) (c.fact 2 (f := .glo "need_room") rfl)
  have k2 := F2.kp
  have b2 := F2.binds (ps := ["house", "room"]) fun _ _ _ _ _ _ us hl => match us, hl with | [_, _], _ => rfl
  obtain ⟨f3, d3, F3, g3⟩ := glo_fun (x := "need_rooms") (st := sNeeds) X G (c.def_ 3 (d := dY 3) rfl) (c.fact 3 (f := .glo "need_rooms") rfl)
  have k3 := F3.kp
  have b3 := F3.binds (ps := ["house", "a", "b"]) fun _ _ _ _ _ _ us hl => match us, hl with | [_, _, _], _ => rfl
  obtain ⟨f4, d4, F4, g4⟩ := glo_fun (x := "need_unlike") (st := sNU) X G (c.def_ 4 (d := dY 4) rfl) (c.fact 4 (f := .glo "need_unlike") rfl)
  have k4 := F4.kp
  have b4 := F4.binds (ps := ["house", "a", "b"]) fun _ _ _ _ _ _ us hl => match us, hl with | [_, _, _], _ => rfl
  obtain ⟨f5, d5, F5, g5⟩ := glo_fun (x := "new_names") (st := sNew) X G (c.def_ 5 (d := dY 5) rfl) (c.fact 5 (f := .glo "new_names") rfl)
  have k5 := F5.kp
  have b5 := F5.binds (ps := ["names"]) fun _ _ _ _ _ _ us hl => match us, hl with | [_], _ => rfl
  obtain ⟨f6, d6, F6, g6⟩ := glo_fun (x := "unlike_pairs") (st := sUnlike) X G (c.def_ 6 (d := dY 6) rfl) (c.fact 6 (f := .glo "unlike_pairs") rfl)
  have k6 := F6.kp
  have b6 := F6.binds (ps := ["house", "pairs"]) fun _ _ _ _ _ _ us hl => match us, hl with | [_, _], _ => rfl
  obtain ⟨f7, d7, F7, g7⟩ := glo_fun (x := "linked") (st := sLinked) X G (c.def_ 7 (d := dY 7) rfl) (c.fact 7 (f := .glo "linked") rfl)
  have k7 := F7.kp
  have b7 := F7.binds (ps := ["rooms", "pairs"]) fun _ _ _ _ _ _ us hl => match us, hl with | [_, _], _ => rfl
  obtain ⟨f8, d8, F8, g8⟩ := glo_fun (x := "need_round") (st := sNeedRound) X G (c.def_ 8 (d := dY 8) rfl) (c.fact 8 (f := .glo "need_round") rfl)
  have k8 := F8.kp
  have b8 := F8.binds (ps := ["house", "rooms"]) fun _ _ _ _ _ _ us hl => match us, hl with | [_, _], _ => rfl
  obtain ⟨f9, d9, F9, g9⟩ : ∃ f fd, FunD K "place" "place" (defArgs sPlace) (defBody sPlace) (defScope sPlace) [] [("delay", V.int 0)] f fd ∧ mg "place" = some (.ref f) := (c.def_ 9 (d := dY 9) rfl).elim fun fd F => ⟨_, fd, F, He.glo_ok X G (c.fact 9 (f := .glo "place") rfl)⟩
  obtain ⟨f10, d10, F10, g10⟩ := glo_fun (x := "divisor_and_share") (st := sDas) X G (c.def_ 10 (d := dY 10) rfl) (c.fact 10 (f := .glo "divisor_and_share") rfl)
  have k10 := F10.kp
  have b10 := F10.binds (ps := ["one", "other"]) fun _ _ _ _ _ _ us hl => match us, hl with | [_, _], _ => rfl
  obtain ⟨f11, d11, F11, g11⟩ := glo_fun (x := "wheel_of") (st := sWheel) X G (c.def_ 11 (d := dY 11) rfl) (c.fact 11 (f := .glo "wheel_of") rfl)
  have k11 := F11.kp
  have b11 := F11.binds (ps := ["sizes"]) fun _ _ _ _ _ _ us hl => match us, hl with | [_], _ => rfl
  obtain ⟨f12, d12, F12, g12⟩ := glo_fun (x := "rooms_at") (st := sRoomsAt) X G (c.def_ 12 (d := dY 12) rfl) (c.fact 12 (f := .glo "rooms_at") rfl)
  have k12 := F12.kp
  have b12 := F12.binds (ps := ["tracks", "beat"]) fun _ _ _ _ _ _ us hl => match us, hl with | [_, _], _ => rfl
  obtain ⟨f13, d13, F13, g13⟩ := glo_fun (x := "has_relief") (st := sHasRelief) X G (c.def_ 13 (d := dY 13) rfl) (c.fact 13 (f := .glo "has_relief") rfl)
  have k13 := F13.kp
  have b13 := F13.binds (ps := ["tracks", "many", "relief"]) fun _ _ _ _ _ _ us hl => match us, hl with | [_, _, _], _ => rfl
  obtain ⟨f14, d14, F14, g14⟩ := glo_fun (x := "span_of") (st := sSpanOf) X G (c.def_ 14 (d := dY 14) rfl) (c.fact 14 (f := .glo "span_of") rfl)
  have k14 := F14.kp
  have b14 := F14.binds (ps := ["tracks", "many", "relief"]) fun _ _ _ _ _ _ us hl => match us, hl with | [_, _, _], _ => rfl
  obtain ⟨f15, d15, F15, g15⟩ := glo_fun (x := "handed_over") (st := sHanded) X G (c.def_ 15 (d := dY 15) rfl) (c.fact 15 (f := .glo "handed_over") rfl)
  have k15 := F15.kp
  have b15 := F15.binds (ps := ["order", "rooms"]) fun _ _ _ _ _ _ us hl => match us, hl with | [_, _], _ => rfl
  obtain ⟨f16, d16, F16, g16⟩ := glo_fun (x := "relieved") (st := sRelieved) X G (c.def_ 16 (d := dY 16) rfl) (c.fact 16 (f := .glo "relieved") rfl)
  have k16 := F16.kp
  have b16 := F16.binds (ps := ["order", "posts", "post"]) fun _ _ _ _ _ _ us hl => match us, hl with | [_, _, _], _ => rfl
  obtain ⟨f17, d17, F17, g17⟩ := glo_fun (x := "changed_order") (st := sChanged) X G (c.def_ 17 (d := dY 17) rfl) (c.fact 17 (f := .glo "changed_order") rfl)
  have k17 := F17.kp
  have b17 := F17.binds (ps := ["order", "beat", "tracks", "meet", "relief"]) fun _ _ _ _ _ _ us hl => match us, hl with | [_, _, _, _, _], _ => rfl
  obtain ⟨f18, d18, F18, g18⟩ := glo_fun (x := "orders_of") (st := sOrders) X G (c.def_ 18 (d := dY 18) rfl) (c.fact 18 (f := .glo "orders_of") rfl)
  have k18 := F18.kp
  have b18 := F18.binds (ps := ["tracks", "many", "meet", "relief"]) fun _ _ _ _ _ _ us hl => match us, hl with | [_, _, _, _], _ => rfl
  obtain ⟨f19, d19, F19, g19⟩ := glo_fun (x := "lit_rooms") (st := sLitRooms) X G (c.def_ 19 (d := dY 19) rfl) (c.fact 19 (f := .glo "lit_rooms") rfl)
  have k19 := F19.kp
  have b19 := F19.binds (ps := ["house", "rooms", "reaches"]) fun _ _ _ _ _ _ us hl => match us, hl with | [_, _, _], _ => rfl
  obtain ⟨f20, d20, F20, g20⟩ := glo_fun (x := "moves_of") (st := sMoves) X G (c.def_ 20 (d := dY 20) rfl) (c.fact 20 (f := .glo "moves_of") rfl)
  have k20 := F20.kp
  have b20 := F20.binds (ps := ["before", "now"]) fun _ _ _ _ _ _ us hl => match us, hl with | [_, _], _ => rfl
  obtain ⟨f21, d21, F21, g21⟩ := glo_fun (x := "rooms_at_hand") (st := sHands) X G (c.def_ 21 (d := dY 21) rfl) (c.fact 21 (f := .glo "rooms_at_hand") rfl)
  have k21 := F21.kp
  have b21 := F21.binds (ps := ["house"]) fun _ _ _ _ _ _ us hl => match us, hl with | [_], _ => rfl
  obtain ⟨f22, d22, F22, g22⟩ := glo_fun (x := "need_delay") (st := sNeedDelay) X G (c.def_ 22 (d := dY 22) rfl) (c.fact 22 (f := .glo "need_delay") rfl)
  have k22 := F22.kp
  have b22 := F22.binds (ps := ["rooms", "delay"]) fun _ _ _ _ _ _ us hl => match us, hl with | [_, _], _ => rfl
  obtain ⟨f23, d23, F23, g23⟩ := glo_fun (x := "need_reach") (st := sNeedReach) X G (c.def_ 23 (d := dY 23) rfl) (c.fact 23 (f := .glo "need_reach") rfl)
  have k23 := F23.kp
  have b23 := F23.binds (ps := ["reach"]) fun _ _ _ _ _ _ us hl => match us, hl with | [_], _ => rfl
  obtain ⟨f24, d24, F24, g24⟩ := glo_fun (x := "need_relief") (st := sNeedRelief) X G (c.def_ 24 (d := dY 24) rfl) (c.fact 24 (f := .glo "need_relief") rfl)
  have k24 := F24.kp
  have b24 := F24.binds (ps := ["relief"]) fun _ _ _ _ _ _ us hl => match us, hl with | [_], _ => rfl
  obtain ⟨f25, d25, F25, g25⟩ := glo_fun (x := "need_counts") (st := sNeedCounts) X G (c.def_ 25 (d := dY 25) rfl) (c.fact 25 (f := .glo "need_counts") rfl)
  have k25 := F25.kp
  have b25 := F25.binds (ps := ["posts", "watchers"]) fun _ _ _ _ _ _ us hl => match us, hl with | [_, _], _ => rfl
  obtain ⟨f26, d26, F26, g26⟩ := glo_fun (x := "names_of") (st := sNamesOf) X G (c.def_ 26 (d := dY 26) rfl) (c.fact 26 (f := .glo "names_of") rfl)
  have k26 := F26.kp
  have b26 := F26.binds (ps := ["rows"]) fun _ _ _ _ _ _ us hl => match us, hl with | [_], _ => rfl
  obtain ⟨f27, d27, F27, g27⟩ := glo_fun (x := "new_posts") (st := sNewPosts) X G (c.def_ 27 (d := dY 27) rfl) (c.fact 27 (f := .glo "new_posts") rfl)
  have k27 := F27.kp
  have b27 := F27.binds (ps := ["house", "posts"]) fun _ _ _ _ _ _ us hl => match us, hl with | [_, _], _ => rfl
  obtain ⟨f28, d28, F28, g28⟩ := glo_fun (x := "new_watchers") (st := sNewWatchers) X G (c.def_ 28 (d := dY 28) rfl) (c.fact 28 (f := .glo "new_watchers") rfl)
  have k28 := F28.kp
  have b28 := F28.binds (ps := ["watchers"]) fun _ _ _ _ _ _ us hl => match us, hl with | [_], _ => rfl
  obtain ⟨f29, d29, F29, g29⟩ := glo_fun (x := "is_beat") (st := sIsBeat) X G (c.def_ 29 (d := dY 29) rfl) (c.fact 29 (f := .glo "is_beat") rfl)
  have k29 := F29.kp
  have b29 := F29.binds (ps := ["number"]) fun _ _ _ _ _ _ us hl => match us, hl with | [_], _ => rfl
  obtain ⟨f30, d30, F30, g30⟩ := glo_fun (x := "need_beat") (st := sNeedBeat) X G (c.def_ 30 (d := dY 30) rfl) (c.fact 30 (f := .glo "need_beat") rfl)
  have k30 := F30.kp
  have b30 := F30.binds (ps := ["beat"]) fun _ _ _ _ _ _ us hl => match us, hl with | [_], _ => rfl
  obtain ⟨f31, d31, F31, g31⟩ := glo_fun (x := "_law_box") (st := sBox) X G (c.def_ 31 (d := dY 31) rfl) (c.fact 31 (f := .glo "_law_box") rfl)
  have k31 := F31.kp
  have b31 := F31.binds (ps := ["_law_script"]) fun _ _ _ _ _ _ us hl => match us, hl with | [_], _ => rfl
  obtain ⟨f32, d32, F32, g32⟩ := glo_fun (x := "_law_draw") (st := sDraw) X G (c.def_ 32 (d := dY 32) rfl) (c.fact 32 (f := .glo "_law_draw") rfl)
  have k32 := F32.kp
  have b32 := F32.binds (ps := ["_law_box_here", "_law_many_here"]) fun _ _ _ _ _ _ us hl => match us, hl with | [_, _], _ => rfl
  obtain ⟨f33, d33, F33, g33⟩ := glo_fun (x := "_law_of") (st := sOf) X G (c.def_ 33 (d := dY 33) rfl) (c.fact 33 (f := .glo "_law_of") rfl)
  have k33 := F33.kp
  have b33 := F33.binds (ps := ["_law_box_here", "_law_some"]) fun _ _ _ _ _ _ us hl => match us, hl with | [_, _], _ => rfl
  obtain ⟨f34, d34, F34, g34⟩ := glo_fun (x := "_law_names") (st := sNames) X G (c.def_ 34 (d := dY 34) rfl) (c.fact 34 (f := .glo "_law_names") rfl)
  have k34 := F34.kp
  have b34 := F34.binds (ps := ["_law_box_here", "_law_many_here"]) fun _ _ _ _ _ _ us hl => match us, hl with | [_, _], _ => rfl
  obtain ⟨f35, d35, F35, g35⟩ := glo_fun (x := "_law_house") (st := sLawHouse) X G (c.def_ 35 (d := dY 35) rfl) (c.fact 35 (f := .glo "_law_house") rfl)
  have k35 := F35.kp
  have b35 := F35.binds (ps := ["_law_box_here", "_law_limit"]) fun _ _ _ _ _ _ us hl => match us, hl with | [_, _], _ => rfl
  obtain ⟨f36, d36, F36, g36⟩ := glo_fun (x := "_law_near") (st := sLawNear) X G (c.def_ 36 (d := dY 36) rfl) (c.fact 36 (f := .glo "_law_near") rfl)
  have k36 := F36.kp
  have b36 := F36.binds (ps := ["_law_house_here", "_law_room"]) fun _ _ _ _ _ _ us hl => match us, hl with | [_, _], _ => rfl
  obtain ⟨f37, d37, F37, g37⟩ := glo_fun (x := "_law_hand") (st := sLawHand) X G (c.def_ 37 (d := dY 37) rfl) (c.fact 37 (f := .glo "_law_hand") rfl)
  have k37 := F37.kp
  have b37 := F37.binds (ps := ["_law_house_here", "_law_room"]) fun _ _ _ _ _ _ us hl => match us, hl with | [_, _], _ => rfl
  obtain ⟨f38, d38, F38, g38⟩ := glo_fun (x := "_law_round") (st := sLawRound) X G (c.def_ 38 (d := dY 38) rfl) (c.fact 38 (f := .glo "_law_round") rfl)
  have k38 := F38.kp
  have b38 := F38.binds (ps := ["_law_box_here", "_law_house_here", "_law_limit"]) fun _ _ _ _ _ _ us hl => match us, hl with | [_, _, _], _ => rfl
  obtain ⟨f39, d39, F39, g39⟩ := glo_fun (x := "_law_scene") (st := sLawScene) X G (c.def_ 39 (d := dY 39) rfl) (c.fact 39 (f := .glo "_law_scene") rfl)
  have k39 := F39.kp
  have b39 := F39.binds (ps := ["_law_box_here", "_law_rooms", "_law_posts", "_law_size"]) fun _ _ _ _ _ _ us hl => match us, hl with | [_, _, _, _], _ => rfl
  obtain ⟨f40, d40, F40, g40⟩ := glo_fun (x := "_law_made") (st := sLawMade) X G (c.def_ 40 (d := dY 40) rfl) (c.fact 40 (f := .glo "_law_made") rfl)
  have k40 := F40.kp
  have b40 := F40.binds (ps := ["_law_house_here"]) fun _ _ _ _ _ _ us hl => match us, hl with | [_], _ => rfl
  obtain ⟨f41, d41, F41, g41⟩ := glo_fun (x := "next_cells") (st := sNextCells) X G (c.def_ 41 (d := dY 41) rfl) (c.fact 41 (f := .glo "next_cells") rfl)
  have k41 := F41.kp
  have b41 := F41.binds (ps := ["scene", "cell"]) fun _ _ _ _ _ _ us hl => match us, hl with | [_, _], _ => rfl
  obtain ⟨f42, d42, F42, g42⟩ := glo_fun (x := "traced") (st := sTraced) X G (c.def_ 42 (d := dY 42) rfl) (c.fact 42 (f := .glo "traced") rfl)
  have k42 := F42.kp
  have b42 := F42.binds (ps := ["ahead", "end"]) fun _ _ _ _ _ _ us hl => match us, hl with | [_, _], _ => rfl
  obtain ⟨f43, d43, F43, g43⟩ := glo_fun (x := "searched") (st := sSearched) X G (c.def_ 43 (d := dY 43) rfl) (c.fact 43 (f := .glo "searched") rfl)
  have k43 := F43.kp
  have b43 := F43.binds (ps := ["beginnings", "behind", "is_end"]) fun _ _ _ _ _ _ us hl => match us, hl with | [_, _, _], _ => rfl
  obtain ⟨f44, d44, F44, g44⟩ := glo_fun (x := "need_asked") (st := sNeedAsked) X G (c.def_ 44 (d := dY 44) rfl) (c.fact 44 (f := .glo "need_asked") rfl)
  have k44 := F44.kp
  have b44 := F44.binds (ps := ["scene", "starts", "goals", "begin"]) fun _ _ _ _ _ _ us hl => match us, hl with | [_, _, _, _], _ => rfl
  obtain ⟨f45, d45, F45, g45⟩ := glo_fun (x := "beginnings") (st := sBegin) X G (c.def_ 45 (d := dY 45) rfl) (c.fact 45 (f := .glo "beginnings") rfl)
  have k45 := F45.kp
  have b45 := F45.binds (ps := ["scene", "starts", "begin"]) fun _ _ _ _ _ _ us hl => match us, hl with | [_, _, _], _ => rfl
  obtain ⟨f46, d46, F46, g46⟩ := glo_fun (x := "told_way") (st := sToldWay) X G (c.def_ 46 (d := dY 46) rfl) (c.fact 46 (f := .glo "told_way") rfl)
  have k46 := F46.kp
  have b46 := F46.binds (ps := ["row", "begin"]) fun _ _ _ _ _ _ us hl => match us, hl with | [_, _], _ => rfl
  obtain ⟨f47, d47, F47, g47, cA47⟩ : ∃ f fd, FunD K "way" "way" (defArgs sWay) (defBody sWay) (defScope sWay) [] [("begin", V.non)] f fd ∧ mg "way" = some (.ref f) ∧ codeA K f = some (He.cT K ("way", none)).1 := (c.def_ 47 (d := dY 47) rfl).elim fun fd F => ⟨_, fd, F, He.glo_ok X G (c.fact 47 (f := .glo "way") rfl), codeA_at F⟩
  obtain ⟨f48, d48, F48, g48⟩ := glo_fun (x := "guards_of") (st := s_guards_of) X G (c.def_ 48 (d := dY 48) rfl) (c.fact 48 (f := .glo "guards_of") rfl)
  have k48 := F48.kp
  have b48 := F48.binds (ps := ["posts", "reaches"]) fun _ _ _ _ _ _ us hl => match us, hl with | [_, _], _ => rfl
  obtain ⟨f49, d49, F49, g49⟩ := glo_fun (x := "guarded") (st := s_guarded) X G (c.def_ 49 (d := dY 49) rfl) (c.fact 49 (f := .glo "guarded") rfl)
  have k49 := F49.kp
  have b49 := F49.binds (ps := ["house", "guards"]) fun _ _ _ _ _ _ us hl => match us, hl with | [_, _], _ => rfl
  obtain ⟨f50, d50, F50, g50⟩ := glo_fun (x := "asked_scene") (st := s_asked_scene) X G (c.def_ 50 (d := dY 50) rfl) (c.fact 50 (f := .glo "asked_scene") rfl)
  have k50 := F50.kp
  have b50 := F50.binds (ps := ["house", "guards", "starts", "goals"]) fun _ _ _ _ _ _ us hl => match us, hl with | [_, _, _, _], _ => rfl
  obtain ⟨f51, d51, F51, g51⟩ := glo_fun (x := "choices") (st := s_choices) X G (c.def_ 51 (d := dY 51) rfl) (c.fact 51 (f := .glo "choices") rfl)
  have k51 := F51.kp
  have b51 := F51.binds (ps := ["row", "many"]) fun _ _ _ _ _ _ us hl => match us, hl with | [_, _], _ => rfl
  obtain ⟨f52, d52, F52, g52⟩ := glo_fun (x := "ways_left") (st := s_ways_left) X G (c.def_ 52 (d := dY 52) rfl) (c.fact 52 (f := .glo "ways_left") rfl)
  have k52 := F52.kp
  have b52 := F52.binds (ps := ["house", "lots", "starts", "goals"]) fun _ _ _ _ _ _ us hl => match us, hl with | [_, _, _, _], _ => rfl
  obtain ⟨f53, d53, F53, g53⟩ := glo_fun (x := "fewest") (st := s_fewest) X G (c.def_ 53 (d := dY 53) rfl) (c.fact 53 (f := .glo "fewest") rfl)
  have k53 := F53.kp
  have b53 := F53.binds (ps := ["house", "posts", "reaches", "starts", "goals"]) fun _ _ _ _ _ _ us hl => match us, hl with | [_, _, _, _, _], _ => rfl
  obtain ⟨f54, d54, F54, g54⟩ := glo_fun (x := "is_walk") (st := sIsWalk) X G (c.def_ 54 (d := dY 54) rfl) (c.fact 54 (f := .glo "is_walk") rfl)
  have k54 := F54.kp
  have b54 := F54.binds (ps := ["scene", "beat", "rooms"]) fun _ _ _ _ _ _ us hl => match us, hl with | [_, _, _], _ => rfl
  obtain ⟨f55, d55, F55, g55⟩ := glo_fun (x := "is_way") (st := sIsWay) X G (c.def_ 55 (d := dY 55) rfl) (c.fact 55 (f := .glo "is_way") rfl)
  have k55 := F55.kp
  have b55 := F55.binds (ps := ["scene", "starts", "goals", "beat", "rooms"]) fun _ _ _ _ _ _ us hl => match us, hl with | [_, _, _, _, _], _ => rfl
  obtain ⟨f56, d56, F56, g56⟩ := glo_fun (x := "_law_plain") (st := sPlain) X G (c.def_ 56 (d := dY 56) rfl) (c.fact 56 (f := .glo "_law_plain") rfl)
  have k56 := F56.kp
  have b56 := F56.binds (ps := ["_law_m"]) fun _ _ _ _ _ _ us hl => match us, hl with | [_], _ => rfl
  obtain ⟨f57, d57, F57, g57⟩ := glo_fun (x := "_law_guarded") (st := s_law_guarded) X G (c.def_ 57 (d := dY 57) rfl) (c.fact 57 (f := .glo "_law_guarded") rfl)
  have k57 := F57.kp
  have b57 := F57.binds (ps := ["_law_box_here", "_law_rooms", "_law_posts", "_law_size"]) fun _ _ _ _ _ _ us hl => match us, hl with | [_, _, _, _], _ => rfl
  obtain ⟨f58, d58, F58, g58⟩ := glo_fun (x := "_law_reaches") (st := s_law_reaches) X G (c.def_ 58 (d := dY 58) rfl) (c.fact 58 (f := .glo "_law_reaches") rfl)
  have k58 := F58.kp
  have b58 := F58.binds (ps := ["_law_m"]) fun _ _ _ _ _ _ us hl => match us, hl with | [_], _ => rfl
  obtain ⟨f59, d59, F59, g59⟩ := glo_fun (x := "_law_many") (st := s_law_many) X G (c.def_ 59 (d := dY 59) rfl) (c.fact 59 (f := .glo "_law_many") rfl)
  have k59 := F59.kp
  have b59 := F59.binds (ps := ["_law_told"]) fun _ _ _ _ _ _ us hl => match us, hl with | [_], _ => rfl
  obtain ⟨f60, d60, F60, g60⟩ := glo_fun (x := "law") (st := sLaw) X G (c.def_ 60 (d := dY 60) rfl) (c.fact 60 (f := .glo "law") rfl)
  have k60 := F60.kp
  have b60 := F60.binds (ps := ["_law_script"]) fun _ _ _ _ _ _ us hl => match us, hl with | [_], _ => rfl
  obtain ⟨CH, eCH⟩ : ∃ C, C = He.ga K "House" := ⟨_, rfl⟩
  have gCH : mg "House" = some (.ref CH) := by rw [eCH]; exact He.glo_ok X G (c.fact 61 (f := .glo "House") rfl)
  have CLH : Cls K CH := by rw [eCH]; exact He.cls_ok (c.fact 62 (f := .cls "House") rfl)
  obtain ⟨tH1, tH2, tH3, fiH, diH, FiH, MKH⟩ : ∃ (t1 t2 t3 f : Addr) (fd : FuncData), FunD K "__init__" "House.__init__" (defArgs sInit) (defBody sInit) (defScope sInit) [V.ref t1, V.ref t2, V.ref t3] [] f fd ∧ Mk K CH f := (c.def_ 61 (d := dY 61) rfl).elim fun fd F => ⟨_, _, _, _, fd, F, by rw [eCH]; exact He.mkr_ok (c.fact 63 (f := .mkr "House") rfl)⟩
  obtain ⟨fmH0, dmH0, FmH0, MmH0⟩ := met_fun (x := "rooms") (y := "House") (q := "House.rooms") (st := sRooms) eCH (c.def_ 62 (d := dY 62) rfl) (c.fact 64 (f := .meth "House" "rooms") rfl)
  have bmH0 := FmH0.binds (ps := ["self"]) fun _ _ _ _ _ _ us hl => match us, hl with | [_], _ => rfl
  have amH0 := MmH0.1
  have imH0 := MmH0.2
  obtain ⟨fmH1, dmH1, FmH1, MmH1⟩ := met_fun (x := "doors") (y := "House") (q := "House.doors") (st := sDoors) eCH (c.def_ 63 (d := dY 63) rfl) (c.fact 65 (f := .meth "House" "doors") rfl)
  have bmH1 := FmH1.binds (ps := ["self"]) fun _ _ _ _ _ _ us hl => match us, hl with | [_], _ => rfl
  have amH1 := MmH1.1
  have imH1 := MmH1.2
  obtain ⟨fmH2, dmH2, FmH2, MmH2⟩ := met_fun (x := "sights") (y := "House") (q := "House.sights") (st := sSights) eCH (c.def_ 64 (d := dY 64) rfl) (c.fact 66 (f := .meth "House" "sights") rfl)
  have bmH2 := FmH2.binds (ps := ["self"]) fun _ _ _ _ _ _ us hl => match us, hl with | [_], _ => rfl
  have amH2 := MmH2.1
  have imH2 := MmH2.2
  obtain ⟨fmH3, dmH3, FmH3, MmH3⟩ := met_fun (x := "has_room") (y := "House") (q := "House.has_room") (st := sHas) eCH (c.def_ 65 (d := dY 65) rfl) (c.fact 67 (f := .meth "House" "has_room") rfl)
  have bmH3 := FmH3.binds (ps := ["self", "name"]) fun _ _ _ _ _ _ us hl => match us, hl with | [_, _], _ => rfl
  have amH3 := MmH3.1
  have imH3 := MmH3.2
  obtain ⟨fmH4, dmH4, FmH4, MmH4⟩ := met_fun (x := "sees") (y := "House") (q := "House.sees") (st := sSees) eCH (c.def_ 66 (d := dY 66) rfl) (c.fact 68 (f := .meth "House" "sees") rfl)
  have bmH4 := FmH4.binds (ps := ["self", "room"]) fun _ _ _ _ _ _ us hl => match us, hl with | [_, _], _ => rfl
  have amH4 := MmH4.1
  have imH4 := MmH4.2
  obtain ⟨fmH5, dmH5, FmH5, MmH5⟩ := met_fun (x := "has_door") (y := "House") (q := "House.has_door") (st := sHasDoor) eCH (c.def_ 67 (d := dY 67) rfl) (c.fact 69 (f := .meth "House" "has_door") rfl)
  have bmH5 := FmH5.binds (ps := ["self", "a", "b"]) fun _ _ _ _ _ _ us hl => match us, hl with | [_, _, _], _ => rfl
  have amH5 := MmH5.1
  have imH5 := MmH5.2
  obtain ⟨fmH6, dmH6, FmH6, MmH6⟩ := met_fun (x := "at_hand") (y := "House") (q := "House.at_hand") (st := sAtHand) eCH (c.def_ 68 (d := dY 68) rfl) (c.fact 70 (f := .meth "House" "at_hand") rfl)
  have bmH6 := FmH6.binds (ps := ["self", "a", "b"]) fun _ _ _ _ _ _ us hl => match us, hl with | [_, _, _], _ => rfl
  have amH6 := MmH6.1
  have imH6 := MmH6.2
  have noH_names : NoAttr K CH "names" := by rw [eCH]; exact He.noat_ok (c.fact 71 (f := .noat "House" "names") rfl)
  have noH_behind : NoAttr K CH "behind" := by rw [eCH]; exact He.noat_ok (c.fact 72 (f := .noat "House" "behind") rfl)
  have noH_views : NoAttr K CH "views" := by rw [eCH]; exact He.noat_ok (c.fact 73 (f := .noat "House" "views") rfl)
  obtain ⟨haH, hnH, htkH, hmH, ciH, ctH⟩ := exC_ok (x := "House") c2
  rw [← eCH] at haH hmH ciH ctH
  obtain ⟨CS, eCS⟩ : ∃ C, C = He.ga K "Scene" := ⟨_, rfl⟩
  have gCS : mg "Scene" = some (.ref CS) := by rw [eCS]; exact He.glo_ok X G (c.fact 74 (f := .glo "Scene") rfl)
  have CLS : Cls K CS := by rw [eCS]; exact He.cls_ok (c.fact 75 (f := .cls "Scene") rfl)
  obtain ⟨tS1, tS2, fiS, diS, FiS, MKS⟩ : ∃ (t1 t2 f : Addr) (fd : FuncData), FunD K "__init__" "Scene.__init__" (defArgs sc_init) (defBody sc_init) (defScope sc_init) [V.ref t1, V.ref t2] [("meet", V.bl false), ("relief", V.int 0)] f fd ∧ Mk K CS f := (c.def_ 69 (d := dY 69) rfl).elim fun fd F => ⟨_, _, _, fd, F, by rw [eCS]; exact He.mkr_ok (c.fact 76 (f := .mkr "Scene") rfl)⟩
  obtain ⟨fmS0, dmS0, FmS0, MmS0⟩ := met_fun (x := "reaches_in") (y := "Scene") (q := "Scene.reaches_in") (st := sc_reaches_in) eCS (c.def_ 70 (d := dY 70) rfl) (c.fact 77 (f := .meth "Scene" "reaches_in") rfl)
  have bmS0 := FmS0.binds (ps := ["self", "order"]) fun _ _ _ _ _ _ us hl => match us, hl with | [_, _], _ => rfl
  have amS0 := MmS0.1
  have imS0 := MmS0.2
  obtain ⟨fmS1, dmS1, FmS1, MmS1⟩ := met_fun (x := "wheel") (y := "Scene") (q := "Scene.wheel") (st := sc_wheel) eCS (c.def_ 71 (d := dY 71) rfl) (c.fact 78 (f := .meth "Scene" "wheel") rfl)
  have bmS1 := FmS1.binds (ps := ["self"]) fun _ _ _ _ _ _ us hl => match us, hl with | [_], _ => rfl
  have amS1 := MmS1.1
  have imS1 := MmS1.2
  obtain ⟨fmS2, dmS2, FmS2, MmS2⟩ := met_fun (x := "house") (y := "Scene") (q := "Scene.house") (st := sc_house) eCS (c.def_ 72 (d := dY 72) rfl) (c.fact 79 (f := .meth "Scene" "house") rfl)
  have bmS2 := FmS2.binds (ps := ["self"]) fun _ _ _ _ _ _ us hl => match us, hl with | [_], _ => rfl
  have amS2 := MmS2.1
  have imS2 := MmS2.2
  obtain ⟨fmS3, dmS3, FmS3, MmS3⟩ := met_fun (x := "is_dark") (y := "Scene") (q := "Scene.is_dark") (st := sc_is_dark) eCS (c.def_ 73 (d := dY 73) rfl) (c.fact 80 (f := .meth "Scene" "is_dark") rfl)
  have bmS3 := FmS3.binds (ps := ["self", "room", "beat"]) fun _ _ _ _ _ _ us hl => match us, hl with | [_, _, _], _ => rfl
  have amS3 := MmS3.1
  have imS3 := MmS3.2
  obtain ⟨fmS4, dmS4, FmS4, MmS4⟩ := met_fun (x := "steps") (y := "Scene") (q := "Scene.steps") (st := sc_steps) eCS (c.def_ 74 (d := dY 74) rfl) (c.fact 81 (f := .meth "Scene" "steps") rfl)
  have bmS4 := FmS4.binds (ps := ["self", "room", "beat"]) fun _ _ _ _ _ _ us hl => match us, hl with | [_, _, _], _ => rfl
  have amS4 := MmS4.1
  have imS4 := MmS4.2
  have noS_home : NoAttr K CS "home" := by rw [eCS]; exact He.noat_ok (c.fact 82 (f := .noat "Scene" "home") rfl)
  have noS_post_rows : NoAttr K CS "post_rows" := by rw [eCS]; exact He.noat_ok (c.fact 83 (f := .noat "Scene" "post_rows") rfl)
  have noS_watcher_rows : NoAttr K CS "watcher_rows" := by rw [eCS]; exact He.noat_ok (c.fact 84 (f := .noat "Scene" "watcher_rows") rfl)
  have noS_has_meet : NoAttr K CS "has_meet" := by rw [eCS]; exact He.noat_ok (c.fact 85 (f := .noat "Scene" "has_meet") rfl)
  have noS_relief_beats : NoAttr K CS "relief_beats" := by rw [eCS]; exact He.noat_ok (c.fact 86 (f := .noat "Scene" "relief_beats") rfl)
  have noS_span_beats : NoAttr K CS "span_beats" := by rw [eCS]; exact He.noat_ok (c.fact 87 (f := .noat "Scene" "span_beats") rfl)
  have noS_orders : NoAttr K CS "orders" := by rw [eCS]; exact He.noat_ok (c.fact 88 (f := .noat "Scene" "orders") rfl)
  have noS_hands : NoAttr K CS "hands" := by rw [eCS]; exact He.noat_ok (c.fact 89 (f := .noat "Scene" "hands") rfl)
  have noS_lights : NoAttr K CS "lights" := by rw [eCS]; exact He.noat_ok (c.fact 90 (f := .noat "Scene" "lights") rfl)
  have noS_moves : NoAttr K CS "moves" := by rw [eCS]; exact He.noat_ok (c.fact 91 (f := .noat "Scene" "moves") rfl)
  obtain ⟨dxMissing, FxMissing⟩ : ∃ fd, FunD K "__init__" "Missing.__init__" (defArgs sx_Missing) (defBody sx_Missing) (defScope sx_Missing) [V.str "it is not there", V.str "Missing"] [] (He.fAd K ("Missing", some "__init__")) fd := c.def_ 75 (d := dY 75) rfl
  obtain ⟨dxDarkError, FxDarkError⟩ : ∃ fd, FunD K "__init__" "DarkError.__init__" (defArgs sx_DarkError) (defBody sx_DarkError) (defScope sx_DarkError) [V.str "it cannot be", V.str "DarkError"] [] (He.fAd K ("DarkError", some "__init__")) fd := c.def_ 76 (d := dY 76) rfl
  obtain ⟨dxNoRoom, FxNoRoom⟩ : ∃ fd, FunD K "__init__" "NoRoom.__init__" (defArgs sx_NoRoom) (defBody sx_NoRoom) (defScope sx_NoRoom) [] [] (He.fAd K ("NoRoom", some "__init__")) fd := c.def_ 77 (d := dY 77) rfl
  have bxNoRoom := (fun_ofD FxNoRoom).binds (ps := ["self", "name"]) fun _ _ _ _ _ _ us hl => match us, hl with | [_, _], _ => rfl
  obtain ⟨dxBadNumber, FxBadNumber⟩ : ∃ fd, FunD K "__init__" "BadNumber.__init__" (defArgs sx_BadNumber) (defBody sx_BadNumber) (defScope sx_BadNumber) [] [] (He.fAd K ("BadNumber", some "__init__")) fd := c.def_ 78 (d := dY 78) rfl
  have bxBadNumber := (fun_ofD FxBadNumber).binds (ps := ["self", "asked"]) fun _ _ _ _ _ _ us hl => match us, hl with | [_, _], _ => rfl
  have n_list := He.free_ok X G (c.fact 92 (f := .free "list") rfl)
  have n_len := He.free_ok X G (c.fact 93 (f := .free "len") rfl)
  have n_max := He.free_ok X G (c.fact 94 (f := .free "max") rfl)
  have n_min := He.free_ok X G (c.fact 95 (f := .free "min") rfl)
  have n_isinstance := He.free_ok X G (c.fact 96 (f := .free "isinstance") rfl)
  have n_tuple := He.free_ok X G (c.fact 97 (f := .free "tuple") rfl)
  have n_all := He.free_ok X G (c.fact 98 (f := .free "all") rfl)
  have n_zip := He.free_ok X G (c.fact 99 (f := .free "zip") rfl)
  have n_bool := He.free_ok X G (c.fact 100 (f := .free "bool") rfl)
  have n_int := He.free_ok X G (c.fact 101 (f := .free "int") rfl)
  have n_str := He.free_ok X G (c.fact 102 (f := .free "str") rfl)
  have n_range := He.free_ok X G (c.fact 103 (f := .free "range") rfl)
  have n_enumerate := He.free_ok X G (c.fact 104 (f := .free "enumerate") rfl)
  have n_dict := He.free_ok X G (c.fact 105 (f := .free "dict") rfl)
  have n_any := He.free_ok X G (c.fact 106 (f := .free "any") rfl)
  have n_LookupError := He.free_ok X G (c.fact 107 (f := .free "LookupError") rfl)
  have n_ValueError := He.free_ok X G (c.fact 108 (f := .free "ValueError") rfl)
  obtain ⟨tk_LONGEST_NAME, cc_LONGEST_NAME⟩ := He.int_ok X G (c.fact 109 (f := .int "LONGEST_NAME" 8) rfl)
  obtain ⟨tk_SMALL_LETTERS, cc_SMALL_LETTERS⟩ := He.str_ok X G (c.fact 110 (f := .str "SMALL_LETTERS" abc) rfl)
  obtain ⟨tk_MOST_ROOMS, cc_MOST_ROOMS⟩ := He.int_ok X G (c.fact 111 (f := .int "MOST_ROOMS" 8) rfl)
  obtain ⟨tk_MOST_ROUND, cc_MOST_ROUND⟩ := He.int_ok X G (c.fact 112 (f := .int "MOST_ROUND" 6) rfl)
  obtain ⟨tk_NEVER, cc_NEVER⟩ := He.int_ok X G (c.fact 113 (f := .int "NEVER" 0) rfl)
  obtain ⟨tk_MOST_RELIEF, cc_MOST_RELIEF⟩ := He.int_ok X G (c.fact 114 (f := .int "MOST_RELIEF" 4) rfl)
  obtain ⟨tk_MOST_POSTS, cc_MOST_POSTS⟩ := He.int_ok X G (c.fact 115 (f := .int "MOST_POSTS" 5) rfl)
  obtain ⟨tk_MOST_WATCHERS, cc_MOST_WATCHERS⟩ := He.int_ok X G (c.fact 116 (f := .int "MOST_WATCHERS" 6) rfl)
  obtain ⟨tk_FARTHEST, cc_FARTHEST⟩ := He.int_ok X G (c.fact 117 (f := .int "FARTHEST" 1000000000) rfl)
  have e := hfa.symm.trans g60
  cases e
  refine ⟨d60, law_binds F60, fun base _ _ hTB => ?_⟩
  have TB0 : LamX.TabB base mg (He.cT K ("way", none)).1 (He.cT K ("way", none)).2 := hTB _ (by simp [tfY])
  obtain ⟨pMi1, pMi2, pMi3, pMi4, pMi5⟩ := basB_ok cX0
  have gMi : mg "Missing" = some (.ref (He.ga K "Missing")) := He.glo_ok X G pMi1
  have bMi := bind_x3 FxMissing (by intro T kV doc pm an cdv ct us its h1 h2; match us, h1, its, h2 with | [_, _, _], _, [_, _], _ => exact ⟨_, rfl, rfl⟩)
  have GMi := ok_misI (P := P) (w := w) (base := base) FxMissing n_LookupError pMi5
  obtain ⟨pDk1, pDk2, pDk3, pDk4, pDk5⟩ := basB_ok cX1
  have gDk : mg "DarkError" = some (.ref (He.ga K "DarkError")) := He.glo_ok X G pDk1
  have bDk := bind_x3 FxDarkError (by intro T kV doc pm an cdv ct us its h1 h2; match us, h1, its, h2 with | [_, _, _], _, [_, _], _ => exact ⟨_, rfl, rfl⟩)
  have GDk := ok_dkI (P := P) (w := w) (base := base) FxDarkError n_ValueError pDk5
  have R_NoRoom : Rai P w K mg base (csK K) 16 "NoRoom" "name" okT := ⟨_, _, _, _, _, dxNoRoom, raF_okD (j := 16) X G cX3 rfl PySem.F.excBase_LookupError cX2, rfl, nof_okD rfl cX3, bxNoRoom, ok_NrV (fun_ofD FxNoRoom) pMi2 pMi3 pMi4 FxMissing.kp bMi gMi GMi⟩
  have R_BadNumber : Rai P w K mg base (csK K) 3 "BadNumber" "asked" okI := ⟨_, _, _, _, _, dxBadNumber, raF_okD (j := 3) X G cX5 rfl PySem.F.excBase_ValueError cX4, rfl, nof_okD rfl cX5, bxBadNumber, ok_BuV (fun_ofD FxBadNumber) pDk2 pDk3 pDk4 FxDarkError.kp bDk gDk GDk⟩
  have HT : HTxt K CH := ⟨CLH, noH_names, noH_behind, noH_views, haH, hnH, htkH, hmH, if_pos (beq_self_eq_true _)⟩
  have ST : STxt K CS := ⟨CLS, noS_home, noS_post_rows, noS_watcher_rows, noS_has_meet, noS_relief_beats, noS_span_beats, noS_orders, noS_hands, noS_lights, noS_moves⟩
  have bI := bind_init FiH
  have GIs : FnOk P w K mg base CX0 1 f0 _ ["text"] spName := ok_is F0 n_len n_all cc_LONGEST_NAME cc_SMALL_LETTERS
  have GNN : FnOk P w K mg base CX0 2 f1 _ ["name", "others"] spNewName := ok_newname F1 F0 b0 g0 GIs
  have GHas : FnOk P w K mg base CX0 1 fmH3 _ ["self", "name"] (spHas CH) := ok_has FmH3 HT
  have GNe : FnOk P w K mg base CX0 2 f2 _ ["house", "room"] (spNeed CH) := ok_need F2 HT MmH3 bmH3 GHas
  have GNs : FnOk P w K mg base CX0 3 f3 _ ["house", "a", "b"] (spNeeds CH) := ok_needs F3 F2 b2 g2 GNe
  have GNew : FnOk P w K mg base CX0 3 f5 _ ["names"] (spNew K) := ok_new F5 F1 b1 g1 GNN
  have GNU : FnOk P w K mg base CX0 4 f4 _ ["house", "a", "b"] (spNU CH) := ok_nu F4 F3 b3 g3 GNs
  have GUn : FnOk P w K mg base CX0 5 f6 _ ["house", "pairs"] (spUnlike K CH) := ok_unlike F6 F4 b4 g4 GNU
  have GLk : FnOk P w K mg base CX0 1 f7 _ ["rooms", "pairs"] spLinked := ok_linked F7
  have GI : FnOk P w K mg base CX0 6 fiH _ ["self", "rooms", "doors", "sights"] (spInit K CH) := ok_init FiH HT n_len cc_MOST_ROOMS F5 b5 g5 GNew F6 b6 g6 GUn F7 b7 g7 GLk
  have GR : FnOk P w K mg base CX0 1 fmH0 _ ["self"] (spRooms CH) := ok_rooms FmH0 HT n_list
  have GO : FnOk P w K mg base CX0 1 fmH1 _ ["self"] (spDoors CH) := ok_doors FmH1 HT n_enumerate
  have GSi : FnOk P w K mg base CX0 1 fmH2 _ ["self"] (spSights CH) := ok_sights FmH2 HT
  have GSe : FnOk P w K mg base CX0 3 fmH4 _ ["self", "room"] (spSees CH) := ok_sees FmH4 HT F2 b2 g2 GNe n_list
  have GHD : FnOk P w K mg base CX0 4 fmH5 _ ["self", "a", "b"] (spHasDoor CH) := ok_hasdoor FmH5 HT F3 b3 g3 GNs
  have GAH : FnOk P w K mg base CX0 5 fmH6 _ ["self", "a", "b"] (spAtHand CH) := ok_athand FmH6 HT MmH5 bmH5 GHD
  have GNr : FnOk P w K mg base CX0 6 f8 _ ["house", "rooms"] (spNeedRound CH) := ok_needround F8 HT F2 b2 g2 GNe MmH6 bmH6 GAH n_len n_enumerate cc_MOST_ROUND
  have GPl : FnOk P w K mg base CX0 1 f9 _ ["rooms", "beat", "delay"] (spPlace K) := ok_place F9 n_len
  have GWh : FnOk P w K mg base CX0 2 f11 _ ["sizes"] (spWheel K) := ok_wheel F11 F10 b10 g10
  have GRa : FnOk P w K mg base CX0 2 f12 _ ["tracks", "beat"] spRoomsAt := ok_roomsat F12 F9 g9 GPl
  have GHr : FnOk P w K mg base CX0 1 f13 _ ["tracks", "many", "relief"] spHasRelief := ok_hasrelief F13 n_len
  have GSp : FnOk P w K mg base CX0 3 f14 _ ["tracks", "many", "relief"] spSpanOf := ok_spanof F14 F13 b13 g13 GHr F11 b11 g11 GWh n_len
  have GHo : FnOk P w K mg base CX0 1 f15 _ ["order", "rooms"] spHanded := ok_handed F15 n_list n_len n_range
  have GRe : FnOk P w K mg base CX0 1 f16 _ ["order", "posts", "post"] spRelieved := ok_relieved F16
  have GCh : FnOk P w K mg base CX0 3 f17 _ ["order", "beat", "tracks", "meet", "relief"] spChanged := ok_changed F17 F15 b15 g15 GHo F12 b12 g12 GRa F13 b13 g13 GHr F16 b16 g16 GRe n_len
  have GOr : FnOk P w K mg base CX0 4 f18 _ ["tracks", "many", "meet", "relief"] spOrders := ok_orders F18 F14 b14 g14 GSp F17 b17 g17 GCh n_list n_range
  have GLi : FnOk P w K mg base CX0 4 f19 _ ["house", "rooms", "reaches"] (spLit CH) := ok_lit F19 HT MmH4 bmH4 GSe MmH0 bmH0 GR n_list n_zip
  have GMo : FnOk P w K mg base CX0 1 f20 _ ["before", "now"] spMoves := ok_moves F20 n_zip
  have GRh : FnOk P w K mg base CX0 6 f21 _ ["house"] (spHands CH) := ok_hands F21 HT MmH0 bmH0 GR MmH6 bmH6 GAH
  have GNd : FnOk P w K mg base CX0 1 f22 _ ["rooms", "delay"] spNeedDelay := ok_needdelay F22 n_len
  have GNc : FnOk P w K mg base CX0 1 f25 _ ["posts", "watchers"] spNeedCounts := ok_needcounts F25 cc_MOST_POSTS cc_MOST_WATCHERS n_len
  have GNre : FnOk P w K mg base CX0 1 f23 _ ["reach"] spNeedReach := ok_needreach F23
  have GNl : FnOk P w K mg base CX0 1 f24 _ ["relief"] spNeedRelief := ok_needrelief F24 cc_NEVER cc_MOST_RELIEF
  have GNo : FnOk P w K mg base CX0 1 f26 _ ["rows"] spNamesOf := ok_namesof F26
  have GNp : FnOk P w K mg base CX0 7 f27 _ ["house", "posts"] (spNewPosts CH) := ok_newposts F27 F1 b1 g1 GNN F26 b26 g26 GNo F8 b8 g8 GNr F22 b22 g22 GNd n_tuple
  have GNw : FnOk P w K mg base CX0 3 f28 _ ["watchers"] spNewWts := ok_newwts F28 F1 b1 g1 GNN F26 b26 g26 GNo F23 b23 g23 GNre
  have GRi : FnOk P w K mg base CX0 1 fmS0 _ ["self", "order"] (spReaches CS) := ok_reaches FmS0 CLS noS_post_rows noS_watcher_rows n_len
  have GSc : FnOk P w K mg base CX0 8 fiS _ ["self", "house", "posts", "watchers", "meet", "relief"] (spScInit CH CS) := ok_scinit FiS HT CLS noS_home noS_post_rows noS_watcher_rows noS_has_meet noS_relief_beats noS_span_beats noS_orders noS_hands noS_lights noS_moves MKH GI gCH bI F25 b25 g25 GNc F27 b27 g27 GNp F28 b28 g28 GNw F24 b24 g24 GNl F14 b14 g14 GSp F18 b18 g18 GOr F12 b12 g12 GRa F21 b21 g21 GRh F19 b19 g19 GLi F20 b20 g20 GMo MmH0 bmH0 GR MmH1 bmH1 GO MmH2 bmH2 GSi MmS0 bmS0 GRi n_len n_range n_zip n_enumerate
  have GB : FnOk P w K mg base CX0 1 f31 _ ["_law_script"] (spBox K) := ok_box F31 n_list
  have GD : FnOk P w K mg base CX0 1 f32 _ ["_law_box_here", "_law_many_here"] spDraw := ok_draw F32 n_len n_max
  have GOf : FnOk P w K mg base CX0 2 f33 _ ["_law_box_here", "_law_some"] spOf := ok_of F33 F32 b32 g32 n_len n_max
  have GNm : FnOk P w K mg base CX0 3 f34 _ ["_law_box_here", "_law_many_here"] spNames := ok_names F34 F32 b32 g32 F33 b33 g33 n_len n_max n_range
  have GH : FnOk P w K mg base CX0 4 f35 _ ["_law_box_here", "_law_limit"] spLawHouseX := ok_lawhouse F35 n_len n_range F34 b34 g34 GNm F32 b32 g32 GD
  have GLn : FnOk P w K mg base CX0 1 f36 _ ["_law_house_here", "_law_room"] spLawNear := ok_lawnear F36
  have GLh : FnOk P w K mg base CX0 2 f37 _ ["_law_house_here", "_law_room"] spLawHand := ok_lawhand F37 F36 b36 g36 GLn
  have GLr : FnOk P w K mg base CX0 3 f38 _ ["_law_box_here", "_law_house_here", "_law_limit"] spLawRound := ok_lawround F38 F32 b32 g32 GD F33 b33 g33 GOf F36 b36 g36 GLn F37 b37 g37 GLh n_range n_tuple
  have GLs : FnOk P w K mg base CX0 5 f39 _ ["_law_box_here", "_law_rooms", "_law_posts", "_law_size"] spLawSceneX := ok_lawscene F39 F35 b35 g35 GH F34 b34 g34 GNm F32 b32 g32 GD F38 b38 g38 GLr F33 b33 g33 GOf n_range n_len n_min
  have GM : FnOk P w K mg base CX0 8 f40 _ ["_law_house_here"] (spMade CH) := ok_made F40 MKH GI gCH bI n_list
  have GIb : FnOk P w K mg base CX0 1 f29 _ ["number"] spIsBeat := ok_isbeat F29 cc_FARTHEST
  have GNb : FnOk P w K mg base CX0 2 f30 _ ["beat"] spNeedBeat := ok_needbeat F30 F29 b29 g29 GIb
  have GWl : FnOk P w K mg base CX0 1 fmS1 _ ["self"] (spWheelM CH CS) := ok_wheelm FmS1 ST n_len
  have GStp : FnOk P w K mg base CX0 3 fmS4 _ ["self", "room", "beat"] (spSteps CH CS) := ok_steps FmS4 ST F30 b30 g30 GNb F2 b2 g2 GNe MmS1 bmS1 GWl
  have GDk : FnOk P w K mg base CX0 3 fmS3 _ ["self", "room", "beat"] (spDarkM CH CS) := ok_dark FmS3 ST F30 b30 g30 GNb F2 b2 g2 GNe MmS1 bmS1 GWl
  have GHou : FnOk P w K mg base CX0 1 fmS2 _ ["self"] (spHouseM CH CS) := ok_housem FmS2 ST
  have GNeX : FnOk P w K mg base (L2N.CX P w) 4 f2 _ ["house", "room"] (spNeedX CH (csK K)) := ok_needX F2 HT MmH3 bmH3 GHas R_NoRoom
  have GIbA : FnOk P w K mg base CX0 1 f29 _ ["number"] spIsBeatA := ok_isbeatA F29 cc_FARTHEST
  have GNbX : FnOk P w K mg base (L2N.CX P w) 4 f30 _ ["beat"] (spNeedBeatX (csK K)) := ok_needbeatX F30 F29 b29 g29 GIbA R_BadNumber
  have GNaX : FnOk P w K mg base (L2N.CX P w) 5 f44 _ ["scene", "starts", "goals", "begin"] (spNeedAskedX K CH CS (csK K)) := ok_needaskedX F44 ST F2 b2 g2 GNeX F30 b30 g30 GNbX MmS2 bmS2 GHou
  have GNxc : FnOk P w K mg base CX0 4 f41 _ ["scene", "cell"] (spNextCells CH CS) := ok_nextcells F41 ST MmS1 bmS1 GWl MmS4 bmS4 GStp
  have GTrc : FnOk P w K mg base CX0 1 f42 _ ["ahead", "end"] spTraced := ok_traced F42
  have GSrc : FnS P w K mg base CX0 6 f43 _ ["beginnings", "behind", "is_end"] (spSearchedU P w K mg base) := ok_searchedL F43 F42 b42 g42 GTrc n_list n_len
  have GBgq : FnOk P w K mg base CX0 4 f45 _ ["scene", "starts", "begin"] (spBeginQ K CH CS) := ok_beginQ F45 ST CLH MmS1 bmS1 GWl MmS2 bmS2 GHou MmH0 bmH0 GR MmS3 bmS3 GDk n_list n_range
  have GTw : FnOk P w K mg base CX0 1 f46 _ ["row", "begin"] spTold := ok_toldway F46 n_tuple
  have GWyQ : FnOk P w K mg base CX0 8 f47 _ ["scene", "starts", "goals", "begin"] (spWayQ K CH CS [((He.cT K ("way", none)).2, wayQ)]) := ok_wayQ (cs := csK K) (C := CH) (CS := CS) (P := P) (w := w) F47 cA47 TB0 (List.mem_cons_self ..) (fun p hp e => by
    rcases List.mem_cons.mp hp with rfl | hp
    · rfl
    · cases hp) F44 b44 g44 (fn_calm GNaX) F45 b45 g45 GBgq F43 b43 g43 GSrc F41 b41 g41 GNxc F46 b46 g46 GTw
  obtain ⟨dsW, vW, bW⟩ := bd_way F47
  obtain ⟨dsS, vS4, bS4⟩ := bind_scD FiS rfl
  have GGo : FnOk P w K mg base CX0 1 f48 _ ["posts", "reaches"] (spGuardsOf K) := ok_guardsof F48 n_zip
  have GGu : FnOk P w K mg base CX0 10 f49 _ ["house", "guards"] (spGuarded CH CS) := ok_guarded F49 vS4 bS4 MKS GSc gCS
  have GAs : FnOk P w K mg base CX0 11 f50 _ ["house", "guards", "starts", "goals"] (spAskedSc K CH CS) := ok_askedsc (cs := csK K) F50 F49 b49 g49 GGu F44 b44 g44 (fn_calm GNaX)
  have GCh_ : FnOk P w K mg base CX0 6 f51 _ ["row", "many"] (spChoices 5) := ok_choices F51 b51 g51 n_len n_range 5
  have GWy_ : FnOk P w K mg base CX0 11 f52 _ ["house", "lots", "starts", "goals"] (spWaysLeft K CH CS [((He.cT K ("way", none)).2, wayQ)]) := ok_waysleft F52 F49 b49 g49 GGu F47 g47 GWyQ vW bW
  have GFw : FnOk P w K mg base CX0 12 f53 _ ["house", "posts", "reaches", "starts", "goals"] (spFewest K CH CS [((He.cT K ("way", none)).2, wayQ)]) := ok_fewest F53 F48 b48 g48 GGo F50 b50 g50 GAs F51 b51 g51 GCh_ F52 b52 g52 GWy_ n_len n_range n_tuple n_zip
  have GNas : FnOk P w K mg base CX0 3 f44 _ ["scene", "starts", "goals", "begin"] (spNeedAsked CH CS) := ok_needasked F44 ST F2 b2 g2 GNe F30 b30 g30 GNb MmS2 bmS2 GHou
  have GIw : FnOk P w K mg base CX0 4 f54 _ ["scene", "beat", "rooms"] (spIsWalk CH CS) := ok_iswalk F54 ST CLH F30 b30 g30 GNb MmS2 bmS2 GHou MmS1 bmS1 GWl MmS4 bmS4 GStp MmS3 bmS3 GDk MmH3 bmH3 GHas n_len n_all n_range
  have GIy : FnOk P w K mg base CX0 5 f55 _ ["scene", "starts", "goals", "beat", "rooms"] (spIsWay CH CS) := ok_isway F55 F44 b44 g44 GNas F54 b54 g54 GIw
  have GPp : FnOk P w K mg base CX0 1 f56 _ ["_law_m"] spPlain := ok_plain F56 n_dict
  have GGr : FnOk P w K mg base CX0 6 f57 _ ["_law_box_here", "_law_rooms", "_law_posts", "_law_size"] spLGuarded := ok_lguarded F57 F39 b39 g39 GLs F56 b56 g56 GPp F32 b32 g32 GD
  have GLre : FnOk P w K mg base CX0 1 f58 _ ["_law_m"] spLReaches := ok_lreaches F58
  have GMa : FnOk P w K mg base CX0 1 f59 _ ["_law_told"] spLMany := ok_lmany F59 n_len
  exact ok_law (cs := csK K) F60 F31 b31 g31 GB F57 b57 g57 GGr F40 b40 g40 GM F58 b58 g58 GLre F38 b38 g38 GLr F32 b32 g32 GD F33 b33 g33 GOf F59 b59 g59 GMa F53 b53 g53 GFw F55 b55 g55 GIy F47 g47 GWyQ vW bW vS4 bS4 MKS GSc gCS n_len n_any n_list n_range
end Dk
open PySem PySem.W PyProof.Rows in
set_option maxRecDepth 100000 in
set_option maxHeartbeats 0 in
theorem PySem.Challenge.cw_darkthread_k41_whole_bars_and_more_posts_holds : PySem.Challenge.rw_darkthread_k41_whole_bars_and_more_posts.Holds := by
  w_on; o_law
  refine HandSHeadRun.head_any (r := Dk.RY) (q := view Dk.RY.prog [96]) (H := Dk.hkR) (ob := Dk.obR) (M := 60000) (loose := Dk.looseY) (d := HandSHeadRun.topDef Dk.RY.prog 96) (kwd := []) Dk.obR_eq
    (by kernel_rfl) (fun s => by kernel_rfl) Dk.runY (by kernel_rfl) (by kernel_rfl) (by kernel_rfl) (by rfl) (by first | assumption | decide +kernel) (by decide +kernel) ⟨rfl, rfl, rfl, rfl, rfl, by decide +kernel⟩ ?hw ?hc
  case hw => w_witness2
  case hc =>
    refine LamX.walk_ofTsE (l := PySem.Challenge.rw_darkthread_k41_whole_bars_and_more_posts) (n := 63) (k := 13) (x := "_law_script") (CX := fun _ => L2.CX0) rfl (by decide) (by kernel_rfl) ⟨rfl, by decide, by decide⟩ ?F (fun _ _ _ _ _ z => z)
    intro w mg fa hp Y G g0
    obtain ⟨K, KX, Z⟩ := Y
    have g1 : mg ("law" : PySem.Str) = some (.ref fa) := by
      have e : (HandSHeadRun.topDef Dk.RY.prog 96).name = ("law" : PySem.Str) := by kernel_rfl
      rw [← e]
      exact g0
    obtain ⟨fd, hb, hF⟩ := Dk.facts (P := (PySem.Challenge.rw_darkthread_k41_whole_bars_and_more_posts).prog) (w := w) KX G g1 Z.t Z.more
    refine ⟨K, KX, fd, Dk.tfY.map (He.cT K), _, ?_, ?_, ?_, hb, ?_, hF⟩
    · intro p hp
      obtain ⟨q, hq, rfl⟩ := List.mem_map.mp hp
      exact Z.emp q hq
    · intro p hp
      obtain ⟨q, hq, rfl⟩ := List.mem_map.mp hp
      exact Z.out q hq
    · intro p hp
      obtain ⟨q, hq, rfl⟩ := List.mem_map.mp hp
      exact PySem.W.codeHd_of_K KX (Z.hd q hq)
    · intro H a ns hl _ hH hS
      exact ⟨a, ns, rfl, fun p hp => by
        rw [List.mem_singleton.mp hp]
        exact LamX.TabS.nil (hH _ (by simp [Dk.tfY])), hS, hl, fun _ => rfl⟩
