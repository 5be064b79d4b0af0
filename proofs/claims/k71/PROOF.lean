import PyProof.Rows.All
import Wide.All
import OpenK.AllK
import Wide.FinOn
import HandS.ForMost
import HandS.Codes
import HandS.IsInst
import HandS.Exc
import HandS.ExcIs
import HandS.Gcd
import HandS.TryMany
import HandS.WordsExc
import KE.KIntText
import PyProof.TupleOfStr
import PyProof.StrBlock2
import HandS.ExcInit
import HandS.ExcField
import HandS.ExcValue
import KE.KExcIs
import HandS.DictComp
import HandS.Lambda
import HandS.FStr
import HandS.Conv
import HandS.DictTup
import HandS.EndTab
import HandS.Style
import HandS.Small
import HandS.TupAny
import PySem.Challenge.RW_everyfoe_k71_whole_zones
import HandS.Head3
import HandS.HeadEnd
import HandS.HeadHook4
import HandS.HeadNt
import HandS.HeadWalk
import HandS.EndOwn
import HandS.Wide
import HandS.WideBits
import HandS.Zip
import HandS.Flow
import HandS.Defaults
import HandS.ExcOwn
import KE.GoesMore
import KE.GoesZip
import HandS.SortRule
import HandS.Deep
import HandS.DeepEq
import HandS.AnyAll
set_option Elab.async false
set_option maxRecDepth 100000
namespace Fk
open PySem L2
def top (i : Nat) : Stmt := PySem.Challenge.pw_everyfoe_k71_whole_zones.main.body.getD i (.Pass ⟨0, 0, 0, 0⟩)
end Fk

set_option Elab.async false
set_option maxRecDepth 100000
set_option maxHeartbeats 4000000
/-! a head by one run, its facts by names: only what is asked is looked at -/
namespace Sh
open PySem PySem.Spec PyProof.Rows L2 He
def frL {α : Type} (l : List Nat) (k : List Nat → α) : α := match l with
  | [] => k []
  | a :: r => HandSHeadRun.frNat a fun a => frL r fun r => k (a :: r)
theorem frL_eq {α : Type} : ∀ (l : List Nat) (k : List Nat → α), frL l k = k l
  | [], _ => rfl
  | a :: r, k => by
    show HandSHeadRun.frNat a (fun a => frL r fun r => k (a :: r)) = _
    rw [HandSHeadRun.frNat_eq, frL_eq r]
/-- the objects at these places, tables without a word left out -/
def pick (g : Addr → Option Obj) : List Addr → PySem.W.Frag
  | [] => []
  | a :: r => match g a with
    | none => pick g r
    | some o => match emptyTab o with
      | true => pick g r
      | false => (a, o) :: pick g r
def frK {α : Type} (K : PySem.W.Frag) (k : PySem.W.Frag → α) : α := match K with
  | [] => k []
  | (a, o) :: r => frK r fun r => k ((a, o) :: r)
theorem frK_eq {α : Type} : ∀ (K : PySem.W.Frag) (k : PySem.W.Frag → α), frK K k = k K
  | [], _ => rfl
  | (a, o) :: r, k => by
    show frK r (fun r => k ((a, o) :: r)) = _
    rw [frK_eq r]
theorem pick_mem {g : Addr → Option Obj} {a : Addr} {o : Obj} : ∀ as : List Addr, (a, o) ∈ pick g as → g a = some o ∧ emptyTab o = false
  | [], h => by cases h
  | b :: r, h => by
    unfold pick at h
    cases hb : g b with
    | none =>
      rw [hb] at h
      exact pick_mem r h
    | some u =>
      rw [hb] at h
      cases he : emptyTab u with
      | true =>
        have h2 : (a, o) ∈ (match emptyTab u with
          | true => pick g r
          | false => (b, u) :: pick g r) := h
        rw [he] at h2
        exact pick_mem r h2
      | false =>
        have h2 : (a, o) ∈ (match emptyTab u with
          | true => pick g r
          | false => (b, u) :: pick g r) := h
        rw [he] at h2
        rcases List.mem_cons.mp h2 with z | z
        · obtain ⟨rfl, rfl⟩ := Prod.mk.inj z
          exact ⟨hb, he⟩
        · exact pick_mem r z
theorem pick_in {as : List Addr} {h : Heap} : (pick h.get? as).In h := fun _ _ e => (pick_mem as (lookup_mem e)).1
theorem pick_none {g : Addr → Option Obj} {as : List Addr} {a : Addr} {o : Obj} (h : g a = some o) (ht : emptyTab o = true) : (pick g as).lookup a = none := by
  cases e : (pick g as).lookup a with
  | none => rfl
  | some u =>
    obtain ⟨h1, h2⟩ := pick_mem as (lookup_mem e)
    rw [h] at h1
    rw [← Option.some.inj h1, ht] at h2
    cases h2
/-- what an object of the top names, as far as it is asked -/
def refs1 (o : Option Obj) : List Addr := match o with
  | none => []
  | some o => match o.data with
    | .func fd => refV fd.code ++ (refV fd.defaults ++ refV fd.kwdefaults)
    | .cls cd => cd.ns :: cd.mro.flatMap refV
    | .seq its _ => its.toList.flatMap refV
    | _ => []
def grow1 {α : Type} (g : Addr → Option Obj) (as : List Addr) (k : List Addr → α) : α := frL (as.flatMap fun a => refs1 (g a)) k
/-- names of the module, of methods: the places that are looked at -/
def asP (gs : List Str) (ms : List (Str × Str)) (g : Addr → Option Obj) : List Addr :=
  frK (pick g [mainGlobals]) fun K0 => frL (gs.map (ga K0)) fun a1 => grow1 g a1 fun a2 => grow1 g a2 fun a3 =>
  frK (pick g (mainGlobals :: (a1 ++ a2))) fun K1 => frL (ms.map fun q => ma K1 (ga K1 q.1) q.2) fun b1 => grow1 g b1 fun b2 => grow1 g b2 fun b3 =>
  mainGlobals :: cStatics :: (a1 ++ (a2 ++ (a3 ++ (b1 ++ (b2 ++ b3)))))
/-- what is told -/
structure Says (fn : List DefD) (tf : List Defn) (ex : List (PySem.W.Frag → Bool)) (h : Heap) (K : PySem.W.Frag) : Prop where
  fns : (fn.all fun d => d.ok K) = true
  eqs : (fn.map fun d => fnW K d.at_) = fn.map DefD.val
  more : (ex.all fun p => p K) = true
  hd : ∀ p ∈ tf, PySem.W.codeHdIn K (cT K p).1 (cT K p).2 = true
  out : ∀ p ∈ tf, K.lookup (cT K p).2 = none
  empty : ∀ p ∈ tf, h.get? (cT K p).2 = some { cls := .none, data := .fields #[] }
abbrev Al : Type := Bool × List FnW
def obsK (fn : List DefD) (tf : List Defn) (ex : List (PySem.W.Frag → Bool)) (g : Addr → Option Obj) (K : PySem.W.Frag) : Al := ((fn.all fun d => d.ok K) && ((ex.all fun p => p K) && tabsB g tf K), fn.map fun d => fnW K d.at_)
def obs (asf : (Addr → Option Obj) → List Addr) (fn : List DefD) (tf : List Defn) (ex : List (PySem.W.Frag → Bool)) (g : Addr → Option Obj) : Al := frK (pick g (asf g)) fun K => obsK fn tf ex g K
def val (fn : List DefD) : Al := (true, fn.map DefD.val)
theorem says_of {asf : (Addr → Option Obj) → List Addr} {fn : List DefD} {tf : List Defn} {ex : List (PySem.W.Frag → Bool)} {h : Heap} (e : obs asf fn tf ex h.get? = val fn) : Says fn tf ex h (pick h.get? (asf h.get?)) := by
  unfold obs at e
  rw [frK_eq] at e
  generalize hK : pick h.get? (asf h.get?) = K at e
  have e1 : ((fn.all fun d => d.ok K) && ((ex.all fun p => p K) && tabsB h.get? tf K)) = true := congrArg (fun z : Al => z.1) e
  have e2 : (fn.map fun d => fnW K d.at_) = fn.map DefD.val := congrArg (fun z : Al => z.2) e
  obtain ⟨h1, h2⟩ := ba e1
  obtain ⟨h3, h4⟩ := ba h2
  have key : ∀ p ∈ tf, PySem.W.codeHdIn K (cT K p).1 (cT K p).2 = true ∧ ∃ o, h.get? (cT K p).2 = some o ∧ emptyTab o = true := fun p hp => by
    obtain ⟨h3, h4⟩ := ba (List.all_eq_true.mp h4 p hp)
    refine ⟨h3, ?_⟩
    cases q : h.get? (cT K p).2 with
    | none =>
      rw [q] at h4
      cases h4
    | some o =>
      rw [q] at h4
      exact ⟨o, rfl, h4⟩
  exact ⟨h1, e2, h3, fun p hp => (key p hp).1, fun p hp => by
    obtain ⟨_, o, q, z⟩ := key p hp
    rw [← hK]
    exact hK ▸ pick_none q z, fun p hp => by
    obtain ⟨_, o, q, z⟩ := key p hp
    rw [q, emptyTab_eq z]⟩
def hook (asf : (Addr → Option Obj) → List Addr) (fn : List DefD) (tf : List Defn) (ex : List (PySem.W.Frag → Bool)) : PySem.W.Hook where
  α := Al
  obs := fun s => obs asf fn tf ex s.heap.get?
  val := fun _ => val fn
  says := fun _ h => ∃ K : PySem.W.Frag, K.In h ∧ Says fn tf ex h K
  of := fun _ _ e => ⟨_, pick_in, says_of e⟩
  keeps := fun _ _ _ ⟨K, hK, c⟩ k => ⟨K, PySem.W.Frag.In.keeps hK k, ⟨c.fns, c.eqs, c.more, c.hd, c.out, fun p hp => k _ _ (c.empty p hp)⟩⟩
theorem obs_eq {asf : (Addr → Option Obj) → List Addr} {fn : List DefD} {tf : List Defn} {ex : List (PySem.W.Frag → Bool)} {g : Addr → Option Obj} {s : Shared} (h : ∀ a, g a = s.heap.get? a) : obs asf fn tf ex g = (hook asf fn tf ex).obs s := by
  have e : g = s.heap.get? := funext h
  rw [e] <;> rfl
section
variable {fn : List DefD} {tf : List Defn} {ex : List (PySem.W.Frag → Bool)} {h : Heap} {K : PySem.W.Frag}
theorem Says.fact (c : Says fn tf ex h K) (i : Nat) {f : PySem.W.Frag → Bool} (hf : ex[i]? = some f) : f K = true := List.all_eq_true.mp c.more f (List.mem_of_getElem? hf)
theorem Says.def_ (c : Says fn tf ex h K) (i : Nat) {d : DefD} (hd : fn[i]? = some d) : ∃ fd, FunD K d.name d.qual d.params d.body d.scope (d.dvs K) (d.kws K) (fAd K d.at_) fd := by
  have e2 : (fn.map fun d => fnW K d.at_)[i]? = (fn.map DefD.val)[i]? := by rw [c.eqs]
  rw [List.getElem?_map, List.getElem?_map, hd] at e2
  exact DefD.funD (Option.some.inj e2) (List.all_eq_true.mp c.fns d (List.mem_of_getElem? hd))
end
/-- a def of the top by its statement -/
def dg (x : Str) (st : Stmt) : DefD := ⟨(x, none), x, x, defArgs st, defBody st, defScope st, [], []⟩
def dm (C m q : Str) (st : Stmt) : DefD := ⟨(C, some m), m, q, defArgs st, defBody st, defScope st, [], []⟩
/-- a tuple at a place -/
def tupAtB (K : PySem.W.Frag) (a : Addr) (vs : List V) : Bool := match K.lookup a with
  | some ⟨.type c, _, .seq its _, _⟩ => decide (c = "tuple") && (decide (its.size ≤ sizeLine) && relAll vs its.toList)
  | _ => false
theorem tupAtB_ok {K : PySem.W.Frag} {a : Addr} {vs : List V} (h : tupAtB K a vs = true) (H : Hp) : SqT K H a vs := by
  unfold tupAtB at h
  cases q : K.lookup a with
  | none =>
    rw [q] at h
    cases h
  | some o =>
    obtain ⟨oc, od, dt, osl⟩ := o
    rw [q] at h
    cases oc with
    | type c =>
      cases dt with
      | seq its n =>
        obtain ⟨h1, h2⟩ := ba (show (decide (c = "tuple") && (decide (its.size ≤ sizeLine) && relAll vs its.toList)) = true from h)
        obtain ⟨h3, h4⟩ := ba h2
        exact .inr ⟨_, its, n, q, congrArg Value.type (of_decide_eq_true h1), rfl, of_decide_eq_true h3, relAll_ok h4⟩
      | _ => cases h
    | _ => cases dt <;> cases h
/-- a text, a number of the module -/
def strB (K : PySem.W.Frag) (x z : Str) : Bool := match PySem.W.nsIn K mainGlobals x with
  | some (some (.str y _)) => decide (y = z)
  | _ => false
def intB (K : PySem.W.Frag) (x : Str) (i : Int) : Bool := match PySem.W.nsIn K mainGlobals x with
  | some (some (.int j _)) => decide (j = i)
  | _ => false
theorem strB_ok {K : PySem.W.Frag} {x z : Str} (c2 : strB K x z = true) : ∃ t, PySem.W.nsIn K mainGlobals x = some (some (.str z t)) := by
  unfold strB at c2
  cases e : PySem.W.nsIn K mainGlobals x with
  | none =>
    rw [e] at c2
    cases c2
  | some o =>
    rw [e] at c2
    cases o with
    | none => cases c2
    | some v =>
      cases v with
      | str y t =>
        have ej : y = z := of_decide_eq_true c2
        rw [ej]
        exact ⟨t, rfl⟩
      | _ => cases c2
theorem intB_ok {K : PySem.W.Frag} {x : Str} {i : Int} (c2 : intB K x i = true) : ∃ t, PySem.W.nsIn K mainGlobals x = some (some (.int i t)) := by
  unfold intB at c2
  cases e : PySem.W.nsIn K mainGlobals x with
  | none =>
    rw [e] at c2
    cases c2
  | some o =>
    rw [e] at c2
    cases o with
    | none => cases c2
    | some v =>
      cases v with
      | int j t =>
        have ej : j = i := of_decide_eq_true c2
        rw [ej]
        exact ⟨t, rfl⟩
      | _ => cases c2
/-- the law's own def, its code, its table -/
theorem law_parts {fn : List DefD} {tf : List Defn} {ex : List (PySem.W.Frag → Bool)} {h : Heap} {K : PySem.W.Frag} (c : Says fn tf ex h K) {x q : Str} {st : Stmt} {fd : FuncData} (F : FunD K x q (defArgs st) (defBody st) (defScope st) [] [] (fAd K (x, none)) fd) (hm : ((x, none) : Defn) ∈ tf) :
    ∃ (oc kV dc pm ct yoc : Value) (od an yod : Option Addr) (osl ysl : Array (Option Value)) (cc Pt : Addr) (yvs : Array Value), fd = PySem.W.fnOf x q (defArgs st) (defBody st) (defScope st) .none kV dc pm an (.ref cc) ct ∧
      K.lookup (fAd K (x, none)) = some ⟨oc, od, .func fd, osl⟩ ∧ PySem.W.codeIn K (.ref cc) q = true ∧ K.lookup cc = some ⟨yoc, yod, .fields yvs, ysl⟩ ∧ (yvs[11]? : Option Value) = some (.ref Pt) ∧ PySem.W.codeHdIn K cc Pt = true ∧ K.lookup Pt = none ∧
      h.get? Pt = some { cls := .none, data := .fields #[] } := by
  obtain ⟨oc, od, dV, kV, doc, pm, an, cdv, ct, osl, e, l, ci, hd, _⟩ := F.ex
  rcases hd with ⟨_, e2⟩ | ⟨e2, _⟩
  · subst e2
    obtain ⟨cc, rfl⟩ := codeIn_ref ci
    have ec : codeOf K (x, none) = cc := codeOf_eq l (by rw [e])
    have h1 := c.hd _ hm
    have h2 := c.out _ hm
    have h3 := c.empty _ hm
    have e1 : (cT K (x, none)).1 = cc := ec
    rw [e1] at h1
    have e3 : (cT K (x, none)).2 = tabOf K cc := by
      show tabOf K (codeOf K (x, none)) = _
      rw [ec]
    rw [e3] at h1 h2 h3
    generalize tabOf K cc = Pt at h1 h2 h3
    have h1' := h1
    unfold PySem.W.codeHdIn at h1
    split at h1
    · rename_i od2 vs sl2 hk
      simp only [Bool.and_eq_true] at h1
      obtain ⟨⟨⟨⟨⟨e1, _⟩, _⟩, _⟩, _⟩, _⟩ := h1
      split at e1
      · rename_i P' h11
        have hP : P' = Pt := beq_iff_eq.mp e1
        subst hP
        exact ⟨oc, kV, doc, pm, ct, _, od, an, od2, osl, sl2, cc, P', vs, e, l, ci, hk, h11, h1', h2, h3⟩
      · cases e1
    · cases h1
  · exact absurd rfl e2
/-- the law's table is its own -/
theorem own_of {K : PySem.W.Frag} {h : Heap} {f cc Pt : Addr} {oc yoc : Value} {od yod : Option Addr} {fd : FuncData} {osl ysl : Array (Option Value)} {yvs : Array Value} (l : K.lookup f = some ⟨oc, od, .func fd, osl⟩) (ec : fd.code = .ref cc) (hk : K.lookup cc = some ⟨yoc, yod, .fields yvs, ysl⟩)
    (h11 : (yvs[11]? : Option Value) = some (.ref Pt)) (he : h.get? Pt = some { cls := .none, data := .fields #[] }) : LamX.OwnTab K f h := fun c P o fd1 e dd vs1 sl k1 k2 k3 k4 k5 => by
  rw [l] at k1
  cases k1
  cases k2
  rw [ec] at k3
  cases k3
  rw [hk] at k4
  cases k4
  rw [h11] at k5
  cases k5
  exact he
/-! the run looked at three times: less is held at once -/
open HandSHeadRun in
theorem three {α β γ δ : Type} {x : Option α} {f : α → β} {g : α → γ} {h : α → δ} {b : β} {c : γ} {d : δ} (h1 : x.map f = some b) (h2 : x.map g = some c) (h3 : x.map h = some d) : x.map (fun a => (f a, g a, h a)) = some (b, c, d) := by
  cases x with
  | none => cases h1
  | some a =>
    have e1 : f a = b := Option.some.inj h1
    have e2 : g a = c := Option.some.inj h2
    have e3 : h a = d := Option.some.inj h3
    show some (f a, g a, h a) = _
    rw [e1, e2, e3]
noncomputable abbrev whole (p : Program) (M : Nat) (w : World) := HandSHeadRun.wholeF (fun p => HandSHeadRun.stepQ (HandSHeadRun.denQ HandSHeadRun.tabQ) p w) HandSHeadRun.fenceQ M p
theorem runEqI_of {r : PySem.W.OpenRow} {q : Program} {H : PySem.W.Hook} {ob : PySem.W.SharedT → H.α} {M : Nat} {loose : List Str} {w : World}
    (h1 : (whole r.prog M w).map (fun x => HandSHeadRun.looksF r.prog x.1.heap x.2.abs) = some true)
    (h2 : (whole r.prog M w).map (fun x => HandSHeadRun.seenQ q loose (importedModules r.prog.main.body) (fun s => PySem.W.xlAt q [] s && PySem.W.recOk r.toRowW.records s) x.2.abs) = some (PySem.W.openGood q loose))
    (h3 : (whole r.prog M w).map (fun x => ob x.2) = some (H.val w)) : HandSHeadRun.RunEqI r q H ob M loose w := three h1 h2 h3
end Sh

set_option Elab.async false
set_option maxRecDepth 100000
set_option maxHeartbeats 4000000
namespace Fk
open PySem L2
def oexB (K : PySem.W.Frag) (C : Addr) : Bool := match K.lookup C with
  | some ⟨.type "type", _, .cls cd, sl⟩ => (match cd.mro, sl.toList with
    | .ref C' :: bm, [_, _, _, _, some (.builtin n), _] => C' == C && (n == "ValueError.__new__" && (!cd.hasDel && (cd.hasDict && PySem.HandSPX.refsVE bm)))
    | _, _ => false)
  | _ => false
def oexB2 (K : PySem.W.Frag) (C : Addr) : Bool := oexB K C && (decide (PySem.W.findIn K (.ref C) "__setattr__" = some (some (.builtin "object.__setattr__"))) && (decide (PySem.W.subIn K (.ref C) (.type "BaseException") = some true) && (decide (PySem.W.typeIn K (.ref C) = some (.type "type")) && PySem.W.keepIn K (.ref C))))
theorem oexB_ok {K : PySem.W.Frag} {C : Addr} (q : oexB K C = true) : ∃ nm q N bs bm sn sub ab col dd k0 k1 k2 k3 k5, K.lookup C = some (excClassObj nm q C N bs bm true sn sub ab col dd k0 k1 k2 k3 k5 "ValueError.__new__") ∧ PySem.HandSPX.refsVE bm = true := by
  unfold oexB at q
  split at q
  · rename_i dd cd sl ho
    split at q
    · rename_i D bm s0 s1 s2 s3 n s5 hm hs
      simp only [Bool.and_eq_true, beq_iff_eq, Bool.not_eq_true'] at q
      obtain ⟨rfl, rfl, g1, g2, g3⟩ := q
      obtain ⟨w1, w2, w3, w4, w5, w6, w7, w8, w9, w10, w11⟩ := cd
      dsimp only at hm g1 g2
      subst hm g1 g2
      obtain ⟨ls⟩ := sl
      dsimp only at hs
      subst hs
      exact ⟨_, _, _, _, _, _, _, _, _, _, _, _, _, _, _, ho, g3⟩
    · cases q
  · cases q
def excBl (K : PySem.W.Frag) (C : Addr) : Bool :=
  decide (PySem.W.findIn K (.ref C) "__getattribute__" = some (some (.builtin "BaseException.__getattribute__"))) && (decide (PySem.W.findIn K (.ref C) "__getattr__" = some none) && (decide (PySem.W.subIn K (.ref C) (.type "BaseException") = some true) &&
  (PySem.W.hasDictIn K C && (decide (PySem.W.findIn K (.ref C) "__class__" = some (some (.builtin "object.__class__"))) && decide (PySem.W.mroIn K C (.type "object") = some true)))))
/-- the places that a tuple of the code's own names -/
def refsAt (K : PySem.W.Frag) (a : Addr) : List Addr := match K.lookup a with
  | some ⟨_, _, .seq its _, _⟩ => its.toList.filterMap fun v => match v with
    | .ref q => some q
    | _ => none
  | _ => []
def ptKB (K : PySem.W.Frag) (t : Addr) (i j k l : Int) : Bool := match refsAt K t with
  | [a, b] => Sh.tupAtB K t [.ref a, .ref b] && (Sh.tupAtB K a [.int i, .int j] && Sh.tupAtB K b [.int k, .int l])
  | _ => false
def axesB (K : PySem.W.Frag) (x : Addr) : Bool := match refsAt K x with
  | [a, b, c, d] => Sh.tupAtB K x [.ref a, .ref b, .ref c, .ref d] && (ptKB K a 1 1 0 1 && (ptKB K b 0 1 1 1 && (ptKB K c (-1) 1 0 1 && ptKB K d 0 1 (-1) 1)))
  | _ => false
def looks71 (K : PySem.W.Frag) (CN CZ f_zinit f_zeq f_zin f_zlow f_zgr : Addr) : Bool :=
  oexB2 K CN && (excBl K CN && (xfB K CN && (decide (PySem.W.exmOne K (.ref CN) (.ref CN) = some true) && (decide (PySem.W.notFirst K CZ (.type "tuple") = true) && (decide (PySem.W.kitOne K (.type "tuple") (.ref CZ) = some false) && (decide (PySem.W.plainGet K CZ Str.empty = true) && (decide (PySem.W.hasDictIn K CZ = true) && (decide (PySem.W.plainOver K CZ = true) && (decide (PySem.W.findIn K (.ref CZ) "__setattr__" = some (some (.builtin "object.__setattr__"))) && (decide (PySem.W.findIn K (.ref CZ) "corners" = some none) && (decide (PySem.W.makesIn K CZ = true) && (decide (PySem.W.findIn K (.ref CZ) "__init__" = some (some (.ref f_zinit))) && (decide (PySem.W.isFn K (.ref f_zinit) = true) && (decide (PySem.W.keepIn K (.ref CZ) = true) && (decide (PySem.W.findIn K (.ref CZ) "__class__" = some (some (.builtin "object.__class__"))) && (decide (PySem.W.mroIn K CZ (.type "object") = some true) && (decide (PySem.W.kitOne K (.ref CZ) (.ref CZ) = some true) && (decide (PySem.W.isFn K (.ref f_zeq) = true) && (decide (PySem.W.isFn K (.ref f_zin) = true) && (decide (PySem.W.isFn K (.ref f_zlow) = true) && (decide (PySem.W.isFn K (.ref f_zgr) = true))))))))))))))))))))))
end Fk

set_option Elab.async false
set_option maxRecDepth 100000
set_option maxHeartbeats 0
namespace Fk
open PySem L2
def fnS : List He.DefD := ([Sh.dg "is_integer" (top 6), Sh.dg "is_ratio" (top 7), Sh.dg "lowest" (top 8), Sh.dg "as_ratio" (top 9), Sh.dg "plus" (top 10), Sh.dg "minus" (top 11), Sh.dg "sign_of" (top 12), Sh.dg "order" (top 13), Sh.dg "shared_bottom" (top 14), Sh.dg "is_point" (top 16), Sh.dg "as_point" (top 17), Sh.dg "checked_direction" (top 18), Sh.dg "worth" (top 19), Sh.dg "excludes" (top 22), Sh.dg "turned" (top 23), Sh.dg "opposite" (top 24), Sh.dg "way_between" (top 25), Sh.dg "normals_of" (top 26), Sh.dg "lowest_point" (top 27), Sh.dg "corners_of" (top 30)] : List He.DefD) ++ ([Sh.dg "lower_chain" (top 31), Sh.dg "turns_left" (top 32), Sh.dg "_law_pen" (top 34), Sh.dg "_law_draw" (top 35), Sh.dg "_law_pick" (top 36), Sh.dg "_law_big" (top 37), Sh.dg "_law_gcd" (top 38), Sh.dg "_law_q" (top 39), Sh.dg "_law_plus" (top 40), Sh.dg "_law_minus" (top 41), Sh.dg "_law_times" (top 42), Sh.dg "_law_sign" (top 43), Sh.dg "_law_less" (top 44), Sh.dg "_law_dot" (top 45), Sh.dg "_law_ratio" (top 46), Sh.dg "_law_passed" (top 47), Sh.dg "_law_direction" (top 48), Sh.dg "_law_worth" (top 49), Sh.dg "_law_least" (top 50), Sh.dg "_law_drawn_mixture" (top 51)] : List He.DefD) ++ ([Sh.dg "_law_cross" (top 52), Sh.dg "_law_point_before" (top 53), Sh.dg "_law_corners_right" (top 54), Sh.dg "_law_lowest" (top 55), Sh.dg "_law_grown" (top 56), Sh.dg "_law_points" (top 57), Sh.dg "_law_passed_point" (top 58), Sh.dg "_law_refused" (top 59), Sh.dg "_law_inside_right" (top 60), Sh.dm "BadNumber" "__init__" "BadNumber.__init__" (inClass (top 3) 0), Sh.dm "Zone" "__init__" "Zone.__init__" (inClass (top 29) 0), Sh.dm "Zone" "__eq__" "Zone.__eq__" (inClass (top 29) 1), Sh.dm "Zone" "__contains__" "Zone.__contains__" (inClass (top 29) 2), Sh.dm "Zone" "lowest" "Zone.lowest" (inClass (top 29) 3), Sh.dm "Zone" "grown" "Zone.grown" (inClass (top 29) 4), Sh.dg "law" (top 61)] : List He.DefD)
def ex0 : PySem.W.Frag → Bool := fun K => decide (PySem.W.nsIn K mainGlobals "is_integer" = some (some (.ref (He.ga K "is_integer"))))
def ex1 : PySem.W.Frag → Bool := fun K => decide (PySem.W.nsIn K mainGlobals "is_ratio" = some (some (.ref (He.ga K "is_ratio"))))
def ex2 : PySem.W.Frag → Bool := fun K => decide (PySem.W.nsIn K mainGlobals "lowest" = some (some (.ref (He.ga K "lowest"))))
def ex3 : PySem.W.Frag → Bool := fun K => decide (PySem.W.nsIn K mainGlobals "as_ratio" = some (some (.ref (He.ga K "as_ratio"))))
def ex4 : PySem.W.Frag → Bool := fun K => decide (PySem.W.nsIn K mainGlobals "plus" = some (some (.ref (He.ga K "plus"))))
def ex5 : PySem.W.Frag → Bool := fun K => decide (PySem.W.nsIn K mainGlobals "minus" = some (some (.ref (He.ga K "minus"))))
def ex6 : PySem.W.Frag → Bool := fun K => decide (PySem.W.nsIn K mainGlobals "sign_of" = some (some (.ref (He.ga K "sign_of"))))
def ex7 : PySem.W.Frag → Bool := fun K => decide (PySem.W.nsIn K mainGlobals "order" = some (some (.ref (He.ga K "order"))))
def ex8 : PySem.W.Frag → Bool := fun K => decide (PySem.W.nsIn K mainGlobals "shared_bottom" = some (some (.ref (He.ga K "shared_bottom"))))
def ex9 : PySem.W.Frag → Bool := fun K => decide (PySem.W.nsIn K mainGlobals "is_point" = some (some (.ref (He.ga K "is_point"))))
def ex10 : PySem.W.Frag → Bool := fun K => decide (PySem.W.nsIn K mainGlobals "as_point" = some (some (.ref (He.ga K "as_point"))))
def ex11 : PySem.W.Frag → Bool := fun K => decide (PySem.W.nsIn K mainGlobals "checked_direction" = some (some (.ref (He.ga K "checked_direction"))))
def ex12 : PySem.W.Frag → Bool := fun K => decide (PySem.W.nsIn K mainGlobals "worth" = some (some (.ref (He.ga K "worth"))))
def ex13 : PySem.W.Frag → Bool := fun K => decide (PySem.W.nsIn K mainGlobals "excludes" = some (some (.ref (He.ga K "excludes"))))
def ex14 : PySem.W.Frag → Bool := fun K => decide (PySem.W.nsIn K mainGlobals "turned" = some (some (.ref (He.ga K "turned"))))
def ex15 : PySem.W.Frag → Bool := fun K => decide (PySem.W.nsIn K mainGlobals "opposite" = some (some (.ref (He.ga K "opposite"))))
def ex16 : PySem.W.Frag → Bool := fun K => decide (PySem.W.nsIn K mainGlobals "way_between" = some (some (.ref (He.ga K "way_between"))))
def ex17 : PySem.W.Frag → Bool := fun K => decide (PySem.W.nsIn K mainGlobals "normals_of" = some (some (.ref (He.ga K "normals_of"))))
def ex18 : PySem.W.Frag → Bool := fun K => decide (PySem.W.nsIn K mainGlobals "lowest_point" = some (some (.ref (He.ga K "lowest_point"))))
def ex19 : PySem.W.Frag → Bool := fun K => decide (PySem.W.nsIn K mainGlobals "corners_of" = some (some (.ref (He.ga K "corners_of"))))
def ex20 : PySem.W.Frag → Bool := fun K => decide (PySem.W.nsIn K mainGlobals "lower_chain" = some (some (.ref (He.ga K "lower_chain"))))
def ex21 : PySem.W.Frag → Bool := fun K => decide (PySem.W.nsIn K mainGlobals "turns_left" = some (some (.ref (He.ga K "turns_left"))))
def ex22 : PySem.W.Frag → Bool := fun K => decide (PySem.W.nsIn K mainGlobals "_law_pen" = some (some (.ref (He.ga K "_law_pen"))))
def ex23 : PySem.W.Frag → Bool := fun K => decide (PySem.W.nsIn K mainGlobals "_law_draw" = some (some (.ref (He.ga K "_law_draw"))))
def ex24 : PySem.W.Frag → Bool := fun K => decide (PySem.W.nsIn K mainGlobals "_law_pick" = some (some (.ref (He.ga K "_law_pick"))))
def ex25 : PySem.W.Frag → Bool := fun K => decide (PySem.W.nsIn K mainGlobals "_law_big" = some (some (.ref (He.ga K "_law_big"))))
def ex26 : PySem.W.Frag → Bool := fun K => decide (PySem.W.nsIn K mainGlobals "_law_gcd" = some (some (.ref (He.ga K "_law_gcd"))))
def ex27 : PySem.W.Frag → Bool := fun K => decide (PySem.W.nsIn K mainGlobals "_law_q" = some (some (.ref (He.ga K "_law_q"))))
def ex28 : PySem.W.Frag → Bool := fun K => decide (PySem.W.nsIn K mainGlobals "_law_plus" = some (some (.ref (He.ga K "_law_plus"))))
def ex29 : PySem.W.Frag → Bool := fun K => decide (PySem.W.nsIn K mainGlobals "_law_minus" = some (some (.ref (He.ga K "_law_minus"))))
def ex30 : PySem.W.Frag → Bool := fun K => decide (PySem.W.nsIn K mainGlobals "_law_times" = some (some (.ref (He.ga K "_law_times"))))
def ex31 : PySem.W.Frag → Bool := fun K => decide (PySem.W.nsIn K mainGlobals "_law_sign" = some (some (.ref (He.ga K "_law_sign"))))
def ex32 : PySem.W.Frag → Bool := fun K => decide (PySem.W.nsIn K mainGlobals "_law_less" = some (some (.ref (He.ga K "_law_less"))))
def ex33 : PySem.W.Frag → Bool := fun K => decide (PySem.W.nsIn K mainGlobals "_law_dot" = some (some (.ref (He.ga K "_law_dot"))))
def ex34 : PySem.W.Frag → Bool := fun K => decide (PySem.W.nsIn K mainGlobals "_law_ratio" = some (some (.ref (He.ga K "_law_ratio"))))
def ex35 : PySem.W.Frag → Bool := fun K => decide (PySem.W.nsIn K mainGlobals "_law_passed" = some (some (.ref (He.ga K "_law_passed"))))
def ex36 : PySem.W.Frag → Bool := fun K => decide (PySem.W.nsIn K mainGlobals "_law_direction" = some (some (.ref (He.ga K "_law_direction"))))
def ex37 : PySem.W.Frag → Bool := fun K => decide (PySem.W.nsIn K mainGlobals "_law_worth" = some (some (.ref (He.ga K "_law_worth"))))
def ex38 : PySem.W.Frag → Bool := fun K => decide (PySem.W.nsIn K mainGlobals "_law_least" = some (some (.ref (He.ga K "_law_least"))))
def ex39 : PySem.W.Frag → Bool := fun K => decide (PySem.W.nsIn K mainGlobals "_law_drawn_mixture" = some (some (.ref (He.ga K "_law_drawn_mixture"))))
def ex40 : PySem.W.Frag → Bool := fun K => decide (PySem.W.nsIn K mainGlobals "_law_cross" = some (some (.ref (He.ga K "_law_cross"))))
def ex41 : PySem.W.Frag → Bool := fun K => decide (PySem.W.nsIn K mainGlobals "_law_point_before" = some (some (.ref (He.ga K "_law_point_before"))))
def ex42 : PySem.W.Frag → Bool := fun K => decide (PySem.W.nsIn K mainGlobals "_law_corners_right" = some (some (.ref (He.ga K "_law_corners_right"))))
def ex43 : PySem.W.Frag → Bool := fun K => decide (PySem.W.nsIn K mainGlobals "_law_lowest" = some (some (.ref (He.ga K "_law_lowest"))))
def ex44 : PySem.W.Frag → Bool := fun K => decide (PySem.W.nsIn K mainGlobals "_law_grown" = some (some (.ref (He.ga K "_law_grown"))))
def ex45 : PySem.W.Frag → Bool := fun K => decide (PySem.W.nsIn K mainGlobals "_law_points" = some (some (.ref (He.ga K "_law_points"))))
def ex46 : PySem.W.Frag → Bool := fun K => decide (PySem.W.nsIn K mainGlobals "_law_passed_point" = some (some (.ref (He.ga K "_law_passed_point"))))
def ex47 : PySem.W.Frag → Bool := fun K => decide (PySem.W.nsIn K mainGlobals "_law_refused" = some (some (.ref (He.ga K "_law_refused"))))
def ex48 : PySem.W.Frag → Bool := fun K => decide (PySem.W.nsIn K mainGlobals "_law_inside_right" = some (some (.ref (He.ga K "_law_inside_right"))))
def ex49 : PySem.W.Frag → Bool := fun K => decide (PySem.W.nsIn K mainGlobals "law" = some (some (.ref (He.ga K "law"))))
def ex50 : PySem.W.Frag → Bool := fun K => decide (PySem.W.nsIn K mainGlobals "gcd" = some (some (.builtin "math.gcd")))
def ex51 : PySem.W.Frag → Bool := fun K => decide (PySem.W.nsIn K mainGlobals "BadNumber" = some (some (.ref (He.ga K "BadNumber"))))
def ex52 : PySem.W.Frag → Bool := fun K => decide (PySem.W.findIn K (.ref (He.ga K "BadNumber")) "__init__" = some (some (.ref (He.ma K (He.ga K "BadNumber") "__init__"))))
def ex53 : PySem.W.Frag → Bool := fun K => decide (PySem.W.typeIn K (.ref (He.ma K (He.ga K "BadNumber") "__init__")) = some (.type "function"))
def ex54 : PySem.W.Frag → Bool := fun K => decide (PySem.W.findIn K (.ref (He.ga K "BadNumber")) "what" = some none)
def ex55 : PySem.W.Frag → Bool := fun K => decide (PySem.W.findIn K (.ref (He.ga K "BadNumber")) "number" = some none)
def ex56 : PySem.W.Frag → Bool := fun K => decide (PySem.W.nsIn K mainGlobals "int" = some none)
def ex57 : PySem.W.Frag → Bool := fun K => decide (PySem.W.nsIn K mainGlobals "list" = some none)
def ex58 : PySem.W.Frag → Bool := fun K => decide (PySem.W.nsIn K mainGlobals "len" = some none)
def ex59 : PySem.W.Frag → Bool := fun K => decide (PySem.W.nsIn K mainGlobals "range" = some none)
def ex60 : PySem.W.Frag → Bool := fun K => decide (PySem.W.nsIn K mainGlobals "str" = some none)
def ex61 : PySem.W.Frag → Bool := fun K => decide (PySem.W.nsIn K mainGlobals "isinstance" = some none)
def ex62 : PySem.W.Frag → Bool := fun K => decide (PySem.W.nsIn K mainGlobals "tuple" = some none)
def ex63 : PySem.W.Frag → Bool := fun K => decide (PySem.W.nsIn K mainGlobals "bool" = some none)
def ex64 : PySem.W.Frag → Bool := fun K => decide (PySem.W.nsIn K mainGlobals "abs" = some none)
def ex65 : PySem.W.Frag → Bool := fun K => decide (PySem.W.nsIn K mainGlobals "zip" = some none)
def ex66 : PySem.W.Frag → Bool := fun K => decide (PySem.W.nsIn K mainGlobals "sum" = some none)
def ex67 : PySem.W.Frag → Bool := fun K => decide (PySem.W.nsIn K mainGlobals "repr" = some none)
def ex68 : PySem.W.Frag → Bool := fun K => decide (PySem.W.nsIn K mainGlobals "all" = some none)
def ex69 : PySem.W.Frag → Bool := fun K => decide (PySem.W.nsIn K mainGlobals "any" = some none)
def ex70 : PySem.W.Frag → Bool := fun K => decide (PySem.W.nsIn K mainGlobals "sorted" = some none)
def ex71 : PySem.W.Frag → Bool := fun K => decide (PySem.W.specialIn K (.builtin "object.__class__") "__get__" = some (some (.builtin "getset_descriptor.__get__")))
def ex72 : PySem.W.Frag → Bool := fun K => decide (PySem.W.takesIn K (.builtin "object.__class__") = some true)
def ex73 : PySem.W.Frag → Bool := fun K => decide (PySem.W.nsIn K mainGlobals "Zone" = some (some (.ref (He.ga K "Zone"))))
def ex74 : PySem.W.Frag → Bool := fun K => decide (PySem.W.findIn K (.ref (He.ga K "Zone")) "__init__" = some (some (.ref (He.ma K (He.ga K "Zone") "__init__"))))
def ex75 : PySem.W.Frag → Bool := fun K => decide (PySem.W.findIn K (.ref (He.ga K "Zone")) "__eq__" = some (some (.ref (He.ma K (He.ga K "Zone") "__eq__"))))
def ex76 : PySem.W.Frag → Bool := fun K => decide (PySem.W.findIn K (.ref (He.ga K "Zone")) "__contains__" = some (some (.ref (He.ma K (He.ga K "Zone") "__contains__"))))
def ex77 : PySem.W.Frag → Bool := fun K => decide (PySem.W.findIn K (.ref (He.ga K "Zone")) "lowest" = some (some (.ref (He.ma K (He.ga K "Zone") "lowest"))))
def ex78 : PySem.W.Frag → Bool := fun K => decide (PySem.W.findIn K (.ref (He.ga K "Zone")) "grown" = some (some (.ref (He.ma K (He.ga K "Zone") "grown"))))
def ex79 : PySem.W.Frag → Bool := fun K => decide (PySem.W.nsIn K mainGlobals "ZERO" = some (some (.ref (He.ga K "ZERO"))))
def ex80 : PySem.W.Frag → Bool := fun K => decide (PySem.W.nsIn K mainGlobals "AXES" = some (some (.ref (He.ga K "AXES"))))
def ex81 : PySem.W.Frag → Bool := fun K => Sh.tupAtB K (He.ga K "ZERO") [.int 0, .int 1]
def ex82 : PySem.W.Frag → Bool := fun K => axesB K (He.ga K "AXES")
def ex83 : PySem.W.Frag → Bool := fun K => looks71 K (He.ga K "BadNumber") (He.ga K "Zone") (He.ma K (He.ga K "Zone") "__init__") (He.ma K (He.ga K "Zone") "__eq__") (He.ma K (He.ga K "Zone") "__contains__") (He.ma K (He.ga K "Zone") "lowest") (He.ma K (He.ga K "Zone") "grown")
def exS : List (PySem.W.Frag → Bool) := ([ex0, ex1, ex2, ex3, ex4, ex5, ex6, ex7, ex8, ex9, ex10, ex11, ex12, ex13, ex14, ex15, ex16, ex17, ex18, ex19, ex20, ex21, ex22, ex23, ex24, ex25, ex26, ex27, ex28, ex29] : List (PySem.W.Frag → Bool)) ++ ([ex30, ex31, ex32, ex33, ex34, ex35, ex36, ex37, ex38, ex39, ex40, ex41, ex42, ex43, ex44, ex45, ex46, ex47, ex48, ex49, ex50, ex51, ex52, ex53, ex54, ex55, ex56, ex57, ex58, ex59] : List (PySem.W.Frag → Bool)) ++ ([ex60, ex61, ex62, ex63, ex64, ex65, ex66, ex67, ex68, ex69, ex70, ex71, ex72, ex73, ex74, ex75, ex76, ex77, ex78, ex79, ex80, ex81, ex82, ex83] : List (PySem.W.Frag → Bool))
def gsS : List Str := (["is_integer", "is_ratio", "lowest", "as_ratio", "plus", "minus", "sign_of", "order", "shared_bottom", "is_point", "as_point", "checked_direction", "worth", "excludes", "turned", "opposite", "way_between", "normals_of", "lowest_point", "corners_of", "lower_chain", "turns_left", "_law_pen", "_law_draw", "_law_pick", "_law_big", "_law_gcd", "_law_q", "_law_plus", "_law_minus"] : List Str) ++ (["_law_times", "_law_sign", "_law_less", "_law_dot", "_law_ratio", "_law_passed", "_law_direction", "_law_worth", "_law_least", "_law_drawn_mixture", "_law_cross", "_law_point_before", "_law_corners_right", "_law_lowest", "_law_grown", "_law_points", "_law_passed_point", "_law_refused", "_law_inside_right", "BadNumber", "Zone", "law", "ZERO", "AXES"] : List Str)
def msS : List (Str × Str) := ([("BadNumber", "__init__"), ("Zone", "__init__"), ("Zone", "__eq__"), ("Zone", "__contains__"), ("Zone", "lowest"), ("Zone", "grown")] : List (Str × Str))
def tfS : List He.Defn := []
def looseS : List Str := (["gcd", "FoeError", "BadNumber", "ZERO", "is_integer", "is_ratio", "lowest", "as_ratio", "plus", "minus", "sign_of", "order", "shared_bottom", "is_point", "as_point", "checked_direction", "worth", "AXES", "excludes", "turned", "opposite", "way_between", "normals_of", "lowest_point", "Zone", "corners_of", "lower_chain", "turns_left", "_law_pen", "_law_draw"] : List Str) ++ (["_law_pick", "_law_big", "_law_gcd", "_law_q", "_law_plus", "_law_minus", "_law_times", "_law_sign", "_law_less", "_law_dot", "_law_ratio", "_law_passed", "_law_direction", "_law_worth", "_law_least", "_law_drawn_mixture", "_law_cross", "_law_point_before", "_law_corners_right", "_law_lowest", "_law_grown", "_law_points", "_law_passed_point", "_law_refused", "_law_inside_right"] : List Str)
abbrev RowS : PySem.W.OpenRow := PySem.W.OpenLaw.row PySem.Challenge.rw_everyfoe_k71_whole_zones
abbrev hkS : PySem.W.Hook := Sh.hook (Sh.asP gsS msS) fnS tfS exS
def obS (s : PySem.W.SharedT) : Sh.Al := Sh.obs (Sh.asP gsS msS) fnS tfS exS (HandSHeadRun.getT s)
theorem obS_eq (s : PySem.W.SharedT) : obS s = hkS.obs s.abs := Sh.obs_eq (HandSHeadRun.getT_eq s)
theorem run1 (w : World) : (Sh.whole RowS.prog 20000 w).map (fun x => HandSHeadRun.looksF RowS.prog x.1.heap x.2.abs) = some true := by
  kernel_rfl
theorem run2 (w : World) : (Sh.whole RowS.prog 20000 w).map (fun x => HandSHeadRun.seenQ (PySem.W.view RowS.prog [61]) looseS (importedModules RowS.prog.main.body) (fun s => PySem.W.xlAt (PySem.W.view RowS.prog [61]) [] s && PySem.W.recOk RowS.toRowW.records s) x.2.abs) = some (PySem.W.openGood (PySem.W.view RowS.prog [61]) looseS) := by
  kernel_rfl
theorem run3 (w : World) : (Sh.whole RowS.prog 20000 w).map (fun x => obS x.2) = some (hkS.val w) := by
  kernel_rfl
theorem runS (w : World) : HandSHeadRun.RunEqI RowS (PySem.W.view RowS.prog [61]) hkS obS 20000 looseS w := Sh.runEqI_of (run1 w) (run2 w) (run3 w)
end Fk

set_option Elab.async false
set_option maxRecDepth 100000
set_option maxHeartbeats 4000000
/-! Comprehensions of any number of clauses, whatever they gather. -/
namespace Gc
open PySem PySem.Spec PyProof.Rows L2
/-- a turn of the clause t in i if .., whose body is bd -/
def turnOf (c : Expr) (d : Nat) (it acc : Value) (env : Env) (t i : Expr) (ifs : List Expr) (bd : Sem Fin → Sem Fin) : Sem Fin := do
  standAt i.pos
  match ← pyNext it with
  | none => pure (.done .next)
  | some v =>
    letOwnedTupleGo t it v
    assign t env v
    let mut ok := true
    for x in ifs do
      if ok then ok ← isTrue x env (eval x env)
    if ok then bd (again (.compLoop c d it acc env)) else again (.compLoop c d it acc env)
/-- the body of a clause that another one follows -/
def deeper (c : Expr) (d : Nat) (acc : Value) (env : Env) (i : Expr) (k : Sem Fin) : Sem Fin := do
  let x ← eval i env
  standAt i.pos
  let x ← foldedSetIterable i env x
  let _ ← runOwn (.compStart c d (← holding [x] (pyIter x)) acc env) env
  k
section
variable {prog : Program} {w : World} {A : Around} {R : Result → Shared → Prop} {s : Shared} {c t i : Expr} {ifs : List Expr} {d : Nat} {it acc : Value} {env : Env} {bd : Sem Fin → Sem Fin}
abbrev testsOf (ifs : List Expr) (env : Env) : Sem Bool := forIn ifs true fun c r => if r = true then do let ok ← isTrue c env (eval c env); pure (ForInStep.yield ok) else pure (ForInStep.yield r)
/-- a comprehension's code runs where it stands, as its turns say -/
structure Plain (c : Expr) : Prop where
  ul : ∀ (A : Around) (d : Nat) (it acc : Value) (env : Env), A.under (.compLoop c d it acc env) = A
  us : ∀ (A : Around) (d : Nat) (it acc : Value) (env : Env), A.under (.compStart c d it acc env) = A
  dl : ∀ (P : Program) (w : World) (d : Nat) (it acc : Value) (env : Env), (model P w).den (.compLoop c d it acc env) = (compTurn c d it acc env).onRaise (fun x => do noteFrame x env; theTreesLotGoes x)
  ds : ∀ (P : Program) (w : World) (d : Nat) (it acc : Value) (env : Env), (model P w).den (.compStart c d it acc env) = (compStart c d it acc env).onRaise (fun x => do noteFrame x env; standAt theWindowsPlace)
  ql : ∀ (d : Nat) (it acc : Value) (env : Env), (Code.compLoop c d it acc env).quiet = true
theorem plain_list (elt : Expr) (gs : List Comprehension) (scope : Scope) (pos : Pos) : Plain (.ListComp elt gs scope pos) := ⟨fun _ _ _ _ _ => rfl, fun _ _ _ _ _ => rfl, fun _ _ _ _ _ _ => rfl, fun _ _ _ _ _ _ => rfl, fun _ _ _ _ => rfl⟩
theorem plain_dict (k v : Expr) (gs : List Comprehension) (scope : Scope) (pos : Pos) : Plain (.DictComp k v gs scope pos) := ⟨fun _ _ _ _ _ => rfl, fun _ _ _ _ _ => rfl, fun _ _ _ _ _ _ => rfl, fun _ _ _ _ _ _ => rfl, fun _ _ _ _ => rfl⟩
theorem loop_any (hp : Plain c) (ht : compTurn c d it acc env = turnOf c d it acc env t i ifs bd) (I : Nat → Shared → Prop)
    (turn : ∀ n s, I n s → wpAny (model prog w) A (pyNext it) (fun r s1 => match r with
      | none => R (.ok .next) s1
      | some v => wpAny (model prog w) A (letOwnedTupleGo t it v) (fun _ s2 => wpAny (model prog w) A (assign t env v) (fun _ s3 => wpAny (model prog w) A (testsOf ifs env) (fun ok s4 =>
          if ok = true then ∀ (k : Sem Fin) (Q : Fin → Shared → Prop) (E : Value → Shared → Prop), (∀ s5, (∃ m, m < n ∧ I m s5) → wpAny (model prog w) A k Q E s5) → wpAny (model prog w) A (bd k) Q E s4 else ∃ m, m < n ∧ I m s4) (fun _ _ => False) s3) (fun _ _ => False) s2) (fun _ _ => False) s1) (fun _ _ => False) s)
    (n : Nat) (h : I n s) : codeAny (model prog w) A (.compLoop c d it acc env) R s := by
  refine codeAny_loop (hp.ql d it acc env) I (fun n s hI => ?_) n h
  rw [hp.ul, hp.dl]
  refine wpAny_noted ?_
  rw [ht]
  unfold turnOf
  refine wpAny_bind (wpAny_standAt (wpAny_bind (wpAny_mono (turn n s hI) (fun r s1 h1 => ?_) fun _ _ z => z.elim)))
  cases r with
  | none => exact wpAny_pure h1
  | some v =>
    refine wpAny_bind (wpAny_mono h1 (fun _ s2 h2 => ?_) fun _ _ z => z.elim)
    refine wpAny_bind (wpAny_mono h2 (fun _ s3 h3 => wpAny_bind (wpAny_mono h3 (fun ok s4 h4 => ?_) fun _ _ z => z.elim)) fun _ _ z => z.elim)
    cases ok with
    | false =>
      first
        | exact wpAny_pure ⟨rfl, h4⟩
        | exact wpAny_bind (wpAny_pure (wpAny_pure ⟨rfl, h4⟩))
    | true => exact h4 _ _ _ fun s5 h5 => wpAny_pure ⟨rfl, h5⟩
theorem start_any {g : Comprehension} (hp : Plain c) (hg : (clausesOf c)[d]? = some g) (ha : g.is_async = 0) (h0 : codeAny (model prog w) A (.compLoop c d it acc env) R s)
    (h : wpAny (model prog w) A (pyIter it) (fun it' s' => codeAny (model prog w) A (.compLoop c d it' acc env) R s') (notedBy (model prog w) A env fun x s' => R (.error x) s') s) : codeAny (model prog w) A (.compStart c d it acc env) R s := by
  refine codeAny_of_tree ?_
  rw [hp.us, hp.ds]
  refine wpAny_notedAt ?_
  unfold compStart
  rw [hg]
  have e : ((some g : Option Comprehension).elim false fun x => x.is_async != 0) = false := by
    show (g.is_async != 0) = false
    rw [ha]
    rfl
  rw [e]
  show wpAny _ _ (ask >>= _) _ _ s
  refine wpAny_bind (wpAny_askSetting (wpAny_ite ?_))
  split
  · first
      | exact wpAny_bind (wpAny_pure (wpAny_pure (And.intro (hp.ql _ _ _ _) h0)))
      | exact wpAny_pure (And.intro (hp.ql _ _ _ _) h0)
  · refine wpAny_bind (wpAny_rule ?_)
    show wpAny _ _ (standAt g.iter.pos >>= _) _ _ s
    exact wpAny_bind (wpAny_standAt (wpAny_bind (wpAny_mono h (fun it' s' h' => wpAny_pure (And.intro (hp.ql _ _ _ _) h')) fun _ _ x => x)))
end
/-- what a body does, in the block -/
def Body (X : Cx) (bd : Sem Fin → Sem Fin) (vs : List Nat) (tb : (Hp → Prop) → L2.St → Hp → Prop) : Prop := ∀ (pins : List (Addr × Obj)) (s : Shared) (σ : L2.St) (H : Hp) (Nx : Hp → Prop), Inv X pins σ H s → tb Nx σ H →
  ∀ (k : Sem Fin) (Q : Fin → Shared → Prop) (E : Value → Shared → Prop), (∀ s', (∃ H', Inv X pins (wipe σ vs) H' s' ∧ Nx H') → wpAny (model X.prog X.w) X.A k Q E s') → wpAny (model X.prog X.w) X.A (bd k) Q E s
def tIn (wi : TI) (g : TG) (tt : TT) (vs : List Nat) (tb : (Hp → Prop) → L2.St → Hp → Prop) : (Hp → Prop) → L2.St → Hp → Prop := fun Nx σ H => wi σ H fun J H1 => ∃ W : Nat → Nat → Hp → Prop, (∃ m, W 0 m H1) ∧ ∀ j k H, W j k H →
  (J.stop j H ∧ Nx H) ∨ (J.go j H ∧ ∃ Nx1 : Hp → Prop, (∀ H', Nx1 H' → ∃ k', k' < k ∧ W (j + 1) k' H') ∧ ∀ x H', J.yld j H x H' → g x (wipe σ vs) H' fun σ2 H2 => wipe σ2 vs = wipe σ vs ∧ tt σ2 H2 fun b H3 => if b = true then tb Nx1 σ2 H3 else Nx1 H3)
theorem wipe_app (σ : L2.St) (a b : List Nat) : wipe σ (a ++ b) = wipe (wipe σ b) a := by
  induction a with
  | nil => rfl
  | cons v a ih =>
    show (wipe σ (a ++ b)).set v none = (wipe (wipe σ b) a).set v none
    rw [ih]
theorem wipe_keep {σ τ : L2.St} {vs ws : List Nat} (e : wipe τ vs = wipe σ vs) (h : ∀ i ∈ ws, i ∈ vs) (j : Nat) (v : V) (q : (wipe σ vs)[j]? = some (some v)) : (wipe τ ws)[j]? = some (some v) := by
  rw [← e] at q
  obtain ⟨q1, q2⟩ := wipe_some q
  rw [wipe_out fun z => q2 (h j z)]
  exact q1
section
variable {X : Cx} {s0 : Shared} {H0 : Hp} {scope : Scope} {ce : Env} {fp : List Addr}
/-- a clause within a clause -/
theorem body_in {c t i : Expr} {ifs : List Expr} {d : Nat} {acc : Value} {bd : Sem Fin → Sem Fin} {wi : TI} {g : TG} {tt : TT} {vs ws : List Nat} {tb : (Hp → Prop) → L2.St → Hp → Prop} (hc : X.calm = true) (hp : Plain c)
    (ht : ∀ it, compTurn c d it acc ce = turnOf c d it acc ce t i ifs bd) (hcl : (clausesOf c)[d]? = some ⟨t, i, ifs, 0⟩) (hs : ∀ x, foldedSetIterable i ce x = pure x)
    (hi : PI (X.blk s0 H0 scope ce fp) t i wi) (hg : PG (X.blk s0 H0 scope ce fp) t g) (hts : PTs (X.blk s0 H0 scope ce fp) ifs tt) (hb : Body (X.blk s0 H0 scope ce fp) bd ws tb) (hw : ∀ j ∈ ws, j ∈ vs) :
    Body (X.blk s0 H0 scope ce fp) (deeper c d acc ce i) vs (tIn wi g tt vs tb) := by
  intro pins s σ H Nx I h kk QQ EE hkk
  unfold deeper
  refine wpAny_bind (thnF (hi.run pins s σ H _ I h) fun xv s1 hx => wpAny_bind (wpAny_standAt (wpAny_bind (wpAny_of_eq (hs xv) (wpAny_bind (wpAny_holding (thnF hx fun itv s2 h2 => ?_)))))))
  obtain ⟨it, fp1, tn, J, H2, e, I2, T, st2, f2, W, ⟨m0, w0⟩, turn⟩ := h2
  subst e
  have stat : ∀ {H' : Hp}, (∀ b ∈ fp1, H' b = none) → ∀ b ∈ fp1, FpOk (X.blk s0 H0 scope ce fp) pins H' b := fun hn b hb => ⟨hn b hb, (f2 b hb).2⟩
  have loop : codeAny (model X.prog X.w) X.A (.compLoop c d (.ref it) acc ce) (fun r s' => match r with
      | .ok _ => ∃ H', Inv (X.blk s0 H0 scope ce fp) pins (wipe σ vs) H' s' ∧ Nx H'
      | .error _ => False) s2 := by
    refine loop_any hp (ht _) (fun k s' => ∃ j H', Inv (X.blk s0 H0 scope ce fp) pins (wipe σ vs) H' s' ∧ tn j s'.heap ∧ (∀ b ∈ fp1, H' b = none) ∧ W j k H') ?_ m0 ⟨0, H2, I2.weak (wipe_length _ _) (fun j v e => (wipe_some e).1), st2, fun b hb => (f2 b hb).1, w0⟩
    rintro k s3 ⟨j, H3, I3, st3, n3, w3⟩
    rcases turn j k H3 w3 with ⟨stop, nx⟩ | ⟨go, Nx1, hNx, step⟩
    · refine thnF (T.done (X.blk s0 H0 scope ce fp) rfl rfl rfl hc j _ s3 (wipe σ vs) H3 (fun _ _ => False) I3 (stat n3) st3 stop) fun r s4 ⟨hr, I4⟩ => ?_
      subst hr
      exact ⟨H3, I4, nx⟩
    · refine thnF (T.item (X.blk s0 H0 scope ce fp) rfl rfl rfl hc j _ s3 (wipe σ vs) H3 (fun _ _ => False) I3 (stat n3) st3 go) fun r s4 ⟨u, hr, h4⟩ => ?_
      subst hr
      refine thnF h4 fun _ s5 ⟨x, H5, I5, r5, y5, st5, n5⟩ => ?_
      have I5' := I5.pinned (stat n5) (T.obj _ _ st5)
      refine thnF (hg.run _ s5 (wipe σ vs) H5 x u _ I5' r5 (step x H5 y5)) fun _ s6 ⟨σ6, H6, I6, hw6, q6⟩ => ?_
      refine thnF (hts.run _ s6 σ6 H6 _ I6 q6) fun b s7 ⟨H7, I7, q7⟩ => ?_
      have fin : ∀ {s' : Shared} {H' : Hp} {τ : L2.St}, Inv (X.blk s0 H0 scope ce fp) (pins ++ pinsAt fp1 s5.heap) τ H' s' → (wipe σ vs).length = τ.length → (∀ (j : Nat) v, (wipe σ vs)[j]? = some (some v) → τ[j]? = some (some v)) → Nx1 H' →
          ∃ m, m < k ∧ ∃ j H', Inv (X.blk s0 H0 scope ce fp) pins (wipe σ vs) H' s' ∧ tn j s'.heap ∧ (∀ b ∈ fp1, H' b = none) ∧ W j m H' := fun {s' H' τ} I' hl hk nx => by
        obtain ⟨m', hm, w'⟩ := hNx H' nx
        have pin' : ∀ b ∈ fp1, ∀ o, s5.heap.get? b = some o → s'.heap.get? b = some o ∧ H' b = none := fun b hb o e =>
          let z := I'.pin (b, o) (List.mem_append_right _ (List.mem_append_right _ (mem_pinsAt hb e)))
          ⟨z.1, z.2.1⟩
        refine ⟨m', hm, j + 1, H', I'.unpinned.weak hl hk, T.keep _ _ _ st5 fun b hb o e => (pin' b hb o e).1, fun b hb => ?_, w'⟩
        obtain ⟨o, e, _⟩ := T.obj _ _ st5 b hb
        exact (pin' b hb o e).2
      have hl6 : (wipe σ vs).length = σ6.length := by rw [← hw6, wipe_length]
      cases b with
      | false =>
        simp only [Bool.false_eq_true, if_false] at q7 ⊢
        exact fin I7 hl6 (fun j v e => (wipe_some (hw6 ▸ e : (wipe σ6 vs)[j]? = some (some v))).1) q7
      | true =>
        simp only [if_true] at q7 ⊢
        refine fun k2 Q2 E2 h2 => hb _ s7 σ6 H7 Nx1 I7 q7 k2 Q2 E2 fun s8 ⟨H8, I8, q8⟩ => h2 s8 ?_
        exact fin I8 (hl6.trans (wipe_length σ6 ws).symm) (fun j v e => wipe_keep hw6 hw j v e) q8
  have st := start_any hp hcl rfl loop (T.self X.A 0 _ _ _ st2 loop)
  refine wpAny_bind (wpAny_runOwn ?_)
  rw [Around.mark_none]
  refine codeAny_mono st fun r s' hr => ?_
  cases r with
  | ok f =>
    first
      | exact hkk s' hr
      | exact wpAny_pure (hkk s' hr)
      | exact wpAny_bind (wpAny_pure (hkk s' hr))
  | error e => exact hr.elim
end
end Gc

set_option Elab.async false
set_option maxRecDepth 100000
set_option maxHeartbeats 4000000
namespace Gc
open PySem PySem.Spec PyProof.Rows L2
section
variable {X : Cx}
/-- the reading: D the new object, which is o0 at first -/
def tGc (o0 : HO) (wi : TI) (g : TG) (tt : TT) (vs : List Nat) (tb : Addr → (Hp → Prop) → L2.St → Hp → Prop) : TE := fun σ H Q => wi σ H fun J H1 => ∀ D, H1 D = none → ∃ W : Nat → Nat → Hp → Prop, (∃ m, W 0 m (upd H1 D o0)) ∧ ∀ i m H, W i m H →
  (J.stop i H ∧ Q (.ref D) H) ∨ (J.go i H ∧ ∃ Nx : Hp → Prop, (∀ H', Nx H' → ∃ m', m' < m ∧ W (i + 1) m' H') ∧ ∀ x H', J.yld i H x H' → g x (wipe σ vs) H' fun σ2 H2 => wipe σ2 vs = wipe σ vs ∧ tt σ2 H2 fun b H3 => if b = true then tb D Nx σ2 H3 else Nx H3)
/-- what is gathered into: how it is made, what it is at first -/
structure Into (X : Cx) (newAcc : Sem Value) (o0 : HO) (ob : Obj) : Prop where
  make : ∀ (s : Shared) (Q : Value → Shared → Prop), Q (.ref s.heap.objs.size) { s with heap := s.heap.push ob } → wpAny (model X.prog X.w) X.A newAcc Q X.xe s
  ok : ∀ (pins : List (Addr × Obj)) (s : Shared) (σ : L2.St) (H : Hp), Inv X pins σ H s → ObjOk X.prog X.w (upd H s.heap.objs.size o0) (s.heap.push ob) s.heap.objs.size o0
theorem into_list : Into X (newList []) (.lst []) { cls := .type "list", data := .seq ([] : List Value).toArray } := by
  refine ⟨fun s Q h => wpAny_newObj_type h (by show 0 ≤ sizeLine; decide), fun pins s σ H I => ⟨Nat.zero_le _, [], 0, .nil, Heap.get?_push_size _ rfl⟩⟩
theorem into_dictT : Into X newDict (.dT []) { cls := .type "dict", data := .dict #[] } := ⟨fun s Q h => wpAny_newObj_type h, fun pins s σ H I => dt_empty s.heap I.big⟩
theorem into_dictK : Into X newDict (.dK []) { cls := .type "dict", data := .dict #[] } := ⟨fun s Q h => wpAny_newObj_type h, fun pins s σ H I => dk_empty s.heap I.big⟩
theorem gc_core {c : Expr} {pins : List (Addr × Obj)} {s : Shared} {σ : L2.St} {H : Hp} {Q : VK} {tg iter : Expr} {ifs : List Expr} {gs : List Comprehension} {scope : Scope} {own : List (Str × Nat)} {ws : List Nat} {pos' : Pos} {newAcc : Sem Value} {o0 : HO} {ob : Obj} {bd : Addr → Env → Sem Fin → Sem Fin} {wi : TI} {g : TG} {tt : TT}
    {tb : Addr → (Hp → Prop) → L2.St → Hp → Prop} {use : Option (Value → Sem Unit)} {Qf : Value → Shared → Prop}
    (hp : Plain c) (hcl : clausesOf c = ⟨tg, iter, ifs, 0⟩ :: gs) (hto : Into X newAcc o0 ob) (hturn : ∀ D it ce, compTurn c 0 it (.ref D) ce = turnOf c 0 it (.ref D) ce tg iter ifs (bd D ce))
    (hc : X.calm = true) (hN : X.N.Nodup) (I : Inv X pins σ H s) (hi : PI X tg iter wi) (ok : BlkOk X.N X.env.scope scope own) (hw : ∀ j ∈ ws, j ∈ own.map (·.2))
    (hg : ∀ (s : Shared) (H : Hp) (C : Addr) (cl : List (Str × Addr)) (fp : List Addr), PG (X.blk s H scope (compEnvC scope cl C X.env) fp) tg g) (ht : ∀ (s : Shared) (H : Hp) (C : Addr) (cl : List (Str × Addr)) (fp : List Addr), PTs (X.blk s H scope (compEnvC scope cl C X.env) fp) ifs tt)
    (hb : ∀ (D : Addr) (s : Shared) (H : Hp) (C : Addr) (cl : List (Str × Addr)) (fp : List Addr), Body (X.blk s H scope (compEnvC scope cl C X.env) fp) (bd D (compEnvC scope cl C X.env)) ws (tb D))
    (hs : ∀ x, foldedSetIterable iter X.env x = pure x) (h : tGc o0 wi g tt (own.map (·.2)) tb σ H Q)
    (hRR : ∀ D C s' m H', Inv X pins σ H' s' → Q (.ref D) H' → s'.heap.Ns C m → FpOk X pins H' C → compPost (model X.prog X.w) X.A X.xe use Qf (.ref D) C (.ok .next) s') :
    wpAny (model X.prog X.w) X.A (comprehension c scope X.env pos' newAcc false (eval iter X.env) use) Qf X.xe s := by
  have hfree : ∀ y ∈ scope.names, y.2 = .free → ∃ c, X.env.cells.lookup y.1 = some c := fun y hy e => by
    rcases ok.free y hy e with k | k
    · exact I.ok.has _ (.inl k)
    · exact I.ok.has _ (.inr k)
  refine wpAny_comprehension_free (use := use) hcl hs (closure_ok hfree) ok.kind (fun y hy e => by rw [ok.uniq y hy, e]) (thn (hi.run pins s σ H _ I h) fun xv s1 hx => thn hx fun itv s2 h2 => ?_)
  obtain ⟨it, fp, tn, J, H2, e, I2, T, st2, f2, q⟩ := h2
  subst e
  refine hto.make s2 _ (newEnv_comp ?_)
  generalize hD : s2.heap.objs.size = D
  have hDn : H2 D = none := I2.hok.fresh (Nat.le_of_eq hD)
  obtain ⟨W, ⟨m0, w0⟩, turn⟩ := q D hDn
  generalize hs3 : ({ s2 with heap := s2.heap.push ob } : Shared) = s3
  have I3 : Inv X pins σ (upd H2 D o0) s3 := by
    rw [← hs3]
    refine I2.laid (t' := s2.toks) (fun b o e => Heap.get?_push_of_some _ e) (Nat.le_of_eq hD) ?_
    rw [← hD]
    exact hto.ok pins s2 σ H2 I2
  have h3 : s3.heap = s2.heap.push ob := by rw [← hs3]
  have sz : ∀ b ∈ fp, b < s2.heap.objs.size := fun b hb => by
    obtain ⟨o, e, _⟩ := T.obj _ _ st2 b hb
    exact Heap.lt_size e
  have f3 : ∀ b ∈ fp, FpOk X pins (upd H2 D o0) b ∧ b < s3.heap.objs.size := fun b hb => by
    have hlt := sz b hb
    refine ⟨⟨?_, (f2 b hb).2⟩, by rw [h3, Heap.size_push]; exact Nat.lt_succ_of_lt hlt⟩
    rw [upd_ne (by rw [← hD]; exact Nat.ne_of_lt hlt)]
    exact (f2 b hb).1
  have st3 : tn 0 s3.heap := T.keep _ _ _ st2 fun b _ o e => by
    rw [h3]
    exact Heap.get?_push_of_some _ e
  have I4 := block_start I3 ok hN f3
  have pg := hg s3 (upd H2 D o0) s3.heap.objs.size (cellsFrom (s3.heap.objs.size + 1) scope.names (cloFrom X.env.cells scope.names [])) fp
  have pt := ht s3 (upd H2 D o0) s3.heap.objs.size (cellsFrom (s3.heap.objs.size + 1) scope.names (cloFrom X.env.cells scope.names [])) fp
  have pb := hb D s3 (upd H2 D o0) s3.heap.objs.size (cellsFrom (s3.heap.objs.size + 1) scope.names (cloFrom X.env.cells scope.names [])) fp
  show codeAny _ _ (.compStart c 0 (.ref it) (.ref D) (compEnvC scope (cellsFrom (s3.heap.objs.size + 1) scope.names (cloFrom X.env.cells scope.names [])) s3.heap.objs.size X.env)) (compPost (model X.prog X.w) X.A X.xe use Qf (.ref D) s3.heap.objs.size) { s3 with heap := pushCells (s3.heap.push { cls := .type "dict", data := .dict #[] }) scope.names }
  have nfp : ∀ b ∈ fp, (upd H2 D o0) b = none := fun b hb => (f3 b hb).1.1
  generalize hce : compEnvC scope (cellsFrom (s3.heap.objs.size + 1) scope.names (cloFrom X.env.cells scope.names [])) s3.heap.objs.size X.env = ce at I4 pg pt pb ⊢
  have cL : ce.locals = s3.heap.objs.size := by
    subst hce
    rfl
  generalize hH3 : upd H2 D o0 = H3 at I3 I4 pg pt pb w0 nfp f3
  generalize hs4 : ({ s3 with heap := pushCells (s3.heap.push { cls := .type "dict", data := .dict #[] }) scope.names } : Shared) = s4 at I4 ⊢
  have st4 : tn 0 s4.heap := T.keep _ _ _ st3 fun b _ o e => by
    rw [← hs4]
    exact pushCells_keeps _ _ _ _ (Heap.get?_push_of_some _ e)
  have stat : ∀ {σ' : L2.St} {H' : Hp} {s' : Shared}, Inv (X.blk s3 H3 scope ce fp) [] σ' H' s' → (∀ b ∈ fp, H' b = none) → ∀ b ∈ fp, FpOk (X.blk s3 H3 scope ce fp) [] H' b := fun {σ' H' s'} I' hn b hb =>
    ⟨hn b hb, (I'.ok.exf b hb).1, I'.ok.exfs b hb, .inl hb, fun x c e => (I'.ok.exf b hb).2 x c e, fun p hp => absurd (show p ∈ ([] : List (Addr × Obj)) ++ [] from hp) (by simp)⟩
  have loop : codeAny (model X.prog X.w) X.A (.compLoop c 0 (.ref it) (.ref D) ce) (compPost (model X.prog X.w) X.A X.xe use Qf (.ref D) s3.heap.objs.size) s4 := by
    refine loop_any hp (hturn D (.ref it) ce) (fun n s' => ∃ i H', Inv (X.blk s3 H3 scope ce fp) [] (wipe σ (own.map (·.2))) H' s' ∧ tn i s'.heap ∧ (∀ b ∈ fp, H' b = none) ∧ W i n H') ?_ m0 ⟨0, H3, I4, st4, nfp, w0⟩
    rintro n s5 ⟨i, H5, I5, st5, n5, w5⟩
    rcases turn i n H5 w5 with ⟨stop, qq⟩ | ⟨go, Nx, hNx, step⟩
    · refine thnF (T.done (X.blk s3 H3 scope ce fp) rfl rfl rfl hc i [] s5 _ H5 (fun _ _ => False) I5 (stat I5 n5) st5 stop) fun r s6 ⟨hr, I6⟩ => ?_
      subst hr
      have I7 : Inv X pins σ H5 s6 := I3.call' (ch := fp) I6.os I6.base I6.hok I6.bare fun b hb => ⟨(f3 b hb).1.2.2.2.1, (f3 b hb).1.2.1, (f3 b hb).1.2.2.2.2.1, (f3 b hb).1.2.2.2.2.2⟩
      have nC : H5 s3.heap.objs.size = none := by
        have z : H5 ce.locals = none := I6.free
        rw [cL] at z
        exact z
      obtain ⟨m, hn, _⟩ := I6.loc
      have hn : s6.heap.Ns ce.locals m := hn
      rw [cL] at hn
      exact hRR D s3.heap.objs.size s6 m H5 I7 qq hn (I3.fpOk (Nat.le_refl _) nC)
    · refine thnF (T.item (X.blk s3 H3 scope ce fp) rfl rfl rfl hc i [] s5 _ H5 (fun _ _ => False) I5 (stat I5 n5) st5 go) fun r s6 ⟨u, hr, h6⟩ => ?_
      subst hr
      refine thnF h6 fun _ s7 ⟨x, H7, I7, r7, y7, st7, n7⟩ => ?_
      have I7' := I7.pinned (stat I7 n7) (T.obj _ _ st7)
      refine thnF (pg.run _ s7 _ H7 x u _ I7' r7 (step x H7 y7)) fun _ s8 ⟨σ8, H8, I8, hw8, q8⟩ => ?_
      refine thnF (pt.run _ s8 σ8 H8 _ I8 q8) fun b s9 ⟨H9, I9, q9⟩ => ?_
      have fin : ∀ {τ : L2.St} {s' : Shared} {H' : Hp}, Inv (X.blk s3 H3 scope ce fp) ([] ++ pinsAt fp s7.heap) τ H' s' → (wipe σ (own.map (·.2))).length = τ.length → (∀ (j : Nat) v, (wipe σ (own.map (·.2)))[j]? = some (some v) → τ[j]? = some (some v)) → Nx H' →
          ∃ m, m < n ∧ ∃ i H', Inv (X.blk s3 H3 scope ce fp) [] (wipe σ (own.map (·.2))) H' s' ∧ tn i s'.heap ∧ (∀ b ∈ fp, H' b = none) ∧ W i m H' := fun {τ s' H'} I' hl hk nx => by
        obtain ⟨m', hm, w'⟩ := hNx H' nx
        have pin' : ∀ b ∈ fp, ∀ o, s7.heap.get? b = some o → s'.heap.get? b = some o ∧ H' b = none := fun b hb o e =>
          let z := I'.pin (b, o) (List.mem_append_right _ (List.mem_append_right _ (mem_pinsAt hb e)))
          ⟨z.1, z.2.1⟩
        refine ⟨m', hm, i + 1, H', (I'.unpinned (pins := [])).weak hl hk, T.keep _ _ _ st7 fun b hb o e => (pin' b hb o e).1, fun b hb => ?_, w'⟩
        obtain ⟨o, e, _⟩ := T.obj _ _ st7 b hb
        exact (pin' b hb o e).2
      have hl8 : (wipe σ (own.map (·.2))).length = σ8.length := by rw [← hw8, wipe_length]
      cases b with
      | false =>
        simp only [Bool.false_eq_true, if_false] at q9 ⊢
        exact fin I9 hl8 (fun j v e => (wipe_some (hw8 ▸ e : (wipe σ8 (own.map (·.2)))[j]? = some (some v))).1) q9
      | true =>
        simp only [if_true] at q9 ⊢
        refine fun k2 Q2 E2 h2 => pb _ s9 σ8 H9 Nx I9 q9 k2 Q2 E2 fun s10 ⟨H10, I10, q10⟩ => h2 s10 ?_
        exact fin I10 (hl8.trans (wipe_length σ8 ws).symm) (fun j v e => wipe_keep hw8 hw j v e) q10
  exact start_any hp (by rw [hcl]; rfl) rfl loop (T.self X.A 0 _ _ _ st4 loop)
/-- a value that is gathered -/
theorem pe_gc {c : Expr} {tg iter : Expr} {ifs : List Expr} {gs : List Comprehension} {scope : Scope} {own : List (Str × Nat)} {ws : List Nat} {pos' : Pos} {newAcc : Sem Value} {o0 : HO} {ob : Obj} {bd : Addr → Env → Sem Fin → Sem Fin} {wi : TI} {g : TG} {tt : TT} {tb : Addr → (Hp → Prop) → L2.St → Hp → Prop}
    (hev : eval c X.env = comprehension c scope X.env pos' newAcc false (eval iter X.env)) (hp : Plain c) (hcl : clausesOf c = ⟨tg, iter, ifs, 0⟩ :: gs) (hto : Into X newAcc o0 ob) (hturn : ∀ D it ce, compTurn c 0 it (.ref D) ce = turnOf c 0 it (.ref D) ce tg iter ifs (bd D ce))
    (hc : X.calm = true) (hN : X.N.Nodup) (hi : PI X tg iter wi) (ok : BlkOk X.N X.env.scope scope own) (hw : ∀ j ∈ ws, j ∈ own.map (·.2))
    (hg : ∀ (s : Shared) (H : Hp) (C : Addr) (cl : List (Str × Addr)) (fp : List Addr), PG (X.blk s H scope (compEnvC scope cl C X.env) fp) tg g) (ht : ∀ (s : Shared) (H : Hp) (C : Addr) (cl : List (Str × Addr)) (fp : List Addr), PTs (X.blk s H scope (compEnvC scope cl C X.env) fp) ifs tt)
    (hb : ∀ (D : Addr) (s : Shared) (H : Hp) (C : Addr) (cl : List (Str × Addr)) (fp : List Addr), Body (X.blk s H scope (compEnvC scope cl C X.env) fp) (bd D (compEnvC scope cl C X.env)) ws (tb D))
    (hs : ∀ x, foldedSetIterable iter X.env x = pure x := by intro _; rfl) : PE X c (tGc o0 wi g tt (own.map (·.2)) tb) := by
  refine ⟨fun pins s σ H Q I h => ?_⟩
  rw [hev]
  refine gc_core hp hcl hto hturn hc hN I hi ok hw hg ht hb hs h fun D C s' m H' I' q hn f => ⟨m, hn, fun h'' sb => ?_⟩
  obtain ⟨f0, f1, f2, f3, f4, f5⟩ := f
  exact ⟨.ref D, H', I'.turned (t' := s'.toks) (fun b o hb e => (sb.2 b hb).trans e) f0 f1 f3 f4 f5, rfl, q⟩
/-- name = what is gathered, on one line -/
theorem ps_setGc {i : Nat} {y : Str} {py : Pos} {c : Expr} {tg iter : Expr} {ifs : List Expr} {gs : List Comprehension} {scope : Scope} {own : List (Str × Nat)} {ws : List Nat} {pos' spos : Pos} {newAcc : Sem Value} {o0 : HO} {ob : Obj} {bd : Addr → Env → Sem Fin → Sem Fin} {wi : TI} {g : TG} {tt : TT} {tb : Addr → (Hp → Prop) → L2.St → Hp → Prop}
    (hy : X.N[i]? = some y) (hyl : X.env.scope.names.lookup y = some .local) (hsw : swapsWith c (some (.Name y py)) spos.line X.env = pure true)
    (hex : ∀ use, evalThenUse c X.env use = (do let _ ← comprehension c scope X.env pos' newAcc false (eval iter X.env) (some use)))
    (hp : Plain c) (hcl : clausesOf c = ⟨tg, iter, ifs, 0⟩ :: gs) (hto : Into X newAcc o0 ob) (hturn : ∀ D it ce, compTurn c 0 it (.ref D) ce = turnOf c 0 it (.ref D) ce tg iter ifs (bd D ce))
    (hc : X.calm = true) (hN : X.N.Nodup) (hi : PI X tg iter wi) (ok : BlkOk X.N X.env.scope scope own) (hw : ∀ j ∈ ws, j ∈ own.map (·.2))
    (hg : ∀ (s : Shared) (H : Hp) (C : Addr) (cl : List (Str × Addr)) (fp : List Addr), PG (X.blk s H scope (compEnvC scope cl C X.env) fp) tg g) (ht : ∀ (s : Shared) (H : Hp) (C : Addr) (cl : List (Str × Addr)) (fp : List Addr), PTs (X.blk s H scope (compEnvC scope cl C X.env) fp) ifs tt)
    (hb : ∀ (D : Addr) (s : Shared) (H : Hp) (C : Addr) (cl : List (Str × Addr)) (fp : List Addr), Body (X.blk s H scope (compEnvC scope cl C X.env) fp) (bd D (compEnvC scope cl C X.env)) ws (tb D))
    (hs : ∀ x, foldedSetIterable iter X.env x = pure x := by intro _; rfl) : PS X (.Assign [.Name y py] c spos) (tAsg (tGc o0 wi g tt (own.map (·.2)) tb) (gName i)) := by
  refine ⟨fun pins s σ H D I h => ?_⟩
  rw [exec_Assign_Name_used _ _ _ _ hsw, hex]
  refine wpAny_bind (wpAny_standAt (wpAny_bind (wpAny_bind ?_)))
  have h : tGc o0 wi g tt (own.map (·.2)) tb σ H (fun x H1 => gName i x σ H1 D.nx) := h
  refine thn (gc_core (Qf := fun _ s' => SP X pins D .next s') hp hcl hto hturn hc hN I hi ok hw hg ht hb hs h fun L C s' m H' I' q hn f => ?_) fun _ s' hq => wpAny_pure (wpAny_pure hq)
  show wpAny _ _ (assign (.Name y py) X.env (.ref L)) _ _ _
  refine wpAny_assign_Name (store_ok2 (v := V.ref L) I' hN hy (.inl hyl) rfl (fun s2 I2 ⟨a, sb, ha⟩ => ?_) (.inr hyl))
  obtain ⟨f0, f1, f2, f3, f4, f5⟩ := f
  have haC : C ≠ a := by
    rcases ha with z | z
    · rw [z]
      exact f1
    · exact fun e => f4 y a z e.symm
  refine ⟨m, hn.sameBut sb haC, fun h3 sb3 => ?_⟩
  exact ⟨_, H', I2.turned (t' := s2.toks) (fun b o hb e => (sb3.2 b hb).trans e) f0 f1 f3 f4 f5, q⟩
/-- an item for a list -/
def tbL (te : TE) : Addr → (Hp → Prop) → L2.St → Hp → Prop := fun D Nx σ H => te σ H fun y H4 => ∃ acc, H4 D = some (.lst acc) ∧ acc.length < sizeLine ∧ Nx (upd H4 D (.lst (acc ++ [y])))
def bdL (elt : Expr) : Addr → Env → Sem Fin → Sem Fin := fun D env k => do
  (do
    let _ ← call (.builtin "list.append") [.ref D, ← eval elt env]
    pure PUnit.unit : Sem PUnit)
  k
theorem body_list {s0 : Shared} {H0 : Hp} {scope : Scope} {ce : Env} {fp : List Addr} {elt : Expr} {te : TE} {D : Addr} (he : PE (X.blk s0 H0 scope ce fp) elt te) : Body (X.blk s0 H0 scope ce fp) (bdL elt D ce) [] (tbL te D) := by
  intro pins s σ H Nx I h kk QQ EE hkk
  unfold bdL
  refine wpAny_bind (wpAny_bind (thnF (he.run pins s σ H _ I h) fun z s1 ⟨yv, H1, I1, r1, acc, hD, hz, nx⟩ => ?_))
  exact wpAny_bind (app_ok (X := X.blk s0 H0 scope ce fp) I1 hD hz r1 fun s2 I2 => wpAny_pure (hkk s2 ⟨_, I2, nx⟩))
/-- a key and a value for a dict -/
def tbD (tk tv : TE) : Addr → (Hp → Prop) → L2.St → Hp → Prop := fun D Nx σ H => tk σ H fun y H1 => tv σ H1 fun z H2 => ∃ H3, DPut H2 D y z H3 ∧ Nx H3
def bdD (k v : Expr) : Addr → Env → Sem Fin → Sem Fin := fun D env kk => do
  (do
    let kv ← eval k env
    let vv ← holding [kv] (eval v env)
    standAt { k.pos with endLine := v.pos.endLine, endCol := v.pos.endCol }
    holding [kv, vv] (dictSet D kv vv) : Sem Unit)
  kk
theorem d_putAny {pins : List (Addr × Obj)} {σ : L2.St} {H H' : Hp} {s : Shared} {E : Value → Shared → Prop} {a : Addr} {y v : V} {u r : Value} {Q : Unit → Shared → Prop} (hu : X.A.units + 1 < cLine) (I : Inv X pins σ H s) (g : DPut H a y v H') (ry : RelV y u) (rv : RelV v r)
    (h : ∀ s', Inv X pins σ H' s' → Q () s') : wpAny (model X.prog X.w) X.A (dictSet a u r) Q E s := by
  rcases g with ⟨kvs, k, e, ey, l, eH⟩ | ⟨kvs, k, b, e, ey, eb, l, eH⟩
  · subst ey eH
    exact d_dictSet I e l ry rv h
  · subst ey eH
    cases (show u = Value.ref b from ry)
    obtain ⟨z, hd, xs, rel, dd⟩ := dt_of I.hok e
    have hz : xs.length ≤ sizeLine := by
      rw [← Paired.length rel]
      exact z
    have hl : (putK kvs k v).length ≤ sizeLine := by
      have := length_putK kvs k v
      omega
    refine wpAny_dictSet_heap (hsz := hz) (show X.A.units < cLine by omega) (key_of I.hok eb) dd fun h' dd' hs => h _ ?_
    obtain ⟨q, es, ep, hq, h2, h3, h4, _, h5⟩ := dd'
    refine d_write I (by rw [e]; exact True.intro) hs ⟨q, hq⟩ ⟨hl, hd, _, (rel.put k eb rv).keeps fun c ys ec => ?_, q, es, ep, hq, h2, h3, h4, h5⟩
    rw [upd_ne (ne_of ec e (fun z => nomatch z))]
    exact ec
theorem body_dict {s0 : Shared} {H0 : Hp} {scope : Scope} {ce : Env} {fp : List Addr} {k v : Expr} {tk tv : TE} {D : Addr} (hu : X.A.units + 1 < cLine) (hk : PE (X.blk s0 H0 scope ce fp) k tk) (hv : PE (X.blk s0 H0 scope ce fp) v tv) :
    Body (X.blk s0 H0 scope ce fp) (bdD k v D ce) [] (tbD tk tv D) := by
  intro pins s σ H Nx I h kk QQ EE hkk
  unfold bdD
  refine wpAny_bind (wpAny_bind (thnF (hk.run pins s σ H _ I h) fun z s1 ⟨y, H1, I1, r1, q1⟩ => ?_))
  refine wpAny_bind (wpAny_holding (thnF (hv.run pins s1 σ H1 _ I1 q1) fun z2 s2 ⟨y2, H2, I2, r2, H3, p3, nx⟩ => ?_))
  exact wpAny_bind (wpAny_standAt (wpAny_holding (d_putAny (X := X.blk s0 H0 scope ce fp) hu I2 p3 r1 r2 fun s3 I3 => hkk s3 ⟨_, I3, nx⟩)))
end
end Gc

set_option Elab.async false
set_option maxRecDepth 100000
set_option maxHeartbeats 4000000
namespace Gc
open PySem PySem.Spec PyProof.Rows L2
theorem sw_dict {k v : Expr} {gs : List Comprehension} {scope : Scope} {pos py : Pos} {y : Str} {l : Nat} {env : Env} (hk : env.scope.kind = .function) (hy : env.scope.names.lookup y = some .local) (hl : (py.line == pos.line) = true)
    (ha : (scope.names.any fun (n, k) => n == y && (k == .local || k == .cell)) = false) : swapsWith (.DictComp k v gs scope pos) (some (.Name y py)) l env = pure true := by
  have ky : env.kindOf y = some .local := hy
  have hb : env.blockKind = .function := by
    unfold Env.blockKind
    rw [hk]
    rfl
  unfold swapsWith
  simp only [hb, ky, ha, Expr.pos, hl]
  rfl
section
variable {X : Cx}
/-- name = {k: v for tg in iter if ..} -/
theorem ps_setD {i : Nat} {y : Str} {py : Pos} {kx vx tg iter : Expr} {ifs : List Expr} {scope : Scope} {own : List (Str × Nat)} {pos spos : Pos} {o0 : HO} {wi : TI} {g : TG} {tt : TT} {tk tv : TE} (hto : Into X newDict o0 { cls := .type "dict", data := .dict #[] })
    (hu : X.A.units + 1 < cLine) (hc : X.calm = true) (hN : X.N.Nodup) (hy : X.N[i]? = some y) (hyl : X.env.scope.names.lookup y = some .local) (hsw : swapsWith (.DictComp kx vx [⟨tg, iter, ifs, 0⟩] scope pos) (some (.Name y py)) spos.line X.env = pure true)
    (hi : PI X tg iter wi) (ok : BlkOk X.N X.env.scope scope own)
    (hg : ∀ (s : Shared) (H : Hp) (C : Addr) (cl : List (Str × Addr)) (fp : List Addr), PG (X.blk s H scope (compEnvC scope cl C X.env) fp) tg g) (ht : ∀ (s : Shared) (H : Hp) (C : Addr) (cl : List (Str × Addr)) (fp : List Addr), PTs (X.blk s H scope (compEnvC scope cl C X.env) fp) ifs tt)
    (hk : ∀ (s : Shared) (H : Hp) (C : Addr) (cl : List (Str × Addr)) (fp : List Addr), PE (X.blk s H scope (compEnvC scope cl C X.env) fp) kx tk) (hv : ∀ (s : Shared) (H : Hp) (C : Addr) (cl : List (Str × Addr)) (fp : List Addr), PE (X.blk s H scope (compEnvC scope cl C X.env) fp) vx tv)
    (hs : ∀ x, foldedSetIterable iter X.env x = pure x := by intro _; rfl) : PS X (.Assign [.Name y py] (.DictComp kx vx [⟨tg, iter, ifs, 0⟩] scope pos) spos) (tAsg (tGc o0 wi g tt (own.map (·.2)) (tbD tk tv)) (gName i)) :=
  ps_setGc (ws := []) (bd := bdD kx vx) hy hyl hsw (fun _ => rfl) (plain_dict _ _ _ _ _) rfl hto (fun _ _ _ => rfl) hc hN hi ok (fun _ z => nomatch z) hg ht (fun D s H C cl fp => body_dict hu (hk s H C cl fp) (hv s H C cl fp)) hs
/-- {k: v for tg in iter if ..} -/
theorem pe_D {kx vx tg iter : Expr} {ifs : List Expr} {scope : Scope} {own : List (Str × Nat)} {pos : Pos} {o0 : HO} {wi : TI} {g : TG} {tt : TT} {tk tv : TE} (hto : Into X newDict o0 { cls := .type "dict", data := .dict #[] })
    (hu : X.A.units + 1 < cLine) (hc : X.calm = true) (hN : X.N.Nodup) (hi : PI X tg iter wi) (ok : BlkOk X.N X.env.scope scope own)
    (hg : ∀ (s : Shared) (H : Hp) (C : Addr) (cl : List (Str × Addr)) (fp : List Addr), PG (X.blk s H scope (compEnvC scope cl C X.env) fp) tg g) (ht : ∀ (s : Shared) (H : Hp) (C : Addr) (cl : List (Str × Addr)) (fp : List Addr), PTs (X.blk s H scope (compEnvC scope cl C X.env) fp) ifs tt)
    (hk : ∀ (s : Shared) (H : Hp) (C : Addr) (cl : List (Str × Addr)) (fp : List Addr), PE (X.blk s H scope (compEnvC scope cl C X.env) fp) kx tk) (hv : ∀ (s : Shared) (H : Hp) (C : Addr) (cl : List (Str × Addr)) (fp : List Addr), PE (X.blk s H scope (compEnvC scope cl C X.env) fp) vx tv)
    (hs : ∀ x, foldedSetIterable iter X.env x = pure x := by intro _; rfl) : PE X (.DictComp kx vx [⟨tg, iter, ifs, 0⟩] scope pos) (tGc o0 wi g tt (own.map (·.2)) (tbD tk tv)) :=
  pe_gc (ws := []) (bd := bdD kx vx) (arm_eval_DictComp _ _ _ _ _ _) (plain_dict _ _ _ _ _) rfl hto (fun _ _ _ => rfl) hc hN hi ok (fun _ z => nomatch z) hg ht (fun D s H C cl fp => body_dict hu (hk s H C cl fp) (hv s H C cl fp)) hs
/-- [e for a in x for b in y for c in z] -/
theorem pe_L3 {elt t0 i0 t1 i1 t2 i2 : Expr} {scope : Scope} {own : List (Str × Nat)} {v1 v2 : List Nat} {pos : Pos} {w0 w1 w2 : TI} {g0 g1 g2 : TG} {te : TE} (hc : X.calm = true) (hN : X.N.Nodup) (hi : PI X t0 i0 w0) (ok : BlkOk X.N X.env.scope scope own) (h1 : ∀ j ∈ v1, j ∈ own.map (·.2)) (h2 : ∀ j ∈ v2, j ∈ v1)
    (hg0 : ∀ (s : Shared) (H : Hp) (C : Addr) (cl : List (Str × Addr)) (fp : List Addr), PG (X.blk s H scope (compEnvC scope cl C X.env) fp) t0 g0)
    (hi1 : ∀ (s : Shared) (H : Hp) (C : Addr) (cl : List (Str × Addr)) (fp : List Addr), PI (X.blk s H scope (compEnvC scope cl C X.env) fp) t1 i1 w1) (hg1 : ∀ (s : Shared) (H : Hp) (C : Addr) (cl : List (Str × Addr)) (fp : List Addr), PG (X.blk s H scope (compEnvC scope cl C X.env) fp) t1 g1)
    (hi2 : ∀ (s : Shared) (H : Hp) (C : Addr) (cl : List (Str × Addr)) (fp : List Addr), PI (X.blk s H scope (compEnvC scope cl C X.env) fp) t2 i2 w2) (hg2 : ∀ (s : Shared) (H : Hp) (C : Addr) (cl : List (Str × Addr)) (fp : List Addr), PG (X.blk s H scope (compEnvC scope cl C X.env) fp) t2 g2)
    (he : ∀ (s : Shared) (H : Hp) (C : Addr) (cl : List (Str × Addr)) (fp : List Addr), PE (X.blk s H scope (compEnvC scope cl C X.env) fp) elt te)
    (hs : ∀ x, foldedSetIterable i0 X.env x = pure x := by intro _; rfl) (hs1 : ∀ env x, foldedSetIterable i1 env x = pure x := by intro _ _; rfl) (hs2 : ∀ env x, foldedSetIterable i2 env x = pure x := by intro _ _; rfl) :
    PE X (.ListComp elt [⟨t0, i0, [], 0⟩, ⟨t1, i1, [], 0⟩, ⟨t2, i2, [], 0⟩] scope pos) (tGc (.lst []) w0 g0 tYes (own.map (·.2)) (fun D => tIn w1 g1 tYes v1 (tIn w2 g2 tYes v2 (tbL te D)))) :=
  pe_gc (ws := v1) (bd := fun D env => deeper (.ListComp elt [⟨t0, i0, [], 0⟩, ⟨t1, i1, [], 0⟩, ⟨t2, i2, [], 0⟩] scope pos) 1 (.ref D) env i1) (eval_ListComp _ _ _ _) (plain_list _ _ _ _) rfl into_list (fun _ _ _ => rfl) hc hN hi ok h1 hg0 (fun _ _ _ _ _ => pts_nil)
    (fun D s H C cl fp => body_in hc (plain_list _ _ _ _) (bd := deeper (.ListComp elt [⟨t0, i0, [], 0⟩, ⟨t1, i1, [], 0⟩, ⟨t2, i2, [], 0⟩] scope pos) 2 (.ref D) (compEnvC scope cl C X.env) i2) (fun _ => rfl) rfl (hs1 _) (hi1 s H C cl fp) (hg1 s H C cl fp) pts_nil
      (body_in hc (plain_list _ _ _ _) (bd := bdL elt D (compEnvC scope cl C X.env)) (ws := []) (fun _ => rfl) rfl (hs2 _) (hi2 s H C cl fp) (hg2 s H C cl fp) pts_nil (body_list (he s H C cl fp)) (fun _ z => nomatch z)) h2) hs
end
end Gc

set_option Elab.async false
set_option maxRecDepth 100000
/-! The pen: a dict that every law draws from. -/
namespace Fk
open PySem L2
abbrev sPen : Stmt := top 34
abbrev sDraw : Stmt := top 35
abbrev sPick : Stmt := top 36
/-! ### the dict of a pen -/
theorem n_ca : ¬ (("cells" : Str) = "at") := by decide +kernel
theorem n_cd : ¬ (("cells" : Str) = "digits") := by decide +kernel
theorem n_cc : ¬ (("cells" : Str) = "count") := by decide +kernel
theorem n_cf : ¬ (("cells" : Str) = "fold") := by decide +kernel
theorem n_ac : ¬ (("at" : Str) = "cells") := by decide +kernel
theorem n_ad : ¬ (("at" : Str) = "digits") := by decide +kernel
theorem n_an : ¬ (("at" : Str) = "count") := by decide +kernel
theorem n_af : ¬ (("at" : Str) = "fold") := by decide +kernel
theorem n_dc : ¬ (("digits" : Str) = "cells") := by decide +kernel
theorem n_da : ¬ (("digits" : Str) = "at") := by decide +kernel
theorem n_dn : ¬ (("digits" : Str) = "count") := by decide +kernel
theorem n_df : ¬ (("digits" : Str) = "fold") := by decide +kernel
theorem n_nc : ¬ (("count" : Str) = "cells") := by decide +kernel
theorem n_na : ¬ (("count" : Str) = "at") := by decide +kernel
theorem n_nd : ¬ (("count" : Str) = "digits") := by decide +kernel
theorem n_nf : ¬ (("count" : Str) = "fold") := by decide +kernel
theorem n_fc : ¬ (("fold" : Str) = "cells") := by decide +kernel
theorem n_fa : ¬ (("fold" : Str) = "at") := by decide +kernel
theorem n_fd : ¬ (("fold" : Str) = "digits") := by decide +kernel
theorem n_fn : ¬ (("fold" : Str) = "count") := by decide +kernel
def penK (l : Addr) (a d c f : Int) : List (Key × V) := [(Sum.inr "cells", .ref l), (Sum.inr "at", .int a), (Sum.inr "digits", .int d), (Sum.inr "count", .int c), (Sum.inr "fold", .int f)]
section
variable {l : Addr} {a d c f y : Int} {H : Hp} {p : Addr}
theorem put_at : putK (penK l a d c f) (Sum.inr "at") (.int y) = penK l y d c f := by
  simp only [putK, penK, List.any_cons, List.map_cons, List.map_nil, Sum.inr.injEq, n_ca, n_da, n_na, n_fa, decide_true, decide_false, Bool.true_or, Bool.or_true, if_true, if_false]
theorem put_digits : putK (penK l a d c f) (Sum.inr "digits") (.int y) = penK l a y c f := by
  simp only [putK, penK, List.any_cons, List.map_cons, List.map_nil, Sum.inr.injEq, n_cd, n_ad, n_nd, n_fd, decide_true, decide_false, Bool.true_or, Bool.or_true, if_true, if_false]
theorem put_count : putK (penK l a d c f) (Sum.inr "count") (.int y) = penK l a d y f := by
  simp only [putK, penK, List.any_cons, List.map_cons, List.map_nil, Sum.inr.injEq, n_cc, n_an, n_dn, n_fn, decide_true, decide_false, Bool.true_or, Bool.or_true, if_true, if_false]
theorem put_fold : putK (penK l a d c f) (Sum.inr "fold") (.int y) = penK l a d c y := by
  simp only [putK, penK, List.any_cons, List.map_cons, List.map_nil, Sum.inr.injEq, n_cf, n_af, n_df, n_nf, decide_true, decide_false, Bool.true_or, Bool.or_true, if_true, if_false]
theorem put_new {kvs : List (Key × V)} {x : Str} {v : V} (h : ∀ kv ∈ kvs, ¬ kv.1 = Sum.inr x) : putK kvs (Sum.inr x) v = kvs ++ [(Sum.inr x, v)] := by
  unfold putK
  rw [if_neg]
  intro e
  rw [List.any_eq_true] at e
  obtain ⟨kv, hm, hd⟩ := e
  exact h kv hm (of_decide_eq_true hd)
theorem merge5 : mergeK [] (([(Sum.inr "cells", .ref l), (Sum.inr "at", .int a), (Sum.inr "digits", .int d), (Sum.inr "count", .int c), (Sum.inr "fold", .int f)] : List (Key × V))) = penK l a d c f := by
  show putK (putK (putK (putK (putK ([] : List (Key × V)) (Sum.inr "cells" : Key) (.ref l)) (Sum.inr "at" : Key) (.int a)) (Sum.inr "digits" : Key) (.int d)) (Sum.inr "count" : Key) (.int c)) (Sum.inr "fold" : Key) (.int f) = penK l a d c f
  simp only [putK, penK, List.any_nil, List.nil_append, List.any_cons, List.map_cons, List.map_nil, List.cons_append, Sum.inr.injEq, n_ca, n_cd, n_ad, n_cc, n_an, n_dn, n_cf, n_af, n_df, n_nf, decide_false, Bool.or_false, Bool.false_eq_true, if_false]
theorem val_cells : valV (penK l a d c f) (Sum.inr "cells") = some (.ref l) := valV_pos rfl
theorem val_at : valV (penK l a d c f) (Sum.inr "at") = some (.int a) := (valV_neg fun z => n_ca (Sum.inr.inj z)).trans (valV_pos rfl)
theorem val_digits : valV (penK l a d c f) (Sum.inr "digits") = some (.int d) := (valV_neg fun z => n_cd (Sum.inr.inj z)).trans ((valV_neg fun z => n_ad (Sum.inr.inj z)).trans (valV_pos rfl))
theorem val_count : valV (penK l a d c f) (Sum.inr "count") = some (.int c) := (valV_neg fun z => n_cc (Sum.inr.inj z)).trans ((valV_neg fun z => n_an (Sum.inr.inj z)).trans ((valV_neg fun z => n_dn (Sum.inr.inj z)).trans (valV_pos rfl)))
theorem val_fold : valV (penK l a d c f) (Sum.inr "fold") = some (.int f) := (valV_neg fun z => n_cf (Sum.inr.inj z)).trans ((valV_neg fun z => n_af (Sum.inr.inj z)).trans ((valV_neg fun z => n_df (Sum.inr.inj z)).trans ((valV_neg fun z => n_nf (Sum.inr.inj z)).trans (valV_pos rfl))))
theorem g_cells (h : H p = some (.dK (penK l a d c f))) : DGet H p (.str "cells") (some (.ref l)) := val_cells ▸ DGet.k (k := Sum.inr "cells") h
theorem g_at (h : H p = some (.dK (penK l a d c f))) : DGet H p (.str "at") (some (.int a)) := val_at ▸ DGet.k (k := Sum.inr "at") h
theorem g_digits (h : H p = some (.dK (penK l a d c f))) : DGet H p (.str "digits") (some (.int d)) := val_digits ▸ DGet.k (k := Sum.inr "digits") h
theorem g_count (h : H p = some (.dK (penK l a d c f))) : DGet H p (.str "count") (some (.int c)) := val_count ▸ DGet.k (k := Sum.inr "count") h
theorem g_fold (h : H p = some (.dK (penK l a d c f))) : DGet H p (.str "fold") (some (.int f)) := val_fold ▸ DGet.k (k := Sum.inr "fold") h
theorem len5 : (penK l a d c f).length < sizeLine := small1000 (by show 5 ≤ 1000; decide)
theorem p_at (h : H p = some (.dK (penK l a d c f))) : DPut H p (.str "at") (.int y) (upd H p (.dK (penK l y d c f))) := put_at ▸ DPut.k (k := Sum.inr "at") h len5
theorem p_digits (h : H p = some (.dK (penK l a d c f))) : DPut H p (.str "digits") (.int y) (upd H p (.dK (penK l a y c f))) := put_digits ▸ DPut.k (k := Sum.inr "digits") h len5
theorem p_count (h : H p = some (.dK (penK l a d c f))) : DPut H p (.str "count") (.int y) (upd H p (.dK (penK l a d y f))) := put_count ▸ DPut.k (k := Sum.inr "count") h len5
theorem p_fold (h : H p = some (.dK (penK l a d c f))) : DPut H p (.str "fold") (.int y) (upd H p (.dK (penK l a d c y))) := put_fold ▸ DPut.k (k := Sum.inr "fold") h len5
end
/-- a pen stands at p, c draws were made -/
structure PenAt (H : Hp) (p l : Addr) (c : Int) : Prop where
  ex : ∃ (a d f : Int) (ns : List Int), H p = some (.dK (penK l a d c f)) ∧ H l = some (.lst (ns.map V.int)) ∧ 0 ≤ a ∧ 0 ≤ d ∧ 0 ≤ f ∧ f < 2147483648 ∧ ns.length ≤ 63
  lo : 0 ≤ c
/-- all but what stands at p is as it was -/
def Keep (p : Addr) (H H' : Hp) : Prop := ∀ b o, b ≠ p → H b = some o → H' b = some o
theorem Keep.refl (p : Addr) (H : Hp) : Keep p H H := fun _ _ _ e => e
theorem Keep.trans {p : Addr} {H H1 H2 : Hp} (a : Keep p H H1) (b : Keep p H1 H2) : Keep p H H2 := fun c o n e => b c o n (a c o n e)
theorem Keep.upd {p : Addr} {H : Hp} {o : HO} : Keep p H (upd H p o) := fun b x n e => by
  rw [upd_ne n]
  exact e
theorem Keep.new {p q : Addr} {H : Hp} {o : HO} (h : H q = none) : Keep p H (L2.upd H q o) := fun b x n e => by
  rw [upd_ne (ne_of_none e h)]
  exact e
theorem same_new {H : Hp} {q : Addr} {o : HO} (h : H q = none) : Same H (upd H q o) := fun b x e => by
  rw [upd_ne (ne_of_none e h)]
  exact e
theorem Same.keep {p : Addr} {H H' : Hp} (a : Same H H') : Keep p H H' := fun b o _ e => a b o e
theorem Keep.there {p b : Addr} {H H' : Hp} {o u : HO} (k : Keep p H H') (hp : H p = some u) (h : H b = some o) (d : o ≠ u) : H' b = some o := k b o (fun e => d (by rw [e] at h; exact Option.some.inj (h.symm.trans hp))) h
/-- a pen at p stays where something else is written -/
theorem PenAt.upd {H : Hp} {p l q : Addr} {c : Int} {o : HO} (P : PenAt H p l c) (n : H q = none) : PenAt (L2.upd H q o) p l c := by
  obtain ⟨⟨a, d, f, ns, h1, h2, r⟩, lo⟩ := P
  exact ⟨⟨a, d, f, ns, same_new n _ _ h1, same_new n _ _ h2, r⟩, lo⟩
theorem at_ints {ns : List Int} {i : Nat} {z : Int} (h : ns[i]? = some z) : atI (ns.map V.int) (i : Int) = some (.int z) := atI_nat (by rw [List.getElem?_map, h] <;> rfl)
/-! ### the promises -/
def spPen (K : PySem.W.Frag) : Sp := fun vs H Q _ => ∃ (a : Addr) (ns : List Int), vs = [.ref a] ∧ SqL K H a (ns.map V.int) ∧ ns.length ≤ 63 ∧ ∀ p l H', Same H H' → H p = none → H l = none → PenAt H' p l 0 → Q (.ref p) H'
def spDraw : Sp := fun vs H Q _ => ∃ (p l : Addr) (c many : Int), vs = [.ref p, .int many] ∧ PenAt H p l c ∧ c < 1000000000 ∧ 0 < many ∧ many < 1073741824 ∧
  ∀ (r : Int) (H' : Hp), 0 ≤ r → r < many → PenAt H' p l (c + 1) → Keep p H H' → Q (.int r) H'
def spPick : Sp := fun vs H Q _ => ∃ (p l q : Addr) (c : Int) (xs : List V), vs = [.ref p, .ref q] ∧ PenAt H p l c ∧ c < 1000000000 ∧ H q = some (.lst xs) ∧ 0 < xs.length ∧ xs.length ≤ 1000 ∧
  ∀ (i : Nat) (x : V) (H' : Hp), xs[i]? = some x → PenAt H' p l (c + 1) → Keep p H H' → Q x H'
section
variable {P : Program} {w : World} {K : PySem.W.Frag} {mg : Str → Option Value} {base : Heap}
theorem scPen : FnScope ["_law_script", "_law_fold", "_law_cell"] ["_law_script"] (defScope sPen) := ⟨rfl, rfl, rfl, by decide +kernel, rfl, by decide +kernel, by decide +kernel⟩
theorem ok_pen {k : Nat} {f : Addr} {fd : FuncData} (F : Fun K "_law_pen" "_law_pen" sPen f fd) (mi : mg "int" = none) (ml : mg "list" = none) : FnOk P w K mg base CX0 (k + 1) f fd ["_law_script"] (spPen K) := by
  refine F.ok scPen (fun vs H Q E h => ?_) (fun cdv A outer s H vs Q E hr h => ?_)
  · obtain ⟨a, ns, rfl, _⟩ := h
    rfl
  · obtain ⟨a, ns, rfl, hS, hl, k⟩ := h
    refine ⟨_, pss_cons (ps_set (i := 1) scPen.nd rfl (Or.inl rfl) pe_int)
      (pss_cons (ps_for PassesOwn.never rfl (pi_list (pv 0)) (pg_name (i := 2) scPen.nd rfl (Or.inl rfl))
        (pss_one (ps_set (i := 1) scPen.nd rfl (Or.inl rfl) (pe_op op_mod (pe_callTy call_int1 (by rfl) mi (by decide +kernel) (pa_cons (pe_op op_add (pe_op op_mul (pv 1) pe_int) (pv 2)) pa_nil)) pe_int))))
      (pss_one (ps_ret (pe_disp (pps_cons pe_str (pe_callTy call_list_of (by rfl) ml (by decide +kernel) (pa_cons (pv 0) pa_nil)) (pps_cons pe_str pe_int (pps_cons pe_str pe_int (pps_cons pe_str pe_int (pps_cons pe_str (pv 1) pps_nil))))) (by rfl) (by rfl) (fun z => by cases z) (by decide))))), ?_⟩
    refine ⟨_, rfl, a, rfl, ⟨_, hS⟩, for_list (K := K) (a := a) (xs := ns.map V.int) (fun i σ H2 => ∃ (z : Int) (v : Option V), σ = [some (.ref a), some (.int z), v] ∧ H2 = H ∧ 0 ≤ z ∧ z < 1000000007)
      ⟨0, none, rfl, rfl, by decide, by decide⟩ (fun i σ H2 _ ⟨_, _, _, e, _⟩ => e ▸ hS) ?_ ?_⟩
    · rintro i y σ H2 hi ⟨z, v, rfl, rfl, z0, z1⟩
      obtain ⟨n, rfl⟩ : ∃ n, y = V.int n := by
        rw [List.getElem?_map] at hi
        cases e : ns[i]? with
        | none =>
          rw [e] at hi
          cases hi
        | some n =>
          rw [e] at hi
          exact ⟨n, (Option.some.inj hi).symm⟩
      refine ⟨_, rfl, _, _, rfl, rfl, Or.inr ⟨by decide, by decide⟩, _, rfl, _, _, rfl, rfl, Or.inl ⟨_, rfl, _, _, rfl, rfl, (by show (0 : Int) < 1000000007; decide), ?_⟩⟩
      exact ⟨_, _, rfl, rfl, Int.emod_nonneg _ (by decide), Int.emod_lt_of_pos _ (by decide)⟩
    · rintro σ H2 ⟨z, v, rfl, rfl, z0, z1⟩
      intro p hp
      refine ⟨_, rfl, a, _, rfl, Or.inl ((same_new hp).seq hS), fun l hl' => ?_⟩
      have lp : p ≠ l := ne_of_none upd_same hl'
      refine ⟨_, rfl, ?_, [(Sum.inr "cells", .ref l), (Sum.inr "at", .int 0), (Sum.inr "digits", .int 0), (Sum.inr "count", .int 0), (Sum.inr "fold", .int z)], rfl, by show 5 ≤ 15; decide, ?_⟩
      · rw [upd_ne lp, upd_same]
      · have nl : H2 l = none := by
          rw [upd_ne lp.symm] at hl'
          exact hl'
        refine k p l _ (fun b o e => ?_) hp nl ⟨⟨0, 0, z, ns, ?_, ?_, by decide, by decide, z0, by omega, hl⟩, by decide⟩
        · rw [upd_ne (ne_of_none e hp), upd_ne (ne_of_none e nl), upd_ne (ne_of_none e hp)]
          exact e
        · rw [upd_same, merge5]
        · rw [upd_ne lp.symm, upd_same]
theorem scDraw : FnScope ["_law_pen_here", "_law_many", "_law_cell", "_law_digit", "_law_blend"] ["_law_pen_here", "_law_many"] (defScope sDraw) := ⟨rfl, rfl, rfl, by decide +kernel, rfl, by decide +kernel, by decide +kernel⟩
theorem ok_draw {k : Nat} {f : Addr} {fd : FuncData} (F : Fun K "_law_draw" "_law_draw" sDraw f fd) (mi : mg "int" = none) (ml : mg "len" = none) : FnOk P w K mg base CX0 (k + 1) f fd ["_law_pen_here", "_law_many"] spDraw := by
  refine F.ok scDraw (fun vs H Q E h => ?_) (fun cdv A outer s H vs Q E hr h => ?_)
  · obtain ⟨p, l, c, many, rfl, _⟩ := h
    rfl
  · obtain ⟨p, l, c, many, rfl, ⟨⟨a, d, fo, ns, hp, hl, a0, d0, f0, f1, hn⟩, c0⟩, c1, m0, m1, k⟩ := h
    have hu := hu_of hr
    refine ⟨_, pss_cons (ps_dput hu (pv 0) pe_str (pe_op op_add (pe_dget hu (pv 0) pe_str (fun _ _ => rfl)) pe_int) rfl)
      (C8.pss_cut (ps_if (PW.pt (pw_and (pt_cmpR op_eq (pe_dget hu (pv 0) pe_str (fun _ _ => rfl)) pe_int (nomark _)) (pw_and1 (pt_cmpR op_lt (pe_dget hu (pv 0) pe_str (fun _ _ => rfl)) (pe_callB call_len_seq (by rfl) ml PySem.boot_len (pa_cons (pe_dget hu (pv 0) pe_str (fun _ _ => rfl)) pa_nil)) (nomark _)))))
          (pss_cons (ps_set (i := 2) scDraw.nd rfl (Or.inl rfl) (pe_ix ix_list (pe_dget hu (pv 0) pe_str (fun _ _ => rfl)) (pe_dget hu (pv 0) pe_str (fun _ _ => rfl)) (fun _ _ => rfl)))
          (pss_cons (ps_dput hu (pv 0) pe_str (pe_op op_add (pe_dget hu (pv 0) pe_str (fun _ _ => rfl)) pe_int) rfl)
          (pss_one (ps_if (pt_cmpR op_ge (pv 2) (pe_op op_pow pe_int pe_int) (nomark _))
            (pss_one (ps_dput hu (pv 0) pe_str (pe_op op_sub (pv 2) (pe_op op_pow pe_int pe_int)) rfl))
            (pss_one (ps_dput hu (pv 0) pe_str (pe_op op_mod (pe_callTy call_int1 (by rfl) mi (by decide +kernel) (pa_cons (pe_op op_add (pe_op op_mul (pe_dget hu (pv 0) pe_str (fun _ _ => rfl)) pe_int) (pv 2)) pa_nil)) pe_int) rfl)))))) pss_nil)
      (pss_cons (ps_if (pt_cmpR op_gt (pe_dget hu (pv 0) pe_str (fun _ _ => rfl)) pe_int (nomark _))
          (pss_cons (ps_set (i := 3) scDraw.nd rfl (Or.inl rfl) (pe_op op_modN (pe_callTy call_int1 (by rfl) mi (by decide +kernel) (pa_cons (pe_dget hu (pv 0) pe_str (fun _ _ => rfl)) pa_nil)) (pv 1)))
          (pss_cons (ps_dput hu (pv 0) pe_str (pe_op op_fdivN (pe_dget hu (pv 0) pe_str (fun _ _ => rfl)) (pv 1)) rfl)
          (pss_one (ps_ret (pv 3))))) pss_nil)
      (pss_cons (ps_set (i := 4) scDraw.nd rfl (Or.inl rfl) (pe_op op_add (pe_op op_add (pe_dget hu (pv 0) pe_str (fun _ _ => rfl)) (pe_op op_mul (pe_dget hu (pv 0) pe_str (fun _ _ => rfl)) pe_int)) pe_int))
      (pss_one (ps_ret (pe_op op_modN (pe_op op_fdiv (pe_callTy call_int1 (by rfl) mi (by decide +kernel) (pa_cons (pe_op op_mod (pe_op op_pow (pv 4) pe_int) pe_int) pa_nil)) pe_int) (pv 1))))))), ?_⟩
    refine ⟨_, rfl, p, .int c, rfl, g_count hp, _, _, rfl, rfl, _, rfl, p, _, rfl, p_count hp, ?_⟩
    have lp : l ≠ p := ne_of hl hp (by intro z; cases z)
    refine ⟨fun σ' H' => ∃ (v2 : Option V) (a' d' f' : Int), σ' = [some (.ref p), some (.int many), v2, none, none] ∧ H' p = some (.dK (penK l a' d' (c + 1) f')) ∧ Keep p H H' ∧ 0 ≤ a' ∧ 0 ≤ d' ∧ 0 ≤ f' ∧ f' < 2147483648, ?_, ?_⟩
    · refine ⟨_, rfl, p, .int d, rfl, g_digits upd_same, rfl, _, rfl, ?_⟩
      refine ite2 (fun hd => ?_) (fun hd => ?_)
      · have hl1 : (upd H p (.dK (penK l a d (c + 1) fo))) l = some (.lst (ns.map V.int)) := by
          rw [upd_ne lp]
          exact hl
        refine ⟨_, rfl, p, .int a, rfl, g_at upd_same, _, rfl, p, .ref l, rfl, g_cells upd_same, l, _, rfl, Or.inl (SqL.of hl1), _, _, rfl, rfl, _, rfl, ?_⟩
        refine ite2 (fun ha => ?_) (fun ha => ?_)
        · have ha' : a < (ns.length : Int) := by
            have e := of_decide_eq_true ha
            rw [List.length_map] at e
            exact e
          obtain ⟨z, hz⟩ : ∃ z, ns[a.toNat]? = some z := ⟨ns[a.toNat]'(by omega), List.getElem?_eq_getElem _⟩
          refine ⟨_, rfl, p, .ref l, rfl, g_cells upd_same, _, rfl, p, .int a, rfl, g_at upd_same, l, _, a, .int z, rfl, rfl, SqL.of hl1, ?_, ?_⟩
          · have e := at_ints (ns := ns) hz
            rw [show ((a.toNat : Nat) : Int) = a by omega] at e
            exact e
          refine ⟨_, rfl, p, .int a, rfl, g_at upd_same, _, _, rfl, rfl, _, rfl, p, _, rfl, p_at upd_same, ?_⟩
          refine ⟨_, rfl, 10, 18, rfl, rfl, ⟨by decide, by decide, by decide⟩, _, _, rfl, rfl, _, rfl, ?_⟩
          have e18 : (10 : Int) ^ (18 : Int).toNat = 1000000000000000000 := by decide
          refine ite2 (fun hz => ?_) (fun hz => ?_)
          · have hz' := of_decide_eq_true hz
            rw [e18] at hz'
            refine ⟨_, rfl, 10, 18, rfl, rfl, ⟨by decide, by decide, by decide⟩, _, _, rfl, rfl, _, rfl, p, _, rfl, p_digits upd_same, _, _, _, _, rfl, upd_same, (Keep.upd.trans Keep.upd).trans Keep.upd, by omega, ?_, f0, f1⟩
            rw [e18]
            omega
          · refine ⟨_, rfl, p, .int fo, rfl, g_fold upd_same, _, _, rfl, rfl, Or.inr ⟨by decide, by decide⟩, _, rfl, _, _, rfl, rfl, Or.inl ⟨_, rfl, _, _, rfl, rfl, (by show (0 : Int) < 2147483587; decide), _, rfl, p, _, rfl, p_fold upd_same, ?_⟩⟩
            have e1 := Int.emod_nonneg (fo * 69069 + z) (show (2147483587 : Int) ≠ 0 by decide)
            have e2 := Int.emod_lt_of_pos (fo * 69069 + z) (show (0 : Int) < 2147483587 by decide)
            exact ⟨_, _, _, _, rfl, upd_same, (Keep.upd.trans Keep.upd).trans Keep.upd, by omega, d0, e1, by omega⟩
        · exact ⟨_, _, _, _, rfl, upd_same, Keep.upd, a0, d0, f0, f1⟩
      · exact ⟨_, _, _, _, rfl, upd_same, Keep.upd, a0, d0, f0, f1⟩
    · rintro σ' H2 ⟨v2, a', d', f', rfl, hp2, k2, a0', d0', f0', f1'⟩
      have hl2 : H2 l = some (.lst (ns.map V.int)) := k2 l _ lp hl
      refine ⟨_, rfl, p, .int d', rfl, g_digits hp2, _, _, rfl, rfl, _, rfl, ?_⟩
      refine ite2 (fun hd => ?_) (fun hd => ?_)
      · have hd' := of_decide_eq_true hd
        refine ⟨_, rfl, p, .int d', rfl, g_digits hp2, Or.inl ⟨_, rfl, _, rfl, _, _, rfl, rfl, by omega, ?_⟩⟩
        refine ⟨_, rfl, p, .int d', rfl, g_digits hp2, _, rfl, _, _, rfl, rfl, ⟨by omega, by omega⟩, _, rfl, p, _, rfl, p_digits hp2, _, rfl, ?_⟩
        have em : d'.fmod many = d' % many := Int.fmod_eq_emod_of_nonneg _ (by omega)
        have ed : d'.fdiv many = d' / many := Int.fdiv_eq_ediv_of_nonneg _ (by omega)
        refine k _ _ (by rw [em]; exact Int.emod_nonneg _ (by omega)) (by rw [em]; exact Int.emod_lt_of_pos _ m0) ⟨⟨a', _, f', ns, upd_same, by rw [upd_ne lp]; exact hl2, a0', by rw [ed]; exact Int.ediv_nonneg d0' (by omega), f0', f1', hn⟩, by omega⟩ (k2.trans Keep.upd)
      · refine ⟨_, rfl, p, .int f', rfl, g_fold hp2, _, rfl, p, .int (c + 1), rfl, g_count hp2, _, _, rfl, rfl, Or.inr ⟨by decide, by decide⟩, _, _, rfl, rfl, _, _, rfl, rfl, ?_⟩
        refine ⟨_, rfl, _, 17, rfl, rfl, ⟨by decide, by decide, by omega⟩, _, _, rfl, rfl, (by show (0 : Int) < 2305843009213693951; decide), Or.inl ⟨_, rfl, _, _, rfl, rfl, ⟨by decide, by decide⟩, _, rfl, _, _, rfl, rfl, by omega, ?_⟩⟩
        have em : ∀ z : Int, z.fmod many = z % many := fun z => Int.fmod_eq_emod_of_nonneg _ (by omega)
        exact k _ _ (by rw [em]; exact Int.emod_nonneg _ (by omega)) (by rw [em]; exact Int.emod_lt_of_pos _ m0) ⟨⟨a', d', f', ns, hp2, hl2, a0', d0', f0', f1', hn⟩, by omega⟩ k2
/-- a def that may be called: its promise, its name, how it binds -/
structure Cl (P : Program) (w : World) (K : PySem.W.Frag) (mg : Str → Option Value) (base : Heap) (x : Str) (ps : List Str) (k : Nat) (sp : Sp) (f : Addr) (fd : FuncData) : Prop where
  G : FnOk P w K mg base CX0 k f fd ps sp
  g : mg x = some (.ref f)
  kp : PySem.W.keepIn K (.ref f) = true
  b : Binds K fd ps []
abbrev psDraw : List Str := ["_law_pen_here", "_law_many"]
abbrev psPick : List Str := ["_law_pen_here", "_law_some"]
theorem scPick : FnScope ["_law_pen_here", "_law_some"] ["_law_pen_here", "_law_some"] (defScope sPick) := ⟨rfl, rfl, rfl, by decide +kernel, rfl, by decide +kernel, by decide +kernel⟩
theorem ok_pick {f fD : Addr} {fd fdD : FuncData} (F : Fun K "_law_pick" "_law_pick" sPick f fd) (ml : mg "len" = none) (D : Cl P w K mg base "_law_draw" psDraw 1 spDraw fD fdD) : FnOk P w K mg base CX0 2 f fd psPick spPick := by
  refine F.ok scPick (fun vs H Q E h => ?_) (fun cdv A outer s H vs Q E hr h => ?_)
  · obtain ⟨p, l, q, c, xs, rfl, _⟩ := h
    rfl
  · obtain ⟨p, l, q, c, xs, rfl, hp, c1, hq, x0, x1, k⟩ := h
    refine ⟨_, pss_one (ps_ret (pe_ix ix_list (pv 1) (pe_call D.G hr (by rfl) D.g D.kp D.b .nil pass0 (pa_cons (pv 0) (pa_cons (pe_callB call_len_seq (by rfl) ml PySem.boot_len (pa_cons (pv 1) pa_nil)) pa_nil))) (fun _ _ => rfl))), ?_⟩
    refine ⟨_, rfl, _, rfl, _, rfl, q, xs, rfl, Or.inl (SqL.of hq), p, l, c, (xs.length : Int), rfl, hp, c1, by omega, by omega, fun r H' r0 r1 P' k' => ?_⟩
    have qp : q ≠ p := by
      obtain ⟨⟨a, d, fo, ns, hp', _⟩, _⟩ := hp
      exact ne_of hq hp' (by intro z; cases z)
    have hr2 : r.toNat < xs.length := by omega
    have hx : xs[r.toNat]? = some (xs[r.toNat]'hr2) := List.getElem?_eq_getElem hr2
    refine ⟨q, xs, r, xs[r.toNat]'hr2, rfl, rfl, SqL.of (k' q _ qp hq), ?_, k _ _ H' hx P' k'⟩
    have e := atI_nat hx
    rw [show ((r.toNat : Nat) : Int) = r by omega] at e
    exact e
end
end Fk

set_option Elab.async false
set_option maxRecDepth 100000
namespace Fk
open PySem L2
abbrev sBig : Stmt := top 37
/-! ### a number of at most so many figures -/
theorem digits_lt : ∀ (cs : List Nat) (a : Nat), NumText.AllDigits cs → cs.foldl (fun acc c => acc * 10 + (c - 48)) a < (a + 1) * 10 ^ cs.length
  | [], a, _ => by simp
  | c :: cs, a, h => by
    have hc := h.head
    have ih := digits_lt cs (a * 10 + (c - 48)) h.tail
    rw [List.foldl_cons]
    refine Nat.lt_of_lt_of_le ih ?_
    rw [List.length_cons, Nat.pow_succ, Nat.mul_comm (10 ^ cs.length) 10, ← Nat.mul_assoc]
    exact Nat.mul_le_mul_right _ (by omega)
theorem digitsVal_lt {cs : List Nat} (h : NumText.AllDigits cs) : NumText.digitsVal cs < 10 ^ cs.length := by
  have z := digits_lt cs 0 h
  rw [Nat.zero_add, Nat.one_mul] at z
  exact z
/-- the last figures of a number, read as a number -/
theorem tail_int (n f : Nat) (hf : 0 < f) (hl : (TL.numL n).length ≤ 640) : ∃ r : Nat, PySem.intText? (cutS (Str.ofString (toString ((n : Nat) : Int))) (some (-(f : Int))) none) = some (r : Int) ∧ r < 10 ^ f := by
  have et : (Str.ofString (toString ((n : Nat) : Int))).cps.toList = TL.numL n := TL.tl_num n
  have el : (Str.ofString (toString ((n : Nat) : Int))).length = (TL.numL n).length := by rw [← et] <;> rfl
  have ne := TL.numL_ne n
  have pos : 0 < (TL.numL n).length := List.length_pos_iff.mpr ne
  have ei : HT.sIx (TL.numL n).length 0 (some (-(f : Int))) = (TL.numL n).length - f := by
    show (if (-(f : Int)) < 0 then ((-(f : Int)) + ((TL.numL n).length : Int)).toNat else _) = _
    rw [if_pos (by omega)]
    omega
  have ec : (cutS (Str.ofString (toString ((n : Nat) : Int))) (some (-(f : Int))) none).cps.toList = (TL.numL n).drop ((TL.numL n).length - f) := by
    unfold cutS
    rw [et, el, HT.sIx_none, ei, List.toList_toArray, List.take_of_length_le]
    rw [List.length_drop]
    exact Nat.le_refl _
  have ad : NumText.AllDigits ((TL.numL n).drop ((TL.numL n).length - f)) := fun c hc => TL.numL_digits n c (List.mem_of_mem_drop hc)
  have ll : ((TL.numL n).drop ((TL.numL n).length - f)).length ≤ f := by
    rw [List.length_drop]
    omega
  refine ⟨NumText.digitsVal ((TL.numL n).drop ((TL.numL n).length - f)), ?_, Nat.lt_of_lt_of_le (digitsVal_lt ad) (Nat.pow_le_pow_right (by decide) ll)⟩
  rw [← ec]
  refine intText_digits (by rw [ec]; exact ad) (by rw [ec]; exact fun z => by have := congrArg List.length z; rw [List.length_drop] at this; simp at this; omega) ?_
  exact Nat.le_trans (cutS_length _ _ _) (by rw [el]; omega)
def spBig : Sp := fun vs H Q _ => ∃ (p l : Addr) (c fg : Int), vs = [.ref p, .int fg] ∧ PenAt H p l c ∧ c < 900000000 ∧ 1 ≤ fg ∧ fg ≤ 60 ∧
  ∀ (r c' : Int) (H' : Hp), 0 ≤ r → r < 10 ^ fg.toNat → c ≤ c' → c' ≤ c + 30 → PenAt H' p l c' → Keep p H H' → Q (.int r) H'
section
variable {P : Program} {w : World} {K : PySem.W.Frag} {mg : Str → Option Value} {base : Heap}
abbrev psBig : List Str := ["_law_pen_here", "_law_figures"]
theorem scBig : FnScope ["_law_pen_here", "_law_figures", "_law_total", "_law_k"] psBig (defScope sBig) := ⟨rfl, rfl, rfl, by decide +kernel, rfl, by decide +kernel, by decide +kernel⟩
theorem ok_big {f fD fP : Addr} {fd fdD fdP : FuncData} (F : Fun K "_law_big" "_law_big" sBig f fd) (mr : mg "range" = none) (mi : mg "int" = none) (ms : mg "str" = none)
    (D : Cl P w K mg base "_law_draw" psDraw 1 spDraw fD fdD) (C : Cl P w K mg base "_law_pick" psPick 2 spPick fP fdP) : FnOk P w K mg base CX0 3 f fd psBig spBig := by
  refine F.ok scBig (fun vs H Q E h => ?_) (fun cdv A outer s H vs Q E hr h => ?_)
  · obtain ⟨p, l, c, fg, rfl, _⟩ := h
    rfl
  · obtain ⟨p, l, c, fg, rfl, hp, c1, f1, f2, k⟩ := h
    refine ⟨_, pss_cons (ps_set (i := 2) scBig.nd rfl (Or.inl rfl) pe_int)
      (pss_cons (ps_for PassesOwn.never rfl (pi_range1 (by rfl) mr (pa_cons (pe_call C.G hr (by rfl) C.g C.kp C.b .nil pass0 (pa_cons (pv 0) (pa_cons (pe_lst (pa_cons pe_int (pa_cons pe_int (pa_cons pe_int (pa_cons pe_int (pa_cons pe_int (pa_cons (pe_op op_fdiv (pe_op op_add (pv 1) pe_int) pe_int) pa_nil))))))) pa_nil))) pa_nil)) (pg_name (i := 3) scBig.nd rfl (Or.inl rfl))
        (pss_one (ps_set (i := 2) scBig.nd rfl (Or.inl rfl) (pe_op op_add (pe_op op_mul (pv 2) pe_int) (pe_call D.G (hr.mono (by decide)) (by rfl) D.g D.kp D.b .nil pass0 (pa_cons (pv 0) (pa_cons pe_int pa_nil)))))))
      (pss_one (ps_ret (pe_callTy call_int_str (by rfl) mi (by decide +kernel) (pa_cons (pe_slice sl_str (pe_callTy call_str_int (by rfl) ms (by decide +kernel) (pa_cons (pv 2) pa_nil)) (po_some (pe_un un_neg (pv 1))) po_none) pa_nil))))), ?_⟩
    refine ⟨_, rfl, _, rfl, _, _, rfl, rfl, _, _, rfl, rfl, ⟨by decide, by decide⟩, ?_⟩
    refine ⟨by show 6 ≤ sizeLine; decide, fun q hq => ?_⟩
    refine ⟨p, l, q, c, _, rfl, hp.upd hq, by omega, upd_same, by show 0 < 6; decide, by show 6 ≤ 1000; decide, fun i x H1 hx P1 k1 => ?_⟩
    obtain ⟨n, rfl, n0, n1⟩ : ∃ n : Int, x = .int n ∧ 1 ≤ n ∧ n ≤ 20 := by
      have hm := List.mem_of_getElem? hx
      simp only [List.mem_cons, List.not_mem_nil, or_false] at hm
      rcases hm with e | e | e | e | e | e
      · exact ⟨1, e, by decide, by decide⟩
      · exact ⟨1, e, by decide, by decide⟩
      · exact ⟨1, e, by decide, by decide⟩
      · exact ⟨2, e, by decide, by decide⟩
      · exact ⟨3, e, by decide, by decide⟩
      · exact ⟨(fg + 2) / 3, e, by omega, by omega⟩
    refine ⟨n, rfl, by omega, by omega, ?_⟩
    refine for_range (lo := 0) (n := n.toNat) (fun i σ H2 => ∃ (t c' : Int) (v : Option V), σ = [some (.ref p), some (.int fg), some (.int t), v] ∧ 0 ≤ t ∧ t < 1000 ^ i ∧ c ≤ c' ∧ c' ≤ c + 1 + i ∧ PenAt H2 p l c' ∧ Keep p H H2)
      ⟨0, c + 1, none, rfl, by decide, by decide, by omega, by omega, P1, (Keep.new hq).trans k1⟩ ?_ ?_
    · rintro i σ H2 hi ⟨t, c', v, rfl, t0, t1, c2, c3, P2, k2⟩
      refine ⟨_, rfl, _, _, rfl, rfl, Or.inr ⟨by decide, by decide⟩, _, rfl, p, l, c', 1000, rfl, P2, by omega, by decide, by decide, fun r H3 r0 r1 P3 k3 => ?_⟩
      refine ⟨_, _, rfl, rfl, _, c' + 1, _, rfl, by omega, ?_, by omega, by omega, P3, k2.trans k3⟩
      rw [Int.pow_succ]
      omega
    · rintro σ H2 ⟨t, c', v, rfl, t0, t1, c2, c3, P2, k2⟩
      obtain ⟨m, rfl⟩ : ∃ m : Nat, t = (m : Int) := ⟨t.toNat, by omega⟩
      obtain ⟨g, rfl⟩ : ∃ g : Nat, fg = (g : Int) := ⟨fg.toNat, by omega⟩
      have m60 : m < 10 ^ 60 := by
        have e1 : (1000 : Int) ^ n.toNat = ((1000 ^ n.toNat : Nat) : Int) := by simp
        rw [e1] at t1
        have e2 : 1000 ^ n.toNat ≤ 1000 ^ 20 := Nat.pow_le_pow_right (by decide) (by omega)
        have e3 : (1000 : Nat) ^ 20 = 10 ^ 60 := by decide
        omega
      have hlog : (m : Int).natAbs.log2 < 1920 := by
        rw [Int.natAbs_natCast]
        by_cases hm : m = 0
        · rw [hm]
          decide
        · exact Nat.lt_of_lt_of_le ((Nat.log2_lt hm).mpr (Nat.lt_trans m60 (show (10 : Nat) ^ 60 < 2 ^ 200 by decide))) (by decide)
      have l60 : (TL.numL m).length ≤ 60 := TL.numL_len (by decide) m60
      obtain ⟨r, hr1, hr2⟩ := tail_int m g (by omega) (by omega)
      have el : (Str.ofString (toString (m : Int))).length = (TL.numL m).length := by
        rw [← TL.tl_num m]
        rfl
      refine ⟨_, rfl, _, rfl, hlog, _, rfl, _, rfl, _, rfl, _, rfl, Nat.le_of_lt (small1000 (by omega)), _, (r : Int), rfl, hr1, Nat.le_trans (cutS_length _ _ _) (by omega), ?_⟩
      refine k _ c' H2 (by omega) ?_ c2 (by omega) P2 k2
      rw [Int.toNat_natCast]
      have e : ((10 : Int) ^ g) = ((10 ^ g : Nat) : Int) := by simp
      rw [e]
      exact Int.ofNat_lt.mpr hr2
end
end Fk

set_option Elab.async false
set_option maxRecDepth 100000
set_option maxHeartbeats 4000000
namespace Fk
open PySem PySem.Spec L2 PyProof.Rows
theorem paired_of {α β : Type} {R : α → β → Prop} : ∀ (xs : List α) (ys : List β), xs.length = ys.length → (∀ (i : Nat) (x : α) (y : β), xs[i]? = some x → ys[i]? = some y → R x y) → Paired R xs ys
  | [], [], _, _ => .nil
  | x :: xs, y :: ys, hl, h => .cons (h 0 x y rfl rfl) (paired_of xs ys (Nat.succ.inj hl) fun i a b ha hb => h (i + 1) a b ha hb)
  | [], _ :: _, hl, _ => nomatch hl
  | _ :: _, [], hl, _ => nomatch hl
section
variable {X : Cx}
/-! ### a text times a number; a tuple of a text's signs -/
theorem op_mulS : OpR X (binaryOp .Mult) (fun x y H Q => ∃ (z : Str) (k : Int), x = .str z ∧ y = .int k ∧ PySem.MulOk z k ∧ Q (.str (PySem.Txt.mul z k)) H) := by
  intro pins s σ H x y v u Q I rx ry h
  obtain ⟨z, k, rfl, rfl, ok, q⟩ := h
  obtain ⟨t, rfl⟩ := rx
  obtain ⟨t', rfl⟩ := ry
  exact PySem.SB.mul ok fun t2 k2 => ⟨.str _, H, I.tok _, ⟨_, rfl⟩, q⟩
def signsOf (z : Str) : List V := z.cps.toList.map fun c => V.str ⟨#[c]⟩
theorem call_tupS : CallR X (.type "tuple") (fun xs H Q => ∃ z : Str, xs = [.str z] ∧ X.A.handled = none ∧ z.length ≤ sizeLine ∧ ∀ p, H p = none → Q (.ref p) (upd H p (.tup (signsOf z)))) := by
  intro pins s σ H xs us Q I r h
  obtain ⟨z, rfl, hh, hz, q⟩ := h
  obtain ⟨u1, rfl, r1⟩ := vals1 r
  obtain ⟨t, rfl⟩ := r1
  refine call_tuple_str hh z t (fun h' tk acc hk hit => ?_) hz
  obtain ⟨hsz, hat⟩ := hit
  have zl : z.cps.toList.length = z.cps.size := Array.length_toList
  have rel : Vals (signsOf z) acc.toList := paired_of _ _ (by rw [signsOf, List.length_map, zl, Array.length_toList, hsz]) fun i x y hx hy => by
    rw [signsOf, List.getElem?_map] at hx
    rw [Array.getElem?_toList] at hy
    obtain ⟨c, u, hc, rfl⟩ := hat i y hy
    rw [← Array.getElem?_toList] at hc
    rw [hc] at hx
    cases hx
    exact ⟨u, rfl⟩
  have I1 : Inv X pins σ H { s with heap := h' } := I.kept (t' := s.toks) hk
  have I2 : Inv X pins σ (upd H h'.objs.size (.tup (signsOf z))) { s with heap := h'.push { cls := .type "tuple", data := .seq acc }, toks := tk } :=
    I1.laid (t' := tk) (fun b o e => Heap.get?_push_of_some _ e) (Nat.le_refl _) (show ObjOk X.prog X.w _ _ _ (.tup (signsOf z)) from ⟨by rw [signsOf, List.length_map, zl]; exact hz, acc.toList, rel, by rw [Array.toArray_toList]; exact IsTup.new _ _⟩)
  exact ⟨.ref h'.objs.size, _, I2, rfl, q _ (I1.hok.fresh (Nat.le_refl _))⟩
/-! ### int of a long text -/
theorem op_fdivB : OpR X (binaryOp .FloorDiv) (rI (fun i j => 0 < j ∧ i.natAbs < 2 ^ 13400) fun i j => .int (i / j)) := opI fun i j _ _ _ _ _ hc q => by
  obtain ⟨h1, h2⟩ := hc
  refine floordiv_int (by omega) (by rw [Int.fdiv_eq_ediv_of_nonneg i (by omega)]; exact q) (.inl ?_)
  have k1 : (if i == 0 then 0 else i.natAbs.log2 / 30 + 1) ≤ 447 := by
    by_cases h0 : (i == 0) = true
    · rw [if_pos h0]
      exact Nat.zero_le _
    · rw [if_neg h0]
      have : i.natAbs.log2 < 13400 := (Nat.log2_lt (by simpa using h0)).mpr h2
      omega
  show (decide ((if j == 0 then 0 else j.natAbs.log2 / 30 + 1) > 300) && decide ((if i == 0 then 0 else i.natAbs.log2 / 30 + 1) > (if j == 0 then 0 else j.natAbs.log2 / 30 + 1) + 150)) = false
  generalize (if i == 0 then 0 else i.natAbs.log2 / 30 + 1) = m at k1
  generalize (if j == 0 then 0 else j.natAbs.log2 / 30 + 1) = n
  by_cases hn : n > 300
  · rw [decide_eq_false (show ¬ m > n + 150 by omega), Bool.and_false]
  · rw [decide_eq_false hn, Bool.false_and]
end
/-! ### int of a long text -/
section
open PySem.NumText
theorem wp_long {M : Model} {A : Around} {E : Value → Shared → Prop} {s : Shared} {K : PySem.W.Frag} {Q : Value → Shared → Prop} {v : Value} {text : List Nat} {n : Int} (X : K.In s.heap) (e : PySem.W.nsIn K cStatics "sys.int_max_str_digits" = some none)
    (hs : ¬ (text.takeWhile (· != 0)).length ≤ 640) (hr : (int_private% "readNumeral") 4300 10 (text.takeWhile (· != 0)) = (int_private% "Numeral.value") n)
    (ha : ((text.takeWhile (· != 0)).length == text.length) = true) (h : Q (.int n s.toks) { s with toks := s.toks + 1 }) :
    wpAny M A ((int_private% "intFromText") v text 10) Q E s := by
  have L := PySem.W.looks_nsIn (M := M) X e
  obtain ⟨hp, g, d, tk, os⟩ := s
  repeat (any_goals (first
    | assumption
    | (with_reducible refine wpAny_ite_false (decide_eq_false hs) ?_)
    | (with_reducible refine wpAny_ite_true (decide_eq_true ha) ?_)
    | (with_reducible refine L.at ?_)
    | wp_step))
  all_goals (try rw [hr])
  all_goals (try dsimp only)
  repeat (any_goals (first
    | assumption
    | (with_reducible refine wpAny_ite_true (decide_eq_true ha) ?_)
    | wp_step))
structure Kept1 (p : Prop) : Prop where
  out : p
theorem meets_long {K : PySem.W.Frag} {x : PySem.Str} {u : Tok} {n : Int} (e : PySem.W.nsIn K cStatics "sys.int_max_str_digits" = some none) (hd : ∀ c ∈ x.cps.toList, c = 45 ∨ (48 ≤ c ∧ c ≤ 57)) (h6 : 640 < x.length) (hl : x.length ≤ sizeLine) (hn : PySem.intText? x = some n) :
    Meets (Builtin.«int.__new__» ⟨[.type "int", .str x u], []⟩) (fun _ R s => K.In s.heap ∧ ∀ tk t, R (.ok (.ret (.int n t))) { s with toks := tk }) := .of_wp fun prog w A R s h => by
  obtain ⟨X, h⟩ := h
  have f1 := F.conv_sub_int
  have f2 := F.madeHere_int
  have f3 := PySem.W.KIN.str_int
  have f4 := PySem.W.KIN.str_idx
  have f5 := PySem.W.KIN.str_trunc
  have f6 : typeOf (.str x u) = pure (.type "str") := rfl
  obtain ⟨e1, e2⟩ := numText_signs hd
  have xl : x.cps.toList.length = x.length := Array.length_toList
  have hs : ¬ (numSeenOf x).length ≤ 640 := by
    rw [e2, xl]
    omega
  have hr : (int_private% "readNumeral") 4300 10 (numSeenOf x) = (int_private% "Numeral.value") n ∧ ((numSeenOf x).length == (numTextOf x).length) = true := by
    rcases read4300 x hl with ⟨m, h1, h2, h3⟩ | ⟨h1, _⟩
    · rw [hn] at h1
      injection h1 with h1
      subst h1
      exact ⟨h3, h2⟩
    · rw [hn] at h1
      cases h1
  have hk := Kept1.mk (And.intro hs hr)
  clear hs hr hl hn hd e1 e2 xl h6
  obtain ⟨hp, g, d, tk, os⟩ := s
  repeat (any_goals (first
    | assumption
    | ((with_reducible show wpAny _ _ ((int_private% "intFromText") _ _ _) _ _ _); refine wp_long X e hk.out.1 hk.out.2.1 hk.out.2.2 ?_)
    | wp_step))
  all_goals first | exact ⟨_, rfl, h _ _⟩ | exact h _ _ | trace_state
end
section
variable {X : Cx}
/-- int(text), a number of at most 4,300 figures -/
theorem call_int_big (e : PySem.W.nsIn X.K cStatics "sys.int_max_str_digits" = some none) : CallR X (.type "int") (fun xs H Q => ∃ a n, xs = [.str a] ∧ (∀ c ∈ a.cps.toList, c = 45 ∨ (48 ≤ c ∧ c ≤ 57)) ∧ PySem.intText? a = some n ∧ a.length ≤ sizeLine ∧ Q (.int n) H) := by
  intro pins s σ H xs us Q I rs h
  obtain ⟨a, n, rfl, hd, hn, hl, h⟩ := h
  obtain ⟨u1, rfl, r1⟩ := vals1 rs
  obtain ⟨t, rfl⟩ := r1
  by_cases h6 : a.length ≤ 640
  · exact PySem.W.KIN.call_text hn h6 ⟨.int n, H, I.tok _, ⟨_, rfl⟩, h⟩
  · exact call_int_1 (meets_long e hd (by omega) hl hn) ⟨I.kIn, fun tk t => ⟨rfl, ⟨.int n, H, I.tok _, ⟨_, rfl⟩, h⟩⟩⟩
end
end Fk

set_option Elab.async false
set_option maxRecDepth 100000
set_option maxHeartbeats 4000000
namespace Fk
open PySem PySem.Spec L2 PyProof.Rows
/-! ### try with several clauses, each with a name -/
/-- a clause: its class, the slot of its name, its suite's reading -/
abbrev Clause := Value × Nat × (Addr → Value → Option Addr → TS)
def wEach (K : PySem.W.Frag) (Wout : WX) (D : Ends) : List Clause → WX
  | [] => Wout
  | (c, i, ts) :: r => wAs K c i ts (wEach K Wout D r) D
inductive Clauses (X : Cx) : List ExceptHandler → List Clause → Prop
  | nil : Clauses X [] []
  | cons {x n : Str} {c : Value} {i : Nat} {ts : Addr → Value → Option Addr → TS} {b : Stmt} {suite : List Stmt} {np pos : Pos} {hs : List ExceptHandler} {l : List Clause} (hc : Names X x c) (hi : X.N[i]? = some n) (hl : X.env.kindOf n = some .local)
      (hb : ∀ (a : Addr) (oe : Obj) (cls : Value) (d : Option Addr) (pn : List (Addr × Obj)), Zc cls d oe → (∃ vs, oe.data = .fields vs) → PSs (X.suite a ((a, oe) :: pn)) (b :: suite) (ts a cls d))
      (r : Clauses X hs l) : Clauses X (.ExceptHandler (some (.Name x np)) (some n) (b :: suite) pos :: hs) ((c, i, ts) :: l)
section
variable {X : Cx} {body : List Stmt} {hd : ExceptHandler} {hds : List ExceptHandler} {l : List Clause} {pos : Pos} {tb : WX → TS} {Wout : WX}
theorem ps_try_each (hs : X.stack = X.env :: X.outer) (hf : X.env.frame = some X.env.locals) (hN : X.N.Nodup) (tk : Takes X Wout)
    (hb : ∀ (W : WX) (pn : List (Addr × Obj)) (xe : Value → Shared → Prop), Takes (X.tr pn xe) W → PassesOwn (model X.prog X.w) X.A X.env xe → PSs (X.tr pn xe) body (tb W))
    (hh : Clauses X (hd :: hds) l) : PS X (.Try body (hd :: hds) [] [] pos) (fun D σ H => tb (wEach X.K Wout D l) D σ H) := by
  refine ⟨fun pins s σ H D I h => ?_⟩
  have ok := I.ok
  have fr : X.A.frames = some (X.env :: X.outer) := hs ▸ ok.frames
  refine wpAny_Try_except ?_
  refine wpAny_mono ((hb (wEach X.K Wout D l) (X.pn ++ pins) (fun e s₁ => wpAny (model X.prog X.w) X.A (noteFrame e X.env) (fun _ s₂ => wpAny (model X.prog X.w) X.A (setFlight e none) (fun _ s₃ =>
    wpAny (model X.prog X.w) X.A (handleBy e X.env (hd :: hds)) (SP X pins D) X.xe s₃) X.xe s₂) X.xe s₁) (fun u s' xx => ?_) PassesOwn.looking).run [] s σ H D (I.toTry _) h) (fun f s1 q => ?_) (fun e s1 z => z)
  · obtain ⟨a, B, sI, pj, σ', H', cls, d, rfl, J', nb, up, sky, na, os, ag, w⟩ := xx
    have J : Inv X pins σ' H' sI := J'.ofTry ok
    rw [hs] at sky
    show wpAny (model X.prog X.w) X.A (noteFrame (.ref a) X.env) _ _ _
    refine Sky.land Zc.steady fr hf sky fun h3 fl3 up3 => ?_
    have J3 : Inv X pins σ' H' { s' with heap := h3 } := J.landed nb fl3.1 (up.trans up3) os ag
    obtain ⟨oe3, vs3, he3, hz3, hd3⟩ := fl3.there
    have notIn : a ∉ frs (X.env :: X.outer) := fun hm => by
      obtain ⟨_, o', e', nf⟩ := fl3.2.2.1.mem hm
      rw [he3] at e'
      cases e'
      exact nf _ hd3
    have nL : a ≠ X.env.locals := fun z => notIn (List.mem_filterMap.mpr ⟨X.env, List.mem_cons_self, hf.trans (congrArg some z.symm)⟩)
    have nF : a ∉ X.fs := fun hm => by
      obtain ⟨e, he, z⟩ := List.mem_filterMap.mp hm
      exact notIn (List.mem_filterMap.mpr ⟨e, List.mem_cons_of_mem _ he, z⟩)
    have S3 := J3.suite he3 hd3 na nL nF
    have LT : PySem.W.Looks (model X.prog X.w) h3 (typeOf (.ref a)) cls := fun A Q E s k q => wpAny_typeOf_ref (k _ _ he3) (hz3.1.symm ▸ q)
    have go : ∀ {hs' : List ExceptHandler} {l' : List Clause}, Clauses X hs' l' → wEach X.K Wout D l' cls d σ' H' → wpAny (model X.prog X.w) X.A (handleBy (.ref a) X.env hs') (SP X pins D) X.xe { s' with heap := h3 } := by
      intro hs' l' hk
      induction hk with
      | nil =>
        intro w
        refine wpAny_handleBy_nil ?_
        obtain ⟨_, _, _, oe, vs, T, _, _, he, _, hdt, h1, _⟩ := id fl3
        unfold PySem.passOn
        refine wpAny_bind (wpAny_field he hdt h1 ?_)
        rw [if_neg (fun z => nomatch (beq_iff_eq.mp z : Value.ref T = Value.none))]
        have out : wpAny (model X.prog X.w) X.A (setFlight (.ref a) X.env.frame) (fun _ s4 => wpAny (model X.prog X.w) X.A (throw (.ref a) : Sem Flow) (SP X pins D) X.xe s4) X.xe { s' with heap := h3 } := by
          rw [hf]
          exact HandSPX.setFlight_upZ fl3 fun h4 hh4 up4 => wpAny_throw (tk _ _ ⟨a, B, sI, pins, σ', H', cls, d, rfl, J, nb, (up.trans up3).trans up4, .inr (.inr (hs.symm ▸ hh4)), na, os, ag, w⟩)
        first
          | exact wpAny_bind (wpAny_pure (wpAny_bind out))
          | exact wpAny_bind out
      | @cons x n c i ts b suite np pos' hs2 l2 hc hi hln hsu r ih =>
        intro w
        obtain ⟨yes, hy, h1, h2⟩ := w
        refine wpAny_handleBy_cons (codeAny_handlers_test ?_) (fun z => nomatch z)
        have LM := PySem.W.exm_one (M := model X.prog X.w) J3.kIn LT hy
        have test : ∀ {Q : Value → Shared → Prop} {E : Value → Shared → Prop}, Q c { s' with heap := h3 } → wpAny (model X.prog X.w) (X.A.mark (some (.ref a))) (eval (.Name x np) X.env) Q E { s' with heap := h3 } := fun {Q E} q => by
          obtain ⟨g1, g2, hm | ⟨hm, hv, hnn⟩⟩ := hc
          · exact ld_glob (X := X.suite a ((a, oe3) :: (X.pn ++ pins))) S3 g1 hm q g2
          · exact ld_blt (X := X.suite a ((a, oe3) :: (X.pn ++ pins))) S3 g1 hm hv q hnn g2
        refine test (LM.here ?_)
        cases yes with
        | false => exact ih (h2 rfl)
        | true =>
          refine codeAny_handlers_suite_as ?_
          refine HandSPX.lands_againZ fl3 fun h4 fl4 up4 => ?_
          have J4 : Inv X pins σ' H' { s' with heap := h4 } := J.landed nb fl4.1 ((up.trans up3).trans up4) os ag
          obtain ⟨oe4, vs4, he4, hz4, hd4⟩ := fl4.there
          refine store_ok (X := X.suite a ((a, oe4) :: (X.pn ++ pins))) (v := .ref a) (J4.suite he4 hd4 na nL nF) hN hi (.inl hln) rfl (fun s5 S5 => ?_) (.inr hln)
          refine wpAny_mono ((hsu a oe4 cls d (X.pn ++ pins) hz4 ⟨_, hd4⟩).run [] s5 _ H' _ S5 (h1 rfl a na)) (fun f s6 q => ?_) (fun _ _ z => False.elim z)
          have gone : ∀ {σ6 : L2.St} {H6 : Hp} {Q : Shared → Prop}, Inv (X.suite a ((a, oe4) :: (X.pn ++ pins))) [] σ6 H6 s6 → (∀ s7, Inv X pins (σ6.set i none) H6 s7 → Q s7) →
              wpAny (model X.prog X.w) X.A (do bindName X.env n .none; unbindBehindTheSuite X.env n pos') (fun _ s7 => Q s7) X.xe s6 := fun {σ6 H6 Q} S6 hq => gone_ok (S6.unsuite ok) hN hi hln hq
          cases f with
          | next =>
            obtain ⟨σ6, H6, S6, q6⟩ := q
            exact gone S6 fun s7 J7 => ⟨_, _, J7, q6⟩
          | brk =>
            obtain ⟨σ6, H6, S6, q6⟩ := q
            exact gone S6 fun s7 J7 => ⟨_, _, J7, q6⟩
          | cont =>
            obtain ⟨σ6, H6, S6, q6⟩ := q
            exact gone S6 fun s7 J7 => ⟨_, _, J7, q6⟩
          | ret u =>
            obtain ⟨v6, σ6, H6, S6, r6, q6⟩ := q
            exact gone S6 fun s7 J7 => ⟨_, _, _, J7, r6, q6⟩
    exact go hh w
  · cases f with
    | ret u =>
      obtain ⟨v, σ', H', J', r, z⟩ := q
      exact ⟨v, σ', H', J'.ofTry ok, r, z⟩
    | next =>
      obtain ⟨σ', H', J', z⟩ := q
      exact wpAny_execs_nil ⟨σ', H', J'.ofTry ok, z⟩
    | brk =>
      obtain ⟨σ', H', J', z⟩ := q
      exact ⟨σ', H', J'.ofTry ok, z⟩
    | cont =>
      obtain ⟨σ', H', J', z⟩ := q
      exact ⟨σ', H', J'.ofTry ok, z⟩
end
end Fk

set_option Elab.async false
set_option maxRecDepth 100000
namespace Fk
open PySem L2
/-! ### texts as lists of signs -/
def isD (c : Nat) : Bool := decide (48 ≤ c) && decide (c ≤ 57)
theorem isD_iff {c : Nat} : isD c = true ↔ 48 ≤ c ∧ c ≤ 57 := by
  unfold isD
  rw [Bool.and_eq_true, decide_eq_true_eq, decide_eq_true_eq]
/-- how many figures stand from k on -/
def nd (cs : List Nat) (k : Nat) : Nat := ((cs.drop k).takeWhile isD).length
def dend (cs : List Nat) (k : Nat) : Nat := k + nd cs k
theorem nd_step {cs : List Nat} {k c : Nat} (h : cs[k]? = some c) (hd : isD c = true) : nd cs k = nd cs (k + 1) + 1 := by
  have hk : k < cs.length := (List.getElem?_eq_some_iff.mp h).1
  have e : cs.drop k = c :: cs.drop (k + 1) := by
    rw [List.drop_eq_getElem_cons hk]
    have z := (List.getElem?_eq_some_iff.mp h).2
    rw [z]
  unfold nd
  rw [e, List.takeWhile_cons, if_pos hd, List.length_cons]
theorem dend_step {cs : List Nat} {k c : Nat} (h : cs[k]? = some c) (hd : isD c = true) : dend cs k = dend cs (k + 1) := by
  unfold dend
  rw [nd_step h hd]
  omega
theorem dend_stop {cs : List Nat} {k c : Nat} (h : cs[k]? = some c) (hd : isD c = false) : dend cs k = k := by
  have hk : k < cs.length := (List.getElem?_eq_some_iff.mp h).1
  have e : cs.drop k = c :: cs.drop (k + 1) := by
    rw [List.drop_eq_getElem_cons hk]
    have z := (List.getElem?_eq_some_iff.mp h).2
    rw [z]
  unfold dend nd
  rw [e, List.takeWhile_cons, hd]
  rfl
theorem dend_past {cs : List Nat} {k : Nat} (h : cs.length ≤ k) : dend cs k = k := by
  unfold dend nd
  rw [List.drop_of_length_le h]
  rfl
theorem dend_ge (cs : List Nat) (k : Nat) : k ≤ dend cs k := Nat.le_add_right _ _
theorem dend_le {cs : List Nat} {k : Nat} (h : k ≤ cs.length) : dend cs k ≤ cs.length := by
  have z : ((cs.drop k).takeWhile isD).length ≤ (cs.drop k).length := (List.takeWhile_sublist _).length_le
  rw [List.length_drop] at z
  unfold dend nd
  omega
/-- the signs from a to b -/
def cut (cs : List Nat) (a b : Nat) : List Nat := (cs.drop a).take (b - a)
theorem cut_dend (cs : List Nat) (k : Nat) : cut cs k (dend cs k) = (cs.drop k).takeWhile isD := by
  unfold cut dend
  rw [Nat.add_sub_cancel_left]
  unfold nd
  have h : (cs.drop k).takeWhile isD <+: cs.drop k := List.takeWhile_prefix _
  exact (List.prefix_iff_eq_take.mp h).symm
theorem tw_all : ∀ (l : List Nat) (c : Nat), c ∈ l.takeWhile isD → isD c = true
  | [], _, h => nomatch h
  | d :: l, c, h => by
    rw [List.takeWhile_cons] at h
    split at h
    · rename_i hd
      rcases List.mem_cons.mp h with e | e
      · rw [e]
        exact hd
      · exact tw_all l c e
    · cases h
theorem cut_digits (cs : List Nat) (k : Nat) : NumText.AllDigits (cut cs k (dend cs k)) := by
  rw [cut_dend]
  intro c hc
  exact isD_iff.mp (tw_all _ _ hc)
theorem cut_len {cs : List Nat} {a b : Nat} (h : b ≤ cs.length) : (cut cs a b).length = b - a := by
  unfold cut
  rw [List.length_take, List.length_drop]
  omega
/-- what a text is read as -/
inductive Out
  | text (n : Nat)
  | large (n : Nat)
  | ratio (a b : Int)
def sgn (s : Nat) : Int := if s = 1 then -1 else 1
def st (cs : List Nat) : Nat := if cs.head? = some 45 then 1 else 0
def val (cs : List Nat) (a b : Nat) : Nat := NumText.digitsVal (cut cs a b)
def out (cs : List Nat) : Out :=
  if dend cs (st cs) = st cs then .text (st cs + 1)
  else if cs[dend cs (st cs)]? = some 47 then
    if dend cs (dend cs (st cs) + 1) = dend cs (st cs) + 1 then .text (dend cs (dend cs (st cs) + 1) + 1)
    else if dend cs (dend cs (st cs) + 1) < cs.length then .text (dend cs (dend cs (st cs) + 1) + 1)
    else if 4000 < dend cs (st cs) - st cs then .large (dend cs (st cs) - st cs)
    else if 4000 < dend cs (dend cs (st cs) + 1) - (dend cs (st cs) + 1) then .large (dend cs (dend cs (st cs) + 1) - (dend cs (st cs) + 1))
    else if val cs (dend cs (st cs) + 1) (dend cs (dend cs (st cs) + 1)) = 0 then .text (dend cs (st cs) + 2)
    else .ratio (sgn (st cs) * ((val cs (st cs) (dend cs (st cs)) / Nat.gcd (val cs (st cs) (dend cs (st cs))) (val cs (dend cs (st cs) + 1) (dend cs (dend cs (st cs) + 1))) : Nat) : Int))
      ((val cs (dend cs (st cs) + 1) (dend cs (dend cs (st cs) + 1)) / Nat.gcd (val cs (st cs) (dend cs (st cs))) (val cs (dend cs (st cs) + 1) (dend cs (dend cs (st cs) + 1))) : Nat) : Int)
  else if dend cs (st cs) < cs.length then .text (dend cs (st cs) + 1)
  else if 4000 < dend cs (st cs) - st cs then .large (dend cs (st cs) - st cs)
  else .ratio (sgn (st cs) * (val cs (st cs) (dend cs (st cs)) : Int)) 1
theorem st_le (cs : List Nat) : st cs ≤ cs.length := by
  unfold st
  split
  · rename_i h
    cases cs with
    | nil => cases h
    | cons c cs => exact Nat.succ_le_succ (Nat.zero_le _)
  · exact Nat.zero_le _
theorem st_01 (cs : List Nat) : st cs = 0 ∨ st cs = 1 := by
  unfold st
  split
  · exact .inr rfl
  · exact .inl rfl
theorem head_st {cs : List Nat} (h : st cs = 1) : cs.head? = some 45 := by
  unfold st at h
  split at h
  · assumption
  · cases h
/-! ### slices -/
theorem six_le {n k : Nat} (d : Nat) (h : k ≤ n) : HT.sIx n d (some (k : Int)) = k := by
  rw [HT.sIx_nat, Nat.min_eq_left h]
theorem tl_len (z : Str) : z.cps.toList.length = z.length := Array.length_toList
theorem cutS_two (z : Str) {a b : Nat} (ha : a ≤ z.length) (hb : b ≤ z.length) : (cutS z (some (a : Int)) (some (b : Int))).cps.toList = cut z.cps.toList a b := by
  unfold cutS cut
  rw [six_le 0 ha, six_le z.length hb, List.toList_toArray]
theorem cutS_two' (z : Str) (a b : Nat) : (cutS z (some (a : Int)) (some (b : Int))).cps.toList = cut z.cps.toList (min a z.length) (min b z.length) := by
  unfold cutS cut
  rw [HT.sIx_nat, HT.sIx_nat, List.toList_toArray]
theorem cutS_to (z : Str) {b : Nat} (hb : b ≤ z.length) : (cutS z none (some (b : Int))).cps.toList = z.cps.toList.take b := by
  unfold cutS
  rw [six_le z.length hb, HT.sIx_none, List.toList_toArray, List.drop_zero, Nat.sub_zero]
theorem ext {y z : Str} (h : y.cps.toList = z.cps.toList) : y = z := TL.ext_tl h
/-- one sign, or none behind the end -/
theorem cutS_one (z : Str) (k : Nat) (hk : k ≤ z.length) : cutS z (some (k : Int)) (some ((k + 1 : Nat) : Int)) = match z.cps.toList[k]? with
    | some c => (⟨#[c]⟩ : Str)
    | none => ⟨#[]⟩ := by
  have zl := tl_len z
  cases h : z.cps.toList[k]? with
  | some c =>
    have hlt : k < z.cps.toList.length := (List.getElem?_eq_some_iff.mp h).1
    refine ext ?_
    rw [cutS_two z hk (by omega)]
    unfold cut
    rw [List.drop_eq_getElem_cons hlt, Nat.add_sub_cancel_left, List.take_succ_cons, List.take_zero, (List.getElem?_eq_some_iff.mp h).2]
  | none =>
    have hge : z.cps.toList.length ≤ k := List.getElem?_eq_none_iff.mp h
    refine ext ?_
    rw [cutS_two', Nat.min_eq_right (by omega : z.length ≤ k), Nat.min_eq_right (by omega : z.length ≤ k + 1)]
    unfold cut
    rw [Nat.sub_self, List.take_zero]
end Fk

set_option Elab.async false
set_option maxRecDepth 100000
namespace Fk
open PySem L2
/-! ### the two errors -/
structure IniC (K : PySem.W.Frag) (C : Addr) (fs : List Str) : Prop where
  ox : OexC K C
  no : ∀ f ∈ fs, PySem.W.findIn K (.ref C) f = some none
/-- __init__ leaves the fields, the last one first -/
def spIni (C : Addr) (fs : List Str) : Sp := fun vs H Q _ => ∃ (a : Addr) (ws : List V), vs = .ref a :: ws ∧ ws.length = fs.length ∧ H a = some (exo a C none) ∧
  ∀ (d : Addr) (H' : Hp), H d = none → d ≠ a → (∀ b o, b ≠ a → H b = some o → H' b = some o) → H' a = some (exo a C (some d)) → H' d = some (exd d (fs.zip ws).reverse) → Q .non H'
section
variable {P : Program} {w : World} {K : PySem.W.Frag} {mg : Str → Option Value} {base : Heap}
theorem ini_one {H : Hp} {a C d : Addr} {x : List (Str × V)} (hd : H d = none) (n : d ≠ a) : (∀ b o, b ≠ a → H b = some o → (upd (upd H d (exd d x)) a (exo a C (some d))) b = some o) ∧ (upd (upd H d (exd d x)) a (exo a C (some d))) a = some (exo a C (some d)) ∧ (upd (upd H d (exd d x)) a (exo a C (some d))) d = some (exd d x) :=
  ⟨fun b o hb e => by rw [upd_ne hb, upd_ne (ne_of_none e hd)]; exact e, upd_same, by rw [upd_ne n, upd_same]⟩
theorem ini_more {H H1 : Hp} {a C d : Addr} {x y : List (Str × V)} (hd : H d = none) (n : d ≠ a) (h : (∀ b o, b ≠ a → H b = some o → H1 b = some o) ∧ H1 a = some (exo a C (some d)) ∧ H1 d = some (exd d x)) :
    (∀ b o, b ≠ a → H b = some o → (upd H1 d (exd d y)) b = some o) ∧ (upd H1 d (exd d y)) a = some (exo a C (some d)) ∧ (upd H1 d (exd d y)) d = some (exd d y) :=
  ⟨fun b o hb e => by rw [upd_ne (ne_of_none e hd)]; exact h.1 b o hb e, by rw [upd_ne n.symm]; exact h.2.1, upd_same⟩
abbrev sIBadNumber : Stmt := inClass (top 3) 0
theorem scBadNumber : FnScope ["self", "what", "number"] ["self", "what", "number"] (defScope sIBadNumber) := ⟨rfl, rfl, rfl, by decide +kernel, rfl, by decide +kernel, by decide +kernel⟩
theorem ini_BadNumber {C f : Addr} {fd : FuncData} (F : Fun K "__init__" "BadNumber.__init__" sIBadNumber f fd) (T : IniC K C ["what", "number"]) : FnOk P w K mg base CX0 1 f fd ["self", "what", "number"] (spIni C ["what", "number"]) := by
  refine F.ok scBadNumber (fun vs H Q E h => ?_) (fun cdv A outer s H vs Q E hr h => ?_)
  · obtain ⟨a, ws, rfl, e, _⟩ := h
    exact congrArg (· + 1) e
  · obtain ⟨a, ws, rfl, e, ha, k⟩ := h
    match ws, e, k with
    | [v1, v2], _, k =>
      refine ⟨_, (pss_cons (ps_ost (pv 0) (pv 1)) (pss_one (ps_ost (pv 0) (pv 2)))), ?_⟩
      refine ⟨_, rfl, _, rfl, a, C, rfl, T.ox, T.no _ (by simp), Or.inl ⟨ha, fun d hd hn => ?_⟩⟩
      have h1 := ini_one (C := C) (x := [("what", v1)]) hd hn
      refine ⟨_, rfl, _, rfl, a, C, rfl, T.ox, T.no _ (by simp), Or.inr ⟨d, _, h1.2.1, h1.2.2, by show 1 ≤ 900; decide, ?_⟩⟩
      have h2 := ini_more (y := [("number", v2), ("what", v1)]) hd hn h1
      exact k d _ hd hn h2.1 h2.2.1 h2.2.2
/-- what is known of an error class that is raised and caught -/
structure Err (P : Program) (w : World) (K : PySem.W.Frag) (mg : Str → Option Value) (base : Heap) (x : Str) (fs : List Str) (C fI : Addr) (fd : FuncData) : Prop where
  ox : OexC K C
  iC : PySem.W.findIn K (.ref C) "__init__" = some (some (.ref fI))
  tI : PySem.W.typeIn K (.ref fI) = some (.type "function")
  G : FnOk P w K mg base CX0 1 fI fd ("self" :: fs) (spIni C fs)
  b : Binds K fd ("self" :: fs) []
  g : mg x = some (.ref C)
/-- raise C(e, ..): what is left -/
theorem raised {H H' : Hp} {a C d : Addr} {fs : List (Str × V)} (ha : H a = none) (hd0 : (upd H a (exo a C none)) d = none) (hk : ∀ b o, b ≠ a → (upd H a (exo a C none)) b = some o → H' b = some o) : H d = none ∧ Same H (upd (L2.del H' a) d (.xd fs)) ∧ (upd (L2.del H' a) d (.xd fs)) d = some (.xd fs) := by
  have hd : H d = none := by
    cases e : H d with
    | none => rfl
    | some o =>
      rw [upd_ne (ne_of_none e ha), e] at hd0
      cases hd0
  refine ⟨hd, fun b o e => ?_, upd_same⟩
  rw [upd_ne (ne_of_none e hd), L2.del_ne (ne_of_none e ha)]
  refine hk b o (ne_of_none e ha) ?_
  rw [upd_ne (ne_of_none e ha)]
  exact e
abbrev sLowest : Stmt := top 8
theorem scLowest : FnScope ["top", "bottom", "shared"] ["top", "bottom"] (defScope sLowest) := ⟨rfl, rfl, rfl, by decide +kernel, rfl, by decide +kernel, by decide +kernel⟩
def spLowest : Sp := fun vs H Q _ => ∃ (a b : Int), vs = [.int a, .int b] ∧ 0 < b ∧ a.natAbs < 2 ^ 13400 ∧ b.natAbs < 2 ^ 13400 ∧
  ∀ p, H p = none → Q (.ref p) (upd H p (.tup [.int (a / (Nat.gcd a.natAbs b.natAbs : Nat)), .int (b / (Nat.gcd a.natAbs b.natAbs : Nat))]))
theorem ok_lowest {f : Addr} {fd : FuncData} (F : Fun K "lowest" "lowest" sLowest f fd) (mgc : mg "gcd" = some (.builtin "math.gcd")) : FnOk P w K mg base CX0 1 f fd ["top", "bottom"] spLowest := by
  refine F.ok scLowest (fun vs H Q E h => ?_) (fun cdv A outer s H vs Q E hr h => ?_)
  · obtain ⟨a, b, rfl, _⟩ := h
    rfl
  · obtain ⟨a, b, rfl, b0, a1, b1, k⟩ := h
    refine ⟨_, pss_cons (ps_set (i := 2) scLowest.nd rfl (Or.inl rfl) (pe_callBfun cr_gcd (by rfl) mgc (pa_cons (pv 0) (pa_cons (pv 1) pa_nil))))
      (pss_cons (ps_if (pt_cmpR op_lt (pv 1) pe_int (nomark _)) (pss_one (ps_set (i := 2) scLowest.nd rfl (Or.inl rfl) (pe_un un_neg (pv 2)))) pss_nil)
      (pss_one (ps_ret (pe_tup (pa_cons (pe_op op_fdivB (pv 0) (pv 2)) (pa_cons (pe_op op_fdivB (pv 1) (pv 2)) pa_nil)))))), ?_⟩
    have g0 : (0 : Int) < (Nat.gcd a.natAbs b.natAbs : Nat) := by
      have : 0 < Nat.gcd a.natAbs b.natAbs := Nat.gcd_pos_of_pos_right _ (by omega)
      omega
    refine ⟨_, rfl, _, rfl, a, b, rfl, ?_⟩
    refine ⟨_, rfl, _, _, rfl, rfl, _, rfl, ite2 (fun h => absurd (of_decide_eq_true h) (by omega)) (fun _ => ?_)⟩
    exact ⟨_, rfl, _, rfl, _, _, rfl, rfl, ⟨g0, a1⟩, _, rfl, _, rfl, _, _, rfl, rfl, ⟨g0, b1⟩, by show 2 ≤ sizeLine; decide, fun p hp => k p hp⟩
end
end Fk

set_option Elab.async false
set_option maxRecDepth 100000
namespace Fk
open PySem L2
/-! ### the law's own sums: gcd, q, is_whole, is_ratio -/
abbrev sGcd : Stmt := top 38
abbrev sQ : Stmt := top 39
theorem keq {j i : Int} (h : decide (V.int j = V.int i) = true) : j = i := V.int.inj (of_decide_eq_true h)
theorem kne {j i : Int} (h : ¬ decide (V.int j = V.int i) = true) : j ≠ i := fun e => h (by rw [e]; exact decide_eq_true rfl)
theorem gcd_step {x y i B : Nat} (hy : 0 < y) (h0 : i = 0 → x * y ≤ B) (h1 : 1 ≤ i → y < x ∧ x * y * 2 ^ i ≤ 2 * B) : x % y < y ∧ y * (x % y) * 2 ^ (i + 1) ≤ 2 * B := by
  refine ⟨Nat.mod_lt _ hy, ?_⟩
  by_cases hi : i = 0
  · subst hi
    have h := h0 rfl
    have z : y * (x % y) ≤ y * x := Nat.mul_le_mul_left _ (Nat.mod_le _ _)
    rw [Nat.mul_comm x y] at h
    show y * (x % y) * 2 ≤ 2 * B
    omega
  · obtain ⟨hl, h⟩ := h1 (by omega)
    have z2 : 2 * (x % y) ≤ x := by
      have e := Nat.mod_add_div x y
      have : 1 ≤ x / y := (Nat.one_le_div_iff hy).mpr (by omega)
      have z3 : y * 1 ≤ y * (x / y) := Nat.mul_le_mul_left _ this
      have z4 := Nat.mod_lt x hy
      omega
    have e : y * (x % y) * 2 ^ (i + 1) = y * (2 * (x % y)) * 2 ^ i := by
      rw [Nat.pow_succ, Nat.mul_comm (2 ^ i) 2, ← Nat.mul_assoc, Nat.mul_assoc y, Nat.mul_comm (x % y) 2]
    rw [e]
    refine Nat.le_trans (Nat.mul_le_mul_right _ (Nat.mul_le_mul_left y z2)) ?_
    rw [Nat.mul_comm y x]
    exact h
theorem gcd_done {x y m n : Nat} (hl : y < x) (h : x * y * 2 ^ m ≤ 2 * 2 ^ n) (hmn : n + 1 < m) : y = 0 := by
  by_cases hy : y = 0
  · exact hy
  · exfalso
    have z : 1 ≤ x * y := Nat.mul_pos (by omega) (by omega)
    have z2 : 1 * 2 ^ m ≤ x * y * 2 ^ m := Nat.mul_le_mul_right _ z
    have z3 : (2 : Nat) * 2 ^ n < 2 ^ m := by
      rw [Nat.mul_comm, ← Nat.pow_succ]
      exact Nat.pow_lt_pow_right (by decide) hmn
    rw [Nat.one_mul] at z2
    exact absurd (Nat.le_trans z2 h) (Nat.not_le_of_lt z3)
def spGcd : Sp := fun vs H Q _ => ∃ a b : Int, vs = [.int a, .int b] ∧ a.natAbs < 2 ^ 13400 ∧ b.natAbs < 2 ^ 13400 ∧ Q (.int (Nat.gcd a.natAbs b.natAbs : Nat)) H
abbrev psGcd : List Str := ["_law_one", "_law_two"]
theorem abs_if (i : Int) : (if i < 0 then -i else i) = ((i.natAbs : Nat) : Int) := by
  split <;> omega
section
variable {P : Program} {w : World} {K : PySem.W.Frag} {mg : Str → Option Value} {base : Heap}
theorem scGcd : FnScope ["_law_one", "_law_two", "_law_lap"] psGcd (defScope sGcd) := ⟨rfl, rfl, rfl, by decide +kernel, rfl, by decide +kernel, by decide +kernel⟩
theorem ok_gcd {f : Addr} {fd : FuncData} (F : Fun K "_law_gcd" "_law_gcd" sGcd f fd) (ma : mg "abs" = none) (mr : mg "range" = none) (mi : mg "int" = none) : FnOk P w K mg base CX0 1 f fd psGcd spGcd := by
  refine F.ok scGcd (fun vs H Q E h => ?_) (fun cdv A outer s H vs Q E hr h => ?_)
  · obtain ⟨a, b, rfl, _⟩ := h
    rfl
  · obtain ⟨a, b, rfl, ha, hb, k⟩ := h
    refine ⟨_, pss_cons (ps_par (i := 0) (j := 1) (by rfl) scGcd.nd rfl rfl (by decide) rfl rfl (pa_cons (pe_callB call_abs (by rfl) ma (by decide +kernel) (pa_cons (pv 0) pa_nil)) (pa_cons (pe_callB call_abs (by rfl) ma (by decide +kernel) (pa_cons (pv 1) pa_nil)) pa_nil)) (by rfl))
      (pss_cons (ps_for PassesOwn.never rfl (pi_range1 (by rfl) mr (pa_cons pe_int pa_nil)) (pg_name (i := 2) scGcd.nd rfl (Or.inl rfl))
        (pss_cons (ps_if (pt_cmpR op_eq (pv 1) pe_int (nomark _)) (pss_one ps_break) pss_nil)
        (pss_one (ps_par (i := 0) (j := 1) (by rfl) scGcd.nd rfl rfl (by decide) rfl rfl (pa_cons (pv 1) (pa_cons (pe_op op_mod (pe_callTy call_int1 (by rfl) mi (by decide +kernel) (pa_cons (pv 0) pa_nil)) (pv 1)) pa_nil)) (by rfl)))))
      (pss_one (ps_ret (pv 0)))), ?_⟩
    refine ⟨_, rfl, _, rfl, _, rfl, _, rfl, _, _, rfl, ?_⟩
    rw [abs_if, abs_if]
    generalize hx : a.natAbs = x at *
    generalize hy : b.natAbs = y at *
    refine ⟨60000, rfl, by decide, by decide, ?_⟩
    refine for_range (fun i σ H' => ∃ (u v : Nat) (r : Option V), σ = [some (.int u), some (.int v), r] ∧ H' = H ∧ Nat.gcd u v = Nat.gcd x y ∧ (i = 0 → u * v ≤ 2 ^ 26800) ∧ (1 ≤ i → v < u ∧ u * v * 2 ^ i ≤ 2 * 2 ^ 26800)) ⟨x, y, none, rfl, rfl, rfl, fun _ => ?_, fun z => absurd z (by decide)⟩ ?_ ?_
    · have e : (2 : Nat) ^ 26800 = 2 ^ 13400 * 2 ^ 13400 := by rw [← Nat.pow_add]
      rw [e]
      exact Nat.mul_le_mul (Nat.le_of_lt ha) (Nat.le_of_lt hb)
    · rintro i σ H' hi ⟨u, v, r, rfl, rfl, hg, h0, h1⟩
      refine ⟨_, rfl, rfl, _, rfl, ite2 (fun h => ?_) (fun h => ?_)⟩
      · have v0 : v = 0 := by
          have := keq h
          omega
        subst v0
        rw [Nat.gcd_zero_right] at hg
        refine ⟨_, rfl, ?_⟩
        rw [hg]
        exact k
      · have v0 : 0 < v := by
          have := kne h
          omega
        have z := gcd_step v0 h0 h1
        refine ⟨_, rfl, _, rfl, Or.inl ⟨_, rfl, _, rfl, _, _, rfl, rfl, by omega, _, _, rfl, ?_⟩⟩
        refine ⟨v, u % v, _, rfl, rfl, ?_, fun z => absurd z (by omega), fun _ => z⟩
        rw [← hg, Nat.gcd_comm u v, Nat.gcd_rec v u, Nat.gcd_comm]
    · rintro σ H' ⟨u, v, r, rfl, rfl, hg, h0, h1⟩
      obtain ⟨hl, hm⟩ := h1 (by show 1 ≤ (60000 : Int).toNat; decide)
      have v0 := gcd_done hl hm (by show 26800 + 1 < (60000 : Int).toNat; decide)
      subst v0
      rw [Nat.gcd_zero_right] at hg
      refine ⟨_, rfl, ?_⟩
      rw [hg]
      exact k
end
end Fk

set_option Elab.async false
set_option maxRecDepth 100000
set_option maxHeartbeats 2000000
namespace Fk
open PySem PySem.Spec L2 PyProof.Rows
/-! ### repr of data, where no repr is under way -/
section
variable {X : Cx}
theorem call_reprV (hg : X.A.guards = some []) (hu : X.A.units + 64 < cLine) : CallR X (.builtin "repr") (fun xs H Q => ∃ (v : V) (d : PyData), xs = [v] ∧ Dp X.K H v d ∧ d.showable = true ∧ d.hasDict = false ∧ d.depth ≤ 10 ∧ d.shown.length ≤ sizeLine ∧ Q (.str d.shown) H) := by
  intro pins s σ H xs us Q I r h
  obtain ⟨v, d, rfl, hd, hs, hn, hp, hl, q⟩ := h
  obtain ⟨u1, rfl, r1⟩ := vals1 r
  have rd := Dp.reads I d _ _ hd r1
  cases hd with
  | non =>
    obtain rfl : u1 = Value.none := r1
    exact PySem.P.repr_of_none ⟨.str _, H, I.tok _, ⟨_, rfl⟩, q⟩
  | bl b =>
    obtain rfl : u1 = Value.bool b := r1
    refine PySem.P.repr_of_bool ⟨.str _, H, I.tok _, ⟨_, rfl⟩, ?_⟩
    cases b <;> exact q
  | int i =>
    obtain ⟨t, rfl⟩ := r1
    exact PySem.P.repr_of_int (of_decide_eq_true hs) ⟨.str _, H, I.tok _, ⟨_, rfl⟩, q⟩
  | str x =>
    obtain ⟨t, rfl⟩ := r1
    exact PySem.P.repr_of_str ⟨.str _, H, I.tok _, ⟨_, rfl⟩, q⟩ hl
  | lst h1 h2 =>
    obtain ⟨as, rd⟩ := rd
    cases r1
    exact repr_of_reads' rd hs (fun z => by rw [hn] at z; cases z) hg (by omega) (fun _ _ e => e) (fun h' u tk hk => ⟨.str _, H, I.kept hk, ⟨u, rfl⟩, q⟩) hl
  | tup h1 h2 =>
    obtain ⟨as, rd⟩ := rd
    cases r1
    exact repr_of_reads' rd hs (fun z => by rw [hn] at z; cases z) hg (by omega) (fun _ _ e => e) (fun h' u tk hk => ⟨.str _, H, I.kept hk, ⟨u, rfl⟩, q⟩) hl
end
/-! ### a def that is called where no repr is under way, and the law's call -/
structure FnG (P : Program) (w : World) (K : PySem.W.Frag) (mg : Str → Option Value) (base : Heap) (k : Nat) (f : Addr) (fd : FuncData) (ps : List Str) (sp : Sp) : Prop where
  len : ∀ vs H Q E, sp vs H Q E → vs.length = ps.length
  run : ∀ (A : Around) (outer : List Env) (s : Shared) (H : Hp) (args : Args) (us : List Value) (vs : List V) (Q : VK) (E : XK), A.guards = some [] → Room k A → Env0 P w K mg base A outer s H →
    BindsTo s fd args (ps.zip us) → Vals vs us → sp vs H Q E → codeAny (model P w) A (.call (.ref f) args) (CR CX0 outer P w H s Q E) s
section
variable {P : Program} {w : World} {K : PySem.W.Frag} {mg : Str → Option Value} {base : Heap}
theorem fun_okG {x qual : Str} {st : Stmt} {f : Addr} {fd : FuncData} {N ps : List Str} {k : Nat} {sp : Sp} (F : Fun K x qual st f fd) (S : FnScope N ps (defScope st)) (len : ∀ vs H Q E, sp vs H Q E → vs.length = ps.length)
    (hb : ∀ (cdv : Value) (A : Around) (outer : List Env) (s : Shared) (H : Hp) (vs : List V) (Q : VK) (E : XK), (A.deeper (envOfC qual (defScope st) s.heap.objs.size f cdv)).guards = some [] →
      Room k (A.deeper (envOfC qual (defScope st) s.heap.objs.size f cdv)) → sp vs H Q E →
      ∃ t, PSs (cxOf CX0 P w K mg base N qual (defScope st) f cdv A outer s H E).nox (defBody st) t ∧ t { nx := fun _ H' => Q .non H', rt := Q } (start N vs) H) : FnG P w K mg base (k + 1) f fd ps sp := by
  obtain ⟨oc, od, kV, doc, pm, an, cdv, ct, osl, rfl, lk, hcd⟩ := F.ex
  refine ⟨len, fun A outer s H args us vs Q E hg hr e0 hbt r hsp => ?_⟩
  have ll := len _ _ _ _ hsp
  have KX : K.In s.heap := e0.mod.kin.keeps fun b o z => (e0.bs b o z).1
  have nl : s.heap.NoLimit := e0.mod.nolimit.keeps fun b o z => (e0.bs b o z).1
  refine codeAny_call_function hr.depth (KX _ _ lk) rfl S.co S.gen rfl (PySem.W.codeRec_of KX hcd) (hbt _ _ _ _ ?_)
  refine wpAny_newFunctionEnv_cells S.kind (fun ⟨n, v⟩ hy => ?_) fun env he s1 z => ?_
  · exact (S.par n (List.of_mem_zip hy).1).elim .inl fun q => .inr ⟨q, PySem.W.cellsFrom_some _ _ _ (.inl q)⟩
  · subst he
    refine ⟨nl.keeps z.toInCall.keep, codeAny_func ?_⟩
    obtain ⟨t, ht, hq⟩ := hb cdv A outer s H vs Q E hg (hr.deeper _) hsp
    have I := inv_start (CX := CX0) (E := E) S hr.hd e0 ll r z
    refine wpAny_mono (ht.nox.run [] s1 (start N vs) H _ I hq) (fun fl s' hs => ?_) fun e s' hs => hs
    cases fl with
    | ret u =>
      obtain ⟨v, σ', H', J, rv, q⟩ := hs
      exact ⟨v, H', J.os, J.bare, J.base, J.hok, rv, q⟩
    | next =>
      obtain ⟨σ', H', J, q⟩ := hs
      exact ⟨.non, H', J.os, J.bare, J.base, J.hok, rfl, q⟩
    | brk =>
      obtain ⟨_, _, _, q⟩ := hs
      exact q.elim
    | cont =>
      obtain ⟨_, _, _, q⟩ := hs
      exact q.elim
end
section
variable {X : Cx} {k : Nat} {f : Addr} {fd : FuncData} {ps : List Str} {sp : Sp} {x : Str} {p pos : Pos} {e : Expr} {es : List Expr} {t : TA}
theorem run_fnG {pins : List (Addr × Obj)} {σ : L2.St} {H : Hp} {s : Shared} {Q : VK} {us : List Value} {vs : List V} {E : XK} (F : FnG X.prog X.w X.K X.mg X.base k f fd ps sp) (hG : X.A.guards = some []) (hr : Room k X.A) (hb : Binds X.K fd ps [])
    (I : Inv X pins σ H s) (r : Vals vs us) (h : sp vs H Q E) : wpAny (model X.prog X.w) X.A (call (.ref f) us) (EP X pins σ Q) X.xe s := by
  have hl : us.length = ps.length := by rw [← r.length]; exact F.len _ _ _ _ h
  have b := hb s us I.kIn (by rw [List.append_nil]; exact hl)
  rw [List.append_nil] at b
  refine wpAny_call (codeAny_mono (F.run X.A X.stack s H ⟨us, []⟩ us vs Q E hG hr I.env0 b r h) fun r s' hq => ?_)
  cases r with
  | error e => exact False.elim hq
  | ok fl =>
    cases fl with
    | ret u => exact I.after hq
    | next => exact False.elim hq
    | brk => exact False.elim hq
    | cont => exact False.elim hq
def tCallG (sp : Sp) (t : TA) : TE := fun σ H Q => t σ H fun vs H1 => sp vs H1 Q fun _ _ _ => False
theorem pe_callGd (F : FnG X.prog X.w X.K X.mg X.base k f fd ps sp) (hG : X.A.guards = some []) (hr : Room k X.A) (hg : Gl X x) (hm : X.mg x = some (.ref f)) (hk : PySem.W.keepIn X.K (.ref f) = true) (hb : Binds X.K fd ps [])
    (ha : PA X (e :: es) t) (hdb : (x == ("__debug__" : Str)) = false := by decide) (he : starEach (e :: es) X.env = (false, eval e X.env) :: starEach es X.env := by rfl) (hpl : (backTo pos (starEach es X.env)).any (·.1) = false := by rfl) :
    PE X (.Call (.Name x p) (e :: es) [] pos) (tCallG sp t) := by
  refine ⟨fun pins s σ H Q I h => ?_⟩
  refine wpAny_Call_Name_kw (ld_glob I hg hm ?_ hdb)
  refine PySem.W.callWith_K (h₀ := X.base) I.ok.mod.kin hk (thn (ha.run pos pins s σ H _ I h) fun us s1 ⟨vs, H1, I1, r, q⟩ => ⟨I1.kIn, ?_⟩) he hpl
  exact run_fnG F hG hr hb I1 r q
end
section
variable {P : Program} {w : World} {K : PySem.W.Frag} {mg : Str → Option Value} {base : Heap}
/-- the law's call, from any heap in which nothing but the script is tracked -/
theorem core_callG {mb : Str → Option Value} {k : Nat} {fa a : Addr} {fd : FuncData} {x : Str} {sp : Sp} {s₁ : Shared} {vs : List Value} {H : Hp}
    (KX : K.In s₁.heap) (hns : s₁.heap.Ns mainGlobals mg) (hbn : s₁.heap.Ns builtinsNs mb) (hbb : ∀ x : Str, x ≠ "__name__" → mb x = bootBuiltins x) (hlim : s₁.heap.NoLimit) (hgn : s₁.gens = #[])
    (ha : s₁.heap.get? a = some { cls := .type "list", data := .seq vs.toArray }) (hr : Room k callerA)
    (F : ∀ base : Heap, K.In base → base.Ns mainGlobals mg → FnG P w K mg base k fa fd [x] sp) (hbind : ∀ (s : Shared) (u : Value), BindsTo s fd ⟨[u], []⟩ [(x, u)])
    (hO : Only H) (hok : HOk P w H s₁.heap) (hA : ∀ b, H b ≠ none → b = a) (hK : H a ≠ none → K.lookup a = none) (hsp : sp [.ref a] H (fun v _ => v = .bl true) fun _ _ _ => False) :
    codeAny (model P w) callerA (.call (.ref fa) ⟨[.ref a], []⟩) (fun r s' => r = .ok (.ret (.bool true)) ∧ OldK s₁.heap s'.heap ∧ s'.os = s₁.os ∧ AllBare s'.gens) s₁ := by
  have free : ∀ {b : Addr}, b ≠ a → H b = none := fun {b} hb => by
    cases q : H b with
    | none => rfl
    | some u => exact absurd (hA b (by rw [q]; exact fun z => nomatch z)) hb
  have notDict : ∀ {b : Addr} {o : Obj} {es : Array DictEntry} {ep : Nat}, s₁.heap.get? b = some o → o.data = .dict es ep → H b = none := fun {b o es ep} e d => free fun z => by
    rw [z, ha] at e
    cases e
    have d' : Data.seq vs.toArray _ = Data.dict es ep := d
    cases d'
  have nsH : ∀ {b : Addr} {m : Str → Option Value}, s₁.heap.Ns b m → (hidT s₁.heap H).Ns b m := fun {b m} ⟨o, es, ep, e, d, r⟩ => ⟨o, es, ep, hidT_get e (notDict e d), d, r⟩
  have kH : K.In (hidT s₁.heap H) := fun b o e => hidT_get (KX b o e) (by
    by_cases hb : b = a
    · subst hb
      cases q : H b with
      | none => rfl
      | some u =>
        have z := hK (by rw [q]; exact fun z => nomatch z)
        rw [e] at z
        cases z
    · exact free hb)
  obtain ⟨mc, c1, c2⟩ := hlim
  have e0 : Env0 P w K mg (hidT s₁.heap H) callerA [] s₁ H := ⟨rfl, ⟨kH, nsH hns, ⟨mb, nsH hbn, hbb⟩, ⟨mc, nsH c1, c2⟩⟩, fun b o e => of_hidT e, Nat.le_of_eq (hidT_size _ _), trivial, fun b hb => (nomatch (show b ∈ ([] : List Addr) from hb)), hok, .of_eq hgn⟩
  refine codeAny_mono ((F _ kH (nsH hns)).run callerA [] s₁ H ⟨[.ref a], []⟩ [.ref a] [.ref a] _ _ rfl hr e0 (hbind s₁ (.ref a)) (.cons rfl .nil) hsp) fun r s' h => ?_
  cases r with
  | error e => exact False.elim h
  | ok fl =>
    cases fl with
    | next => exact False.elim h
    | brk => exact False.elim h
    | cont => exact False.elim h
    | ret u =>
      obtain ⟨v, H', os, bare, un, hok', r', q⟩ := h
      obtain rfl : v = .bl true := q
      obtain rfl : u = Value.bool true := r'
      refine ⟨rfl, OldK.of_keep fun b o e => ?_, os, bare⟩
      cases q : H b with
      | none => exact un.keep b o e q (fun z => nomatch (show b ∈ ([] : List Addr) from z)) (fun z => nomatch z)
      | some u =>
        rcases hO b with z | ⟨ob, xs, z⟩
        · rw [q] at z
          cases z
        · obtain ⟨e1, _⟩ := hok b _ z
          obtain ⟨e2, _⟩ := hok' b _ (un.frzs b ob _ z)
          rw [e] at e1
          cases e1
          exact e2
theorem law_callG {mb : Str → Option Value} {k : Nat} {fa a : Addr} {fd : FuncData} {x : Str} {sp : Sp} {s₁ : Shared} {vs : List Value} {ns : List Int}
    (KX : K.In s₁.heap) (hns : s₁.heap.Ns mainGlobals mg) (hbn : s₁.heap.Ns builtinsNs mb) (hbb : ∀ x : Str, x ≠ "__name__" → mb x = bootBuiltins x) (hlim : s₁.heap.NoLimit) (hgn : s₁.gens = #[])
    (ha : s₁.heap.get? a = some { cls := .type "list", data := .seq vs.toArray }) (hi : IntsAre vs ns) (hl : ns.length ≤ sizeLine) (hr : Room k callerA)
    (F : ∀ base : Heap, K.In base → base.Ns mainGlobals mg → FnG P w K mg base k fa fd [x] sp) (hbind : ∀ (s : Shared) (u : Value), BindsTo s fd ⟨[u], []⟩ [(x, u)])
    (hsp : ∀ H : Hp, Only H → SqL K H a (ns.map V.int) → sp [.ref a] H (fun v _ => v = .bl true) fun _ _ _ => False) :
    codeAny (model P w) callerA (.call (.ref fa) ⟨[.ref a], []⟩) (fun r s' => r = .ok (.ret (.bool true)) ∧ OldK s₁.heap s'.heap ∧ s'.os = s₁.os ∧ AllBare s'.gens) s₁ := by
  have rv := vals_ints hi
  have lv := hi.length
  have one : ∀ H : Hp, Only H → SqL K H a (ns.map V.int) → HOk P w H s₁.heap → (∀ b, H b ≠ none → b = a) → (H a ≠ none → K.lookup a = none) → _ :=
    fun H hO hS hok hA hK => core_callG KX hns hbn hbb hlim hgn ha hr F hbind hO hok hA hK (hsp H hO hS)
  cases hk : K.lookup a with
  | some o =>
    have e := KX a o hk
    rw [ha] at e
    cases e
    refine one (fun _ => none) (fun _ => .inl rfl) (.inr ⟨_, vs.toArray, _, hk, rfl, rfl, rfl, ?_, by simpa using rv⟩) (fun b u z => ?_) (fun b z => absurd rfl z) fun z => absurd rfl z
    · rw [List.size_toArray, lv]
      exact hl
    · have z' : (none : Option HO) = some u := z
      cases z'
  | none =>
    refine one (fun b => if b = a then some (.frz { cls := .type "list", data := .seq vs.toArray } (.lst (ns.map V.int))) else none) (fun b => ?_) (.inl (.inr ⟨_, if_pos rfl⟩)) (fun b u z => ?_) (fun b z => ?_) fun _ => hk
    · by_cases hb : b = a
      · exact .inr ⟨_, _, if_pos hb⟩
      · exact .inl (if_neg hb)
    · by_cases hb : b = a
      · cases (if_pos hb).symm.trans z
        subst hb
        exact ⟨ha, by rw [List.length_map]; exact hl, vs, _, rv, ha⟩
      · cases (if_neg hb).symm.trans z
    · by_cases hb : b = a
      · exact hb
      · exact absurd (if_neg hb) z
end
/-- the goal that the head leaves -/
theorem walkG {l : PySem.W.OpenLaw} {n k : Nat} {q : Program} {loose : List Str} {XP : (Str → Option Value) → Heap → Prop} {YP : World → Heap → Prop} {d : DefRec} {K : Params → PySem.W.Frag} {sp : World → Sp} {x : Str}
    (hn : l.most = some n) (hn2 : n ≤ sizeLine) (hdf : d.params.defaults = []) (hr : Room k callerA) (hY : ∀ (w : World) (h : Heap), YP w h → (K w.params).In h)
    (F : ∀ (w : World) (mg : Str → Option Value) (fa : Addr) (h : Heap), (K w.params).In h → h.Ns mainGlobals mg → mg d.name = some (.ref fa) →
      ∃ fd : FuncData, (∀ (s : Shared) (u : Value), BindsTo s fd ⟨[u], []⟩ [(x, u)]) ∧ ∀ base : Heap, (K w.params).In base → base.Ns mainGlobals mg → FnG l.prog w (K w.params) mg base k fa fd [x] (sp w))
    (hsp : ∀ (w : World) (H : Hp) (a : Addr) (ns : List Int), ns.length ≤ n → Only H → SqL (K w.params) H a (ns.map V.int) → sp w [.ref a] H (fun v _ => v = .bl true) fun _ _ _ => False) :
    PySem.W.WalkO q loose XP YP l.row.toRowW d [] (fun f vs => PySem.call f vs) := by
  refine Att.attach_call hn hdf fun w s₀ s₁ mg mb fa o pm cd doc a vs ns G Y ho hd hcd hmg hobj hints hlen hg => ?_
  obtain ⟨fd, hb, hF⟩ := F w mg fa _ (hY w _ Y) G.T.g hmg
  exact law_callG (hY w _ Y) G.T.g G.T.b G.T.builtins G.T.nolimit hg hobj hints (Nat.le_trans hlen hn2) hr hF hb fun H hO hS => hsp w H a ns hlen hO hS
end Fk

set_option Elab.async false
set_option maxRecDepth 100000
namespace Fk
open PySem L2
/-! ### is_integer, is_ratio, as_ratio, ratio_text -/
abbrev sIsInt : Stmt := top 6
abbrev sIsRat : Stmt := top 7
abbrev sAsRat : Stmt := top 9
/-- whether a value is an integer -/
def IntV (K : PySem.W.Frag) (H : Hp) (v : V) (b : Bool) : Prop := ∃ ty b1 b2, TyX K H v ty ∧ PySem.W.kitOne K ty (.type "int") = some b1 ∧ PySem.W.kitOne K ty (.type "bool") = some b2 ∧ b = (b1 && !b2)
theorem IntV.int (K : PySem.W.Frag) (H : Hp) (i : Int) : IntV K H (.int i) true := ⟨_, true, false, .base (.int i), kit_ty (by decide), kit_ty (by decide), rfl⟩
theorem IntV.bl (K : PySem.W.Frag) (H : Hp) (i : Bool) : IntV K H (.bl i) false := ⟨_, true, true, .base (.bl i), kit_ty (by decide), kit_ty (by decide), rfl⟩
theorem IntV.str (K : PySem.W.Frag) (H : Hp) (i : Str) : IntV K H (.str i) false := ⟨_, false, false, .base (.str i), kit_ty (by decide), kit_ty (by decide), rfl⟩
theorem IntV.non (K : PySem.W.Frag) (H : Hp) : IntV K H .non false := ⟨_, false, false, .base .non, kit_ty (by decide), kit_ty (by decide), rfl⟩
theorem IntV.lst {K : PySem.W.Frag} {H : Hp} {p : Addr} {xs : List V} (h : H p = some (.lst xs)) : IntV K H (.ref p) false := ⟨_, false, false, .base (.lst h), kit_ty (by decide), kit_ty (by decide), rfl⟩
theorem IntV.tup {K : PySem.W.Frag} {H : Hp} {p : Addr} {xs : List V} (h : H p = some (.tup xs)) : IntV K H (.ref p) false := ⟨_, false, false, .base (.tup h), kit_ty (by decide), kit_ty (by decide), rfl⟩
/-- whether a value is a ratio -/
inductive Val (K : PySem.W.Frag) (H : Hp) : V → Bool → Prop
  | int (i : Int) : Val K H (.int i) true
  | other {v : V} {ty : Value} (h : IntV K H v false) (t : TyX K H v ty) (n : PySem.W.kitOne K ty (.type "tuple") = some false) : Val K H v false
  | len {p : Addr} {xs : List V} (h : H p = some (.tup xs)) (n : xs.length ≠ 2) : Val K H (.ref p) false
  | rat {p : Addr} {a b : Int} (h : H p = some (.tup [.int a, .int b])) : Val K H (.ref p) (decide (0 < b))
  | one {p : Addr} {x y : V} (h : H p = some (.tup [x, y])) (hx : IntV K H x false) : Val K H (.ref p) false
  | two {p : Addr} {y : V} {a : Int} (h : H p = some (.tup [.int a, y])) (hy : IntV K H y false) : Val K H (.ref p) false
def spIsInt (K : PySem.W.Frag) : Sp := fun vs H Q _ => ∃ v b, vs = [v] ∧ IntV K H v b ∧ Q (.bl b) H
def spIsRat (K : PySem.W.Frag) : Sp := fun vs H Q _ => ∃ v b, vs = [v] ∧ Val K H v b ∧ Q (.bl b) H
/-- v told in lowest terms -/
def Low (H : Hp) (v : V) (a b : Int) : Prop := (v = .int a ∧ b = 1) ∨ ∃ (q : Addr) (c d : Int), v = .ref q ∧ H q = some (.tup [.int c, .int d]) ∧ 0 < d ∧ c.natAbs < 2 ^ 13400 ∧ d.natAbs < 2 ^ 13400 ∧
  a = c / (Nat.gcd c.natAbs d.natAbs : Nat) ∧ b = d / (Nat.gcd c.natAbs d.natAbs : Nat)
def spAs : Sp := fun vs H Q _ => ∃ v a b, vs = [v] ∧ Low H v a b ∧ ∀ p, H p = none → Q (.ref p) (upd H p (.tup [.int a, .int b]))
section
variable {P : Program} {w : World} {K : PySem.W.Frag} {mg : Str → Option Value} {base : Heap}
abbrev psv : List Str := ["value"]
theorem scIsInt : FnScope psv psv (defScope sIsInt) := ⟨rfl, rfl, rfl, by decide +kernel, rfl, by decide +kernel, by decide +kernel⟩
theorem ok_isint {f : Addr} {fd : FuncData} (F : Fun K "is_integer" "is_integer" sIsInt f fd) (mi : mg "isinstance" = none) (mn : mg "int" = none) (mb : mg "bool" = none) : FnOk P w K mg base CX0 1 f fd psv (spIsInt K) := by
  refine F.ok scIsInt (fun vs H Q E h => ?_) (fun cdv A outer s H vs Q E hr h => ?_)
  · obtain ⟨i, b, rfl, _⟩ := h
    rfl
  · obtain ⟨v, b, rfl, ⟨ty, b1, b2, ht, k1, k2, rfl⟩, k⟩ := h
    refine ⟨_, pss_one (ps_ret (pe_and (pe_callB call_isi (by rfl) mi (by decide +kernel) (pa_cons (pv 0) (pa_cons (pe_bltn (v := .ty "int") (by rfl) mn (by decide +kernel) rfl) pa_nil)))
      (pe_one (pe_not (pe_callB call_isi (by rfl) mi (by decide +kernel) (pa_cons (pv 0) (pa_cons (pe_bltn (v := .ty "bool") (by rfl) mb (by decide +kernel) rfl) pa_nil))))))), ?_⟩
    refine ⟨_, rfl, v, _, ty, _, b1, rfl, .ty _, ht, k1, b1, rfl, ?_⟩
    cases b1 with
    | false => exact iteF k
    | true => exact iteT ⟨_, rfl, v, _, ty, _, b2, rfl, .ty _, ht, k2, b2, rfl, k⟩
theorem scIsRat : FnScope psv psv (defScope sIsRat) := ⟨rfl, rfl, rfl, by decide +kernel, rfl, by decide +kernel, by decide +kernel⟩
theorem ok_israt {f fI : Addr} {fd dI : FuncData} (F : Fun K "is_ratio" "is_ratio" sIsRat f fd) (mi : mg "isinstance" = none) (mt : mg "tuple" = none) (ml : mg "len" = none) (I : Cl P w K mg base "is_integer" psv 1 (spIsInt K) fI dI) : FnOk P w K mg base CX0 2 f fd psv (spIsRat K) := by
  refine F.ok scIsRat (fun vs H Q E h => ?_) (fun cdv A outer s H vs Q E hr h => ?_)
  · obtain ⟨i, b, rfl, _⟩ := h
    rfl
  · obtain ⟨v, b, rfl, hv, k⟩ := h
    refine ⟨_, pss_cons (ps_if (pt_val (pe_call I.G hr (by rfl) I.g I.kp I.b .nil pass0 (pa_cons (pv 0) pa_nil))) (pss_one (ps_ret pe_bl)) pss_nil)
      (pss_cons (ps_if (PW.pt (pw_or (pt_not (pt_val (pe_callB call_isi (by rfl) mi (by decide +kernel) (pa_cons (pv 0) (pa_cons (pe_bltn (v := .ty "tuple") (by rfl) mt (by decide +kernel) rfl) pa_nil)))))
          (pw_or1 (pt_cmpR op_ne (pe_callB call_len_seq (by rfl) ml PySem.boot_len (pa_cons (pv 0) pa_nil)) pe_int (nomark _))))) (pss_one (ps_ret pe_bl)) pss_nil)
      (pss_one (ps_ret (pe_and (pe_call I.G hr (by rfl) I.g I.kp I.b .nil pass0 (pa_cons (pe_ix ix_tup (pv 0) pe_int (fun _ _ => rfl)) pa_nil))
        (pe_and (pe_call I.G hr (by rfl) I.g I.kp I.b .nil pass0 (pa_cons (pe_ix ix_tup (pv 0) pe_int (fun _ _ => rfl)) pa_nil))
        (pe_one (pe_cmpR op_gt (pe_ix ix_tup (pv 0) pe_int (fun _ _ => rfl)) pe_int (nomark _)))))))), ?_⟩
    cases hv with
    | int i => exact ⟨_, rfl, _, true, rfl, .int K H i, true, rfl, iteT k⟩
    | other h t n =>
      refine ⟨_, rfl, _, false, rfl, h, false, rfl, iteF ?_⟩
      exact ⟨_, rfl, v, _, _, _, false, rfl, .ty _, t, n, false, rfl, iteT k⟩
    | @len p xs h n =>
      refine ⟨_, rfl, _, false, rfl, .tup h, false, rfl, iteF ?_⟩
      have st : SqT K H p xs := Or.inl (Or.inl h)
      refine ⟨_, rfl, _, _, _, _, true, rfl, .ty _, .base (.tup h), kit_ty (by decide), true, rfl, iteF ?_⟩
      refine ⟨_, rfl, p, _, rfl, .inr st, rfl, _, rfl, ?_⟩
      rw [decide_eq_false (fun z => n (by have := V.int.inj z; omega) : ¬ V.int (xs.length : Nat) = V.int 2)]
      exact iteT k
    | @rat p a c h =>
      refine ⟨_, rfl, _, false, rfl, .tup h, false, rfl, iteF ?_⟩
      have st : SqT K H p [V.int a, V.int c] := Or.inl (Or.inl h)
      refine ⟨_, rfl, _, _, _, _, true, rfl, .ty _, .base (.tup h), kit_ty (by decide), true, rfl, iteF ?_⟩
      refine ⟨_, rfl, p, _, rfl, .inr st, rfl, _, rfl, iteF ?_⟩
      refine ⟨_, rfl, p, _, 0, _, rfl, rfl, st, rfl, _, true, rfl, .int K H a, true, rfl, iteT ?_⟩
      refine ⟨_, rfl, p, _, 1, _, rfl, rfl, st, rfl, _, true, rfl, .int K H c, true, rfl, iteT ?_⟩
      exact ⟨_, rfl, p, _, 1, _, rfl, rfl, st, rfl, _, _, rfl, rfl, k⟩
    | @one p x y h hx =>
      refine ⟨_, rfl, _, false, rfl, .tup h, false, rfl, iteF ?_⟩
      have st : SqT K H p [x, y] := Or.inl (Or.inl h)
      refine ⟨_, rfl, _, _, _, _, true, rfl, .ty _, .base (.tup h), kit_ty (by decide), true, rfl, iteF ?_⟩
      refine ⟨_, rfl, p, _, rfl, .inr st, rfl, _, rfl, iteF ?_⟩
      exact ⟨_, rfl, p, _, 0, _, rfl, rfl, st, rfl, _, false, rfl, hx, false, rfl, iteF k⟩
    | @two p y a h hy =>
      refine ⟨_, rfl, _, false, rfl, .tup h, false, rfl, iteF ?_⟩
      have st : SqT K H p [V.int a, y] := Or.inl (Or.inl h)
      refine ⟨_, rfl, _, _, _, _, true, rfl, .ty _, .base (.tup h), kit_ty (by decide), true, rfl, iteF ?_⟩
      refine ⟨_, rfl, p, _, rfl, .inr st, rfl, _, rfl, iteF ?_⟩
      refine ⟨_, rfl, p, _, 0, _, rfl, rfl, st, rfl, _, true, rfl, .int K H a, true, rfl, iteT ?_⟩
      exact ⟨_, rfl, p, _, 1, _, rfl, rfl, st, rfl, _, false, rfl, hy, false, rfl, iteF k⟩
theorem scAsRat : FnScope psv psv (defScope sAsRat) := ⟨rfl, rfl, rfl, by decide +kernel, rfl, by decide +kernel, by decide +kernel⟩
theorem ok_as {f fL : Addr} {fd dL : FuncData} (F : Fun K "as_ratio" "as_ratio" sAsRat f fd) (mi : mg "isinstance" = none) (mn : mg "int" = none) (L : Cl P w K mg base "lowest" ["top", "bottom"] 1 spLowest fL dL) : FnOk P w K mg base CX0 2 f fd psv spAs := by
  refine F.ok scAsRat (fun vs H Q E h => ?_) (fun cdv A outer s H vs Q E hr h => ?_)
  · obtain ⟨v, a, b, rfl, _⟩ := h
    rfl
  · obtain ⟨v, a, b, rfl, hv, k⟩ := h
    refine ⟨_, pss_cons (ps_if (pt_val (pe_callB call_isi (by rfl) mi (by decide +kernel) (pa_cons (pv 0) (pa_cons (pe_bltn (v := .ty "int") (by rfl) mn (by decide +kernel) rfl) pa_nil)))) (pss_one (ps_ret (pe_tup (pa_cons (pv 0) (pa_cons pe_int pa_nil))))) pss_nil)
      (pss_one (ps_ret (pe_call L.G hr (by rfl) L.g L.kp L.b .nil pass0 (pa_cons (pe_ix ix_tup (pv 0) pe_int (fun _ _ => rfl)) (pa_cons (pe_ix ix_tup (pv 0) pe_int (fun _ _ => rfl)) pa_nil))))), ?_⟩
    rcases hv with ⟨rfl, rfl⟩ | ⟨q, c, d, rfl, hq, d0, hc, hd, rfl, rfl⟩
    · exact ⟨_, rfl, _, _, _, _, true, rfl, .ty _, .base (.int a), kit_ty (by decide), true, rfl, iteT ⟨_, rfl, by show 2 ≤ sizeLine; decide, k⟩⟩
    · have st : SqT K H q [V.int c, V.int d] := Or.inl (Or.inl hq)
      refine ⟨_, rfl, _, _, _, _, false, rfl, .ty _, .base (.tup hq), kit_ty (by decide), false, rfl, iteF ?_⟩
      exact ⟨_, rfl, q, _, 0, _, rfl, rfl, st, rfl, _, rfl, q, _, 1, _, rfl, rfl, st, rfl, c, d, rfl, d0, hc, hd, k⟩
end
end Fk

set_option Elab.async false
set_option maxRecDepth 100000
set_option maxHeartbeats 4000000
namespace Fk
open PySem L2
/-! ### a walk by its turns -/
theorem wk {J : It} {n : Nat} {H0 : Hp} {Qd : Hp → Prop} {B : (Hp → Prop) → V → Hp → Prop} (Pv : Nat → Hp → Prop) (h0 : Pv 0 H0) (hd : ∀ H, Pv n H → J.stop n H ∧ Qd H)
    (hs : ∀ i H, i < n → Pv i H → J.go i H ∧ ∀ x H', J.yld i H x H' → B (Pv (i + 1)) x H') :
    ∃ W : Nat → Nat → Hp → Prop, (∃ m, W 0 m H0) ∧ ∀ i m H, W i m H → (J.stop i H ∧ Qd H) ∨ (J.go i H ∧ ∃ Nx : Hp → Prop, (∀ H', Nx H' → ∃ m', m' < m ∧ W (i + 1) m' H') ∧ ∀ x H', J.yld i H x H' → B Nx x H') := by
  refine ⟨fun i m H => m = n - i ∧ i ≤ n ∧ Pv i H, ⟨n, by simp, Nat.zero_le _, h0⟩, ?_⟩
  rintro i m H ⟨rfl, hi, p⟩
  by_cases hlt : i < n
  · obtain ⟨g, b⟩ := hs i H hlt p
    exact .inr ⟨g, Pv (i + 1), fun H' p' => ⟨n - (i + 1), by omega, rfl, hlt, p'⟩, b⟩
  · have e : i = n := by omega
    subst e
    exact .inl (hd H p)
/-! ### what stays: all but some places -/
def Keeps (S : List Addr) (H H' : Hp) : Prop := ∀ b o, b ∉ S → H b = some o → H' b = some o
theorem Keeps.refl {S : List Addr} {H : Hp} : Keeps S H H := fun _ _ _ e => e
theorem Keeps.trans {S : List Addr} {H H1 H2 : Hp} (a : Keeps S H H1) (b : Keeps S H1 H2) : Keeps S H H2 := fun c o n e => b c o n (a c o n e)
theorem Same.keeps {S : List Addr} {H H' : Hp} (a : Same H H') : Keeps S H H' := fun b o _ e => a b o e
theorem Keeps.mono {S T : List Addr} {H H' : Hp} (a : Keeps S H H') (h : ∀ x ∈ S, x ∈ T) : Keeps T H H' := fun b o n e => a b o (fun z => n (h b z)) e
theorem Keeps.at {S : List Addr} {p : Addr} {H : Hp} {o : HO} (h : p ∈ S) : Keeps S H (upd H p o) := fun b x n e => by
  rw [upd_ne (fun z => n (by rw [z]; exact h))]
  exact e
theorem Keeps.new {S : List Addr} {q : Addr} {H : Hp} {o : HO} (h : H q = none) : Keeps S H (upd H q o) := Same.keeps (same_new h)
theorem Keeps.same {H H' : Hp} (a : Keeps [] H H') : Same H H' := fun b o e => a b o (fun z => nomatch z) e
theorem Keep.keeps {p : Addr} {H H' : Hp} (a : Keep p H H') : Keeps [p] H H' := fun b o n e => a b o (fun z => n (by rw [z]; exact List.mem_singleton.mpr rfl)) e
/-- a new place is not one that is held -/
theorem fresh_of {H : Hp} {p : Addr} {S : List Addr} (h : H p = none) (hS : ∀ x ∈ S, ∃ o, H x = some o) : p ∉ S := fun z => by
  obtain ⟨o, e⟩ := hS p z
  rw [h] at e
  cases e
def iv (xs : List Int) : List V := xs.map V.int
theorem iv_at {xs : List Int} {i : Nat} {x : V} (h : (iv xs)[i]? = some x) : ∃ z, xs[i]? = some z ∧ x = .int z := by
  unfold iv at h
  rw [List.getElem?_map] at h
  cases e : xs[i]? with
  | none =>
    rw [e] at h
    cases h
  | some z =>
    rw [e] at h
    exact ⟨z, rfl, (Option.some.inj h).symm⟩
theorem iv_get {xs : List Int} {i : Nat} {z : Int} (h : xs[i]? = some z) : (iv xs)[i]? = some (.int z) := by
  unfold iv
  rw [List.getElem?_map, h]
  rfl
theorem iv_len (xs : List Int) : (iv xs).length = xs.length := List.length_map ..
theorem atI_m1 {α : Type} {xs : List α} {x : α} (h : xs[xs.length - 1]? = some x) : atI xs (-1) = some x := by
  have h0 : 0 < xs.length := by
    have := (List.getElem?_eq_some_iff.mp h).1
    omega
  have e : ixN xs.length (-1) = some (xs.length - 1) := by
    unfold ixN
    rw [if_neg (by decide), if_pos (by omega)]
    exact congrArg some (by omega)
  unfold atI
  rw [e]
  exact h
theorem iteF' {b : Bool} {t u : Prop} (hb : b = false) (h : u) : if b = true then t else u := by rw [hb]; exact h
theorem lookup_zip {k : Str} {v : V} : ∀ {keys : List Str} {vals : List V} {i : Nat}, keys.Nodup → keys[i]? = some k → vals[i]? = some v → (keys.zip vals).lookup k = some v
  | [], _, _, _, h, _ => nomatch h
  | _ :: _, [], _, _, _, h => nomatch h
  | a :: ks, b :: vs, 0, _, h1, h2 => by
    obtain rfl : a = k := Option.some.inj h1
    obtain rfl : b = v := Option.some.inj h2
    show List.lookup a ((a, b) :: ks.zip vs) = some b
    rw [List.lookup_cons, beq_self_eq_true]
  | a :: ks, b :: vs, i + 1, nd, h1, h2 => by
    have hm : k ∈ ks := List.mem_of_getElem? h1
    have ne : ¬ k = a := fun e => (List.nodup_cons.mp nd).1 (e ▸ hm)
    show List.lookup k ((a, b) :: ks.zip vs) = some v
    rw [List.lookup_cons, show (k == a) = false from beq_eq_false_iff_ne.mpr ne]
    exact lookup_zip (i := i) (List.nodup_cons.mp nd).2 h1 h2
theorem putF_zip {k : Str} {v : V} : ∀ {keys : List Str} {vals : List V} {i : Nat}, keys.Nodup → keys.length = vals.length → keys[i]? = some k → putF k v (keys.zip vals) = keys.zip (vals.set i v)
  | [], _, _, _, _, h => nomatch h
  | _ :: _, [], _, _, h, _ => nomatch h
  | a :: ks, b :: vs, 0, _, _, h1 => by
    obtain rfl : a = k := Option.some.inj h1
    show (if a = a then (a, v) :: ks.zip vs else _) = _
    rw [if_pos rfl]
    rfl
  | a :: ks, b :: vs, i + 1, nd, hl, h1 => by
    have hm : k ∈ ks := List.mem_of_getElem? h1
    have ne : ¬ a = k := fun e => (List.nodup_cons.mp nd).1 (e ▸ hm)
    show (if a = k then (a, v) :: ks.zip vs else (a, b) :: putF k v (ks.zip vs)) = _
    rw [if_neg ne, putF_zip (i := i) (List.nodup_cons.mp nd).2 (Nat.succ.inj hl) h1]
    rfl
theorem putF_new {k : Str} {v : V} : ∀ {keys : List Str} {vals : List V}, k ∉ keys → keys.length = vals.length → putF k v (keys.zip vals) = (keys ++ [k]).zip (vals ++ [v])
  | [], [], _, _ => rfl
  | [], _ :: _, _, h => nomatch h
  | _ :: _, [], _, h => nomatch h
  | a :: ks, b :: vs, h, hl => by
    have ne : ¬ a = k := fun e => h (e ▸ List.mem_cons_self)
    show (if a = k then (a, v) :: ks.zip vs else (a, b) :: putF k v (ks.zip vs)) = _
    rw [if_neg ne, putF_new (fun z => h (List.mem_cons_of_mem _ z)) (Nat.succ.inj hl)]
    rfl
theorem pi_tupK {X : Cx} {K : PySem.W.Frag} {tg l : Expr} {tl : TE} (hK : X.K = K) (hl : PE X l tl) : PI X tg l (iTup K tl) := by
  subst hK
  exact pi_tup hl
theorem pe_fldK {X : Cx} {K : PySem.W.Frag} {o : Expr} {f : Str} {pos : Pos} {ta : TE} (hK : X.K = K) (he : PE X o ta) (hb : attributeBase o f X.env (eval o X.env) = eval o X.env) : PE X (.Attribute o f pos) (tFld K ta f) := by
  subst hK
  exact pe_fld he hb
structure VCls (K : PySem.W.Frag) (C : Addr) (ks : List Str) : Prop where
  cl : Cls K C
  no : ∀ f ∈ ks, NoAttr K C f
/-- a method of a class -/
structure MCl (P : Program) (w : World) (K : PySem.W.Frag) (mg : Str → Option Value) (base : Heap) (C : Addr) (m : Str) (ps : List Str) (k : Nat) (sp : Sp) (f : Addr) (fd : FuncData) : Prop where
  m : Meth K C m f
  G : FnOk P w K mg base CX0 k f fd ("self" :: ps) sp
  b : Binds K fd ("self" :: ps) []
def Bd (B : Nat) (x : Int) : Prop := x.natAbs < 2 ^ B
theorem Bd.mul {A B : Nat} {x y : Int} (hx : Bd A x) (hy : Bd B y) (hA : A ≤ 200000) (hB : B ≤ 200000) : CMulW x y :=
  wide_mul (a := 200000) (b := 200000) (Nat.lt_of_lt_of_le hx (Nat.pow_le_pow_right (by decide) hA)) (Nat.lt_of_lt_of_le hy (Nat.pow_le_pow_right (by decide) hB)) (by decide) (by decide) (by decide)
theorem Bd.mono {A B : Nat} {x : Int} (hx : Bd A x) (h : A ≤ B) : Bd B x := Nat.lt_of_lt_of_le hx (Nat.pow_le_pow_right (by decide) h)
theorem Bd.mulB {A B : Nat} {x y : Int} (hx : Bd A x) (hy : Bd B y) : Bd (A + B) (x * y) := by
  unfold Bd at *
  rw [Int.natAbs_mul, Nat.pow_add]
  exact Nat.mul_lt_mul'' hx hy
theorem Bd.neg {A : Nat} {x : Int} (hx : Bd A x) : Bd A (-x) := by
  unfold Bd at *
  rw [Int.natAbs_neg]
  exact hx
theorem Bd.addB {A : Nat} {x y : Int} (hx : Bd A x) (hy : Bd A y) : Bd (A + 1) (x + y) := by
  unfold Bd at *
  have := Int.natAbs_add_le x y
  rw [Nat.pow_succ]
  omega
theorem Bd.subB {A : Nat} {x y : Int} (hx : Bd A x) (hy : Bd A y) : Bd (A + 1) (x - y) := by
  rw [Int.sub_eq_add_neg]
  exact hx.addB hy.neg
end Fk

set_option Elab.async false
set_option maxRecDepth 100000
set_option maxHeartbeats 4000000
namespace Fk
open PySem L2
/-! ### lists and tuples alike -/
def SqA (K : PySem.W.Frag) (H : Hp) (a : Addr) (xs : List V) : Prop := SqL K H a xs ∨ SqT K H a xs
theorem SqL.same {K : PySem.W.Frag} {H H' : Hp} {a : Addr} {xs : List V} (h : SqL K H a xs) (s : Same H H') : SqL K H' a xs := by
  rcases h with h | h
  · rcases h with h | h
    · exact .inl (.inl (s _ _ h))
    · obtain ⟨o, h⟩ := h
      exact .inl (.inr ⟨o, s _ _ h⟩)
  · exact .inr h
theorem SqT.same {K : PySem.W.Frag} {H H' : Hp} {a : Addr} {xs : List V} (h : SqT K H a xs) (s : Same H H') : SqT K H' a xs := by
  rcases h with h | h
  · rcases h with h | h
    · exact .inl (.inl (s _ _ h))
    · obtain ⟨o, h⟩ := h
      exact .inl (.inr ⟨o, s _ _ h⟩)
  · exact .inr h
theorem SqA.same {K : PySem.W.Frag} {H H' : Hp} {a : Addr} {xs : List V} (h : SqA K H a xs) (s : Same H H') : SqA K H' a xs := h.imp (fun h => SqL.same h s) (fun h => SqT.same h s)
theorem SqA.lst {K : PySem.W.Frag} {H : Hp} {a : Addr} {xs : List V} (h : H a = some (.lst xs)) : SqA K H a xs := .inl (SqL.of h)
theorem SqA.tup {K : PySem.W.Frag} {H : Hp} {a : Addr} {xs : List V} (h : H a = some (.tup xs)) : SqA K H a xs := .inr (.inl (.inl h))
theorem PI.or {X : Cx} {tg it : Expr} {t u : TI} (h : PI X tg it t) (h' : PI X tg it u) : PI X tg it (fun σ H R => t σ H R ∨ u σ H R) := ⟨fun pins s σ H R I q => q.elim (fun q => h.run pins s σ H R I q) fun q => h'.run pins s σ H R I q⟩
theorem IxR.or {X : Cx} {r r' : R2} (h : IxR X r) (h' : IxR X r') : IxR X (fun x y H Q => r x y H Q ∨ r' x y H Q) := fun value slice pins s σ H x y v u Q I rx ry q hs => q.elim (fun q => h value slice pins s σ H x y v u Q I rx ry q hs) fun q => h' value slice pins s σ H x y v u Q I rx ry q hs
/-- a list or a tuple by its place -/
def rIxA (K : PySem.W.Frag) : R2 := fun x y H Q => ∃ p xs i v, x = .ref p ∧ y = .int i ∧ SqA K H p xs ∧ atI xs i = some v ∧ Q v H
theorem ix_any {X : Cx} : IxR X (rIxA X.K) := fun value slice pins s σ H x y v u Q I rx ry ⟨p, xs, i, z, e1, e2, hs', he, q⟩ hs => by
  rcases hs' with h | h
  · exact ix_list value slice pins s σ H x y v u Q I rx ry ⟨p, xs, i, z, e1, e2, h, he, q⟩ hs
  · exact ix_tup value slice pins s σ H x y v u Q I rx ry ⟨p, xs, i, z, e1, e2, h, he, q⟩ hs
theorem ix_anyK {X : Cx} {K : PySem.W.Frag} (hK : X.K = K) : IxR X (rIxA K) := hK ▸ ix_any
/-- a walk over either -/
def iAny (K : PySem.W.Frag) (tl : TE) : TI := fun σ H R => iList K tl σ H R ∨ iTup K tl σ H R
theorem pi_any {X : Cx} {tg l : Expr} {tl : TE} (hl : PE X l tl) : PI X tg l (iAny X.K tl) := PI.or (pi_list hl) (pi_tup hl)
theorem pi_anyK {X : Cx} {K : PySem.W.Frag} {tg l : Expr} {tl : TE} (hK : X.K = K) (hl : PE X l tl) : PI X tg l (iAny K tl) := hK ▸ pi_any hl
theorem for_any {K : PySem.W.Frag} {a : Addr} {xs : List V} {tl : TE} {g : TG} {tb : TS} {D : Ends} {σ : L2.St} {H H1 : Hp} (Pv : Nat → L2.St → Hp → Prop) (hv : ∀ P : VK, P (.ref a) H1 → tl σ H P) (hs : SqA K H1 a xs) (h0 : Pv 0 σ H1) (hk : ∀ i σ' H', i ≤ xs.length → Pv i σ' H' → Same H1 H')
    (ht : ∀ i x σ' H', xs[i]? = some x → Pv i σ' H' → g x σ' H' fun σ2 H2 => tb { D with nx := Pv (i + 1), ct := Pv (i + 1), bk := D.nx } σ2 H2) (hd : ∀ σ' H', Pv xs.length σ' H' → D.nx σ' H') : tFor (iAny K tl) g tb D σ H := by
  rcases hs with h | h
  · exact .inl (hv _ ⟨a, rfl, ⟨_, h⟩, for_list (K := K) (a := a) (xs := xs) Pv h0 (fun i σ' H' hi p => SqL.same h (hk i σ' H' hi p)) ht hd⟩)
  · exact .inr (hv _ ⟨a, rfl, ⟨_, h⟩, for_tup (K := K) (a := a) (xs := xs) Pv h0 (fun i σ' H' hi p => SqT.same h (hk i σ' H' hi p)) ht hd⟩)
theorem lc_any {K : PySem.W.Frag} {a : Addr} {xs : List V} {tl : TE} {g : TG} {tt : TT} {te : TE} {vs : List Nat} {σ : L2.St} {H H1 : Hp} {Q : VK} (hv : ∀ P : VK, P (.ref a) H1 → tl σ H P) (hs : SqA K H1 a xs)
    (h : ∀ D, H1 D = none → ∃ Pv : Nat → Hp → Prop, Pv 0 (upd H1 D (.lst [])) ∧ (∀ i H', i ≤ xs.length → Pv i H' → Same H1 H') ∧ (∀ i x H', xs[i]? = some x → Pv i H' → g x (wipe σ vs) H' fun σ2 H2 => wipe σ2 vs = wipe σ vs ∧ tt σ2 H2 fun b H3 =>
      if b = true then te σ2 H3 fun y H4 => ∃ acc, H4 D = some (.lst acc) ∧ acc.length < sizeLine ∧ Pv (i + 1) (upd H4 D (.lst (acc ++ [y]))) else Pv (i + 1) H3) ∧ ∀ H', Pv xs.length H' → Q (.ref D) H') : tLc (iAny K tl) g tt te vs σ H Q := by
  rcases hs with hs | hs
  · refine .inl (hv _ ⟨a, rfl, ⟨_, hs⟩, fun D hD => ?_⟩)
    obtain ⟨Pv, h0, hk, ht, hd⟩ := h D hD
    exact lc_list (K := K) (a := a) (xs := xs) Pv h0 (fun i H' hi p => SqL.same hs (hk i H' hi p)) ht hd
  · refine .inr (hv _ ⟨a, rfl, ⟨_, hs⟩, fun D hD => ?_⟩)
    obtain ⟨Pv, h0, hk, ht, hd⟩ := h D hD
    exact lc_tup (K := K) (a := a) (xs := xs) Pv h0 (fun i H' hi p => SqT.same hs (hk i H' hi p)) ht hd
end Fk

set_option Elab.async false
set_option maxRecDepth 100000
set_option maxHeartbeats 4000000
set_option exponentiation.threshold 20000
namespace Fk
open PySem L2
section
variable {P : Program} {w : World} {K : PySem.W.Frag} {mg : Str → Option Value} {base : Heap}
def nv (xs : List Nat) : List V := xs.map fun (n : Nat) => V.int (n : Int)
def rv (ls : List Addr) : List V := ls.map V.ref
def LinesAt (H : Hp) (ls : List Addr) (lines : List (List Int)) : Prop := ls.length = lines.length ∧ ∀ (i : Nat) (p : Addr) (row : List Int), ls[i]? = some p → lines[i]? = some row → H p = some (.lst (iv row))
theorem LinesAt.same {H H' : Hp} {ls : List Addr} {lines : List (List Int)} (h : LinesAt H ls lines) (s : Same H H') : LinesAt H' ls lines := ⟨h.1, fun i p r a b => s _ _ (h.2 i p r a b)⟩
def gi (xs : List Int) (i : Nat) : Int := xs.getD i 0
def gl (xs : List (List Int)) (i : Nat) : List Int := xs.getD i []
theorem gi_at {xs : List Int} {i : Nat} (h : i < xs.length) : xs[i]? = some (gi xs i) := by
  unfold gi
  rw [List.getD_eq_getElem?_getD, List.getElem?_eq_getElem h]
  rfl
theorem gl_at {xs : List (List Int)} {i : Nat} (h : i < xs.length) : xs[i]? = some (gl xs i) := by
  unfold gl
  rw [List.getD_eq_getElem?_getD, List.getElem?_eq_getElem h]
  rfl
theorem iv_atI {xs : List Int} {i : Nat} (h : i < xs.length) : atI (iv xs) (i : Int) = some (.int (gi xs i)) := atI_nat (iv_get (gi_at h))
theorem rv_len (xs : List Addr) : (rv xs).length = xs.length := List.length_map ..
theorem LinesAt.line {H : Hp} {ls : List Addr} {lines : List (List Int)} (h : LinesAt H ls lines) {k : Nat} (hk : k < lines.length) : ∃ p, atI (rv ls) (k : Int) = some (.ref p) ∧ H p = some (.lst (iv (gl lines k))) := by
  have hl : k < ls.length := by rw [h.1]; exact hk
  refine ⟨ls[k], atI_nat (by unfold rv; rw [List.getElem?_map, List.getElem?_eq_getElem hl]; rfl), h.2 k _ _ (List.getElem?_eq_getElem hl) (gl_at hk)⟩
def lowI (a b : Int) : Int × Int := (a / (Nat.gcd a.natAbs b.natAbs : Nat), b / (Nat.gcd a.natAbs b.natAbs : Nat))
def RatAt (H : Hp) (p : Addr) (x : Int × Int) : Prop := H p = some (.tup [.int x.1, .int x.2])
theorem RatAt.same {H H' : Hp} {p : Addr} {x : Int × Int} (h : RatAt H p x) (s : Same H H') : RatAt H' p x := s _ _ h
theorem LinesAt.add {H : Hp} {D t : Addr} {ls : List Addr} {rows : List (List Int)} {row : List Int} {xs : List V} (hD : H D = some (.lst xs)) (h : LinesAt H ls rows) (hn : D ∉ ls) (ht : H t = some (.lst (iv row))) (nt : t ≠ D) (o : HO) : LinesAt (upd H D o) (ls ++ [t]) (rows ++ [row]) := by
  have hl := h.1
  refine ⟨by rw [List.length_append, List.length_append, hl]; rfl, fun i p r hp hr => ?_⟩
  by_cases hi : i < ls.length
  · rw [List.getElem?_append_left hi] at hp
    rw [List.getElem?_append_left (by omega)] at hr
    rw [upd_ne (fun e => hn (by rw [← e]; exact List.mem_of_getElem? hp))]
    exact h.2 i p r hp hr
  · have e : i = ls.length := by
      have := (List.getElem?_eq_some_iff.mp hp).1
      rw [List.length_append, List.length_singleton] at this
      omega
    subst e
    rw [List.getElem?_append_right (Nat.le_refl _), Nat.sub_self] at hp
    rw [List.getElem?_append_right (by omega), hl, Nat.sub_self] at hr
    cases hp
    cases hr
    rw [upd_ne nt]
    exact ht
theorem Keeps.cons {a b : Addr} {H H' : Hp} (h : Keeps [a, b] H H') {c : Addr} {o : HO} (n1 : c ≠ a) (n2 : c ≠ b) (e : H c = some o) : H' c = some o := h c o (fun z => by
  rcases List.mem_cons.mp z with z | z
  · exact n1 z
  · exact n2 (List.mem_singleton.mp z)) e
/-- a list of addresses of pairs -/
def PairsAt (H : Hp) (ps : List Addr) (fs : List (Int × Int)) : Prop := ps.length = fs.length ∧ ∀ (i : Nat) (p : Addr) (x : Int × Int), ps[i]? = some p → fs[i]? = some x → RatAt H p x
theorem PairsAt.same {H H' : Hp} {ps : List Addr} {fs : List (Int × Int)} (h : PairsAt H ps fs) (s : Same H H') : PairsAt H' ps fs := ⟨h.1, fun i p x a b => s _ _ (h.2 i p x a b)⟩
theorem PairsAt.get {H : Hp} {ps : List Addr} {fs : List (Int × Int)} (h : PairsAt H ps fs) {i : Nat} {v : V} (hv : (rv ps)[i]? = some v) : ∃ p x, v = .ref p ∧ ps[i]? = some p ∧ fs[i]? = some x ∧ RatAt H p x := by
  unfold rv at hv
  rw [List.getElem?_map] at hv
  cases e : ps[i]? with
  | none =>
    rw [e] at hv
    cases hv
  | some p =>
    rw [e] at hv
    cases hv
    have hi := (List.getElem?_eq_some_iff.mp e).1
    have hi2 : i < fs.length := by rw [← h.1]; exact hi
    exact ⟨p, fs[i], rfl, rfl, List.getElem?_eq_getElem hi2, h.2 i p _ e (List.getElem?_eq_getElem hi2)⟩
theorem PairsAt.add {H : Hp} {D t : Addr} {ps : List Addr} {fs : List (Int × Int)} {x : Int × Int} {xs : List V} (hD : H D = some (.lst xs)) (h : PairsAt H ps fs) (ht : RatAt H t x) (o : HO) : PairsAt (upd H D o) (ps ++ [t]) (fs ++ [x]) := by
  have hl := h.1
  have up : ∀ {p : Addr} {y : Int × Int}, RatAt H p y → RatAt (upd H D o) p y := fun {p y} e => by
    unfold RatAt at *
    rw [upd_ne (ne_of e hD (fun z => nomatch z))]
    exact e
  refine ⟨by rw [List.length_append, List.length_append, hl]; rfl, fun i p r hp hr => ?_⟩
  by_cases hi : i < ps.length
  · rw [List.getElem?_append_left hi] at hp
    rw [List.getElem?_append_left (by omega)] at hr
    exact up (h.2 i p r hp hr)
  · have e : i = ps.length := by
      have := (List.getElem?_eq_some_iff.mp hp).1
      rw [List.length_append, List.length_singleton] at this
      omega
    subst e
    rw [List.getElem?_append_right (Nat.le_refl _), Nat.sub_self] at hp
    rw [List.getElem?_append_right (by omega), hl, Nat.sub_self] at hr
    cases hp
    cases hr
    exact up ht
theorem PairsAt.set {H : Hp} {D t : Addr} {ps : List Addr} {fs : List (Int × Int)} {x : Int × Int} {xs : List V} {j : Nat} (hD : H D = some (.lst xs)) (h : PairsAt H ps fs) (ht : RatAt H t x) (o : HO) : PairsAt (upd H D o) (ps.set j t) (fs.set j x) := by
  have up : ∀ {p : Addr} {y : Int × Int}, RatAt H p y → RatAt (upd H D o) p y := fun {p y} e => by
    unfold RatAt at *
    rw [upd_ne (ne_of e hD (fun z => nomatch z))]
    exact e
  refine ⟨by rw [List.length_set, List.length_set, h.1], fun i p r hp hr => ?_⟩
  rw [List.getElem?_set] at hp hr
  by_cases e : j = i
  · rw [if_pos e] at hp hr
    by_cases l : j < ps.length
    · rw [if_pos l] at hp
      rw [if_pos (by rw [← h.1]; exact l)] at hr
      cases hp
      cases hr
      exact up ht
    · rw [if_neg l] at hp
      cases hp
  · rw [if_neg e] at hp hr
    exact up (h.2 i p r hp hr)
theorem rv_set (ps : List Addr) (j : Nat) (q : Addr) : (rv ps).set j (.ref q) = rv (ps.set j q) := by
  unfold rv
  rw [List.map_set]
theorem rep_refs (p : Addr) (n : Nat) : (List.replicate n [V.ref p]).flatten = rv (List.replicate n p) := by
  unfold rv
  rw [List.map_replicate]
  induction n with
  | zero => rfl
  | succ n ih =>
    rw [List.replicate_succ, List.flatten_cons, ih, List.replicate_succ]
    rfl
theorem pairs_rep {H : Hp} {p : Addr} {x : Int × Int} (h : RatAt H p x) (n : Nat) : PairsAt H (List.replicate n p) (List.replicate n x) := ⟨by rw [List.length_replicate, List.length_replicate], fun i q y hq hy => by
  rw [List.getElem?_replicate] at hq hy
  by_cases l : i < n
  · rw [if_pos l] at hq hy
    cases hq
    cases hy
    exact h
  · rw [if_neg l] at hq
    cases hq⟩
theorem Bd.big {B : Nat} {x : Int} (h : Bd B x) (hB : B ≤ 13400) : x.natAbs < 2 ^ 13400 := Nat.lt_of_lt_of_le h (Nat.pow_le_pow_right (by decide) hB)
abbrev sShared : Stmt := top 14
def shStep (s : Int) (x : Int × Int) : Int := s / (Nat.gcd s.natAbs x.2.natAbs : Nat) * x.2
def shF (fs : List (Int × Int)) : Int := fs.foldl shStep 1
theorem shF_snoc (fs : List (Int × Int)) (x : Int × Int) : shF (fs ++ [x]) = shStep (shF fs) x := by
  unfold shF
  rw [List.foldl_append]
  rfl
theorem gcd_dvd_int (a b : Int) : ((Nat.gcd a.natAbs b.natAbs : Nat) : Int) ∣ a := Int.natAbs_dvd_natAbs.mp (by rw [Int.natAbs_natCast]; exact Nat.gcd_dvd_left _ _)
theorem gcd_dvd_int' (a b : Int) : ((Nat.gcd a.natAbs b.natAbs : Nat) : Int) ∣ b := Int.natAbs_dvd_natAbs.mp (by rw [Int.natAbs_natCast]; exact Nat.gcd_dvd_right _ _)
theorem gcd_pos_int {a b : Int} (h : 0 < b) : (0 : Int) < (Nat.gcd a.natAbs b.natAbs : Nat) := by
  have : 0 < Nat.gcd a.natAbs b.natAbs := Nat.gcd_pos_of_pos_right _ (by omega)
  omega
theorem shStep_pos {s : Int} {x : Int × Int} (hs : 0 < s) (hx : 0 < x.2) : 0 < shStep s x :=
  Int.mul_pos (Int.ediv_pos_of_pos_of_dvd hs (by have := gcd_pos_int (a := s) hx; omega) (gcd_dvd_int s x.2)) hx
theorem shStep_old {s : Int} {x : Int × Int} : s ∣ shStep s x := by
  obtain ⟨c, hc⟩ := gcd_dvd_int' s x.2
  obtain ⟨d, hd⟩ := gcd_dvd_int s x.2
  refine ⟨c, ?_⟩
  unfold shStep
  generalize hg : ((Nat.gcd s.natAbs x.2.natAbs : Nat) : Int) = g at *
  by_cases g0 : g = 0
  · rw [g0, Int.zero_mul] at hd
    rw [hd, Int.zero_ediv, Int.zero_mul, Int.zero_mul]
  · have e : s / g = d := by
      rw [hd, Int.mul_ediv_cancel_left _ g0]
    rw [e, hc, hd, ← Int.mul_assoc, Int.mul_comm d g]
theorem shStep_new {s : Int} {x : Int × Int} : x.2 ∣ shStep s x := ⟨s / (Nat.gcd s.natAbs x.2.natAbs : Nat), by unfold shStep; rw [Int.mul_comm]⟩
theorem shF_facts : ∀ (fs : List (Int × Int)) (s : Int), 0 < s → (∀ x ∈ fs, 0 < x.2) → 0 < fs.foldl shStep s ∧ s ∣ fs.foldl shStep s ∧ ∀ x ∈ fs, x.2 ∣ fs.foldl shStep s
  | [], s, h, _ => ⟨h, Int.dvd_refl s, fun _ hx => nomatch hx⟩
  | x :: fs, s, h, hp => by
    have hx := hp x (List.mem_cons_self ..)
    obtain ⟨h1, h2, h3⟩ := shF_facts fs (shStep s x) (shStep_pos h hx) fun y hy => hp y (List.mem_cons_of_mem _ hy)
    refine ⟨h1, Int.dvd_trans shStep_old h2, fun y hy => ?_⟩
    rcases List.mem_cons.mp hy with rfl | hy
    · exact Int.dvd_trans shStep_new h2
    · exact h3 y hy
theorem shStep_bd {A b : Nat} {s : Int} {x : Int × Int} (hs : Bd A s) (s0 : 0 < s) (x0 : 0 < x.2) (hx : Bd b x.2) : Bd (A + b) (shStep s x) := by
  unfold shStep
  refine Bd.mulB ?_ hx
  have d1 : s / ((Nat.gcd s.natAbs x.2.natAbs : Nat) : Int) ≤ s := Int.ediv_le_self _ (by omega)
  have d2 : 0 ≤ s / ((Nat.gcd s.natAbs x.2.natAbs : Nat) : Int) := Int.ediv_nonneg (by omega) (by omega)
  unfold Bd at *
  omega
theorem shF_bd {b : Nat} : ∀ (fs : List (Int × Int)) (A : Nat) (s : Int), 0 < s → Bd A s → (∀ x ∈ fs, 0 < x.2 ∧ Bd b x.2) → Bd (A + b * fs.length) (fs.foldl shStep s)
  | [], A, s, _, h, _ => h
  | x :: fs, A, s, s0, h, hp => by
    obtain ⟨x0, xb⟩ := hp x (List.mem_cons_self ..)
    have z := shF_bd fs (A + b) (shStep s x) (shStep_pos s0 x0) (shStep_bd h s0 x0 xb) fun y hy => hp y (List.mem_cons_of_mem _ hy)
    refine z.mono ?_
    rw [List.length_cons, Nat.mul_succ]
    omega
theorem one_bd : Bd 1 1 := by unfold Bd; decide
def spShared : Sp := fun vs H Q _ => ∃ (l : Addr) (ps : List Addr) (fs : List (Int × Int)) (b : Nat), vs = [.ref l] ∧ H l = some (.lst (rv ps)) ∧ PairsAt H ps fs ∧ (∀ x ∈ fs, 0 < x.2 ∧ Bd b x.2) ∧ fs.length ≤ 20 ∧ b ≤ 600 ∧ Q (.int (shF fs)) H
theorem scShared : FnScope ["ratios", "shared", "ratio"] ["ratios"] (defScope sShared) := ⟨rfl, rfl, rfl, by decide +kernel, rfl, by decide +kernel, by decide +kernel⟩
theorem ok_shared {f : Addr} {fd : FuncData} (F : Fun K "shared_bottom" "shared_bottom" sShared f fd) (mgc : mg "gcd" = some (.builtin "math.gcd")) : FnOk P w K mg base CX0 1 f fd ["ratios"] spShared := by
  refine F.ok scShared (fun vs H Q E h => ?_) (fun cdv A outer s H vs Q E hr h => ?_)
  · obtain ⟨l, ps, fs, b, rfl, _⟩ := h
    rfl
  · obtain ⟨l, ps, fs, b, rfl, hl, hps, hf, hn, hb, k⟩ := h
    refine ⟨_, pss_cons (ps_set (i := 1) scShared.nd rfl (Or.inl rfl) pe_int)
      (pss_cons (ps_for PassesOwn.never rfl (pi_list (pv 0)) (pg_name (i := 2) scShared.nd rfl (Or.inl rfl))
        (pss_one (ps_set (i := 1) scShared.nd rfl (Or.inl rfl) (pe_op op_mulW (pe_op op_fdivB (pv 1) (pe_callBfun cr_gcd (by rfl) mgc (pa_cons (pv 1) (pa_cons (pe_ix ix_tup (pv 2) pe_int (fun _ _ => rfl)) pa_nil)))) (pe_ix ix_tup (pv 2) pe_int (fun _ _ => rfl))))))
      (pss_one (ps_ret (pv 1)))), ?_⟩
    have pl := hps.1
    refine ⟨_, rfl, l, rfl, ⟨_, SqL.of hl⟩, for_list (K := K) (a := l) (xs := rv ps) (fun i σ H' => H' = H ∧ ∃ v : Option V, σ = [some (.ref l), some (.int (shF (fs.take i))), v]) ⟨rfl, none, rfl⟩ (fun i σ H' _ ⟨e, _⟩ => e ▸ SqL.of hl) ?_ ?_⟩
    · rintro i x σ H' hx ⟨rfl, v, rfl⟩
      obtain ⟨p, y, rfl, hp, hy, hfr⟩ := hps.get hx
      have hym := List.mem_of_getElem? hy
      obtain ⟨y0, yb⟩ := hf y hym
      have hi : i < fs.length := (List.getElem?_eq_some_iff.mp hy).1
      have st : SqT K H' p [.int y.1, .int y.2] := Or.inl (Or.inl hfr)
      have pp := (shF_facts (fs.take i) 1 (by decide) fun x hx => (hf x (List.mem_of_mem_take hx)).1).1
      have pb := shF_bd (b := b) (fs.take i) 1 1 (by decide) one_bd fun x hx => hf x (List.mem_of_mem_take hx)
      rw [List.length_take, Nat.min_eq_left (by omega)] at pb
      have hbi : b * i ≤ 12000 := Nat.le_trans (Nat.mul_le_mul hb (show i ≤ 20 by omega)) (by decide)
      have g0 := gcd_pos_int (a := shF (fs.take i)) y0
      have dle : shF (fs.take i) / ((Nat.gcd (shF (fs.take i)).natAbs y.2.natAbs : Nat) : Int) ≤ shF (fs.take i) := Int.ediv_le_self _ (by have : 0 < shF (fs.take i) := pp; omega)
      have d2 : 0 ≤ shF (fs.take i) / ((Nat.gcd (shF (fs.take i)).natAbs y.2.natAbs : Nat) : Int) := Int.ediv_nonneg (by have : 0 < shF (fs.take i) := pp; omega) (by omega)
      have db : Bd (1 + b * i) (shF (fs.take i) / ((Nat.gcd (shF (fs.take i)).natAbs y.2.natAbs : Nat) : Int)) := by
        have : Bd (1 + b * i) (shF (fs.take i)) := pb
        unfold Bd at *
        omega
      refine ⟨_, rfl, _, rfl, _, rfl, p, _, 1, _, rfl, rfl, st, rfl, _, _, rfl, _, _, rfl, rfl, ⟨g0, Bd.big (show Bd (1 + b * i) (shF (fs.take i)) from pb) (by omega)⟩, _, rfl, p, _, 1, _, rfl, rfl, st, rfl, _, _, rfl, rfl, Bd.mul db yb (by omega) (by omega), rfl, some (.ref p), ?_⟩
      rw [List.take_add_one, hy]
      show _ = [some (V.ref l), some (V.int (shF (fs.take i ++ [y]))), some (V.ref p)]
      rw [shF_snoc]
      rfl
    · rintro σ H' ⟨rfl, v, rfl⟩
      rw [rv_len, pl, List.take_length]
      exact ⟨_, rfl, k⟩
/-- a ratio in lowest terms, not large -/
structure Fit (a b : Nat) (x : Int × Int) : Prop where
  p : 0 < x.2
  g : Nat.gcd x.1.natAbs x.2.natAbs = 1
  b1 : Bd a x.1
  b2 : Bd b x.2
abbrev Lw (x : Int × Int) : Prop := Fit 130 60 x
theorem Fit.mono {a b c d : Nat} {x : Int × Int} (h : Fit a b x) (h1 : a ≤ c) (h2 : b ≤ d) : Fit c d x := ⟨h.p, h.g, h.b1.mono h1, h.b2.mono h2⟩
/-- values that are passed, and what they stand for -/
def PassAt (H : Hp) (vs : List V) (fs : List (Int × Int)) : Prop := vs.length = fs.length ∧ ∀ (i : Nat) (v : V) (x : Int × Int), vs[i]? = some v → fs[i]? = some x → Low H v x.1 x.2
theorem Low.same {H H' : Hp} {v : V} {a b : Int} (h : Low H v a b) (s : Same H H') : Low H' v a b := by
  rcases h with h | ⟨q, c, d, e, hq, r⟩
  · exact .inl h
  · exact .inr ⟨q, c, d, e, s _ _ hq, r⟩
theorem PassAt.same {H H' : Hp} {vs : List V} {fs : List (Int × Int)} (h : PassAt H vs fs) (s : Same H H') : PassAt H' vs fs := ⟨h.1, fun i v x a b => (h.2 i v x a b).same s⟩
theorem Low.keep {o : Addr} {H H' : Hp} {u : HO} {v : V} {a b : Int} (h : Low H v a b) (k : Keep o H H') (ho : H o = some u) (hu : ∀ xs, HO.tup xs ≠ u) : Low H' v a b := by
  rcases h with h | ⟨q, c, d, e, hq, r⟩
  · exact .inl h
  · exact .inr ⟨q, c, d, e, k.there ho hq (hu _), r⟩
theorem PassAt.keep {o : Addr} {H H' : Hp} {u : HO} {vs : List V} {fs : List (Int × Int)} (h : PassAt H vs fs) (k : Keep o H H') (ho : H o = some u) (hu : ∀ xs, HO.tup xs ≠ u) : PassAt H' vs fs := ⟨h.1, fun i v x a b => (h.2 i v x a b).keep k ho hu⟩
theorem SqA.keep {K : PySem.W.Frag} {o : Addr} {H H' : Hp} {u : HO} {a : Addr} {xs : List V} (h : SqA K H a xs) (k : Keep o H H') (ho : H o = some u) (hu : ∀ xs, HO.tup xs ≠ u) (hv : ∀ xs, HO.lst xs ≠ u) (hf : ∀ d w, HO.frz d w ≠ u) : SqA K H' a xs := by
  rcases h with (h | h) | (h | h)
  · rcases h with h | ⟨d, h⟩
    · exact .inl (.inl (.inl (k.there ho h (hv _))))
    · exact .inl (.inl (.inr ⟨d, k.there ho h (hf _ _)⟩))
  · exact .inl (.inr h)
  · rcases h with h | ⟨d, h⟩
    · exact .inr (.inl (.inl (k.there ho h (hu _))))
    · exact .inr (.inl (.inr ⟨d, k.there ho h (hf _ _)⟩))
  · exact .inr (.inr h)
def gp (xs : List (Int × Int)) (i : Nat) : Int × Int := xs.getD i (0, 1)
theorem gp_at {xs : List (Int × Int)} {i : Nat} (h : i < xs.length) : xs[i]? = some (gp xs i) := by
  unfold gp
  rw [List.getD_eq_getElem?_getD, List.getElem?_eq_getElem h]
  rfl
def RowsAt2 (H : Hp) (rs : List Addr) (mat : List (List (Int × Int))) : Prop := rs.length = mat.length ∧ ∀ (i : Nat) (p : Addr) (fs : List (Int × Int)), rs[i]? = some p → mat[i]? = some fs → ∃ ps, H p = some (.lst (rv ps)) ∧ PairsAt H ps fs
theorem RowsAt2.same {H H' : Hp} {rs : List Addr} {mat : List (List (Int × Int))} (h : RowsAt2 H rs mat) (s : Same H H') : RowsAt2 H' rs mat := ⟨h.1, fun i p fs a b => by
  obtain ⟨ps, h1, h2⟩ := h.2 i p fs a b
  exact ⟨ps, s _ _ h1, h2.same s⟩⟩
def gm (xs : List (List (Int × Int))) (i : Nat) : List (Int × Int) := xs.getD i []
theorem gm_at {xs : List (List (Int × Int))} {i : Nat} (h : i < xs.length) : xs[i]? = some (gm xs i) := by
  unfold gm
  rw [List.getD_eq_getElem?_getD, List.getElem?_eq_getElem h]
  rfl
/-- what is a list or a tuple of pairs stays where only one instance changes -/
theorem PairsAt.keep {o : Addr} {H H' : Hp} {u : HO} {ps : List Addr} {fs : List (Int × Int)} (h : PairsAt H ps fs) (k : Keep o H H') (ho : H o = some u) (hu : ∀ xs, HO.tup xs ≠ u) : PairsAt H' ps fs := ⟨h.1, fun i p x a b => k.there ho (h.2 i p x a b) (hu _)⟩
theorem RowsAt2.keep {o : Addr} {H H' : Hp} {u : HO} {rs : List Addr} {mat : List (List (Int × Int))} (h : RowsAt2 H rs mat) (k : Keep o H H') (ho : H o = some u) (hu : ∀ xs, HO.tup xs ≠ u) (hv : ∀ xs, HO.lst xs ≠ u) : RowsAt2 H' rs mat := ⟨h.1, fun i p fs a b => by
  obtain ⟨ps, h1, h2⟩ := h.2 i p fs a b
  exact ⟨ps, k.there ho h1 (hv _), h2.keep k ho hu⟩⟩
theorem RowsAt2.add {H : Hp} {D t : Addr} {rs : List Addr} {mat : List (List (Int × Int))} {fs : List (Int × Int)} {ps : List Addr} {xs : List V} (hD : H D = some (.lst xs)) (h : RowsAt2 H rs mat) (hn : D ∉ rs) (ht : H t = some (.lst (rv ps))) (hp : PairsAt H ps fs) (nt : t ≠ D) (o : HO) : RowsAt2 (upd H D o) (rs ++ [t]) (mat ++ [fs]) := by
  have hl := h.1
  have up : ∀ {ps : List Addr} {fs : List (Int × Int)}, PairsAt H ps fs → PairsAt (upd H D o) ps fs := fun {ps fs} z => ⟨z.1, fun i p x a b => by
    have e := z.2 i p x a b
    unfold RatAt at *
    rw [upd_ne (ne_of e hD (fun z => nomatch z))]
    exact e⟩
  refine ⟨by rw [List.length_append, List.length_append, hl]; rfl, fun i p r hp1 hr => ?_⟩
  by_cases hi : i < rs.length
  · rw [List.getElem?_append_left hi] at hp1
    rw [List.getElem?_append_left (by omega)] at hr
    obtain ⟨ps, h1, h2⟩ := h.2 i p r hp1 hr
    exact ⟨ps, by rw [upd_ne (fun e => hn (by rw [← e]; exact List.mem_of_getElem? hp1))]; exact h1, up h2⟩
  · have e : i = rs.length := by
      have := (List.getElem?_eq_some_iff.mp hp1).1
      rw [List.length_append, List.length_singleton] at this
      omega
    subst e
    rw [List.getElem?_append_right (Nat.le_refl _), Nat.sub_self] at hp1
    rw [List.getElem?_append_right (by omega), hl, Nat.sub_self] at hr
    cases hp1
    cases hr
    exact ⟨ps, by rw [upd_ne nt]; exact ht, up hp⟩
/-- rows that are passed -/
def RowsP (K : PySem.W.Frag) (H : Hp) (rs : List Addr) (mat : List (List (Int × Int))) : Prop := rs.length = mat.length ∧ ∀ (i : Nat) (p : Addr) (fs : List (Int × Int)), rs[i]? = some p → mat[i]? = some fs → ∃ us, SqA K H p us ∧ PassAt H us fs
theorem RowsP.same {K : PySem.W.Frag} {H H' : Hp} {rs : List Addr} {mat : List (List (Int × Int))} (h : RowsP K H rs mat) (s : Same H H') : RowsP K H' rs mat := ⟨h.1, fun i p fs a b => by
  obtain ⟨us, h1, h2⟩ := h.2 i p fs a b
  exact ⟨us, h1.same s, h2.same s⟩⟩
theorem RowsP.keep {K : PySem.W.Frag} {o : Addr} {H H' : Hp} {u : HO} {rs : List Addr} {mat : List (List (Int × Int))} (h : RowsP K H rs mat) (k : Keep o H H') (ho : H o = some u) (hu : ∀ xs, HO.tup xs ≠ u) (hv : ∀ xs, HO.lst xs ≠ u) (hf : ∀ d w, HO.frz d w ≠ u) : RowsP K H' rs mat := ⟨h.1, fun i p fs a b => by
  obtain ⟨us, h1, h2⟩ := h.2 i p fs a b
  exact ⟨us, h1.keep k ho hu hv hf, h2.keep k ho hu⟩⟩
theorem low_ok {K : PySem.W.Frag} {H : Hp} {v : V} {a b : Int} (h : Low H v a b) : Val K H v true := by
  rcases h with ⟨rfl, _⟩ | ⟨q, c, d, rfl, hq, d0, _⟩
  · exact .int a
  · have z : Val K H (.ref q) (decide (0 < d)) := .rat hq
    rw [decide_eq_true d0] at z
    exact z
theorem raise_ok {C : Addr} {names : List Str} {ws : List V} {H : Hp} {Q : XK} (hl : ws.length = names.length) (hz : ws.length ≤ 1000) (k : ∀ d H', H d = none → Same H H' → H' d = some (.xd (names.zip ws).reverse) → Q (.ref C) (some d) H') :
    ws.length ≤ 1000 ∧ ∀ a, H a = none → spIni C names (.ref a :: (ws ++ [])) (upd H a (exo a C none))
      (fun v H2 => v = .non ∧ ∃ (d : Addr) (fs : List (Str × V)), H2 a = some (exo a C (some d)) ∧ H2 d = some (exd d fs) ∧ H d = none ∧ Q (.ref C) (some d) (upd (L2.del H2 a) d (.xd fs))) (fun _ _ _ => False) := by
  refine ⟨hz, fun a ha => ⟨a, ws, by rw [List.append_nil], hl, upd_same, fun d H' hd hn hk h1 h2 => ⟨rfl, d, _, h1, h2, ?_, ?_⟩⟩⟩
  · exact (raised (fs := (names.zip ws).reverse) ha hd hk).1
  · have z := raised (fs := (names.zip ws).reverse) ha hd hk
    exact k d _ z.1 z.2.1 z.2.2
abbrev numFs : List Str := ["what", "number"]
abbrev reK : List Str := ["number", "spots", "weights"]
abbrev enK : List Str := ["spots", "run"]
abbrev noK : List Str := ["weights"]
def TupAt (H : Hp) (p : Addr) (fs : List (Int × Int)) : Prop := ∃ ps, H p = some (.tup (rv ps)) ∧ PairsAt H ps fs
theorem TupAt.same {H H' : Hp} {p : Addr} {fs : List (Int × Int)} (h : TupAt H p fs) (s : Same H H') : TupAt H' p fs := by
  obtain ⟨ps, h1, h2⟩ := h
  exact ⟨ps, s _ _ h1, h2.same s⟩
theorem zero_bd (B : Nat) : Bd B 0 := Nat.pow_pos (n := B) (show 0 < 2 by decide)
theorem gp_mem {xs : List (Int × Int)} {i : Nat} (h : i < xs.length) : gp xs i ∈ xs := List.mem_of_getElem? (gp_at h)
theorem yesT {σ : L2.St} {H : Hp} {A B : Hp → Prop} (h : A H) : tYes σ H (fun b H3 => if b = true then A H3 else B H3) := by
  show if true = true then A H else B H
  rw [if_pos rfl]
  exact h
theorem gm_mem {xs : List (List (Int × Int))} {i : Nat} (h : i < xs.length) : gm xs i ∈ xs := List.mem_of_getElem? (gm_at h)
theorem PassAt.at_ {H : Hp} {vs : List V} {fs : List (Int × Int)} (h : PassAt H vs fs) {i : Nat} (hi : i < fs.length) : ∃ v, atI vs (i : Int) = some v ∧ Low H v (gp fs i).1 (gp fs i).2 := by
  have hl : i < vs.length := by rw [h.1]; exact hi
  exact ⟨vs[i], atI_nat (List.getElem?_eq_getElem hl), h.2 i _ _ (List.getElem?_eq_getElem hl) (gp_at hi)⟩
theorem RowsAt2.at_ {H : Hp} {rs : List Addr} {mat : List (List (Int × Int))} (h : RowsAt2 H rs mat) {i : Nat} (hi : i < mat.length) : ∃ p ps, atI (rv rs) (i : Int) = some (.ref p) ∧ H p = some (.lst (rv ps)) ∧ PairsAt H ps (gm mat i) := by
  have hl : i < rs.length := by rw [h.1]; exact hi
  obtain ⟨ps, h1, h2⟩ := h.2 i _ _ (List.getElem?_eq_getElem hl) (gm_at hi)
  exact ⟨rs[i], ps, atI_nat (by unfold rv; rw [List.getElem?_map, List.getElem?_eq_getElem hl]; rfl), h1, h2⟩
theorem RowsP.at_ {K : PySem.W.Frag} {H : Hp} {rs : List Addr} {mat : List (List (Int × Int))} (h : RowsP K H rs mat) {i : Nat} (hi : i < mat.length) : ∃ p us, atI (rv rs) (i : Int) = some (.ref p) ∧ SqA K H p us ∧ PassAt H us (gm mat i) := by
  have hl : i < rs.length := by rw [h.1]; exact hi
  obtain ⟨us, h1, h2⟩ := h.2 i _ _ (List.getElem?_eq_getElem hl) (gm_at hi)
  exact ⟨rs[i], us, atI_nat (by unfold rv; rw [List.getElem?_map, List.getElem?_eq_getElem hl]; rfl), h1, h2⟩
theorem PairsAt.at_ {H : Hp} {ps : List Addr} {fs : List (Int × Int)} (h : PairsAt H ps fs) {i : Nat} (hi : i < fs.length) : ∃ p, atI (rv ps) (i : Int) = some (.ref p) ∧ RatAt H p (gp fs i) := by
  have hl : i < ps.length := by rw [h.1]; exact hi
  exact ⟨ps[i], atI_nat (by unfold rv; rw [List.getElem?_map, List.getElem?_eq_getElem hl]; rfl), h.2 i _ _ (List.getElem?_eq_getElem hl) (gp_at hi)⟩
end
end Fk

set_option Elab.async false
namespace La
/-! ### sums -/
def sm : Nat → (Nat → Int) → Int
  | 0, _ => 0
  | n + 1, f => sm n f + f n
theorem sm_congr {n : Nat} {f g : Nat → Int} (h : ∀ i, i < n → f i = g i) : sm n f = sm n g := by
  induction n with
  | zero => rfl
  | succ n ih =>
    show sm n f + f n = sm n g + g n
    rw [ih fun i hi => h i (by omega), h n (by omega)]
theorem sm_zero {n : Nat} {f : Nat → Int} (h : ∀ i, i < n → f i = 0) : sm n f = 0 := by
  induction n with
  | zero => rfl
  | succ n ih =>
    show sm n f + f n = 0
    rw [ih fun i hi => h i (by omega), h n (by omega)]
    rfl
theorem sm_add (n : Nat) (f g : Nat → Int) : sm n (fun i => f i + g i) = sm n f + sm n g := by
  induction n with
  | zero => rfl
  | succ n ih =>
    show sm n (fun i => f i + g i) + (f n + g n) = (sm n f + f n) + (sm n g + g n)
    rw [ih]
    omega
theorem sm_sub (n : Nat) (f g : Nat → Int) : sm n (fun i => f i - g i) = sm n f - sm n g := by
  induction n with
  | zero => rfl
  | succ n ih =>
    show sm n (fun i => f i - g i) + (f n - g n) = (sm n f + f n) - (sm n g + g n)
    rw [ih]
    omega
theorem sm_mul (n : Nat) (a : Int) (f : Nat → Int) : sm n (fun i => a * f i) = a * sm n f := by
  induction n with
  | zero => exact (Int.mul_zero a).symm
  | succ n ih =>
    show sm n (fun i => a * f i) + a * f n = a * (sm n f + f n)
    rw [ih, Int.mul_add]
theorem sm_mulr (n : Nat) (a : Int) (f : Nat → Int) : sm n (fun i => f i * a) = sm n f * a := by
  rw [Int.mul_comm, ← sm_mul]
  exact sm_congr fun i _ => Int.mul_comm _ _
theorem sm_neg (n : Nat) (f : Nat → Int) : sm n (fun i => - f i) = - sm n f := by
  induction n with
  | zero => rfl
  | succ n ih =>
    show sm n (fun i => - f i) + - f n = - (sm n f + f n)
    rw [ih]
    omega
theorem sm_single {n k : Nat} {f : Nat → Int} (hk : k < n) (h : ∀ i, i < n → i ≠ k → f i = 0) : sm n f = f k := by
  induction n with
  | zero => exact absurd hk (Nat.not_lt_zero _)
  | succ n ih =>
    show sm n f + f n = f k
    by_cases e : k = n
    · subst e
      rw [sm_zero fun i hi => h i (by omega) (by omega)]
      exact Int.zero_add _
    · rw [ih (by omega) fun i hi hn => h i (by omega) hn, h n (by omega) (fun z => e z.symm)]
      exact Int.add_zero _
theorem sm_two {n k l : Nat} {f : Nat → Int} (hk : k < n) (hl : l < n) (hkl : k ≠ l) (h : ∀ i, i < n → i ≠ k → i ≠ l → f i = 0) : sm n f = f k + f l := by
  have e : sm n f = sm n (fun i => (if i = k then f k else 0) + (if i = k then 0 else f i)) := sm_congr fun i _ => by
    by_cases e : i = k
    · rw [if_pos e, if_pos e, e]; omega
    · rw [if_neg e, if_neg e]; omega
  rw [e, sm_add, sm_single (k := k) hk (fun i _ hn => if_neg hn), sm_single (k := l) hl (fun i hi hn => ?_)]
  · rw [if_pos rfl, if_neg (fun z => hkl z.symm)]
  · by_cases e : i = k
    · rw [if_pos e]
    · rw [if_neg e]
      exact h i hi e hn
theorem sm_comm (n m : Nat) (f : Nat → Nat → Int) : sm n (fun i => sm m fun j => f i j) = sm m fun j => sm n fun i => f i j := by
  induction n with
  | zero => exact (sm_zero fun _ _ => rfl).symm
  | succ n ih =>
    show sm n (fun i => sm m fun j => f i j) + sm m (fun j => f n j) = _
    rw [ih, ← sm_add]
    rfl
theorem sm_nonneg {n : Nat} {f : Nat → Int} (h : ∀ i, i < n → 0 ≤ f i) : 0 ≤ sm n f := by
  induction n with
  | zero => exact Int.le_refl _
  | succ n ih =>
    show 0 ≤ sm n f + f n
    have := ih fun i hi => h i (by omega)
    have := h n (by omega)
    omega
theorem sm_le {n : Nat} {f g : Nat → Int} (h : ∀ i, i < n → f i ≤ g i) : sm n f ≤ sm n g := by
  induction n with
  | zero => exact Int.le_refl _
  | succ n ih =>
    show sm n f + f n ≤ sm n g + g n
    have := ih fun i hi => h i (by omega)
    have := h n (by omega)
    omega
theorem sm_pos {n : Nat} {f : Nat → Int} (h : 0 < sm n f) : ∃ i, i < n ∧ 0 < f i := by
  induction n with
  | zero => exact absurd h (Int.lt_irrefl 0)
  | succ n ih =>
    have h1 : 0 < sm n f + f n := h
    by_cases e : 0 < f n
    · exact ⟨n, by omega, e⟩
    · obtain ⟨i, hi, p⟩ := ih (by omega)
      exact ⟨i, by omega, p⟩
theorem sm_app (n m : Nat) (f : Nat → Int) : sm (n + m) f = sm n f + sm m fun i => f (n + i) := by
  induction m with
  | zero =>
    show sm n f = sm n f + 0
    omega
  | succ m ih =>
    show sm (n + m) f + f (n + m) = sm n f + (sm m (fun i => f (n + i)) + f (n + m))
    rw [ih]
    omega
theorem sm_abs {n b : Nat} {f : Nat → Int} (h : ∀ i, i < n → (f i).natAbs ≤ b) : (sm n f).natAbs ≤ n * b := by
  induction n with
  | zero => exact Nat.zero_le _
  | succ n ih =>
    show (sm n f + f n).natAbs ≤ (n + 1) * b
    have h1 := ih fun i hi => h i (by omega)
    have h2 := h n (by omega)
    have h3 := Int.natAbs_add_le (sm n f) (f n)
    rw [Nat.succ_mul]
    omega
/-! ### a determinant: columns B c, rows B c r -/
def skip (i r : Nat) : Nat := if r < i then r else r + 1
def sg (i : Nat) : Int := if i % 2 = 0 then 1 else -1
theorem sg_succ (i : Nat) : sg (i + 1) = - sg i := by
  unfold sg
  by_cases h : i % 2 = 0
  · rw [if_pos h, if_neg (by omega)]
  · rw [if_neg h, if_pos (by omega)]
    rfl
theorem sg_abs (i : Nat) : (sg i).natAbs = 1 := by
  unfold sg
  by_cases h : i % 2 = 0
  · rw [if_pos h]; rfl
  · rw [if_neg h]; rfl
def det : Nat → (Nat → Nat → Int) → Int
  | 0, _ => 1
  | n + 1, B => sm (n + 1) fun i => sg i * B 0 i * det n fun c r => B (c + 1) (skip i r)
theorem skip_lt {n i r : Nat} (hr : r < n) : skip i r < n + 1 := by
  unfold skip
  split <;> omega
theorem det_congr : ∀ {n : Nat} {B C : Nat → Nat → Int}, (∀ c r, c < n → r < n → B c r = C c r) → det n B = det n C
  | 0, _, _, _ => rfl
  | n + 1, B, C, h => sm_congr fun i hi => by
    rw [h 0 i (by omega) hi, det_congr (n := n) (B := fun c r => B (c + 1) (skip i r)) (C := fun c r => C (c + 1) (skip i r)) fun c r hc hr => h _ _ (by omega) (skip_lt hr)]
/-- column k replaced -/
def rep (B : Nat → Nat → Int) (k : Nat) (v : Nat → Int) : Nat → Nat → Int := fun c => if c = k then v else B c
theorem rep_at {B : Nat → Nat → Int} {k : Nat} {v : Nat → Int} : rep B k v k = v := if_pos rfl
theorem rep_ne {B : Nat → Nat → Int} {k c : Nat} {v : Nat → Int} (h : c ≠ k) : rep B k v c = B c := if_neg h
theorem rep_shift (B : Nat → Nat → Int) (k i : Nat) (v : Nat → Int) : (fun c r => rep B (k + 1) v (c + 1) (skip i r)) = rep (fun c r => B (c + 1) (skip i r)) k (fun r => v (skip i r)) := by
  funext c
  unfold rep
  by_cases e : c = k
  · rw [if_pos e]
    funext r
    rw [if_pos (by omega)]
  · rw [if_neg e]
    funext r
    rw [if_neg (by omega)]
/-- linear in each column -/
theorem det_lin : ∀ {n : Nat} {B : Nat → Nat → Int} {k : Nat} {u v : Nat → Int} {a b : Int}, k < n → det n (rep B k fun r => a * u r + b * v r) = a * det n (rep B k u) + b * det n (rep B k v)
  | 0, _, k, _, _, _, _, h => absurd h (Nat.not_lt_zero k)
  | n + 1, B, 0, u, v, a, b, _ => by
    unfold det
    rw [← sm_mul, ← sm_mul, ← sm_add]
    refine sm_congr fun i _ => ?_
    rw [rep_at, rep_at, rep_at]
    have e : ∀ w : Nat → Int, (fun c r => rep B 0 w (c + 1) (skip i r)) = fun c r => B (c + 1) (skip i r) := fun w => by
      funext c r
      rw [rep_ne (by omega)]
    rw [e, e, e]
    grind
  | n + 1, B, k + 1, u, v, a, b, h => by
    unfold det
    rw [← sm_mul, ← sm_mul, ← sm_add]
    refine sm_congr fun i _ => ?_
    rw [rep_ne (by omega), rep_ne (by omega), rep_ne (by omega), rep_shift, rep_shift, rep_shift]
    have q := det_lin (n := n) (B := fun c r => B (c + 1) (skip i r)) (k := k) (u := fun r => u (skip i r)) (v := fun r => v (skip i r)) (a := a) (b := b) (by omega)
    rw [q]
    grind
theorem sum_split (n : Nat) (g : Nat → Nat → Int) : sm n (fun i => sm n fun j => if j < i then g i j else 0) = sm n (fun j => sm n fun i => if j < i then g i j else 0) := sm_comm n n fun i j => if j < i then g i j else 0
/-- the sum along a row of signs, one place left out -/
theorem sm_skip (n i : Nat) (hi : i < n + 1) (f : Nat → Int) : sm n (fun j => sg j * f (skip i j)) = sm (n + 1) (fun j => if j < i then sg j * f j else if j = i then 0 else - (sg j * f j)) := by
  induction n generalizing i with
  | zero =>
    have e : i = 0 := by omega
    subst e
    rfl
  | succ n ih =>
    by_cases e : i = n + 1
    · subst e
      show _ = sm (n + 1) _ + (if n + 1 < n + 1 then _ else if n + 1 = n + 1 then (0 : Int) else _)
      rw [if_neg (by omega), if_pos rfl, Int.add_zero]
      refine sm_congr fun j hj => ?_
      rw [if_pos hj]
      unfold skip
      rw [if_pos hj]
    · have q := ih i (by omega)
      show sm n (fun j => sg j * f (skip i j)) + sg n * f (skip i n) = sm (n + 1) _ + (if n + 1 < i then _ else if n + 1 = i then (0 : Int) else - (sg (n + 1) * f (n + 1)))
      rw [q, if_neg (by omega), if_neg (by omega)]
      have e2 : skip i n = n + 1 := by
        unfold skip
        rw [if_neg (by omega)]
      rw [e2, sg_succ]
      grind
theorem skip_skip {i j r : Nat} (h : j < i) : skip i (skip j r) = skip j (skip (i - 1) r) := by
  unfold skip
  repeat' split
  all_goals omega
/-- the first two columns are the same -/
theorem det_two (n : Nat) (B : Nat → Nat → Int) (h : ∀ r, B 0 r = B 1 r) : det (n + 2) B = 0 := by
  -- the minor without the rows i, j
  let M : Nat → Nat → Int := fun i j => det n fun c r => B (c + 2) (skip i (skip j r))
  have e1 : det (n + 2) B = sm (n + 2) fun i => sm (n + 2) fun j => if j < i then sg i * sg j * B 0 i * B 0 j * M i j else if j = i then 0 else - (sg i * sg j * B 0 i * B 0 j * M i (j - 1)) := by
    unfold det
    refine sm_congr fun i hi => ?_
    unfold det
    rw [← sm_mul]
    have e : sm (n + 1) (fun j => sg i * B 0 i * (sg j * B (0 + 1) (skip i j) * det n fun c r => B (c + 1 + 1) (skip i (skip j r)))) = sg i * B 0 i * sm (n + 1) (fun j => sg j * ((fun p => B 0 p * M i (if p < i then p else p - 1)) (skip i j))) := by
      rw [← sm_mul]
      refine sm_congr fun j _ => ?_
      have e2 : (if skip i j < i then skip i j else skip i j - 1) = j := by
        unfold skip
        by_cases hj : j < i
        · rw [if_pos hj, if_pos hj]
        · rw [if_neg hj, if_neg (by omega)]
          omega
      show sg i * B 0 i * (sg j * B 1 (skip i j) * M i j) = sg i * B 0 i * (sg j * (B 0 (skip i j) * M i (if skip i j < i then skip i j else skip i j - 1)))
      rw [e2, h (skip i j), Int.mul_assoc (sg j)]
    rw [e, sm_skip (n + 1) i hi (fun p => B 0 p * M i (if p < i then p else p - 1)), ← sm_mul]
    refine sm_congr fun j hj => ?_
    by_cases h1 : j < i
    · rw [if_pos h1, if_pos h1, if_pos h1]
      grind
    · rw [if_neg h1, if_neg h1, if_neg h1]
      by_cases h2 : j = i
      · rw [if_pos h2, if_pos h2]
        omega
      · rw [if_neg h2, if_neg h2]
        grind
  rw [e1]
  have e2 : (sm (n + 2) fun i => sm (n + 2) fun j => if j < i then sg i * sg j * B 0 i * B 0 j * M i j else if j = i then 0 else - (sg i * sg j * B 0 i * B 0 j * M i (j - 1)))
      = (sm (n + 2) fun i => sm (n + 2) fun j => if j < i then sg i * sg j * B 0 i * B 0 j * M i j else 0) - (sm (n + 2) fun i => sm (n + 2) fun j => if i < j then sg j * sg i * B 0 j * B 0 i * M j i else 0) := by
    rw [← sm_sub]
    refine sm_congr fun i _ => ?_
    rw [← sm_sub]
    refine sm_congr fun j _ => ?_
    by_cases h1 : j < i
    · rw [if_pos h1, if_pos h1, if_neg (by omega)]
      omega
    · rw [if_neg h1, if_neg h1]
      by_cases h2 : j = i
      · rw [if_pos h2, if_neg (by omega)]
        rfl
      · rw [if_neg h2, if_pos (by omega)]
        have e3 : M j i = M i (j - 1) := by
          show det n _ = det n _
          refine det_congr fun c r _ _ => ?_
          rw [skip_skip (i := j) (j := i) (by omega)]
        rw [e3]
        grind
  rw [e2, sm_comm (n + 2) (n + 2) fun i j => if i < j then sg j * sg i * B 0 j * B 0 i * M j i else 0]
  omega
/-- neighbors are the same -/
theorem det_adj : ∀ {n : Nat} {B : Nat → Nat → Int} {k : Nat}, k + 1 < n → (∀ r, B k r = B (k + 1) r) → det n B = 0
  | 0, _, _, h, _ => absurd h (Nat.not_lt_zero _)
  | 1, _, _, h, _ => by omega
  | n + 2, B, 0, _, h => det_two n B h
  | n + 2, B, k + 1, h, e => by
    show sm (n + 2) (fun i => sg i * B 0 i * det (n + 1) fun c r => B (c + 1) (skip i r)) = 0
    refine sm_zero fun i _ => ?_
    have q := det_adj (n := n + 1) (B := fun c r => B (c + 1) (skip i r)) (k := k) (by omega) fun r => e _
    rw [q]
    exact Int.mul_zero _
theorem rep_self (B : Nat → Nat → Int) (k : Nat) : rep B k (B k) = B := by
  funext c
  unfold rep
  by_cases h : c = k
  · rw [if_pos h, h]
  · rw [if_neg h]
theorem rep_rep (B : Nat → Nat → Int) (k : Nat) (u v : Nat → Int) : rep (rep B k u) k v = rep B k v := by
  funext c
  unfold rep
  by_cases h : c = k
  · rw [if_pos h, if_pos h]
  · rw [if_neg h, if_neg h, if_neg h]
theorem rep_comm (B : Nat → Nat → Int) {k l : Nat} (u v : Nat → Int) (h : k ≠ l) : rep (rep B k u) l v = rep (rep B l v) k u := by
  funext c
  unfold rep
  by_cases h1 : c = k
  · rw [if_neg (by omega), if_pos h1, if_pos h1]
  · by_cases h2 : c = l
    · rw [if_pos h2, if_neg h1, if_pos h2]
    · rw [if_neg h2, if_neg h1, if_neg h1, if_neg h2]
theorem det_add {n : Nat} {B : Nat → Nat → Int} {k : Nat} {u v : Nat → Int} (h : k < n) : det n (rep B k fun r => u r + v r) = det n (rep B k u) + det n (rep B k v) := by
  have q := det_lin (n := n) (B := B) (k := k) (u := u) (v := v) (a := 1) (b := 1) h
  have e : (fun r => 1 * u r + 1 * v r) = fun r => u r + v r := by
    funext r
    rw [Int.one_mul, Int.one_mul]
  rw [e] at q
  rw [q, Int.one_mul, Int.one_mul]
/-- neighbors change places -/
theorem det_swap1 {n : Nat} {B : Nat → Nat → Int} {k : Nat} {u v : Nat → Int} (h : k + 1 < n) : det n (rep (rep B k u) (k + 1) v) = - det n (rep (rep B k v) (k + 1) u) := by
  have z : ∀ x : Nat → Int, det n (rep (rep B k x) (k + 1) x) = 0 := fun x => det_adj h fun r => by
    rw [rep_at, rep_ne (by omega), rep_at]
  have s1 : det n (rep (rep B k fun r => u r + v r) (k + 1) fun r => u r + v r) = det n (rep (rep B k u) (k + 1) fun r => u r + v r) + det n (rep (rep B k v) (k + 1) fun r => u r + v r) := by
    have c : ∀ x y : Nat → Int, rep (rep B k x) (k + 1) y = rep (rep B (k + 1) y) k x := fun x y => rep_comm B x y (by omega)
    rw [c, c, c]
    exact det_add (by omega)
  rw [z, det_add h, det_add h, z, z] at s1
  omega
/-- two columns are the same -/
theorem det_same {n : Nat} : ∀ (d : Nat) {B : Nat → Nat → Int} {k : Nat}, k + d + 1 < n → (∀ r, B k r = B (k + d + 1) r) → det n B = 0
  | 0, B, k, h, e => det_adj h e
  | d + 1, B, k, h, e => by
    have e1 : B = rep (rep B (k + d + 1) (B (k + d + 1))) (k + d + 1 + 1) (B (k + d + 1 + 1)) := by
      rw [rep_self, rep_self]
    rw [e1, det_swap1 (n := n) (k := k + d + 1) (by omega)]
    have q := det_same (n := n) d (B := rep (rep B (k + d + 1) (B (k + d + 1 + 1))) (k + d + 1 + 1) (B (k + d + 1))) (k := k) (by omega) fun r => by
      rw [rep_ne (show k ≠ k + d + 1 + 1 by omega), rep_ne (show k ≠ k + d + 1 by omega), rep_ne (show k + d + 1 ≠ k + d + 1 + 1 by omega), rep_at]
      exact e r
    rw [q]
    rfl
theorem det_eq0 {n k l : Nat} {B : Nat → Nat → Int} (hk : k < n) (hl : l < n) (hkl : k ≠ l) (e : ∀ r, B k r = B l r) : det n B = 0 := by
  rcases Nat.lt_or_gt_of_ne hkl with h | h
  · exact det_same (l - k - 1) (k := k) (by omega) fun r => by
      rw [show k + (l - k - 1) + 1 = l by omega]
      exact e r
  · exact det_same (k - l - 1) (k := l) (by omega) fun r => by
      rw [show l + (k - l - 1) + 1 = k by omega]
      exact (e r).symm
/-- two columns change places -/
theorem det_swap {n k l : Nat} {B : Nat → Nat → Int} {u v : Nat → Int} (hk : k < n) (hl : l < n) (hkl : k ≠ l) : det n (rep (rep B k u) l v) = - det n (rep (rep B k v) l u) := by
  have z : ∀ x : Nat → Int, det n (rep (rep B k x) l x) = 0 := fun x => det_eq0 hk hl hkl fun r => by
    rw [rep_at, rep_ne hkl, rep_at]
  have s1 : det n (rep (rep B k fun r => u r + v r) l fun r => u r + v r) = det n (rep (rep B k u) l fun r => u r + v r) + det n (rep (rep B k v) l fun r => u r + v r) := by
    have c : ∀ x y : Nat → Int, rep (rep B k x) l y = rep (rep B l y) k x := fun x y => rep_comm B x y hkl
    rw [c, c, c]
    exact det_add hk
  rw [z, det_add hl, det_add hl, z, z] at s1
  omega
theorem det_smul {n : Nat} {B : Nat → Nat → Int} {k : Nat} {a : Int} {u : Nat → Int} (h : k < n) : det n (rep B k fun r => a * u r) = a * det n (rep B k u) := by
  have q := det_lin (n := n) (B := B) (k := k) (u := u) (v := u) (a := a) (b := 0) h
  have e : (fun r => a * u r + 0 * u r) = fun r => a * u r := by
    funext r
    omega
  rw [e] at q
  rw [q]
  omega
theorem det_sum {n : Nat} {B : Nat → Nat → Int} {k : Nat} (h : k < n) (a : Nat → Int) (u : Nat → Nat → Int) : ∀ m, det n (rep B k fun r => sm m fun i => a i * u i r) = sm m fun i => a i * det n (rep B k (u i))
  | 0 => by
    have q := det_smul (n := n) (B := B) (k := k) (a := 0) (u := fun _ => 0) h
    have e : (fun r : Nat => sm 0 fun i => a i * u i r) = fun _ => 0 * 0 := rfl
    rw [e, q]
    exact Int.zero_mul _
  | m + 1 => by
    show det n (rep B k fun r => sm m (fun i => a i * u i r) + a m * u m r) = sm m (fun i => a i * det n (rep B k (u i))) + a m * det n (rep B k (u m))
    rw [det_add h, det_sum h a u m, det_smul h]
/-- Cramer's rule: d e = sum of x i B i -/
theorem cramer {n k : Nat} {B : Nat → Nat → Int} {x e : Nat → Int} {d : Int} (h : k < n) (he : ∀ r, r < n → sm n (fun i => x i * B i r) = d * e r) : d * det n (rep B k e) = x k * det n B := by
  rw [← det_smul h]
  have e1 : det n (rep B k fun r => d * e r) = det n (rep B k fun r => sm n fun i => x i * B i r) := det_congr fun c r _ hr => by
    unfold rep
    by_cases hc : c = k
    · rw [if_pos hc, if_pos hc]
      exact (he r hr).symm
    · rw [if_neg hc, if_neg hc]
  rw [e1, det_sum h, sm_single (k := k) h fun i hi hn => ?_]
  · rw [rep_self]
  · rw [det_eq0 h hi (fun z => hn z.symm) fun r => by rw [rep_at, rep_ne hn]]
    exact Int.mul_zero _
/-- columns of which none hangs on the others -/
theorem indep {n : Nat} {B : Nat → Nat → Int} {x : Nat → Int} (hd : det n B ≠ 0) (he : ∀ r, r < n → sm n (fun i => x i * B i r) = 0) : ∀ k, k < n → x k = 0 := fun k hk => by
  have q := cramer (n := n) (k := k) (B := B) (x := x) (e := fun _ => 0) (d := 0) hk fun r hr => by rw [he r hr]; rfl
  rw [Int.zero_mul] at q
  rcases Int.mul_eq_zero.mp q.symm with z | z
  · exact z
  · exact absurd z hd
theorem det_one : ∀ n, det n (fun c r => if c = r then 1 else 0) = 1
  | 0 => rfl
  | n + 1 => by
    unfold det
    rw [sm_single (k := 0) (by omega) fun i _ hi => by
      show sg i * (if 0 = i then 1 else 0) * _ = 0
      rw [if_neg (fun z => hi z.symm), Int.mul_zero, Int.zero_mul]]
    have e : det n (fun c r => if c + 1 = skip 0 r then 1 else 0) = det n (fun c r => if c = r then 1 else 0) := det_congr fun c r _ _ => by
      have q : skip 0 r = r + 1 := rfl
      rw [q]
      by_cases h : c = r
      · rw [if_pos (by omega), if_pos h]
      · rw [if_neg (by omega), if_neg h]
    rw [e, det_one n]
    rfl
def fact : Nat → Nat
  | 0 => 1
  | n + 1 => (n + 1) * fact n
theorem det_bound {b : Nat} : ∀ {n : Nat} {B : Nat → Nat → Int}, (∀ c r, c < n → r < n → (B c r).natAbs ≤ b) → (det n B).natAbs ≤ fact n * b ^ n
  | 0, _, _ => Nat.le_refl 1
  | n + 1, B, h => by
    unfold det
    have q := sm_abs (n := n + 1) (b := b * (fact n * b ^ n)) (f := fun i => sg i * B 0 i * det n fun c r => B (c + 1) (skip i r)) fun i hi => by
      rw [Int.natAbs_mul, Int.natAbs_mul, sg_abs, Nat.one_mul]
      exact Nat.mul_le_mul (h 0 i (by omega) hi) (det_bound (n := n) fun c r hc hr => h _ _ (by omega) (skip_lt hr))
    refine Nat.le_trans q (Nat.le_of_eq ?_)
    show (n + 1) * (b * (fact n * b ^ n)) = (n + 1) * fact n * b ^ (n + 1)
    rw [Nat.pow_succ, Nat.mul_assoc, ← Nat.mul_assoc b, Nat.mul_comm b, Nat.mul_assoc (fact n), Nat.mul_comm b]
/-- one column is bounded by d, the others by b -/
theorem det_bound2 {b d : Nat} (b1 : 1 ≤ b) : ∀ {n k : Nat} {B : Nat → Nat → Int}, (∀ c r, c < n → r < n → c ≠ k → (B c r).natAbs ≤ b) → (∀ r, r < n → (B k r).natAbs ≤ d) → k < n → (det n B).natAbs ≤ fact n * b ^ n * d
  | 0, _, _, _, _, h => absurd h (Nat.not_lt_zero _)
  | n + 1, 0, B, h, hd, _ => by
    unfold det
    have q := sm_abs (n := n + 1) (b := d * (fact n * b ^ n)) (f := fun i => sg i * B 0 i * det n fun c r => B (c + 1) (skip i r)) fun i hi => by
      rw [Int.natAbs_mul, Int.natAbs_mul, sg_abs, Nat.one_mul]
      exact Nat.mul_le_mul (hd i hi) (det_bound (n := n) fun c r hc hr => h _ _ (by omega) (skip_lt hr) (by omega))
    refine Nat.le_trans q ?_
    have e : (n + 1) * (d * (fact n * b ^ n)) = fact (n + 1) * b ^ n * d := by
      show _ = (n + 1) * fact n * b ^ n * d
      rw [Nat.mul_comm d, ← Nat.mul_assoc, ← Nat.mul_assoc]
    rw [e]
    refine Nat.mul_le_mul_right _ (Nat.mul_le_mul_left _ ?_)
    rw [Nat.pow_succ]
    exact Nat.le_mul_of_pos_right _ b1
  | n + 1, k + 1, B, h, hd, hk => by
    unfold det
    have q := sm_abs (n := n + 1) (b := b * (fact n * b ^ n * d)) (f := fun i => sg i * B 0 i * det n fun c r => B (c + 1) (skip i r)) fun i hi => by
      rw [Int.natAbs_mul, Int.natAbs_mul, sg_abs, Nat.one_mul]
      exact Nat.mul_le_mul (h 0 i (by omega) hi (by omega)) (det_bound2 b1 (n := n) (k := k) (fun c r hc hr hn => h _ _ (by omega) (skip_lt hr) (by omega)) (fun r hr => hd _ (skip_lt hr)) (by omega))
    refine Nat.le_trans q (Nat.le_of_eq ?_)
    show (n + 1) * (b * (fact n * b ^ n * d)) = (n + 1) * fact n * b ^ (n + 1) * d
    rw [Nat.pow_succ]
    have e : b * (fact n * b ^ n * d) = fact n * (b ^ n * b) * d := by
      rw [← Nat.mul_assoc, ← Nat.mul_assoc, Nat.mul_comm b, Nat.mul_assoc (fact n), Nat.mul_comm b, Nat.mul_assoc (fact n)]
    rw [e, ← Nat.mul_assoc, ← Nat.mul_assoc]
end La

set_option Elab.async false
namespace La
/-- a tableau: m rows, N columns; T the columns it began with; b its base, D its divisor, L its lines (row, column) -/
structure Inv (m N : Nat) (T : Nat → Nat → Int) (b : Nat → Nat) (D : Int) (L : Nat → Nat → Int) : Prop where
  d0 : 0 < D
  bN : ∀ k, k < m → b k < N
  span : ∀ j, j < N → ∀ r, r < m → sm m (fun k => L k j * T (b k) r) = D * T j r
  dt : (det m fun k => T (b k)).natAbs = D.natAbs
/-- base, lines behind a step -/
def bP (b : Nat → Nat) (at' c : Nat) : Nat → Nat := fun k => if k = at' then c else b k
def LP (L : Nat → Nat → Int) (D : Int) (at' c : Nat) (s : Int) : Nat → Nat → Int := fun k j => if k = at' then s * L at' j else (s * L at' c * L k j - L k c * (s * L at' j)) / D
theorem rep_bP (T : Nat → Nat → Int) (b : Nat → Nat) (at' c : Nat) : (fun k => T (bP b at' c k)) = rep (fun k => T (b k)) at' (T c) := by
  funext k
  unfold bP rep
  by_cases h : k = at'
  · rw [if_pos h, if_pos h]
  · rw [if_neg h, if_neg h]
section
variable {m N : Nat} {T : Nat → Nat → Int} {b : Nat → Nat} {D : Int} {L : Nat → Nat → Int}
theorem Inv.sgn (I : Inv m N T b D L) : ∃ s : Int, (s = 1 ∨ s = -1) ∧ (det m fun k => T (b k)) = s * D := by
  have h := I.dt
  rcases Int.natAbs_eq_natAbs_iff.mp h with e | e
  · exact ⟨1, .inl rfl, by rw [e, Int.one_mul]⟩
  · exact ⟨-1, .inr rfl, by rw [e]; omega⟩
theorem Inv.det0 (I : Inv m N T b D L) : (det m fun k => T (b k)) ≠ 0 := fun z => by
  have h := I.dt
  have := I.d0
  rw [z] at h
  have e : D.natAbs = 0 := h.symm
  omega
/-- what stands in the lines is a determinant -/
theorem Inv.entry (I : Inv m N T b D L) {k j : Nat} (hk : k < m) (hj : j < N) {s : Int} (hs : (det m fun k => T (b k)) = s * D) : det m (rep (fun k => T (b k)) k (T j)) = s * L k j := by
  have q := cramer (n := m) (k := k) (B := fun k => T (b k)) (x := fun k => L k j) (e := T j) (d := D) hk fun r hr => I.span j hj r hr
  rw [hs] at q
  have d0 := I.d0
  have e : D * det m (rep (fun k => T (b k)) k (T j)) = D * (s * L k j) := by rw [q]; grind
  exact Int.eq_of_mul_eq_mul_left (by omega) e
theorem Inv.bound (I : Inv m N T b D L) {c : Nat} (hT : ∀ j r, j < N → r < m → (T j r).natAbs ≤ c) {k j : Nat} (hk : k < m) (hj : j < N) : (L k j).natAbs ≤ fact m * c ^ m := by
  obtain ⟨s, hs, e⟩ := I.sgn
  have q := I.entry hk hj e
  have h := det_bound (n := m) (b := c) (B := rep (fun k => T (b k)) k (T j)) fun x r hx hr => by
    unfold rep
    by_cases z : x = k
    · rw [if_pos z]; exact hT j r hj hr
    · rw [if_neg z]; exact hT _ r (I.bN x hx) hr
  rw [q, Int.natAbs_mul] at h
  have e1 : s.natAbs = 1 := by rcases hs with rfl | rfl <;> rfl
  rw [e1, Nat.one_mul] at h
  exact h
/-- the base's columns are bounded by c, the column that comes in by d -/
theorem Inv.bound2 (I : Inv m N T b D L) {c d : Nat} (c1 : 1 ≤ c) (hT : ∀ k r, k < m → r < m → (T (b k) r).natAbs ≤ c) {k j : Nat} (hk : k < m) (hj : j < N) (hd : ∀ r, r < m → (T j r).natAbs ≤ d) : (L k j).natAbs ≤ fact m * c ^ m * d := by
  obtain ⟨s, hs, e⟩ := I.sgn
  have q := I.entry hk hj e
  have h := det_bound2 (n := m) (b := c) (d := d) (k := k) (B := rep (fun k => T (b k)) k (T j)) c1 (fun x r hx hr hn => by
    rw [rep_ne hn]
    exact hT x r hx hr) (fun r hr => by rw [rep_at]; exact hd r hr) hk
  rw [q, Int.natAbs_mul] at h
  have e1 : s.natAbs = 1 := by rcases hs with rfl | rfl <;> rfl
  rw [e1, Nat.one_mul] at h
  exact h
theorem Inv.boundB (I : Inv m N T b D L) {c : Nat} (hT : ∀ k r, k < m → r < m → (T (b k) r).natAbs ≤ c) : D.natAbs ≤ fact m * c ^ m := by
  rw [← I.dt]
  exact det_bound fun x r hx hr => hT x r hx hr
theorem Inv.boundD (I : Inv m N T b D L) {c : Nat} (hT : ∀ j r, j < N → r < m → (T j r).natAbs ≤ c) : D.natAbs ≤ fact m * c ^ m := by
  rw [← I.dt]
  exact det_bound fun x r hx hr => hT _ r (I.bN x hx) hr
/-- what doesn't change the columns told by the base is nothing -/
theorem Inv.inj (I : Inv m N T b D L) {x y : Nat → Int} (h : ∀ r, r < m → sm m (fun k => x k * T (b k) r) = sm m fun k => y k * T (b k) r) : ∀ k, k < m → x k = y k := fun k hk => by
  have q := indep (n := m) (B := fun k => T (b k)) (x := fun k => x k - y k) I.det0 (fun r hr => by
    have e : sm m (fun k => (x k - y k) * T (b k) r) = sm m (fun k => x k * T (b k) r) - sm m fun k => y k * T (b k) r := by
      rw [← sm_sub]
      exact sm_congr fun i _ => by rw [Int.sub_mul]
    rw [e, h r hr]
    omega) k hk
  omega
/-- the base's own columns -/
theorem Inv.unit (I : Inv m N T b D L) {k i : Nat} (hk : k < m) (hi : i < m) : L k (b i) = if k = i then D else 0 := by
  refine I.inj (x := fun k => L k (b i)) (y := fun k => if k = i then D else 0) (fun r hr => ?_) k hk
  rw [I.span _ (I.bN i hi) r hr]
  rw [sm_single (k := i) hi fun j _ hn => by rw [if_neg hn, Int.zero_mul]]
  rw [if_pos rfl]
theorem Inv.base_inj (I : Inv m N T b D L) {k i : Nat} (hk : k < m) (hi : i < m) (e : b k = b i) : k = i := by
  have h1 := I.unit hk hi
  have h2 := I.unit hi hi
  have d0 := I.d0
  rw [if_pos rfl] at h2
  by_cases z : k = i
  · exact z
  · rw [if_neg z] at h1
    have h3 := I.unit hk hk
    rw [if_pos rfl, e, h1] at h3
    omega
/-- the division goes up -/
theorem Inv.exact (I : Inv m N T b D L) {at' c k j : Nat} {s : Int} (ha : at' < m) (hk : k < m) (hka : k ≠ at') (hc : c < N) (hj : j < N) : D ∣ s * L at' c * L k j - L k c * (s * L at' j) := by
  obtain ⟨σ, hσ, e⟩ := I.sgn
  have d0 := I.d0
  let B := fun k => T (b k)
  have e1 : D * det m (rep (rep B at' (T c)) k (T j)) = σ * (L k j * L at' c - L at' j * L k c) := by
    rw [← det_smul hk]
    have e2 : det m (rep (rep B at' (T c)) k fun r => D * T j r) = det m (rep (rep B at' (T c)) k fun r => sm m fun i => L i j * B i r) := det_congr fun x r _ hr => by
      unfold rep
      by_cases hx : x = k
      · rw [if_pos hx, if_pos hx]
        exact (I.span j hj r hr).symm
      · rw [if_neg hx, if_neg hx]
    rw [e2, det_sum hk]
    rw [sm_two (k := k) (l := at') hk ha hka fun i hi n1 n2 => by
      have z : det m (rep (rep B at' (T c)) k (B i)) = 0 := det_eq0 hk hi (fun z => n1 z.symm) fun r => by
        rw [rep_at, rep_ne n1, rep_ne n2]
      rw [z, Int.mul_zero]]
    have z1 : rep (rep B at' (T c)) k (B k) = rep B at' (T c) := by
      rw [rep_comm _ _ _ (fun z => hka z.symm), rep_self]
    have z2 : det m (rep (rep B at' (T c)) k (B at')) = - det m (rep B k (T c)) := by
      have q := det_swap (n := m) (B := B) (k := at') (l := k) (u := T c) (v := B at') ha hk (fun z => hka z.symm)
      rw [q, rep_self]
    rw [z1, z2, I.entry ha hc e, I.entry hk hc e]
    grind
  have e3 : σ * σ = 1 := by rcases hσ with rfl | rfl <;> rfl
  refine ⟨s * σ * det m (rep (rep B at' (T c)) k (T j)), ?_⟩
  have e4 : D * (s * σ * det m (rep (rep B at' (T c)) k (T j))) = s * σ * (D * det m (rep (rep B at' (T c)) k (T j))) := by grind
  rw [e4, e1]
  grind
theorem Inv.LP_at (I : Inv m N T b D L) {at' c k j : Nat} {s : Int} (ha : at' < m) (hk : k < m) (hka : k ≠ at') (hc : c < N) (hj : j < N) : D * LP L D at' c s k j = s * L at' c * L k j - L k c * (s * L at' j) := by
  unfold LP
  rw [if_neg hka]
  exact Int.mul_ediv_cancel' (I.exact ha hk hka hc hj)
/-- a step keeps it -/
theorem Inv.pivot (I : Inv m N T b D L) {at' c : Nat} {s : Int} (hs : s = 1 ∨ s = -1) (ha : at' < m) (hc : c < N) (hp : 0 < s * L at' c) : Inv m N T (bP b at' c) (s * L at' c) (LP L D at' c s) := by
  have d0 := I.d0
  refine ⟨hp, fun k hk => ?_, fun j hj r hr => ?_, ?_⟩
  · unfold bP
    split
    · exact hc
    · exact I.bN k hk
  · refine Int.eq_of_mul_eq_mul_left (show D ≠ 0 by omega) ?_
    rw [← sm_mul]
    have e1 : sm m (fun k => D * (LP L D at' c s k j * T (bP b at' c k) r)) = sm m (fun k => (s * L at' c * (L k j * T (b k) r) - s * L at' j * (L k c * T (b k) r)) + (if k = at' then D * (s * L at' j * T c r) else 0)) := sm_congr fun k hk => by
      by_cases hka : k = at'
      · subst hka
        unfold LP bP
        rw [if_pos rfl, if_pos rfl, if_pos rfl]
        grind
      · rw [if_neg hka, ← Int.mul_assoc, I.LP_at ha hk hka hc hj]
        unfold bP
        rw [if_neg hka]
        grind
    rw [e1, sm_add, sm_sub, sm_mul, sm_mul, I.span j hj r hr, I.span c hc r hr, sm_single (k := at') ha fun i _ hn => if_neg hn, if_pos rfl]
    grind
  · rw [rep_bP]
    obtain ⟨σ, hσ, e⟩ := I.sgn
    rw [I.entry ha hc e, Int.natAbs_mul, Int.natAbs_mul]
    have h1 : σ.natAbs = 1 := by rcases hσ with rfl | rfl <;> rfl
    have h2 : s.natAbs = 1 := by rcases hs with rfl | rfl <;> rfl
    rw [h1, h2]
end
end La

set_option Elab.async false
set_option maxRecDepth 100000
set_option maxHeartbeats 4000000
set_option exponentiation.threshold 20000
namespace Fk
open PySem L2
/-! ### lowest terms -/
theorem low_parts {a b : Int} (b0 : 0 < b) : ∃ g a' b' : Int, 0 < g ∧ a = g * a' ∧ b = g * b' ∧ 0 < b' ∧ Nat.gcd a'.natAbs b'.natAbs = 1 ∧ lowI a b = (a', b') := by
  have g0 := gcd_pos_int (a := a) b0
  obtain ⟨a', ha⟩ := gcd_dvd_int a b
  obtain ⟨b', hb⟩ := gcd_dvd_int' a b
  refine ⟨(Nat.gcd a.natAbs b.natAbs : Nat), a', b', g0, ha, hb, ?_, ?_, ?_⟩
  · rw [hb] at b0
    exact Int.lt_of_mul_lt_mul_left (by rw [Int.mul_zero]; exact b0) (Int.le_of_lt g0)
  · have e1 : a.natAbs = Nat.gcd a.natAbs b.natAbs * a'.natAbs := by
      have z := congrArg Int.natAbs ha
      rw [Int.natAbs_mul, Int.natAbs_natCast] at z
      exact z
    have e2 : b.natAbs = Nat.gcd a.natAbs b.natAbs * b'.natAbs := by
      have z := congrArg Int.natAbs hb
      rw [Int.natAbs_mul, Int.natAbs_natCast] at z
      exact z
    have gp : 0 < Nat.gcd a.natAbs b.natAbs := by omega
    have e3 : Nat.gcd a.natAbs b.natAbs = Nat.gcd a.natAbs b.natAbs * Nat.gcd a'.natAbs b'.natAbs := by
      rw [← Nat.gcd_mul_left, ← e1, ← e2]
    have : Nat.gcd a.natAbs b.natAbs * 1 = Nat.gcd a.natAbs b.natAbs * Nat.gcd a'.natAbs b'.natAbs := by omega
    exact (Nat.eq_of_mul_eq_mul_left gp this).symm
  · unfold lowI
    generalize hg : ((Nat.gcd a.natAbs b.natAbs : Nat) : Int) = g at *
    have n0 : g ≠ 0 := by omega
    rw [ha, hb, Int.mul_ediv_cancel_left _ n0, Int.mul_ediv_cancel_left _ n0]
theorem low_uniq {a b c d : Int} (b0 : 0 < b) (d0 : 0 < d) (h1 : Nat.gcd a.natAbs b.natAbs = 1) (h2 : Nat.gcd c.natAbs d.natAbs = 1) (h : a * d = c * b) : (a, b) = (c, d) := by
  have e1 : b.natAbs ∣ d.natAbs := by
    refine Nat.Coprime.dvd_of_dvd_mul_left (show Nat.Coprime b.natAbs a.natAbs from (Nat.gcd_comm _ _).trans h1) ⟨c.natAbs, ?_⟩
    have z := congrArg Int.natAbs h
    rw [Int.natAbs_mul, Int.natAbs_mul] at z
    rw [z, Nat.mul_comm]
  have e2 : d.natAbs ∣ b.natAbs := by
    refine Nat.Coprime.dvd_of_dvd_mul_left (show Nat.Coprime d.natAbs c.natAbs from (Nat.gcd_comm _ _).trans h2) ⟨a.natAbs, ?_⟩
    have z := congrArg Int.natAbs h
    rw [Int.natAbs_mul, Int.natAbs_mul] at z
    rw [← z, Nat.mul_comm]
  have e3 := Nat.dvd_antisymm e1 e2
  have e4 : b = d := by omega
  subst e4
  have e5 : a = c := Int.eq_of_mul_eq_mul_right (by omega) h
  rw [e5]
theorem low_eq {a b c d : Int} (b0 : 0 < b) (d0 : 0 < d) (h : a * d = c * b) : lowI a b = lowI c d := by
  obtain ⟨g, a', b', g0, ha, hb, b1, c1, e1⟩ := low_parts (a := a) b0
  obtain ⟨k, c', d', k0, hc, hd, d1, c2, e2⟩ := low_parts (a := c) d0
  rw [e1, e2]
  refine low_uniq b1 d1 c1 c2 ?_
  have z : (g * k) * (a' * d') = (g * k) * (c' * b') := by
    have z1 : g * a' * (k * d') = g * k * (a' * d') := by
      rw [Int.mul_assoc, ← Int.mul_assoc a', Int.mul_comm a' k, Int.mul_assoc k, ← Int.mul_assoc]
    have z2 : k * c' * (g * b') = g * k * (c' * b') := by
      rw [Int.mul_assoc, ← Int.mul_assoc c', Int.mul_comm c' g, Int.mul_assoc g, ← Int.mul_assoc, Int.mul_comm k g]
    rw [← z1, ← z2, ← ha, ← hb, ← hc, ← hd]
    exact h
  exact Int.eq_of_mul_eq_mul_left (by have := Int.mul_pos g0 k0; omega) z
theorem low_pos {a b : Int} (b0 : 0 < b) (a0 : 0 < a) : 0 < (lowI a b).1 := by
  obtain ⟨g, a', b', g0, e1, e2, b1, c, e⟩ := low_parts (a := a) b0
  rw [e]
  rw [e1] at a0
  exact Int.lt_of_mul_lt_mul_left (by rw [Int.mul_zero]; exact a0) (Int.le_of_lt g0)
/-- a fraction in lowest terms, told by another -/
theorem low_val {a b : Int} (b0 : 0 < b) : 0 < (lowI a b).2 ∧ (lowI a b).1 * b = a * (lowI a b).2 := by
  obtain ⟨g, a', b', g0, e1, e2, b1, c, e⟩ := low_parts (a := a) b0
  rw [e]
  refine ⟨b1, ?_⟩
  show a' * b = a * b'
  rw [e1, e2]
  ac_rfl
theorem low_bd {A B : Nat} {a b : Int} (b0 : 0 < b) (ha : Bd A a) (hb : Bd B b) : Bd A (lowI a b).1 ∧ Bd B (lowI a b).2 := by
  obtain ⟨g, a', b', g0, e1, e2, b1, c, e⟩ := low_parts (a := a) b0
  rw [e]
  have na : a'.natAbs ≤ a.natAbs := by
    rw [e1, Int.natAbs_mul]
    exact Nat.le_mul_of_pos_left _ (by omega)
  have nb : b'.natAbs ≤ b.natAbs := by
    rw [e2, Int.natAbs_mul]
    exact Nat.le_mul_of_pos_left _ (by omega)
  exact ⟨Nat.lt_of_le_of_lt na ha, Nat.lt_of_le_of_lt nb hb⟩
/-- what a pair needs to be reckoned with -/
def Fine (B : Nat) (x : Int × Int) : Prop := 0 < x.2 ∧ Bd B x.1 ∧ Bd B x.2
def timF (x y : Int × Int) : Int × Int := lowI (x.1 * y.1) (x.2 * y.2)
def pluF (x y : Int × Int) : Int × Int := lowI (x.1 * y.2 + y.1 * x.2) (x.2 * y.2)
/-! ### pairs as rational numbers -/
def qv (x : Int × Int) : Rat := (x.1 : Rat) / (x.2 : Rat)
structure Red (x : Int × Int) : Prop where
  p : 0 < x.2
  g : Nat.gcd x.1.natAbs x.2.natAbs = 1
theorem Fit.red {a b : Nat} {x : Int × Int} (h : Fit a b x) : Red x := ⟨h.p, h.g⟩
theorem cast_ne {b : Int} (h : 0 < b) : (b : Rat) ≠ 0 := by
  have : b ≠ 0 := by omega
  exact_mod_cast this
theorem cast_pos {b : Int} (h : 0 < b) : (0 : Rat) < (b : Rat) := by exact_mod_cast h
theorem qv_mul {x : Int × Int} (h : 0 < x.2) : qv x * (x.2 : Rat) = (x.1 : Rat) := by
  have := cast_ne h
  unfold qv
  grind
theorem low_red {a b : Int} (b0 : 0 < b) : Red (lowI a b) := by
  obtain ⟨g, a', b', g0, ha, hb, b1, c1, e1⟩ := low_parts (a := a) b0
  rw [e1]
  exact ⟨b1, c1⟩
theorem qv_low {a b : Int} (b0 : 0 < b) : qv (lowI a b) = (a : Rat) / (b : Rat) := by
  obtain ⟨h1, h2⟩ := low_val (a := a) b0
  have n1 := cast_ne h1
  have n2 := cast_ne b0
  have e : ((lowI a b).1 : Rat) * (b : Rat) = (a : Rat) * ((lowI a b).2 : Rat) := by exact_mod_cast h2
  unfold qv
  grind
theorem qv_inj {x y : Int × Int} (hx : Red x) (hy : Red y) (h : qv x = qv y) : x = y := by
  have n1 := cast_ne hx.p
  have n2 := cast_ne hy.p
  have e : (x.1 : Rat) * (y.2 : Rat) = (y.1 : Rat) * (x.2 : Rat) := by
    unfold qv at h
    grind
  have e2 : x.1 * y.2 = y.1 * x.2 := by exact_mod_cast e
  exact low_uniq hx.p hy.p hx.g hy.g e2
theorem qv_neg {x : Int × Int} (h : 0 < x.2) : x.1 < 0 ↔ qv x < 0 := by
  have q := qv_mul h
  have p := cast_pos h
  constructor
  · intro z
    have z' : (x.1 : Rat) < 0 := by exact_mod_cast z
    rw [← q] at z'
    exact Rat.not_le.mp fun w => absurd (Rat.mul_nonneg w (Rat.le_of_lt p)) (Rat.not_le.mpr z')
  · intro z
    have z' : qv x * (x.2 : Rat) < 0 := by
      have := Rat.mul_lt_mul_of_pos_right z p
      rwa [Rat.zero_mul] at this
    rw [q] at z'
    exact_mod_cast z'
theorem qv_lt {x y : Int × Int} (hx : 0 < x.2) (hy : 0 < y.2) : x.1 * y.2 < y.1 * x.2 ↔ qv x < qv y := by
  have q1 := qv_mul hx
  have q2 := qv_mul hy
  have p1 := cast_pos hx
  have p2 := cast_pos hy
  have p3 := Rat.mul_pos p1 p2
  have e1 : ((x.1 * y.2 : Int) : Rat) = qv x * ((x.2 : Rat) * (y.2 : Rat)) := by
    rw [Rat.intCast_mul, ← q1]
    grind
  have e2 : ((y.1 * x.2 : Int) : Rat) = qv y * ((x.2 : Rat) * (y.2 : Rat)) := by
    rw [Rat.intCast_mul, ← q2]
    grind
  have e3 : x.1 * y.2 < y.1 * x.2 ↔ ((x.1 * y.2 : Int) : Rat) < ((y.1 * x.2 : Int) : Rat) := by
    constructor
    · intro z
      exact_mod_cast z
    · intro z
      exact_mod_cast z
  rw [e3, e1, e2]
  exact Rat.mul_lt_mul_right p3
theorem qv_plu {x y : Int × Int} (hx : 0 < x.2) (hy : 0 < y.2) : qv (pluF x y) = qv x + qv y := by
  unfold pluF
  rw [qv_low (Int.mul_pos hx hy)]
  have n1 := cast_ne hx
  have n2 := cast_ne hy
  rw [Rat.intCast_add, Rat.intCast_mul, Rat.intCast_mul, Rat.intCast_mul]
  unfold qv
  grind
theorem qv_tim {x y : Int × Int} (hx : 0 < x.2) (hy : 0 < y.2) : qv (timF x y) = qv x * qv y := by
  unfold timF
  rw [qv_low (Int.mul_pos hx hy)]
  have n1 := cast_ne hx
  have n2 := cast_ne hy
  rw [Rat.intCast_mul, Rat.intCast_mul]
  unfold qv
  grind
/-! ### sums -/
def rs : Nat → (Nat → Rat) → Rat
  | 0, _ => 0
  | n + 1, f => rs n f + f n
theorem rs_congr {n : Nat} {f g : Nat → Rat} (h : ∀ i, i < n → f i = g i) : rs n f = rs n g := by
  induction n with
  | zero => rfl
  | succ n ih =>
    show rs n f + f n = rs n g + g n
    rw [ih fun i hi => h i (by omega), h n (by omega)]
theorem rs_cast (n : Nat) (f : Nat → Int) : ((La.sm n f : Int) : Rat) = rs n fun i => (f i : Rat) := by
  induction n with
  | zero => rfl
  | succ n ih =>
    show ((La.sm n f + f n : Int) : Rat) = rs n (fun i => (f i : Rat)) + (f n : Rat)
    rw [Rat.intCast_add, ih]
theorem rs_mul (n : Nat) (a : Rat) (f : Nat → Rat) : rs n (fun i => a * f i) = a * rs n f := by
  induction n with
  | zero => exact (Rat.mul_zero a).symm
  | succ n ih =>
    show rs n (fun i => a * f i) + a * f n = a * (rs n f + f n)
    rw [ih, Rat.mul_add]
theorem rs_add (n : Nat) (f g : Nat → Rat) : rs n (fun i => f i + g i) = rs n f + rs n g := by
  induction n with
  | zero => exact (Rat.add_zero 0).symm
  | succ n ih =>
    show rs n (fun i => f i + g i) + (f n + g n) = (rs n f + f n) + (rs n g + g n)
    rw [ih]
    grind
theorem rs_zero {n : Nat} {f : Nat → Rat} (h : ∀ i, i < n → f i = 0) : rs n f = 0 := by
  induction n with
  | zero => rfl
  | succ n ih =>
    show rs n f + f n = 0
    rw [ih fun i hi => h i (by omega), h n (by omega), Rat.add_zero]
theorem rs_single {n k : Nat} {f : Nat → Rat} (hk : k < n) (h : ∀ i, i < n → i ≠ k → f i = 0) : rs n f = f k := by
  induction n with
  | zero => exact absurd hk (Nat.not_lt_zero _)
  | succ n ih =>
    show rs n f + f n = f k
    by_cases e : k = n
    · subst e
      rw [rs_zero fun i hi => h i (by omega) (by omega), Rat.zero_add]
    · rw [ih (by omega) fun i hi hn => h i (by omega) hn, h n (by omega) (by omega), Rat.add_zero]
theorem rs_comm (n m : Nat) (f : Nat → Nat → Rat) : rs n (fun i => rs m fun j => f i j) = rs m fun j => rs n fun i => f i j := by
  induction n with
  | zero => exact (rs_zero fun _ _ => rfl).symm
  | succ n ih =>
    show rs n (fun i => rs m fun j => f i j) + rs m (fun j => f n j) = _
    rw [ih, ← rs_add]
    rfl
theorem rs_nonneg {n : Nat} {f : Nat → Rat} (h : ∀ i, i < n → 0 ≤ f i) : 0 ≤ rs n f := by
  induction n with
  | zero => exact Rat.le_refl
  | succ n ih => exact Rat.add_nonneg (ih fun i hi => h i (by omega)) (h n (by omega))
/-! ### the promise's own dot -/
def dotT (xs ys : List (Int × Int)) : Nat → Int × Int
  | 0 => (0, 1)
  | k + 1 => pluF (dotT xs ys k) (timF (gp xs k) (gp ys k))
theorem tim_red {x y : Int × Int} (hx : 0 < x.2) (hy : 0 < y.2) : Red (timF x y) := low_red (Int.mul_pos hx hy)
theorem dot_red {xs ys : List (Int × Int)} : ∀ {k : Nat}, (∀ i, i < k → 0 < (gp xs i).2 ∧ 0 < (gp ys i).2) → Red (dotT xs ys k)
  | 0, _ => ⟨by show (0 : Int) < 1; decide, by show Nat.gcd 0 1 = 1; decide⟩
  | k + 1, h => by
    have ih := dot_red (k := k) fun i hi => h i (by omega)
    obtain ⟨h1, h2⟩ := h k (by omega)
    exact low_red (Int.mul_pos ih.p (tim_red h1 h2).p)
theorem dot_qv {xs ys : List (Int × Int)} : ∀ {k : Nat}, (∀ i, i < k → 0 < (gp xs i).2 ∧ 0 < (gp ys i).2) → qv (dotT xs ys k) = rs k fun i => qv (gp xs i) * qv (gp ys i)
  | 0, _ => by
    unfold dotT rs qv
    grind
  | k + 1, h => by
    have ih := dot_qv (k := k) fun i hi => h i (by omega)
    have r := dot_red (k := k) fun i hi => h i (by omega)
    obtain ⟨h1, h2⟩ := h k (by omega)
    show qv (pluF _ _) = _
    rw [qv_plu r.p (tim_red h1 h2).p, qv_tim h1 h2, ih]
    rfl
theorem tim_comm (x y : Int × Int) : timF x y = timF y x := by
  unfold timF
  rw [Int.mul_comm x.1, Int.mul_comm x.2]
theorem dot_comm (xs ys : List (Int × Int)) : ∀ k, dotT xs ys k = dotT ys xs k
  | 0 => rfl
  | k + 1 => by
    show pluF _ _ = pluF _ _
    rw [dot_comm xs ys k, tim_comm]
/-! ### sizes -/
theorem red_dvd {x : Int × Int} {M N : Int} (h : Red x) (M0 : 0 < M) (e : qv x * (M : Rat) = (N : Rat)) : ∃ u : Int, M = x.2 * u ∧ N = x.1 * u ∧ 0 < u := by
  have n1 := cast_ne h.p
  have e1 : (x.1 : Rat) * (M : Rat) = (N : Rat) * (x.2 : Rat) := by
    unfold qv at e
    grind
  have e2 : x.1 * M = N * x.2 := by exact_mod_cast e1
  have d : x.2.natAbs ∣ M.natAbs := by
    refine Nat.Coprime.dvd_of_dvd_mul_left (show Nat.Coprime x.2.natAbs x.1.natAbs from (Nat.gcd_comm _ _).trans h.g) ⟨N.natAbs, ?_⟩
    have z := congrArg Int.natAbs e2
    rw [Int.natAbs_mul, Int.natAbs_mul] at z
    rw [z, Nat.mul_comm]
  obtain ⟨u, hu⟩ := Int.natAbs_dvd_natAbs.mp d
  have p := h.p
  refine ⟨u, hu, ?_, ?_⟩
  · rw [hu] at e2
    have e3 : x.2 * N = x.2 * (x.1 * u) := by
      rw [Int.mul_comm x.2 N, ← e2]
      grind
    exact Int.eq_of_mul_eq_mul_left (by omega) e3
  · rw [hu] at M0
    exact Int.pos_of_mul_pos_right M0 (by omega)
theorem red_bd {A B : Nat} {x : Int × Int} {M N : Int} (h : Red x) (M0 : 0 < M) (e : qv x * (M : Rat) = (N : Rat)) (hN : Bd A N) (hM : Bd B M) : Bd A x.1 ∧ Bd B x.2 := by
  obtain ⟨u, e1, e2, u0⟩ := red_dvd h M0 e
  rw [e1] at hM
  rw [e2] at hN
  unfold Bd at *
  rw [Int.natAbs_mul] at hM hN
  exact ⟨Nat.lt_of_le_of_lt (Nat.le_mul_of_pos_right _ (by omega)) hN, Nat.lt_of_le_of_lt (Nat.le_mul_of_pos_right _ (by omega)) hM⟩
/-- the dot and all on the way to it are small enough -/
structure DotOk (xs ys : List (Int × Int)) (k : Nat) : Prop where
  x : ∀ i, i < k → Fine 6600 (gp xs i)
  y : ∀ i, i < k → Fine 6600 (gp ys i)
  t : ∀ i, i < k → Fine 6600 (timF (gp xs i) (gp ys i))
  d : ∀ i, i ≤ k → Fine 6600 (dotT xs ys i)
theorem DotOk.pos {xs ys : List (Int × Int)} {k : Nat} (h : DotOk xs ys k) : ∀ i, i < k → 0 < (gp xs i).2 ∧ 0 < (gp ys i).2 := fun i hi => ⟨(h.x i hi).1, (h.y i hi).1⟩
theorem DotOk.comm {xs ys : List (Int × Int)} {k : Nat} (h : DotOk xs ys k) : DotOk ys xs k := ⟨h.y, h.x, fun i hi => by rw [tim_comm]; exact h.t i hi, fun i hi => by rw [dot_comm]; exact h.d i hi⟩
theorem dot_ok {xs ys : List (Int × Int)} {k α γ μ : Nat} {M : Int} {P c : Nat → Int} (x : ∀ i, i < k → Fine 6600 (gp xs i)) (y : ∀ i, i < k → Fine 6600 (gp ys i)) (M0 : 0 < M) (hM : Bd μ M)
    (hc : ∀ i, i < k → 0 < c i ∧ Bd γ (c i)) (hP : ∀ i, i < k → Bd α (P i)) (e : ∀ i, i < k → qv (gp xs i) * qv (gp ys i) * ((M * c i : Int) : Rat) = (P i : Rat)) (h1 : α + γ * k + k + 1 ≤ 6600) (h2 : μ + γ * k + γ + 1 ≤ 6600) : DotOk xs ys k := by
  have pos : ∀ i, i < k → 0 < (gp xs i).2 ∧ 0 < (gp ys i).2 := fun i hi => ⟨(x i hi).1, (y i hi).1⟩
  have part : ∀ i, i ≤ k → ∃ N C : Int, 0 < C ∧ Bd (γ * i + 1) C ∧ Bd (α + γ * i + i + 1) N ∧ qv (dotT xs ys i) * ((M * C : Int) : Rat) = (N : Rat) := by
    intro i
    induction i with
    | zero => exact fun _ => ⟨0, 1, by decide, one_bd.mono (by omega), zero_bd _, by
        unfold dotT qv
        grind⟩
    | succ i ih =>
      intro hi
      obtain ⟨N, C, C0, bC, bN, eq⟩ := ih (by omega)
      obtain ⟨c0, bc⟩ := hc i (by omega)
      have ei := e i (by omega)
      refine ⟨N * c i + P i * C, C * c i, Int.mul_pos C0 c0, (bC.mulB bc).mono (by rw [Nat.mul_succ]; omega), ?_, ?_⟩
      · exact (((bN.mulB bc).mono (show _ ≤ α + γ * i + i + 1 + γ by omega)).addB (((hP i (by omega)).mulB bC).mono (show _ ≤ α + γ * i + i + 1 + γ by omega))).mono (by rw [Nat.mul_succ]; omega)
      · have r := dot_red (k := i) fun j hj => pos j (by omega)
        obtain ⟨p1, p2⟩ := pos i (by omega)
        show qv (pluF _ _) * _ = _
        rw [qv_plu r.p (tim_red p1 p2).p, qv_tim p1 p2]
        simp only [Rat.intCast_mul, Rat.intCast_add] at eq ei ⊢
        rw [← eq, ← ei]
        grind
  have le : ∀ i, i ≤ k → γ * i ≤ γ * k := fun i hi => Nat.mul_le_mul_left _ hi
  refine ⟨x, y, fun i hi => ?_, fun i hi => ?_⟩
  · obtain ⟨p1, p2⟩ := pos i hi
    have r := tim_red p1 p2
    obtain ⟨c0, bc⟩ := hc i hi
    obtain ⟨b1, b2⟩ := red_bd r (Int.mul_pos M0 c0) (by rw [qv_tim p1 p2]; exact e i hi) (hP i hi) (hM.mulB bc)
    exact ⟨r.p, b1.mono (by omega), b2.mono (by omega)⟩
  · have r := dot_red (k := i) fun j hj => pos j (by omega)
    obtain ⟨N, C, C0, bC, bN, eq⟩ := part i hi
    have := le i hi
    obtain ⟨b1, b2⟩ := red_bd r (Int.mul_pos M0 C0) eq bN (hM.mulB bC)
    exact ⟨r.p, b1.mono (by omega), b2.mono (by omega)⟩
end Fk

set_option Elab.async false
set_option maxRecDepth 100000
set_option maxHeartbeats 4000000
set_option exponentiation.threshold 20000
namespace Fk
open PySem L2
def colQ (mat : List (List (Int × Int))) (j : Nat) : List (Int × Int) := mat.map fun r => gp r j
theorem gp_map {α : Type} {f : α → Int × Int} {xs : List α} {k : Nat} {x : α} (h : xs[k]? = some x) : gp (xs.map f) k = f x := by
  unfold gp
  rw [List.getD_eq_getElem?_getD, List.getElem?_map, h]
  rfl
theorem colQ_at {mat : List (List (Int × Int))} {j k : Nat} (hk : k < mat.length) : gp (colQ mat j) k = gp (gm mat k) j := gp_map (gm_at hk)
structure AllQ (xs : List (Int × Int)) (L : Nat) : Prop where
  l : xs.length = L
  r : ∀ i, i < L → Red (gp xs i) ∧ Fine 6600 (gp xs i)
theorem qv_zero {x : Int} : qv (0, x) = 0 := by
  unfold qv
  show ((0 : Int) : Rat) / _ = 0
  rw [show ((0 : Int) : Rat) = 0 from rfl]
  grind
theorem qv_one {x : Int} : qv (x, 1) = (x : Rat) := by
  unfold qv
  show (x : Rat) / ((1 : Int) : Rat) = _
  rw [show ((1 : Int) : Rat) = 1 from rfl]
  grind
theorem red_zero : Red (0, 1) := ⟨by decide, by decide⟩
theorem red_one (x : Int) : Red (x, 1) := ⟨by show (0 : Int) < 1; decide, Nat.gcd_one_right _⟩
theorem gp_set {xs : List (Int × Int)} {i k : Nat} {x : Int × Int} (h : i < xs.length) : gp (xs.set i x) k = if k = i then x else gp xs k := by
  unfold gp
  rw [List.getD_eq_getElem?_getD, List.getD_eq_getElem?_getD, List.getElem?_set]
  by_cases e : i = k
  · rw [if_pos e, if_pos e.symm, if_pos h]
    rfl
  · rw [if_neg e, if_neg (fun z => e z.symm)]
theorem gp_rep {x : Int × Int} {n i : Nat} (h : i < n) : gp (List.replicate n x) i = x := by
  unfold gp
  rw [List.getD_eq_getElem?_getD, List.getElem?_replicate, if_pos h]
  rfl
theorem cancel {q r p : Rat} (p0 : p ≠ 0) (e : q * p = r * p) : q = r := by grind
end Fk

set_option Elab.async false
set_option maxRecDepth 100000
set_option maxHeartbeats 4000000
namespace Fk
open PySem PySem.Spec PyProof.Rows L2 RZ
/-! ### zip of two that are lists or tuples, in any mix -/
/-- a list (true) or a tuple (false) -/
def sqB (K : PySem.W.Frag) (k : Bool) (H : Hp) (a : Addr) (xs : List V) : Prop := if k = true then SqL K H a xs else SqT K H a xs
def itB (k : Bool) (h : Heap) (i1 a : Addr) (i : Nat) : Prop := if k = true then h.IsListIter i1 a i else h.IsTupleIter i1 a i
def hpB (k : Bool) (h : Heap) (a : Addr) (items : Array Value) : Prop := if k = true then h.IsList a items else h.IsTuple a items
def obB (k : Bool) (a : Addr) : Obj := if k = true then { cls := .type "list_iterator", data := .fields #[.ref a, .int 0 0] } else { cls := .type "tuple_iterator", data := .fields #[.ref a, .int 0 0] }
theorem SqA.kind {K : PySem.W.Frag} {H : Hp} {a : Addr} {xs : List V} (h : SqA K H a xs) : ∃ k, sqB K k H a xs := by
  rcases h with h | h
  · exact ⟨true, by unfold sqB; exact h⟩
  · exact ⟨false, by unfold sqB; exact h⟩
theorem sqB_any {K : PySem.W.Frag} {k : Bool} {H : Hp} {a : Addr} {xs : List V} (h : sqB K k H a xs) : SqA K H a xs := by
  cases k
  · exact .inr h
  · exact .inl h
theorem sqB_same {K : PySem.W.Frag} {k : Bool} {H H' : Hp} {a : Addr} {xs : List V} (h : sqB K k H a xs) (s : Same H H') : sqB K k H' a xs := by
  cases k
  · exact SqT.same h s
  · exact SqL.same h s
def ItzB (K : PySem.W.Frag) (k l : Bool) (a b : Addr) : It :=
  ⟨fun i H => ∃ (xs ys : List V) (x y : V), sqB K k H a xs ∧ sqB K l H b ys ∧ xs[i]? = some x ∧ ys[i]? = some y,
    fun i H v H' => ∃ T x y, v = .ref T ∧ H T = none ∧ H' = upd H T (.tup [x, y]) ∧ (∀ xs, sqB K k H a xs → xs[i]? = some x) ∧ ∀ ys, sqB K l H b ys → ys[i]? = some y,
    fun i H => ∃ xs ys : List V, sqB K k H a xs ∧ sqB K l H b ys ∧ xs.length = ys.length ∧ i = xs.length⟩
section
variable {X : Cx} {pins : List (Addr × Obj)} {σ : L2.St} {H : Hp} {s : Shared} {a : Addr} {xs ys : List V}
theorem sqB_heap (I : Inv X pins σ H s) {k : Bool} (h : sqB X.K k H a xs) : ∃ its : List Value, Vals xs its ∧ hpB k s.heap a its.toArray := by
  cases k
  · obtain ⟨its, r, p, _⟩ := I.tuple h
    exact ⟨its, r, p⟩
  · obtain ⟨its, r, p, _⟩ := I.list h
    exact ⟨its, r, p.isList⟩
theorem sqB_inj (I : Inv X pins σ H s) {k : Bool} (h : sqB X.K k H a xs) (h' : sqB X.K k H a ys) : xs = ys := by
  cases k
  · exact I.tuple_inj h h'
  · exact I.list_inj h h'
end
theorem itB_at {k : Bool} {h h' : Heap} {i1 a : Addr} {i : Nat} (x : itB k h i1 a i) (hk : ∀ o, h.get? i1 = some o → h'.get? i1 = some o) : itB k h' i1 a i := by
  cases k
  · exact Heap.IsTupleIter.at x fun o e => hk o e
  · exact Heap.IsListIter.at x fun o e => hk o e
theorem itB_obj {k : Bool} {h : Heap} {i1 a : Addr} {i : Nat} (x : itB k h i1 a i) : ∃ o, h.get? i1 = some o ∧ ∀ v, o.data ≠ .cell v := by
  cases k
  · obtain ⟨o, e, _, d⟩ := x
    exact ⟨o, e, fun v q => by rw [d] at q; cases q⟩
  · obtain ⟨o, e, _, d⟩ := x
    exact ⟨o, e, fun v q => by rw [d] at q; cases q⟩
theorem hpB_lt {k : Bool} {h : Heap} {a : Addr} {items : Array Value} (x : hpB k h a items) : a < h.objs.size := by
  cases k
  · obtain ⟨o, e, _⟩ := x
    exact Heap.lt_size e
  · obtain ⟨o, e, _⟩ := x
    exact Heap.lt_size e
theorem itB_draws {k : Bool} {prog : Program} {w : World} {A : Around} (hh : A.handled = none) (it t : Addr) (hne : t ≠ it) (items : Array Value) :
    Draws prog w A it [it, t] items.size (fun i v => items[i]? = some v) (fun i h => itB k h it t i ∧ hpB k h t items) := by
  cases k
  · exact Draws.tuple hh it t hne items
  · exact Draws.list hh it t hne items
theorem itB_begins {k : Bool} (t : Addr) (items : Array Value) : Begins (.ref t) (obB k t) fun h => hpB k h t items := by
  cases k
  · exact begins_tuple t items
  · exact begins_list t items
theorem itB_new {k : Bool} {h : Heap} {i1 a : Addr} (e : h.get? i1 = some (obB k a)) : itB k h i1 a 0 := by
  cases k
  · exact ⟨_, e, rfl, rfl⟩
  · exact ⟨_, e, rfl, rfl⟩
theorem turnB {P : Program} {w : World} {K : PySem.W.Frag} {elts : List Expr} {kk : Nat} {tpos : Pos} {k l : Bool} {a b z TI TO i1 i2 : Addr} (S : ZipSep2 z TI TO i1 i2 [i1, a] [i2, b]) (n1 : a ≠ i1) (n2 : b ≠ i2) :
    Turn P w K (.Tuple elts kk tpos) (ItzB K k l a b) [z, TI, TO, i1, i2] z (fun i h => PySem.IsZip h z TI TO .none ∧ IsTupOf2 h TI (.ref i1) (.ref i2) ∧ (∃ x y, IsTupOf2 h TO x y) ∧ itB k h i1 a i ∧ itB l h i2 b i) where
  mem := by simp
  obj := fun i h st c hc => by
    obtain ⟨hz, hTI, ⟨x, y, hTO⟩, h1, h2⟩ := st
    have e' : c = z ∨ c = TI ∨ c = TO ∨ c = i1 ∨ c = i2 := by simpa using hc
    rcases e' with q | q | q | q | q
    · rw [q]; exact ⟨_, hz, fun v q => nomatch q⟩
    · rw [q]; exact ⟨_, hTI, fun v q => nomatch q⟩
    · rw [q]; exact ⟨_, hTO, fun v q => nomatch q⟩
    · rw [q]; exact itB_obj h1
    · rw [q]; exact itB_obj h2
  keep := fun i h h' st k => by
    obtain ⟨hz, hTI, ⟨x, y, hTO⟩, h1, h2⟩ := st
    exact ⟨k z (by simp) _ hz, k TI (by simp) _ hTI, ⟨x, y, k TO (by simp) _ hTO⟩, itB_at h1 fun o q => k i1 (by simp) o q, itB_at h2 fun o q => k i2 (by simp) o q⟩
  item := by
    intro X hP hw hK hc i pins s σ H E I hf st hg
    subst hP hw hK
    obtain ⟨hz, hTI, ⟨x0, y0, hTO⟩, h1, h2⟩ := st
    obtain ⟨xs, ys, x, y, hqx, hqy, hx, hy⟩ := hg
    obtain ⟨its, rv, p⟩ := sqB_heap I hqx
    obtain ⟨its2, rv2, p2⟩ := sqB_heap I hqy
    obtain ⟨u, hu, ru⟩ := rv.get hx
    obtain ⟨u2, hu2, ru2⟩ := rv2.get hy
    have hzl : z < s.heap.objs.size := Heap.lt_size hz
    have hd : X.A.in1.handled = none := I.ok.hd hc
    refine wpAny_pyNext_zipD2_item S (itB_draws (k := k) hd i1 a n1 its.toArray) (itB_draws (k := l) hd i2 b n2 its2.toArray) hz hTI hTO ⟨h1, p⟩ ⟨h2, p2⟩
      (by have := (List.getElem?_eq_some_iff.mp hu).1; simpa using this) (by have := (List.getElem?_eq_some_iff.mp hu2).1; simpa using this) fun x1 x2 h' tk e1 e2 z' TO' st1 st2 hT hsz hk => ?_
    obtain rfl : x1 = u := by
      have e1' : its[i]? = some x1 := by simpa using e1
      rw [hu] at e1'
      exact (Option.some.inj e1').symm
    obtain rfl : x2 = u2 := by
      have e2' : its2[i]? = some x2 := by simpa using e2
      rw [hu2] at e2'
      exact (Option.some.inj e2').symm
    refine ⟨_, rfl, wpAny_letOwnedTupleGo_zip (s := { s with heap := h', toks := tk }) z' fun h'' z'' sb => ?_⟩
    have hT2 : h''.get? s.heap.objs.size = some { cls := .type "tuple", data := .seq #[x1, x2] } := (sb.2 _ (Nat.ne_of_gt hzl)).trans hT
    have new : ObjOk X.prog X.w (upd H s.heap.objs.size (.tup [x, y])) h'' s.heap.objs.size (.tup [x, y]) :=
      ⟨by show 2 ≤ sizeLine; decide, [x1, x2], .cons ru (.cons ru2 .nil), ⟨_, hT2, rfl, _, rfl⟩⟩
    have I1 : Inv X pins σ (upd H s.heap.objs.size (.tup [x, y])) { s with heap := h'', toks := tk } :=
      I.turnedNew (t' := tk) (ch := [z, TI, TO, i1, i2]) (fun c o hb q => (sb.2 c (fun q' => hb (by simp [q']))).trans (hk c o (fun q' => hb (by simp [q'])) (fun q' => hb (by simp [q'])) (fun q' => hb (by simp [q'])) (fun q' => hb (by simp [q'])) q)) hf (Nat.le_refl _) new
    refine ⟨.ref s.heap.objs.size, _, I1, rfl, ⟨_, x, y, rfl, I.hok.fresh (Nat.le_refl _), rfl, fun l hl => by rw [sqB_inj I hl hqx]; exact hx, fun l hl => by rw [sqB_inj I hl hqy]; exact hy⟩, ⟨z'', ?_, ⟨x1, x2, ?_⟩, ?_, ?_⟩, fun c hcm => ?_⟩
    · exact (sb.2 _ S.TIz).trans (hk _ _ S.TIz S.TITO S.TIi1 S.TIi2 hTI)
    · exact (sb.2 _ S.TOz).trans TO'
    · exact itB_at st1.1 fun o q => (sb.2 _ S.zi1.symm).trans q
    · exact itB_at st2.1 fun o q => (sb.2 _ S.zi2.symm).trans q
    · have hlt : c < s.heap.objs.size := by
        have e' : c = z ∨ c = TI ∨ c = TO ∨ c = i1 ∨ c = i2 := by simpa using hcm
        rcases e' with q | q | q | q | q
        · rw [q]; exact hzl
        · rw [q]; exact Heap.lt_size hTI
        · rw [q]; exact Heap.lt_size hTO
        · rw [q]; obtain ⟨_, e1, _⟩ := itB_obj h1; exact Heap.lt_size e1
        · rw [q]; obtain ⟨_, e2, _⟩ := itB_obj h2; exact Heap.lt_size e2
      rw [upd_ne (Nat.ne_of_lt hlt)]
      exact (hf c hcm).1
  done := by
    intro X hP hw hK hc i pins s σ H E I hf st hg
    subst hP hw hK
    obtain ⟨hz, hTI, ⟨x0, y0, hTO⟩, h1, h2⟩ := st
    obtain ⟨xs, ys, hqx, hqy, hl, hi⟩ := hg
    obtain ⟨its, rv, p⟩ := sqB_heap I hqx
    obtain ⟨its2, rv2, p2⟩ := sqB_heap I hqy
    have l1 := rv.length
    have l2 := rv2.length
    have hd : X.A.in1.handled = none := I.ok.hd hc
    have z1 : its.toArray.size = its.length := by simp
    have z2 : its2.toArray.size = its2.length := by simp
    exact wpAny_pyNext_zipD2_end S (itB_draws (k := k) hd i1 a n1 its.toArray) (itB_draws (k := l) hd i2 b n2 its2.toArray) hz hTI hTO ⟨h1, p⟩ ⟨h2, p2⟩ (by omega) (by omega) (by omega) fun h' tk hk =>
      ⟨rfl, I.turnedL (t' := tk) (ch := [z, TI, TO, i1, i2]) (fun c o hb q =>
        hk c o (fun q' => hb (by simp [q'])) (fun q' => hb (by simp [q'])) (fun q' => hb (by simp [q'])) (fun q' => hb (by simp [q'])) q) hf⟩
  self := fun A i s Q E st h => wpAny_pyIter_zip st.1 h
theorem two_refs {a b : Addr} {us : List Value} (r : Vals [.ref a, .ref b] us) : us = [.ref a, .ref b] := by
  cases r with
  | cons r rr =>
    cases rr with
    | cons r' rr =>
      cases rr
      cases r
      cases r'
      rfl
theorem ne_off {n : Nat} (i j : Nat) (h : i ≠ j) : n + i ≠ n + j := fun e => h (Nat.add_left_cancel e)
theorem zip_sep {n a b : Nat} (h1 : a < n) (h2 : b < n) : ZipSep2 (n + 4) (n + 2) (n + 3) n (n + 1) [n, a] [n + 1, b] where
  TIz := ne_off 2 4 (by decide)
  TOz := ne_off 3 4 (by decide)
  TITO := ne_off 2 3 (by decide)
  TIi1 := ne_off 2 0 (by decide)
  mem1 := List.mem_cons_self
  zf1 := fun h => by
    rcases List.mem_cons.mp h with e | e
    · exact ne_off 4 0 (by decide) e
    · have e := List.mem_singleton.mp e
      exact absurd e (Nat.ne_of_gt (Nat.lt_of_lt_of_le h1 (Nat.le_add_right n 4)))
  Tf1 := fun h => by
    rcases List.mem_cons.mp h with e | e
    · exact ne_off 3 0 (by decide) e
    · have e := List.mem_singleton.mp e
      exact absurd e (Nat.ne_of_gt (Nat.lt_of_lt_of_le h1 (Nat.le_add_right n 3)))
  TIi2 := ne_off 2 1 (by decide)
  mem2 := List.mem_cons_self
  zf2 := fun h => by
    rcases List.mem_cons.mp h with e | e
    · exact ne_off 4 1 (by decide) e
    · have e := List.mem_singleton.mp e
      exact absurd e (Nat.ne_of_gt (Nat.lt_of_lt_of_le h2 (Nat.le_add_right n 4)))
  Tf2 := fun h => by
    rcases List.mem_cons.mp h with e | e
    · exact ne_off 3 1 (by decide) e
    · have e := List.mem_singleton.mp e
      exact absurd e (Nat.ne_of_gt (Nat.lt_of_lt_of_le h2 (Nat.le_add_right n 3)))
  sep1_2 := fun h => by
    rcases List.mem_cons.mp h with e | e
    · exact ne_off 0 1 (by decide) e
    · have e := List.mem_singleton.mp e
      exact absurd e (Nat.ne_of_gt h2)
  sep2_1 := fun h => by
    rcases List.mem_cons.mp h with e | e
    · exact ne_off 1 0 (by decide) e
    · have e := List.mem_singleton.mp e
      exact absurd e (Nat.ne_of_gt (Nat.lt_of_lt_of_le h1 (Nat.le_add_right n 1)))
def iZipB (K : PySem.W.Frag) (ta : TA) : TI := fun σ H R => ta σ H fun vs H1 => ∃ k l a b xs ys, vs = [.ref a, .ref b] ∧ sqB K k H1 a xs ∧ sqB K l H1 b ys ∧ R (ItzB K k l a b) H1
theorem pi_zipB {X : Cx} {e e2 : Expr} {ta : TA} {p pos tpos : Pos} {elts : List Expr} {kk : Nat} (hg : Gl X "zip") (hm : X.mg "zip" = none) (ha : PA X [e, e2] ta)
    (hs : starEach [e, e2] X.env = (false, eval e X.env) :: starEach [e2] X.env := by rfl) (hpl : (backTo pos (starEach [e2] X.env)).any (·.1) = false := by rfl) :
    PI X (.Tuple elts kk tpos) (.Call (.Name "zip" p) [e, e2] [] pos) (iZipB X.K ta) := by
  refine ⟨fun pins s σ H R I h => ?_⟩
  refine Call_ (ld_blt I hg hm PyProof.Rows.boot_zip (PyProof.Rows.callWith_type1 (thn (ha.run pos pins s σ H _ I h) fun us s1 ⟨vs, H1, I1, r1, q1⟩ => ?_) hs hpl))
  obtain ⟨k, l, a, b, xs, ys, ex, hqx, hqy, q⟩ := q1
  subst ex
  have eu := two_refs r1
  subst eu
  obtain ⟨its, rv, p1⟩ := sqB_heap I1 hqx
  obtain ⟨its2, rv2, p2⟩ := sqB_heap I1 hqy
  refine zip_begins2 (itB_begins (k := k) a its.toArray) (itB_begins (k := l) b its2.toArray) p1 p2 fun h' hz hTI hTO g1 g2 hsz hk => wpAny_pyIter_zip hz ?_
  have I2 : Inv X pins σ H1 { s1 with heap := h' } := I1.kept (t' := s1.toks) hk
  have L1 := hpB_lt p1
  have L2 := hpB_lt p2
  refine ⟨s1.heap.objs.size + 4, [s1.heap.objs.size + 4, s1.heap.objs.size + 2, s1.heap.objs.size + 3, s1.heap.objs.size, s1.heap.objs.size + 1], _, _, H1, rfl, I2, turnB (zip_sep L1 L2) (Nat.ne_of_lt L1) (Nat.ne_of_lt (Nat.lt_succ_of_lt L2)), ⟨hz, hTI, ⟨_, _, hTO⟩, itB_new g1, itB_new g2⟩, fun c hcm => ?_, q⟩
  have e' : c = s1.heap.objs.size + 4 ∨ c = s1.heap.objs.size + 2 ∨ c = s1.heap.objs.size + 3 ∨ c = s1.heap.objs.size ∨ c = s1.heap.objs.size + 1 := by simpa using hcm
  have hle : s1.heap.objs.size ≤ c := by
    rcases e' with z | z | z | z | z <;> rw [z] <;> first | exact Nat.le_add_right _ _ | exact Nat.le_refl _
  exact I1.fpOk hle (I1.hok.fresh hle)
theorem pi_zipBK {X : Cx} {K : PySem.W.Frag} (hK : X.K = K) {e e2 : Expr} {ta : TA} {p pos tpos : Pos} {elts : List Expr} {kk : Nat} (hg : Gl X "zip") (hm : X.mg "zip" = none) (ha : PA X [e, e2] ta)
    (hs : starEach [e, e2] X.env = (false, eval e X.env) :: starEach [e2] X.env := by rfl) (hpl : (backTo pos (starEach [e2] X.env)).any (·.1) = false := by rfl) :
    PI X (.Tuple elts kk tpos) (.Call (.Name "zip" p) [e, e2] [] pos) (iZipB K ta) := hK ▸ pi_zipB hg hm ha hs hpl
/-- a loop over both, of one length -/
theorem for_zipB {K : PySem.W.Frag} {k l : Bool} {a b : Addr} {xs ys : List V} {g : TG} {tb : TS} {D : L2.Ends} {σ : L2.St} {H : Hp} (hl : xs.length = ys.length) (Pv : Nat → L2.St → Hp → Prop) (h0 : Pv 0 σ H) (hq : ∀ i σ H, Pv i σ H → sqB K k H a xs ∧ sqB K l H b ys)
    (hs : ∀ (i : Nat) (x y : V) (T : Addr) (σ : L2.St) (H : Hp), xs[i]? = some x → ys[i]? = some y → Pv i σ H → H T = none → g (.ref T) σ (upd H T (.tup [x, y])) fun σ2 H2 => tb { D with nx := Pv (i + 1), ct := Pv (i + 1), bk := D.nx } σ2 H2) (hd : ∀ σ H, Pv xs.length σ H → D.nx σ H) :
    ∃ W : Nat → Nat → L2.St → Hp → Prop, (∃ m, W 0 m σ H) ∧ ∀ i m σ H, W i m σ H →
      ((ItzB K k l a b).stop i H ∧ D.nx σ H) ∨ ((ItzB K k l a b).go i H ∧ ∃ N : L2.St → Hp → Prop, (∀ σ' H', N σ' H' → ∃ m', m' < m ∧ W (i + 1) m' σ' H') ∧ ∀ v H', (ItzB K k l a b).yld i H v H' → g v σ H' fun σ2 H2 => tb { D with nx := N, ct := N, bk := D.nx } σ2 H2) := by
  refine ⟨fun i m σ H => m = xs.length - i ∧ i ≤ xs.length ∧ Pv i σ H, ⟨xs.length, rfl, Nat.zero_le _, h0⟩, ?_⟩
  rintro i m σ H ⟨rfl, hi, p⟩
  obtain ⟨qx, qy⟩ := hq i σ H p
  by_cases hlt : i < xs.length
  · have hx : xs[i]? = some xs[i] := List.getElem?_eq_getElem hlt
    have hlt2 : i < ys.length := by omega
    have hy : ys[i]? = some ys[i] := List.getElem?_eq_getElem hlt2
    refine .inr ⟨⟨xs, ys, _, _, qx, qy, hx, hy⟩, Pv (i + 1), fun σ' H' p' => ⟨xs.length - (i + 1), by omega, rfl, hlt, p'⟩, fun v H' y => ?_⟩
    obtain ⟨T, x', y', rfl, hT, rfl, f1, f2⟩ := y
    exact hs i x' y' T σ H (f1 xs qx) (f2 ys qy) p hT
  · have e : i = xs.length := by omega
    subst e
    exact .inl ⟨⟨xs, ys, qx, qy, hl, rfl⟩, hd σ H p⟩
end Fk

set_option Elab.async false
set_option maxRecDepth 100000
set_option maxHeartbeats 4000000
set_option exponentiation.threshold 20000
namespace Fk
open PySem L2
/-! ### the promise's own sums -/
abbrev psQ : List Str := ["_law_top", "_law_bottom"]
def spQ : Sp := fun vs H Q _ => ∃ (a b : Int), vs = [.int a, .int b] ∧ 0 < b ∧ a.natAbs < 2 ^ 13400 ∧ b.natAbs < 2 ^ 13400 ∧ ∀ p H', Same H H' → RatAt H' p (lowI a b) → Q (.ref p) H'
theorem low_lw {a b : Int} (b0 : 0 < b) (ha : Bd 130 a) (hb : Bd 60 b) : Lw (lowI a b) := by
  obtain ⟨g, a', b', g0, e1, e2, b1, c, e⟩ := low_parts (a := a) b0
  rw [e]
  have na : a'.natAbs ≤ a.natAbs := by
    rw [e1, Int.natAbs_mul]
    exact Nat.le_mul_of_pos_left _ (by omega)
  have nb : b'.natAbs ≤ b.natAbs := by
    rw [e2, Int.natAbs_mul]
    exact Nat.le_mul_of_pos_left _ (by omega)
  exact ⟨b1, c, Nat.lt_of_le_of_lt na ha, Nat.lt_of_le_of_lt nb hb⟩
abbrev sPlus : Stmt := top 40
abbrev sTimes : Stmt := top 42
abbrev sLDot : Stmt := top 45
def spTwo (f : Int × Int → Int × Int → Int × Int) : Sp := fun vs H Q _ => ∃ (p q : Addr) (x y : Int × Int), vs = [.ref p, .ref q] ∧ RatAt H p x ∧ RatAt H q y ∧ Fine 6600 x ∧ Fine 6600 y ∧ ∀ r H', Same H H' → RatAt H' r (f x y) → Q (.ref r) H'
section
variable {P : Program} {w : World} {K : PySem.W.Frag} {mg : Str → Option Value} {base : Heap}
theorem scQ : FnScope ["_law_top", "_law_bottom", "_law_by"] psQ (defScope sQ) := ⟨rfl, rfl, rfl, by decide +kernel, rfl, by decide +kernel, by decide +kernel⟩
theorem ok_q {f fG : Addr} {fd dG : FuncData} (F : Fun K "_law_q" "_law_q" sQ f fd) (G : Cl P w K mg base "_law_gcd" psGcd 1 spGcd fG dG) : FnOk P w K mg base CX0 2 f fd psQ spQ := by
  refine F.ok scQ (fun vs H Q E h => ?_) (fun cdv A outer s H vs Q E hr h => ?_)
  · obtain ⟨a, b, rfl, _⟩ := h
    rfl
  · obtain ⟨a, b, rfl, b0, a1, b1, k⟩ := h
    refine ⟨_, pss_cons (ps_set (i := 2) scQ.nd rfl (Or.inl rfl) (pe_call G.G hr (by rfl) G.g G.kp G.b .nil pass0 (pa_cons (pv 0) (pa_cons (pv 1) pa_nil))))
      (pss_cons (ps_if (pt_cmpR op_lt (pv 1) pe_int (nomark _)) (pss_one (ps_set (i := 2) scQ.nd rfl (Or.inl rfl) (pe_un un_neg (pv 2)))) pss_nil)
      (pss_one (ps_ret (pe_tup (pa_cons (pe_op op_fdivB (pv 0) (pv 2)) (pa_cons (pe_op op_fdivB (pv 1) (pv 2)) pa_nil)))))), ?_⟩
    have g0 : (0 : Int) < (Nat.gcd a.natAbs b.natAbs : Nat) := gcd_pos_int b0
    refine ⟨_, rfl, _, rfl, a, b, rfl, a1, b1, ?_⟩
    refine ⟨_, rfl, _, _, rfl, rfl, _, rfl, ite2 (fun h => absurd (of_decide_eq_true h) (by omega)) (fun _ => ?_)⟩
    exact ⟨_, rfl, _, rfl, _, _, rfl, rfl, ⟨g0, a1⟩, _, rfl, _, rfl, _, _, rfl, rfl, ⟨g0, b1⟩, by show 2 ≤ sizeLine; decide, fun p hp => k p _ (same_new hp) upd_same⟩
abbrev psOT : List Str := ["_law_one", "_law_two"]
theorem scPlus : FnScope psOT psOT (defScope sPlus) := ⟨rfl, rfl, rfl, by decide +kernel, rfl, by decide +kernel, by decide +kernel⟩
theorem scTimes : FnScope psOT psOT (defScope sTimes) := ⟨rfl, rfl, rfl, by decide +kernel, rfl, by decide +kernel, by decide +kernel⟩
theorem ok_plus {f fQ : Addr} {fd dQ : FuncData} (F : Fun K "_law_plus" "_law_plus" sPlus f fd) (L : Cl P w K mg base "_law_q" psQ 2 spQ fQ dQ) : FnOk P w K mg base CX0 3 f fd psOT (spTwo pluF) := by
  refine F.ok scPlus (fun vs H Q E h => ?_) (fun cdv A outer s H vs Q E hr h => ?_)
  · obtain ⟨p, q, x, y, rfl, _⟩ := h
    rfl
  · obtain ⟨p, q, x, y, rfl, hp, hq, ⟨x0, x1, x2⟩, ⟨y0, y1, y2⟩, k⟩ := h
    refine ⟨_, pss_one (ps_ret (pe_call L.G hr (by rfl) L.g L.kp L.b .nil pass0 (pa_cons (pe_op op_add (pe_op op_mulW (pe_ix ix_tup (pv 0) pe_int (fun _ _ => rfl)) (pe_ix ix_tup (pv 1) pe_int (fun _ _ => rfl))) (pe_op op_mulW (pe_ix ix_tup (pv 1) pe_int (fun _ _ => rfl)) (pe_ix ix_tup (pv 0) pe_int (fun _ _ => rfl))))
      (pa_cons (pe_op op_mulW (pe_ix ix_tup (pv 0) pe_int (fun _ _ => rfl)) (pe_ix ix_tup (pv 1) pe_int (fun _ _ => rfl))) pa_nil)))), ?_⟩
    have a5 : 6600 ≤ 200000 := by decide
    refine ⟨_, rfl, p, _, 0, _, rfl, rfl, .inl (.inl hp), rfl, _, rfl, q, _, 1, _, rfl, rfl, .inl (.inl hq), rfl, _, _, rfl, rfl, Bd.mul x1 y2 a5 a5, _, rfl, q, _, 0, _, rfl, rfl, .inl (.inl hq), rfl, _, rfl, p, _, 1, _, rfl, rfl, .inl (.inl hp), rfl, _, _, rfl, rfl, Bd.mul y1 x2 a5 a5, _, _, rfl, rfl, ?_⟩
    exact ⟨_, rfl, p, _, 1, _, rfl, rfl, .inl (.inl hp), rfl, _, rfl, q, _, 1, _, rfl, rfl, .inl (.inl hq), rfl, _, _, rfl, rfl, Bd.mul x2 y2 a5 a5, _, _, rfl, Int.mul_pos x0 y0, ((x1.mulB y2).addB (y1.mulB x2)).big (by decide), (x2.mulB y2).big (by decide), k⟩
theorem ok_times {f fQ : Addr} {fd dQ : FuncData} (F : Fun K "_law_times" "_law_times" sTimes f fd) (L : Cl P w K mg base "_law_q" psQ 2 spQ fQ dQ) : FnOk P w K mg base CX0 3 f fd psOT (spTwo timF) := by
  refine F.ok scTimes (fun vs H Q E h => ?_) (fun cdv A outer s H vs Q E hr h => ?_)
  · obtain ⟨p, q, x, y, rfl, _⟩ := h
    rfl
  · obtain ⟨p, q, x, y, rfl, hp, hq, ⟨x0, x1, x2⟩, ⟨y0, y1, y2⟩, k⟩ := h
    refine ⟨_, pss_one (ps_ret (pe_call L.G hr (by rfl) L.g L.kp L.b .nil pass0 (pa_cons (pe_op op_mulW (pe_ix ix_tup (pv 0) pe_int (fun _ _ => rfl)) (pe_ix ix_tup (pv 1) pe_int (fun _ _ => rfl)))
      (pa_cons (pe_op op_mulW (pe_ix ix_tup (pv 0) pe_int (fun _ _ => rfl)) (pe_ix ix_tup (pv 1) pe_int (fun _ _ => rfl))) pa_nil)))), ?_⟩
    have a5 : 6600 ≤ 200000 := by decide
    exact ⟨_, rfl, p, _, 0, _, rfl, rfl, .inl (.inl hp), rfl, _, rfl, q, _, 0, _, rfl, rfl, .inl (.inl hq), rfl, _, _, rfl, rfl, Bd.mul x1 y1 a5 a5, _, rfl, p, _, 1, _, rfl, rfl, .inl (.inl hp), rfl, _, rfl, q, _, 1, _, rfl, rfl, .inl (.inl hq), rfl, _, _, rfl, rfl, Bd.mul x2 y2 a5 a5, _, _, rfl, Int.mul_pos x0 y0, (x1.mulB y1).big (by decide), (x2.mulB y2).big (by decide), k⟩
end
/-! ### products of rows -/
abbrev psLDot : List Str := ["_law_row", "_law_other"]
abbrev nsLDot : List Str := ["_law_row", "_law_other", "_law_total", "_law_one", "_law_two"]
def spLDot (K : PySem.W.Frag) : Sp := fun vs H Q _ => ∃ (a b : Addr) (as bs : List Addr) (xs ys : List (Int × Int)), vs = [.ref a, .ref b] ∧ SqA K H a (rv as) ∧ SqA K H b (rv bs) ∧ PairsAt H as xs ∧ PairsAt H bs ys ∧ xs.length = ys.length ∧ DotOk xs ys xs.length ∧
  ∀ p H', Same H H' → RatAt H' p (dotT xs ys xs.length) → Q (.ref p) H'
section
variable {P : Program} {w : World} {K : PySem.W.Frag} {mg : Str → Option Value} {base : Heap}
theorem scLDot : FnScope nsLDot psLDot (defScope sLDot) := ⟨rfl, rfl, rfl, by decide +kernel, rfl, by decide +kernel, by decide +kernel⟩
theorem ok_ldot {f fP fT : Addr} {fd dP dT : FuncData} (F : Fun K "_law_dot" "_law_dot" sLDot f fd) (mz : mg "zip" = none) (Pl : Cl P w K mg base "_law_plus" psOT 3 (spTwo pluF) fP dP) (Ti : Cl P w K mg base "_law_times" psOT 3 (spTwo timF) fT dT) : FnOk P w K mg base CX0 4 f fd psLDot (spLDot K) := by
  refine F.ok scLDot (fun vs H Q E h => ?_) (fun cdv A outer s H vs Q E hr h => ?_)
  · obtain ⟨a, b, as, bs, xs, ys, rfl, _⟩ := h
    rfl
  · obtain ⟨a, b, as, bs, xs, ys, rfl, ha, hb, hxs, hys, hl, ok, k⟩ := h
    refine ⟨_, pss_cons (ps_set (i := 2) scLDot.nd rfl (Or.inl rfl) (pe_tup (pa_cons pe_int (pa_cons pe_int pa_nil))))
      (pss_cons (ps_for PassesOwn.never rfl (pi_zipBK (K := K) rfl (by rfl) mz (pa_cons (pv 0) (pa_cons (pv 1) pa_nil))) (pg_tup (by rfl) (pgs_cons (pg_name (i := 3) scLDot.nd rfl (Or.inl rfl)) (pgs_cons (pg_name (i := 4) scLDot.nd rfl (Or.inl rfl)) pgs_nil)))
        (pss_one (ps_set (i := 2) scLDot.nd rfl (Or.inl rfl) (pe_call Pl.G hr (by rfl) Pl.g Pl.kp Pl.b .nil pass0 (pa_cons (pv 2) (pa_cons (pe_call Ti.G hr (by rfl) Ti.g Ti.kp Ti.b .nil pass0 (pa_cons (pv 3) (pa_cons (pv 4) pa_nil))) pa_nil))))))
      (pss_one (ps_ret (pv 2)))), ?_⟩
    refine ⟨by show 2 ≤ sizeLine; decide, fun t0 ht0 => ?_⟩
    have s0 := same_new (o := .tup [.int 0, .int 1]) ht0
    obtain ⟨ka, qa⟩ := (ha.same s0).kind
    obtain ⟨kb, qb⟩ := (hb.same s0).kind
    have la : (rv as).length = xs.length := by rw [rv_len, hxs.1]
    have lb : (rv bs).length = ys.length := by rw [rv_len, hys.1]
    refine ⟨_, rfl, _, rfl, ka, kb, a, b, _, _, rfl, qa, qb, for_zipB (K := K) (by rw [la, lb, hl]) (fun i σ H' => Same (upd H t0 (.tup [.int 0, .int 1])) H' ∧ ∃ (r : Addr) (v3 v4 : Option V), RatAt H' r (dotT xs ys i) ∧ σ = [some (.ref a), some (.ref b), some (.ref r), v3, v4])
      ⟨Same.refl _, t0, none, none, upd_same, rfl⟩ (fun i σ H' ⟨z, _⟩ => ⟨sqB_same qa z, sqB_same qb z⟩) ?_ ?_⟩
    · rintro i x y T σ H' hx hy ⟨s2, r, v3, v4, hr', rfl⟩ hT
      have z2 := s0.trans s2
      obtain ⟨p, u, rfl, _, hxu, ru⟩ := (hxs.same z2).get hx
      obtain ⟨q, v, rfl, _, hyv, rv'⟩ := (hys.same z2).get hy
      have hi : i < xs.length := (List.getElem?_eq_some_iff.mp hxu).1
      have eu : u = gp xs i := by
        have z := gp_at hi
        rw [hxu] at z
        exact Option.some.inj z
      have ev : v = gp ys i := by
        have z := gp_at (show i < ys.length by omega)
        rw [hyv] at z
        exact Option.some.inj z
      rw [eu] at ru
      rw [ev] at rv'
      have s3 := same_new (o := .tup [.ref p, .ref q]) hT
      refine ⟨T, _, rfl, .inl (.inl upd_same), rfl, _, _, rfl, _, _, rfl, rfl, ?_⟩
      refine ⟨_, rfl, _, rfl, _, rfl, p, q, _, _, rfl, s3 _ _ ru, s3 _ _ rv', ok.x i hi, ok.y i hi, fun t H3 s4 ht => ?_⟩
      refine ⟨r, t, _, _, rfl, (s3.trans s4) _ _ hr', ht, ok.d i (Nat.le_of_lt hi), ok.t i hi, fun t2 H4 s5 ht2 => ?_⟩
      exact ⟨s2.trans (s3.trans (s4.trans s5)), t2, _, _, ht2, rfl⟩
    · rintro σ H' ⟨s2, r, v3, v4, hr', rfl⟩
      rw [la] at hr'
      exact ⟨_, rfl, k r H' (s0.trans s2) hr'⟩
end
end Fk

set_option Elab.async false
set_option maxRecDepth 100000
set_option maxHeartbeats 4000000
set_option exponentiation.threshold 20000
/-! Sums, differences, orders of ratios: the package's and the law's. -/
namespace Fk
open PySem L2
abbrev sPPlus : Stmt := top 10
abbrev sPMinus : Stmt := top 11
abbrev sSignOf : Stmt := top 12
abbrev sOrder : Stmt := top 13
abbrev sLMinus : Stmt := top 41
abbrev sLSign : Stmt := top 43
abbrev sLLess : Stmt := top 44
def minF (x y : Int × Int) : Int × Int := lowI (x.1 * y.2 - y.1 * x.2) (x.2 * y.2)
theorem qv_min {x y : Int × Int} (hx : 0 < x.2) (hy : 0 < y.2) : qv (minF x y) = qv x - qv y := by
  unfold minF
  rw [qv_low (Int.mul_pos hx hy)]
  have a := cast_ne hx
  have b := cast_ne hy
  unfold qv
  grind
def sgnI (i : Int) : Int := if 0 < i then 1 else if i < 0 then -1 else 0
def spSignOf : Sp := fun vs H Q _ => ∃ i : Int, vs = [.int i] ∧ Q (.int (sgnI i)) H
def spOrder : Sp := fun vs H Q _ => ∃ (p q : Addr) (x y : Int × Int), vs = [.ref p, .ref q] ∧ RatAt H p x ∧ RatAt H q y ∧ Fine 6600 x ∧ Fine 6600 y ∧ Q (.int (sgnI (x.1 * y.2 - y.1 * x.2))) H
abbrev psOO : List Str := ["one", "other"]
theorem sgn_lt {x y : Int × Int} (hx : 0 < x.2) (hy : 0 < y.2) : sgnI (x.1 * y.2 - y.1 * x.2) < 0 ↔ qv x < qv y := by
  rw [← qv_lt hx hy]
  unfold sgnI
  split
  · omega
  · split <;> omega
theorem qv_eq {x y : Int × Int} (hx : 0 < x.2) (hy : 0 < y.2) : x.1 * y.2 = y.1 * x.2 ↔ qv x = qv y := by
  have a := cast_ne hx
  have b := cast_ne hy
  constructor
  · intro e
    have z : ((x.1 * y.2 : Int) : Rat) = ((y.1 * x.2 : Int) : Rat) := by rw [e]
    unfold qv
    grind
  · intro e
    have z : ((x.1 * y.2 : Int) : Rat) = ((y.1 * x.2 : Int) : Rat) := by
      unfold qv at e
      grind
    exact_mod_cast z
def spLSign : Sp := fun vs H Q _ => ∃ (p : Addr) (x : Int × Int), vs = [.ref p] ∧ RatAt H p x ∧ Q (.int (sgnI x.1)) H
def spLLess : Sp := fun vs H Q _ => ∃ (p q : Addr) (x y : Int × Int), vs = [.ref p, .ref q] ∧ RatAt H p x ∧ RatAt H q y ∧ Fine 6600 x ∧ Fine 6600 y ∧ Q (.bl (decide (qv x < qv y))) H
section
variable {P : Program} {w : World} {K : PySem.W.Frag} {mg : Str → Option Value} {base : Heap}
theorem scPPlus : FnScope psOO psOO (defScope sPPlus) := ⟨rfl, rfl, rfl, by decide +kernel, rfl, by decide +kernel, by decide +kernel⟩
theorem scPMinus : FnScope psOO psOO (defScope sPMinus) := ⟨rfl, rfl, rfl, by decide +kernel, rfl, by decide +kernel, by decide +kernel⟩
theorem ok_pplus {f fL : Addr} {fd dL : FuncData} (F : Fun K "plus" "plus" sPPlus f fd) (L : Cl P w K mg base "lowest" ["top", "bottom"] 1 spLowest fL dL) : FnOk P w K mg base CX0 2 f fd psOO (spTwo pluF) := by
  refine F.ok scPPlus (fun vs H Q E h => ?_) (fun cdv A outer s H vs Q E hr h => ?_)
  · obtain ⟨p, q, x, y, rfl, _⟩ := h
    rfl
  · obtain ⟨p, q, x, y, rfl, hp, hq, ⟨x0, x1, x2⟩, ⟨y0, y1, y2⟩, k⟩ := h
    refine ⟨_, pss_one (ps_ret (pe_call L.G hr (by rfl) L.g L.kp L.b .nil pass0 (pa_cons (pe_op op_add (pe_op op_mulW (pe_ix ix_tup (pv 0) pe_int (fun _ _ => rfl)) (pe_ix ix_tup (pv 1) pe_int (fun _ _ => rfl))) (pe_op op_mulW (pe_ix ix_tup (pv 1) pe_int (fun _ _ => rfl)) (pe_ix ix_tup (pv 0) pe_int (fun _ _ => rfl))))
      (pa_cons (pe_op op_mulW (pe_ix ix_tup (pv 0) pe_int (fun _ _ => rfl)) (pe_ix ix_tup (pv 1) pe_int (fun _ _ => rfl))) pa_nil)))), ?_⟩
    have a5 : 6600 ≤ 200000 := by decide
    refine ⟨_, rfl, p, _, 0, _, rfl, rfl, .inl (.inl hp), rfl, _, rfl, q, _, 1, _, rfl, rfl, .inl (.inl hq), rfl, _, _, rfl, rfl, Bd.mul x1 y2 a5 a5, _, rfl, q, _, 0, _, rfl, rfl, .inl (.inl hq), rfl, _, rfl, p, _, 1, _, rfl, rfl, .inl (.inl hp), rfl, _, _, rfl, rfl, Bd.mul y1 x2 a5 a5, _, _, rfl, rfl, ?_⟩
    exact ⟨_, rfl, p, _, 1, _, rfl, rfl, .inl (.inl hp), rfl, _, rfl, q, _, 1, _, rfl, rfl, .inl (.inl hq), rfl, _, _, rfl, rfl, Bd.mul x2 y2 a5 a5, _, _, rfl, Int.mul_pos x0 y0, ((x1.mulB y2).addB (y1.mulB x2)).big (by decide), (x2.mulB y2).big (by decide), fun r hr2 => k r _ (same_new hr2) upd_same⟩
theorem ok_pminus {f fL : Addr} {fd dL : FuncData} (F : Fun K "minus" "minus" sPMinus f fd) (L : Cl P w K mg base "lowest" ["top", "bottom"] 1 spLowest fL dL) : FnOk P w K mg base CX0 2 f fd psOO (spTwo minF) := by
  refine F.ok scPMinus (fun vs H Q E h => ?_) (fun cdv A outer s H vs Q E hr h => ?_)
  · obtain ⟨p, q, x, y, rfl, _⟩ := h
    rfl
  · obtain ⟨p, q, x, y, rfl, hp, hq, ⟨x0, x1, x2⟩, ⟨y0, y1, y2⟩, k⟩ := h
    refine ⟨_, pss_one (ps_ret (pe_call L.G hr (by rfl) L.g L.kp L.b .nil pass0 (pa_cons (pe_op op_sub (pe_op op_mulW (pe_ix ix_tup (pv 0) pe_int (fun _ _ => rfl)) (pe_ix ix_tup (pv 1) pe_int (fun _ _ => rfl))) (pe_op op_mulW (pe_ix ix_tup (pv 1) pe_int (fun _ _ => rfl)) (pe_ix ix_tup (pv 0) pe_int (fun _ _ => rfl))))
      (pa_cons (pe_op op_mulW (pe_ix ix_tup (pv 0) pe_int (fun _ _ => rfl)) (pe_ix ix_tup (pv 1) pe_int (fun _ _ => rfl))) pa_nil)))), ?_⟩
    have a5 : 6600 ≤ 200000 := by decide
    refine ⟨_, rfl, p, _, 0, _, rfl, rfl, .inl (.inl hp), rfl, _, rfl, q, _, 1, _, rfl, rfl, .inl (.inl hq), rfl, _, _, rfl, rfl, Bd.mul x1 y2 a5 a5, _, rfl, q, _, 0, _, rfl, rfl, .inl (.inl hq), rfl, _, rfl, p, _, 1, _, rfl, rfl, .inl (.inl hp), rfl, _, _, rfl, rfl, Bd.mul y1 x2 a5 a5, _, _, rfl, rfl, ?_⟩
    exact ⟨_, rfl, p, _, 1, _, rfl, rfl, .inl (.inl hp), rfl, _, rfl, q, _, 1, _, rfl, rfl, .inl (.inl hq), rfl, _, _, rfl, rfl, Bd.mul x2 y2 a5 a5, _, _, rfl, Int.mul_pos x0 y0, ((x1.mulB y2).subB (y1.mulB x2)).big (by decide), (x2.mulB y2).big (by decide), fun r hr2 => k r _ (same_new hr2) upd_same⟩
theorem scLMinus : FnScope psOT psOT (defScope sLMinus) := ⟨rfl, rfl, rfl, by decide +kernel, rfl, by decide +kernel, by decide +kernel⟩
theorem ok_lminus {f fQ : Addr} {fd dQ : FuncData} (F : Fun K "_law_minus" "_law_minus" sLMinus f fd) (L : Cl P w K mg base "_law_q" psQ 2 spQ fQ dQ) : FnOk P w K mg base CX0 3 f fd psOT (spTwo minF) := by
  refine F.ok scLMinus (fun vs H Q E h => ?_) (fun cdv A outer s H vs Q E hr h => ?_)
  · obtain ⟨p, q, x, y, rfl, _⟩ := h
    rfl
  · obtain ⟨p, q, x, y, rfl, hp, hq, ⟨x0, x1, x2⟩, ⟨y0, y1, y2⟩, k⟩ := h
    refine ⟨_, pss_one (ps_ret (pe_call L.G hr (by rfl) L.g L.kp L.b .nil pass0 (pa_cons (pe_op op_sub (pe_op op_mulW (pe_ix ix_tup (pv 0) pe_int (fun _ _ => rfl)) (pe_ix ix_tup (pv 1) pe_int (fun _ _ => rfl))) (pe_op op_mulW (pe_ix ix_tup (pv 1) pe_int (fun _ _ => rfl)) (pe_ix ix_tup (pv 0) pe_int (fun _ _ => rfl))))
      (pa_cons (pe_op op_mulW (pe_ix ix_tup (pv 0) pe_int (fun _ _ => rfl)) (pe_ix ix_tup (pv 1) pe_int (fun _ _ => rfl))) pa_nil)))), ?_⟩
    have a5 : 6600 ≤ 200000 := by decide
    refine ⟨_, rfl, p, _, 0, _, rfl, rfl, .inl (.inl hp), rfl, _, rfl, q, _, 1, _, rfl, rfl, .inl (.inl hq), rfl, _, _, rfl, rfl, Bd.mul x1 y2 a5 a5, _, rfl, q, _, 0, _, rfl, rfl, .inl (.inl hq), rfl, _, rfl, p, _, 1, _, rfl, rfl, .inl (.inl hp), rfl, _, _, rfl, rfl, Bd.mul y1 x2 a5 a5, _, _, rfl, rfl, ?_⟩
    exact ⟨_, rfl, p, _, 1, _, rfl, rfl, .inl (.inl hp), rfl, _, rfl, q, _, 1, _, rfl, rfl, .inl (.inl hq), rfl, _, _, rfl, rfl, Bd.mul x2 y2 a5 a5, _, _, rfl, Int.mul_pos x0 y0, ((x1.mulB y2).subB (y1.mulB x2)).big (by decide), (x2.mulB y2).big (by decide), k⟩
theorem scSignOf : FnScope ["number"] ["number"] (defScope sSignOf) := ⟨rfl, rfl, rfl, by decide +kernel, rfl, by decide +kernel, by decide +kernel⟩
theorem ok_signOf {f : Addr} {fd : FuncData} (F : Fun K "sign_of" "sign_of" sSignOf f fd) : FnOk P w K mg base CX0 1 f fd ["number"] spSignOf := by
  refine F.ok scSignOf (fun vs H Q E h => ?_) (fun cdv A outer s H vs Q E hr h => ?_)
  · obtain ⟨i, rfl, _⟩ := h
    rfl
  · obtain ⟨i, rfl, k⟩ := h
    refine ⟨_, pss_cons (ps_if (pt_cmpR op_gt (pv 0) pe_int (nomark _)) (pss_one (ps_ret pe_int)) pss_nil)
      (pss_cons (ps_if (pt_cmpR op_lt (pv 0) pe_int (nomark _)) (pss_one (ps_ret (pe_un un_neg pe_int))) pss_nil)
      (pss_one (ps_ret pe_int))), ?_⟩
    unfold sgnI at k
    refine ⟨_, rfl, _, _, rfl, rfl, _, rfl, ite2 (fun h => ?_) (fun h => ?_)⟩
    · rw [if_pos (of_decide_eq_true h)] at k
      exact k
    · rw [if_neg (fun z => h (decide_eq_true z))] at k
      refine ⟨_, rfl, _, _, rfl, rfl, _, rfl, ite2 (fun h2 => ?_) (fun h2 => ?_)⟩
      · rw [if_pos (of_decide_eq_true h2)] at k
        exact ⟨1, rfl, k⟩
      · rw [if_neg (fun z => h2 (decide_eq_true z))] at k
        exact k
theorem scOrder : FnScope psOO psOO (defScope sOrder) := ⟨rfl, rfl, rfl, by decide +kernel, rfl, by decide +kernel, by decide +kernel⟩
theorem ok_order {f fS : Addr} {fd dS : FuncData} (F : Fun K "order" "order" sOrder f fd) (S : Cl P w K mg base "sign_of" ["number"] 1 spSignOf fS dS) : FnOk P w K mg base CX0 2 f fd psOO spOrder := by
  refine F.ok scOrder (fun vs H Q E h => ?_) (fun cdv A outer s H vs Q E hr h => ?_)
  · obtain ⟨p, q, x, y, rfl, _⟩ := h
    rfl
  · obtain ⟨p, q, x, y, rfl, hp, hq, ⟨x0, x1, x2⟩, ⟨y0, y1, y2⟩, k⟩ := h
    refine ⟨_, pss_one (ps_ret (pe_call S.G hr (by rfl) S.g S.kp S.b .nil pass0 (pa_cons (pe_op op_sub (pe_op op_mulW (pe_ix ix_tup (pv 0) pe_int (fun _ _ => rfl)) (pe_ix ix_tup (pv 1) pe_int (fun _ _ => rfl))) (pe_op op_mulW (pe_ix ix_tup (pv 1) pe_int (fun _ _ => rfl)) (pe_ix ix_tup (pv 0) pe_int (fun _ _ => rfl)))) pa_nil))), ?_⟩
    have a5 : 6600 ≤ 200000 := by decide
    exact ⟨_, rfl, p, _, 0, _, rfl, rfl, .inl (.inl hp), rfl, _, rfl, q, _, 1, _, rfl, rfl, .inl (.inl hq), rfl, _, _, rfl, rfl, Bd.mul x1 y2 a5 a5, _, rfl, q, _, 0, _, rfl, rfl, .inl (.inl hq), rfl, _, rfl, p, _, 1, _, rfl, rfl, .inl (.inl hp), rfl, _, _, rfl, rfl, Bd.mul y1 x2 a5 a5, _, _, rfl, rfl, _, rfl, k⟩
theorem scLLess : FnScope psOT psOT (defScope sLLess) := ⟨rfl, rfl, rfl, by decide +kernel, rfl, by decide +kernel, by decide +kernel⟩
theorem ok_lless {f : Addr} {fd : FuncData} (F : Fun K "_law_less" "_law_less" sLLess f fd) : FnOk P w K mg base CX0 1 f fd psOT spLLess := by
  refine F.ok scLLess (fun vs H Q E h => ?_) (fun cdv A outer s H vs Q E hr h => ?_)
  · obtain ⟨p, q, x, y, rfl, _⟩ := h
    rfl
  · obtain ⟨p, q, x, y, rfl, hp, hq, ⟨x0, x1, x2⟩, ⟨y0, y1, y2⟩, k⟩ := h
    refine ⟨_, pss_one (ps_ret (pe_cmpR op_lt (pe_op op_mulW (pe_ix ix_tup (pv 0) pe_int (fun _ _ => rfl)) (pe_ix ix_tup (pv 1) pe_int (fun _ _ => rfl))) (pe_op op_mulW (pe_ix ix_tup (pv 1) pe_int (fun _ _ => rfl)) (pe_ix ix_tup (pv 0) pe_int (fun _ _ => rfl))) (nomark _))), ?_⟩
    have a5 : 6600 ≤ 200000 := by decide
    refine ⟨_, rfl, p, _, 0, _, rfl, rfl, .inl (.inl hp), rfl, _, rfl, q, _, 1, _, rfl, rfl, .inl (.inl hq), rfl, _, _, rfl, rfl, Bd.mul x1 y2 a5 a5, _, rfl, q, _, 0, _, rfl, rfl, .inl (.inl hq), rfl, _, rfl, p, _, 1, _, rfl, rfl, .inl (.inl hp), rfl, _, _, rfl, rfl, Bd.mul y1 x2 a5 a5, _, _, rfl, rfl, ?_⟩
    have e : decide (x.1 * y.2 < y.1 * x.2) = decide (qv x < qv y) := decide_eq_decide.mpr (qv_lt x0 y0)
    show Q (.bl (decide (x.1 * y.2 < y.1 * x.2))) H
    rw [e]
    exact k
end
end Fk

set_option Elab.async false
set_option maxRecDepth 100000
set_option maxHeartbeats 4000000
set_option exponentiation.threshold 20000
/-! Points, the worth of a point in a direction. -/
namespace Fk
open PySem L2
theorem pg_tupK {X : Cx} {K : PySem.W.Frag} {es : List Expr} {k : Nat} {pos : Pos} {t : TGs} {n : Nat} (hK : X.K = K) (hc : X.calm = true) (h : PGs X es t)
    (hn : (assignEach es X.env).length = n := by rfl) (hst : (assignEach es X.env).findIdx? (·.1) = none := by rfl) : PG X (.Tuple es k pos) (gTup K n t) := by
  subst hK
  exact pg_tup hc h hn hst
theorem PairsAt.gp {H : Hp} {ps : List Addr} {fs : List (Int × Int)} (h : PairsAt H ps fs) {i : Nat} {v : V} (hv : (rv ps)[i]? = some v) : ∃ p, v = .ref p ∧ i < fs.length ∧ RatAt H p (gp fs i) := by
  obtain ⟨p, x, rfl, _, hx, hr⟩ := h.get hv
  have hi : i < fs.length := (List.getElem?_eq_some_iff.mp hx).1
  have e : x = Fk.gp fs i := by
    have z := gp_at hi
    rw [hx] at z
    exact Option.some.inj z
  exact ⟨p, rfl, hi, e ▸ hr⟩
/-- a comprehension over both -/
theorem lc_zipB {K : PySem.W.Frag} {k l : Bool} {a b D : Addr} {xs ys : List V} {g : TG} {tt : TT} {te : TE} {vs : List Nat} {σ : L2.St} {H : Hp} {Qd : Hp → Prop} (hl : xs.length = ys.length) (Pv : Nat → Hp → Prop) (h0 : Pv 0 (upd H D (.lst []))) (hq : ∀ i H', Pv i H' → sqB K k H' a xs ∧ sqB K l H' b ys)
    (hs : ∀ (i : Nat) (x y : V) (T : Addr) (H' : Hp), xs[i]? = some x → ys[i]? = some y → Pv i H' → H' T = none → g (.ref T) (wipe σ vs) (upd H' T (.tup [x, y])) fun σ2 H2 => wipe σ2 vs = wipe σ vs ∧ tt σ2 H2 fun b H3 =>
      if b = true then te σ2 H3 fun y H4 => ∃ acc, H4 D = some (.lst acc) ∧ acc.length < sizeLine ∧ Pv (i + 1) (upd H4 D (.lst (acc ++ [y]))) else Pv (i + 1) H3) (hd : ∀ H', Pv xs.length H' → Qd H') :
    ∃ W : Nat → Nat → Hp → Prop, (∃ m, W 0 m (upd H D (.lst []))) ∧ ∀ i m H, W i m H →
      ((ItzB K k l a b).stop i H ∧ Qd H) ∨ ((ItzB K k l a b).go i H ∧ ∃ Nx : Hp → Prop, (∀ H', Nx H' → ∃ m', m' < m ∧ W (i + 1) m' H') ∧ ∀ x H', (ItzB K k l a b).yld i H x H' → g x (wipe σ vs) H' fun σ2 H2 => wipe σ2 vs = wipe σ vs ∧ tt σ2 H2 fun b H3 =>
        if b = true then te σ2 H3 fun y H4 => ∃ acc, H4 D = some (.lst acc) ∧ acc.length < sizeLine ∧ Nx (upd H4 D (.lst (acc ++ [y]))) else Nx H3) := by
  refine ⟨fun i m H => m = xs.length - i ∧ i ≤ xs.length ∧ Pv i H, ⟨xs.length, rfl, Nat.zero_le _, h0⟩, ?_⟩
  rintro i m H ⟨rfl, hi, p⟩
  obtain ⟨qx, qy⟩ := hq i H p
  by_cases hlt : i < xs.length
  · have hx : xs[i]? = some xs[i] := List.getElem?_eq_getElem hlt
    have hlt2 : i < ys.length := by omega
    have hy : ys[i]? = some ys[i] := List.getElem?_eq_getElem hlt2
    refine .inr ⟨⟨xs, ys, _, _, qx, qy, hx, hy⟩, Pv (i + 1), fun H' p' => ⟨xs.length - (i + 1), by omega, rfl, hlt, p'⟩, fun v H' y => ?_⟩
    obtain ⟨T, x', y', rfl, hT, rfl, f1, f2⟩ := y
    exact hs i x' y' T H (f1 xs qx) (f2 ys qy) p hT
  · have e : i = xs.length := by omega
    subst e
    exact .inl ⟨⟨xs, ys, qx, qy, hl, rfl⟩, hd H p⟩
theorem pairs_nil {H : Hp} : PairsAt H [] [] := ⟨rfl, fun i p x hp _ => nomatch hp⟩
/-- one more in a list that a comprehension builds -/
theorem grow {H0 H2 H3 : Hp} {D r : Addr} {qs : List Addr} {fs : List (Int × Int)} {x : Int × Int} (hD : H0 D = none) (s : Same H0 H2) (hq : H2 D = some (.lst (rv qs))) (hQ : PairsAt H2 qs fs) (s3 : Same H2 H3) (hr : RatAt H3 r x) (lt : fs.length ≤ 1000) :
    ∃ acc, H3 D = some (.lst acc) ∧ acc.length < sizeLine ∧ Same H0 (upd H3 D (.lst (acc ++ [.ref r]))) ∧ ∃ qs', (upd H3 D (.lst (acc ++ [.ref r]))) D = some (.lst (rv qs')) ∧ PairsAt (upd H3 D (.lst (acc ++ [.ref r]))) qs' (fs ++ [x]) := by
  refine ⟨rv qs, s3 _ _ hq, by rw [rv_len, hQ.1]; exact small1000 lt, fun b o hb => ?_, qs ++ [r], ?_, (hQ.same s3).add (s3 _ _ hq) hr _⟩
  · rw [upd_ne (ne_of_none hb hD)]
    exact (s.trans s3) _ _ hb
  · rw [upd_same]
    unfold rv
    rw [List.map_append]
    rfl

abbrev Po : Type := (Int × Int) × (Int × Int)
def PtAt (H : Hp) (t : Addr) (x : Po) : Prop := ∃ a b, H t = some (.tup [.ref a, .ref b]) ∧ RatAt H a x.1 ∧ RatAt H b x.2
theorem PtAt.same {H H' : Hp} {t : Addr} {x : Po} (h : PtAt H t x) (s : Same H H') : PtAt H' t x := by
  obtain ⟨a, b, h1, h2, h3⟩ := h
  exact ⟨a, b, s _ _ h1, h2.same s, h3.same s⟩
/-- a ratio, a point, that may be a constant of the code's own -/
def RatK (K : PySem.W.Frag) (H : Hp) (p : Addr) (x : Int × Int) : Prop := SqT K H p [.int x.1, .int x.2]
theorem RatAt.toK {K : PySem.W.Frag} {H : Hp} {p : Addr} {x : Int × Int} (h : RatAt H p x) : RatK K H p x := .inl (.inl h)
theorem RatK.same {K : PySem.W.Frag} {H H' : Hp} {p : Addr} {x : Int × Int} (h : RatK K H p x) (s : Same H H') : RatK K H' p x := SqT.same h s
def PtK (K : PySem.W.Frag) (H : Hp) (t : Addr) (x : Po) : Prop := ∃ a b, SqT K H t [.ref a, .ref b] ∧ RatK K H a x.1 ∧ RatK K H b x.2
theorem PtAt.toK {K : PySem.W.Frag} {H : Hp} {t : Addr} {x : Po} (h : PtAt H t x) : PtK K H t x := by
  obtain ⟨a, b, h1, h2, h3⟩ := h
  exact ⟨a, b, .inl (.inl h1), h2.toK, h3.toK⟩
theorem PtK.same {K : PySem.W.Frag} {H H' : Hp} {t : Addr} {x : Po} (h : PtK K H t x) (s : Same H H') : PtK K H' t x := by
  obtain ⟨a, b, h1, h2, h3⟩ := h
  exact ⟨a, b, SqT.same h1 s, h2.same s, h3.same s⟩
theorem two_at {K : PySem.W.Frag} {H : Hp} {a b : Addr} {x : Po} (h2 : RatK K H a x.1) (h3 : RatK K H b x.2) {i : Nat} {v : V} (hv : (rv [a, b])[i]? = some v) : ∃ p, v = .ref p ∧ i < 2 ∧ RatK K H p (gp [x.1, x.2] i) := by
  match i, hv with
  | 0, hv =>
    cases hv
    exact ⟨a, rfl, by decide, h2⟩
  | 1, hv =>
    cases hv
    exact ⟨b, rfl, by decide, h3⟩
def FineP (n : Nat) (x : Po) : Prop := Fine n x.1 ∧ Fine n x.2
theorem Fine.mono {a b : Nat} {x : Int × Int} (h : Fine a x) (l : a ≤ b) : Fine b x := by
  obtain ⟨h1, h2, h3⟩ := h
  have e : 2 ^ a ≤ 2 ^ b := Nat.pow_le_pow_right (by decide) l
  exact ⟨h1, Nat.lt_of_lt_of_le h2 e, Nat.lt_of_lt_of_le h3 e⟩
theorem fine_low {n : Nat} {a b : Int} (b0 : 0 < b) (ha : Bd n a) (hb : Bd n b) : Fine n (lowI a b) := by
  have z := low_bd b0 ha hb
  exact ⟨(low_val b0).1, z.1, z.2⟩
theorem Bd.up {a b : Nat} {x : Int} (h : Bd a x) (l : a ≤ b) : Bd b x := Nat.lt_of_lt_of_le h (Nat.pow_le_pow_right (by decide) l)
theorem fine_tim {n m : Nat} {x y : Int × Int} (hx : Fine n x) (hy : Fine m y) : Fine (n + m) (timF x y) := fine_low (Int.mul_pos hx.1 hy.1) (hx.2.1.mulB hy.2.1) (hx.2.2.mulB hy.2.2)
theorem fine_plu {n m : Nat} {x y : Int × Int} (hx : Fine n x) (hy : Fine m y) : Fine (n + m + 1) (pluF x y) := by
  refine fine_low (Int.mul_pos hx.1 hy.1) ?_ ((hx.2.2.mulB hy.2.2).up (by omega))
  exact ((hx.2.1.mulB hy.2.2).addB ((hy.2.1.mulB hx.2.2).up (by omega))).up (by omega)
theorem fine_min {n m : Nat} {x y : Int × Int} (hx : Fine n x) (hy : Fine m y) : Fine (n + m + 1) (minF x y) := by
  refine fine_low (Int.mul_pos hx.1 hy.1) ?_ ((hx.2.2.mulB hy.2.2).up (by omega))
  exact ((hx.2.1.mulB hy.2.2).subB ((hy.2.1.mulB hx.2.2).up (by omega))).up (by omega)
/-- the worth of a point in a direction -/
def wor (c p : Po) : Int × Int := pluF (timF c.1 p.1) (timF c.2 p.2)
abbrev sWorth : Stmt := top 19
abbrev psDP : List Str := ["direction", "point"]
abbrev nsWorth : List Str := ["direction", "point", "parts", "a", "b"]
def spWorth (K : PySem.W.Frag) : Sp := fun vs H Q _ => ∃ (p q : Addr) (x y : Po), vs = [.ref p, .ref q] ∧ PtK K H p x ∧ PtAt H q y ∧ FineP 3000 x ∧ FineP 3000 y ∧ ∀ r H', Same H H' → RatAt H' r (wor x y) → Q (.ref r) H'
section
variable {P : Program} {w : World} {K : PySem.W.Frag} {mg : Str → Option Value} {base : Heap}
theorem scWorth : FnScope nsWorth psDP (defScope sWorth) := ⟨rfl, rfl, rfl, by decide +kernel, rfl, by decide +kernel, by decide +kernel⟩
theorem ok_worth {f fL fP : Addr} {fd dL dP : FuncData} (F : Fun K "worth" "worth" sWorth f fd) (mz : mg "zip" = none) (L : Cl P w K mg base "lowest" ["top", "bottom"] 1 spLowest fL dL) (Pl : Cl P w K mg base "plus" psOO 2 (spTwo pluF) fP dP) : FnOk P w K mg base CX0 3 f fd psDP (spWorth K) := by
  refine F.ok scWorth (fun vs H Q E h => ?_) (fun cdv A outer s H vs Q E hr h => ?_)
  · obtain ⟨p, q, x, y, rfl, _⟩ := h
    rfl
  · obtain ⟨p, q, x, y, rfl, hp, hq, fx, fy, k⟩ := h
    have hr1 := hr.mono (show 1 ≤ 2 by decide)
    refine ⟨_, C8.pss_cut (ps_setLc (i := 2) (own := [("a", 3), ("b", 4)]) (g := gTup K 2 (gCons (gName 3) (gCons (gName 4) gNil))) (tt := tYes) rfl scWorth.nd rfl rfl (sw_true rfl rfl rfl rfl) (pi_zipBK (K := K) rfl (by rfl) mz (pa_cons (pv 0) (pa_cons (pv 1) pa_nil))) (blkOk_by (N := nsWorth) (sc := defScope sWorth) (by decide +kernel))
        (fun _ _ _ _ _ => pg_tupK (K := K) (n := 2) rfl rfl (pgs_cons (pg_name (i := 3) scWorth.nd rfl (Or.inl rfl)) (pgs_cons (pg_name (i := 4) scWorth.nd rfl (Or.inl rfl)) pgs_nil))) (fun _ _ _ _ _ => pts_nil)
        (fun _ _ _ _ _ => pe_call L.G hr1 (by rfl) L.g L.kp L.b .nil pass0 (pa_cons (pe_op op_mulW (pe_ix (ix_anyK (K := K) rfl) (pv 3) pe_int (fun _ _ => rfl)) (pe_ix (ix_anyK (K := K) rfl) (pv 4) pe_int (fun _ _ => rfl))) (pa_cons (pe_op op_mulW (pe_ix (ix_anyK (K := K) rfl) (pv 3) pe_int (fun _ _ => rfl)) (pe_ix (ix_anyK (K := K) rfl) (pv 4) pe_int (fun _ _ => rfl))) pa_nil))))
      (pss_one (ps_ret (pe_call Pl.G hr (by rfl) Pl.g Pl.kp Pl.b .nil pass0 (pa_cons (pe_ix ix_list (pv 2) pe_int (fun _ _ => rfl)) (pa_cons (pe_ix ix_list (pv 2) pe_int (fun _ _ => rfl)) pa_nil))))), ?_⟩
    obtain ⟨a, b, h1, h2, h3⟩ := hp
    obtain ⟨c, d, g1, g2, g3⟩ := hq
    have a5 : 3000 ≤ 200000 := by decide
    have pb : PairsAt H [c, d] [y.1, y.2] := ⟨rfl, fun i u v e1 e2 => by
      match i, e1, e2 with
      | 0, e1, e2 =>
        cases e1
        cases e2
        exact g2
      | 1, e1, e2 =>
        cases e1
        cases e2
        exact g3⟩
    refine ⟨fun σ' H' => ∃ Dn us, σ' = [some (.ref p), some (.ref q), some (.ref Dn), none, none] ∧ Same H H' ∧ H' Dn = some (.lst (rv us)) ∧ PairsAt H' us [timF x.1 y.1, timF x.2 y.2], ?_, ?_⟩
    · refine ⟨_, rfl, _, rfl, false, false, p, q, rv [a, b], rv [c, d], rfl, h1, .inl (.inl g1), fun Dn hDn => ?_⟩
      refine lc_zipB (K := K) (k := false) (l := false) (a := p) (b := q) (D := Dn) (xs := rv [a, b]) (ys := rv [c, d]) rfl (fun j H' => Same H H' ∧ ∃ us, H' Dn = some (.lst (rv us)) ∧ PairsAt H' us ([timF x.1 y.1, timF x.2 y.2].take j)) ⟨same_new hDn, [], upd_same, pairs_nil⟩ (fun j H' ⟨z, _⟩ => ⟨SqT.same h1 z, .inl (.inl (z _ _ g1))⟩) ?_ ?_
      · rintro j u v T H8 hx hy ⟨s8, us, hus, hU⟩ hT
        obtain ⟨p1, rfl, hj, r1⟩ := two_at (h2.same s8) (h3.same s8) hx
        obtain ⟨p2, rfl, hj2, r2⟩ := (pb.same s8).gp hy
        have s9 := same_new (o := .tup [.ref p1, .ref p2]) hT
        have f1 : Fine 3000 (gp [x.1, x.2] j) := by
          match j, hj with
          | 0, _ => exact fx.1
          | 1, _ => exact fx.2
        have f2 : Fine 3000 (gp [y.1, y.2] j) := by
          match j, hj2 with
          | 0, _ => exact fy.1
          | 1, _ => exact fy.2
        have r1' := r1.same s9
        have r2' := r2.same s9
        refine ⟨T, _, rfl, .inl (.inl upd_same), rfl, _, _, rfl, _, _, rfl, rfl, rfl, yesT ?_⟩
        refine ⟨_, rfl, p1, _, 0, _, rfl, rfl, .inr r1', rfl, _, rfl, p2, _, 0, _, rfl, rfl, .inr (.inl (.inl r2')), rfl, _, _, rfl, rfl, Bd.mul f1.2.1 f2.2.1 a5 a5, _, rfl, p1, _, 1, _, rfl, rfl, .inr r1', rfl, _, rfl, p2, _, 1, _, rfl, rfl, .inr (.inl (.inl r2')), rfl, _, _, rfl, rfl, Bd.mul f1.2.2 f2.2.2 a5 a5, ?_⟩
        refine ⟨_, _, rfl, Int.mul_pos f1.1 f2.1, (f1.2.1.mulB f2.2.1).big (by decide), (f1.2.2.mulB f2.2.2).big (by decide), fun r hr2 => ?_⟩
        have e : [timF x.1 y.1, timF x.2 y.2].take (j + 1) = [timF x.1 y.1, timF x.2 y.2].take j ++ [timF (gp [x.1, x.2] j) (gp [y.1, y.2] j)] := by
          match j, hj with
          | 0, _ => rfl
          | 1, _ => rfl
        rw [e]
        have s10 := same_new (o := .tup [.int (timF (gp [x.1, x.2] j) (gp [y.1, y.2] j)).1, .int (timF (gp [x.1, x.2] j) (gp [y.1, y.2] j)).2]) hr2
        exact grow hDn s8 hus hU (s9.trans s10) upd_same (by
          have : [timF x.1 y.1, timF x.2 y.2].length = 2 := rfl
          rw [List.length_take]
          omega)
      · rintro H8 ⟨s8, us, hus, hU⟩
        exact ⟨Dn, us, rfl, s8, hus, hU⟩
    rintro σ' H8 ⟨Dn, us, rfl, s8, hus, hU⟩
    have lu : us.length = 2 := hU.1
    match us, lu, hus, hU with
    | [u, v], _, hus, hU =>
      have ru := hU.2 0 u _ rfl rfl
      have rv' := hU.2 1 v _ rfl rfl
      refine ⟨_, rfl, Dn, _, 0, _, rfl, rfl, SqL.of hus, rfl, _, rfl, Dn, _, 1, _, rfl, rfl, SqL.of hus, rfl, u, v, _, _, rfl, ru, rv', (fine_tim fx.1 fy.1).mono (by decide), (fine_tim fx.2 fy.2).mono (by decide), fun r H9 s9 hr9 => k r H9 (s8.trans s9) hr9⟩
end
end Fk

set_option Elab.async false
set_option maxRecDepth 100000
set_option maxHeartbeats 4000000
set_option exponentiation.threshold 20000
/-! Directions: turned, opposite, from a point to a point. -/
namespace Fk
open PySem L2
abbrev sTurned : Stmt := top 23
abbrev sOpposite : Stmt := top 24
abbrev sWayB : Stmt := top 25
def ngI (x : Int × Int) : Int × Int := (-x.1, x.2)
def trnF (x : Po) : Po := (x.2, ngI x.1)
def oppF (x : Po) : Po := (ngI x.1, ngI x.2)
def wayF (x y : Po) : Po := (minF y.1 x.1, minF y.2 x.2)
theorem le2 {a b : V} : [a, b].length ≤ sizeLine := Nat.le_of_lt (small1000 (n := 2) (by decide))
theorem fine_ng {n : Nat} {x : Int × Int} (h : Fine n x) : Fine n (ngI x) := ⟨h.1, by
  have := h.2.1
  unfold Bd at *
  rw [ngI, Int.natAbs_neg]
  exact this, h.2.2⟩
theorem fineP_trn {n : Nat} {x : Po} (h : FineP n x) : FineP n (trnF x) := ⟨h.2, fine_ng h.1⟩
theorem fineP_opp {n : Nat} {x : Po} (h : FineP n x) : FineP n (oppF x) := ⟨fine_ng h.1, fine_ng h.2⟩
theorem fineP_way {n m : Nat} {x y : Po} (h : FineP n x) (g : FineP m y) : FineP (m + n + 1) (wayF x y) := ⟨fine_min g.1 h.1, fine_min g.2 h.2⟩
def spOneP (f : Po → Po) : Sp := fun vs H Q _ => ∃ (p : Addr) (x : Po), vs = [.ref p] ∧ PtAt H p x ∧ ∀ r H', Same H H' → PtAt H' r (f x) → Q (.ref r) H'
def spTwoP (f : Po → Po → Po) : Sp := fun vs H Q _ => ∃ (p q : Addr) (x y : Po), vs = [.ref p, .ref q] ∧ PtAt H p x ∧ PtAt H q y ∧ FineP 3000 x ∧ FineP 3000 y ∧ ∀ r H', Same H H' → PtAt H' r (f x y) → Q (.ref r) H'
section
variable {P : Program} {w : World} {K : PySem.W.Frag} {mg : Str → Option Value} {base : Heap}
theorem scTurned : FnScope ["way"] ["way"] (defScope sTurned) := ⟨rfl, rfl, rfl, by decide +kernel, rfl, by decide +kernel, by decide +kernel⟩
theorem scOpposite : FnScope ["way"] ["way"] (defScope sOpposite) := ⟨rfl, rfl, rfl, by decide +kernel, rfl, by decide +kernel, by decide +kernel⟩
theorem scWayB : FnScope ["start", "end"] ["start", "end"] (defScope sWayB) := ⟨rfl, rfl, rfl, by decide +kernel, rfl, by decide +kernel, by decide +kernel⟩
theorem ok_turned {f : Addr} {fd : FuncData} (F : Fun K "turned" "turned" sTurned f fd) : FnOk P w K mg base CX0 1 f fd ["way"] (spOneP trnF) := by
  refine F.ok scTurned (fun vs H Q E h => ?_) (fun cdv A outer s H vs Q E hr h => ?_)
  · obtain ⟨p, x, rfl, _⟩ := h
    rfl
  · obtain ⟨p, x, rfl, ⟨a, b, h1, h2, h3⟩, k⟩ := h
    refine ⟨_, pss_one (ps_ret (pe_tup (pa_cons (pe_ix ix_tup (pv 0) pe_int (fun _ _ => rfl)) (pa_cons (pe_tup (pa_cons (pe_un un_neg (pe_ix ix_tup (pe_ix ix_tup (pv 0) pe_int (fun _ _ => rfl)) pe_int (fun _ _ => rfl))) (pa_cons (pe_ix ix_tup (pe_ix ix_tup (pv 0) pe_int (fun _ _ => rfl)) pe_int (fun _ _ => rfl)) pa_nil))) pa_nil)))), ?_⟩
    refine ⟨_, rfl, p, _, 1, _, rfl, rfl, .inl (.inl h1), rfl, _, rfl, p, _, 0, _, rfl, rfl, .inl (.inl h1), rfl, a, _, 0, _, rfl, rfl, .inl (.inl h2), rfl, _, rfl, _, rfl, p, _, 0, _, rfl, rfl, .inl (.inl h1), rfl, a, _, 1, _, rfl, rfl, .inl (.inl h2), rfl, le2, fun r hr1 => ⟨le2, fun R hR => ?_⟩⟩
    have s1 := same_new (o := .tup [.int (-x.1.1), .int x.1.2]) hr1
    have s2 := same_new (o := .tup [.ref b, .ref r]) hR
    exact k _ _ (s1.trans s2) ⟨b, r, upd_same, h3.same (s1.trans s2), s2 _ _ upd_same⟩
theorem ok_opposite {f : Addr} {fd : FuncData} (F : Fun K "opposite" "opposite" sOpposite f fd) : FnOk P w K mg base CX0 1 f fd ["way"] (spOneP oppF) := by
  refine F.ok scOpposite (fun vs H Q E h => ?_) (fun cdv A outer s H vs Q E hr h => ?_)
  · obtain ⟨p, x, rfl, _⟩ := h
    rfl
  · obtain ⟨p, x, rfl, ⟨a, b, h1, h2, h3⟩, k⟩ := h
    refine ⟨_, pss_one (ps_ret (pe_tup (pa_cons (pe_tup (pa_cons (pe_un un_neg (pe_ix ix_tup (pe_ix ix_tup (pv 0) pe_int (fun _ _ => rfl)) pe_int (fun _ _ => rfl))) (pa_cons (pe_ix ix_tup (pe_ix ix_tup (pv 0) pe_int (fun _ _ => rfl)) pe_int (fun _ _ => rfl)) pa_nil)))
      (pa_cons (pe_tup (pa_cons (pe_un un_neg (pe_ix ix_tup (pe_ix ix_tup (pv 0) pe_int (fun _ _ => rfl)) pe_int (fun _ _ => rfl))) (pa_cons (pe_ix ix_tup (pe_ix ix_tup (pv 0) pe_int (fun _ _ => rfl)) pe_int (fun _ _ => rfl)) pa_nil))) pa_nil)))), ?_⟩
    refine ⟨_, rfl, p, _, 0, _, rfl, rfl, .inl (.inl h1), rfl, a, _, 0, _, rfl, rfl, .inl (.inl h2), rfl, _, rfl, _, rfl, p, _, 0, _, rfl, rfl, .inl (.inl h1), rfl, a, _, 1, _, rfl, rfl, .inl (.inl h2), rfl, le2, fun r hr1 => ?_⟩
    have s1 := same_new (o := .tup [.int (-x.1.1), .int x.1.2]) hr1
    refine ⟨_, rfl, p, _, 1, _, rfl, rfl, .inl (.inl (s1 _ _ h1)), rfl, b, _, 0, _, rfl, rfl, .inl (.inl (s1 _ _ h3)), rfl, _, rfl, _, rfl, p, _, 1, _, rfl, rfl, .inl (.inl (s1 _ _ h1)), rfl, b, _, 1, _, rfl, rfl, .inl (.inl (s1 _ _ h3)), rfl, le2, fun q hq => ⟨le2, fun R hR => ?_⟩⟩
    have s2 := same_new (o := .tup [.int (-x.2.1), .int x.2.2]) hq
    have s3 := same_new (o := .tup [.ref r, .ref q]) hR
    exact k _ _ (s1.trans (s2.trans s3)) ⟨r, q, upd_same, (s2.trans s3) _ _ upd_same, s3 _ _ upd_same⟩
theorem ok_wayB {f fM : Addr} {fd dM : FuncData} (F : Fun K "way_between" "way_between" sWayB f fd) (M : Cl P w K mg base "minus" psOO 2 (spTwo minF) fM dM) : FnOk P w K mg base CX0 3 f fd ["start", "end"] (spTwoP wayF) := by
  refine F.ok scWayB (fun vs H Q E h => ?_) (fun cdv A outer s H vs Q E hr h => ?_)
  · obtain ⟨p, q, x, y, rfl, _⟩ := h
    rfl
  · obtain ⟨p, q, x, y, rfl, ⟨a, b, h1, h2, h3⟩, ⟨c, d, g1, g2, g3⟩, fx, fy, k⟩ := h
    refine ⟨_, pss_one (ps_ret (pe_tup (pa_cons (pe_call M.G hr (by rfl) M.g M.kp M.b .nil pass0 (pa_cons (pe_ix ix_tup (pv 1) pe_int (fun _ _ => rfl)) (pa_cons (pe_ix ix_tup (pv 0) pe_int (fun _ _ => rfl)) pa_nil)))
      (pa_cons (pe_call M.G hr (by rfl) M.g M.kp M.b .nil pass0 (pa_cons (pe_ix ix_tup (pv 1) pe_int (fun _ _ => rfl)) (pa_cons (pe_ix ix_tup (pv 0) pe_int (fun _ _ => rfl)) pa_nil))) pa_nil)))), ?_⟩
    refine ⟨_, rfl, q, _, 0, _, rfl, rfl, .inl (.inl g1), rfl, _, rfl, p, _, 0, _, rfl, rfl, .inl (.inl h1), rfl, c, a, _, _, rfl, g2, h2, fy.1.mono (by decide), fx.1.mono (by decide), fun r H1 s1 r1 => ?_⟩
    refine ⟨_, rfl, q, _, 1, _, rfl, rfl, .inl (.inl (s1 _ _ g1)), rfl, _, rfl, p, _, 1, _, rfl, rfl, .inl (.inl (s1 _ _ h1)), rfl, d, b, _, _, rfl, g3.same s1, h3.same s1, fy.2.mono (by decide), fx.2.mono (by decide), fun r2 H2 s2 r3 => ⟨le2, fun R hR => ?_⟩⟩
    have s3 := same_new (o := .tup [.ref r, .ref r2]) hR
    exact k _ _ (s1.trans (s2.trans s3)) ⟨r, r2, upd_same, r1.same (s2.trans s3), r3.same s3⟩
end
end Fk

set_option Elab.async false
set_option maxRecDepth 100000
set_option maxHeartbeats 4000000
set_option exponentiation.threshold 20000
/-! Lists of points; is a point beyond all corners; the lowest point. -/
namespace Fk
open PySem L2
def PtsAt (H : Hp) (ps : List Addr) (xs : List Po) : Prop := ps.length = xs.length ∧ ∀ (i : Nat) (p : Addr) (x : Po), ps[i]? = some p → xs[i]? = some x → PtAt H p x
theorem PtsAt.same {H H' : Hp} {ps : List Addr} {xs : List Po} (h : PtsAt H ps xs) (s : Same H H') : PtsAt H' ps xs := ⟨h.1, fun i p x a b => (h.2 i p x a b).same s⟩
theorem PtsAt.get {H : Hp} {ps : List Addr} {xs : List Po} (h : PtsAt H ps xs) {i : Nat} {v : V} (hv : (rv ps)[i]? = some v) : ∃ p x, v = .ref p ∧ ps[i]? = some p ∧ xs[i]? = some x ∧ PtAt H p x := by
  unfold rv at hv
  rw [List.getElem?_map] at hv
  cases e : ps[i]? with
  | none =>
    rw [e] at hv
    cases hv
  | some p =>
    rw [e] at hv
    cases hv
    have hi := (List.getElem?_eq_some_iff.mp e).1
    have hi2 : i < xs.length := by rw [← h.1]; exact hi
    exact ⟨p, xs[i], rfl, rfl, List.getElem?_eq_getElem hi2, h.2 i p _ e (List.getElem?_eq_getElem hi2)⟩
theorem PtsAt.one {H : Hp} {p : Addr} {x : Po} (h : PtAt H p x) : PtsAt H [p] [x] := ⟨rfl, fun i q y a b => by
  match i, a, b with
  | 0, a, b =>
    cases a
    cases b
    exact h⟩
theorem PtsAt.tail {H : Hp} {p : Addr} {ps : List Addr} {x : Po} {xs : List Po} (h : PtsAt H (p :: ps) (x :: xs)) : PtAt H p x ∧ PtsAt H ps xs := ⟨h.2 0 p x rfl rfl, by
  have := h.1
  simpa using this, fun i q y a b => h.2 (i + 1) q y a b⟩
/-- one more in a list that a comprehension builds -/
theorem growV {H0 H2 H3 : Hp} {D : Addr} {vs : List V} {v : V} (hD : H0 D = none) (s : Same H0 H2) (hq : H2 D = some (.lst vs)) (s3 : Same H2 H3) (lt : vs.length ≤ 1000) :
    ∃ acc, H3 D = some (.lst acc) ∧ acc.length < sizeLine ∧ Same H0 (upd H3 D (.lst (acc ++ [v]))) ∧ (upd H3 D (.lst (acc ++ [v]))) D = some (.lst (vs ++ [v])) := by
  refine ⟨vs, s3 _ _ hq, small1000 lt, fun b o hb => ?_, upd_same⟩
  rw [upd_ne (ne_of_none hb hD)]
  exact (s.trans s3) _ _ hb
theorem sl_tupAK {X : Cx} {K : PySem.W.Frag} (hK : X.K = K) : SlR X (rSlA K) := hK ▸ sl_tupA
theorem fine_wor {n m : Nat} {c p : Po} (hc : FineP n c) (hp : FineP m p) : Fine (n + m + (n + m) + 1) (wor c p) := fine_plu (fine_tim hc.1 hp.1) (fine_tim hc.2 hp.2)
abbrev sExcl : Stmt := top 22
abbrev sLowP : Stmt := top 27
abbrev psEx : List Str := ["normal", "corners", "point"]
abbrev nsEx : List Str := ["normal", "corners", "point", "reach", "corner"]
abbrev psLP : List Str := ["direction", "points"]
abbrev nsLP : List Str := ["direction", "points", "best", "point"]
/-- a is worth less than b in the direction n -/
def wlt (n a b : Po) : Bool := decide (qv (wor n a) < qv (wor n b))
def spExcl (K : PySem.W.Frag) : Sp := fun vs H Q _ => ∃ (n c p : Addr) (ps : List Addr) (xs : List Po) (nv y : Po), vs = [.ref n, .ref c, .ref p] ∧ PtK K H n nv ∧ H c = some (.tup (rv ps)) ∧ PtsAt H ps xs ∧ PtAt H p y ∧ FineP 2001 nv ∧ (∀ x ∈ xs, FineP 1000 x) ∧ FineP 1000 y ∧ xs.length ≤ 1000 ∧ ∀ H', Same H H' → Q (.bl (xs.all fun x => wlt nv x y)) H'
def lowP (c : Po) (b : Po) (xs : List Po) : Po := xs.foldl (fun b x => if wlt c x b = true then x else b) b
def spLowP : Sp := fun vs H Q _ => ∃ (c l : Addr) (ps : List Addr) (cv x : Po) (xs : List Po), vs = [.ref c, .ref l] ∧ PtAt H c cv ∧ H l = some (.tup (rv ps)) ∧ PtsAt H ps (x :: xs) ∧ FineP 2001 cv ∧ (∀ y ∈ x :: xs, FineP 1000 y) ∧ xs.length ≤ 1000 ∧ ∀ r H', Same H H' → PtAt H' r (lowP cv x xs) → Q (.ref r) H'
theorem at_zero (x : V) (xs : List V) : atI (x :: xs) 0 = some x := atI_nat (xs := x :: xs) (j := 0) rfl
theorem cut_one (x : V) (xs : List V) : cutV (x :: xs) (some 1) none = xs := by
  unfold cutV
  rw [show (some 1 : Option Int) = some ((1 : Nat) : Int) from rfl, HT.sIx_nat, HT.sIx_none, List.length_cons]
  have e : min 1 (xs.length + 1) = 1 := by omega
  rw [e]
  simp
theorem lowP_snoc (c b : Po) (xs : List Po) (x : Po) : lowP c b (xs ++ [x]) = if wlt c x (lowP c b xs) = true then x else lowP c b xs := by
  unfold lowP
  rw [List.foldl_append]
  rfl
theorem lowP_mem (c : Po) : ∀ (xs : List Po) (b : Po), lowP c b xs ∈ b :: xs
  | [], b => List.mem_cons_self
  | x :: xs, b => by
    have z := lowP_mem c xs (if wlt c x b = true then x else b)
    unfold lowP at z ⊢
    rw [List.foldl_cons]
    rcases List.mem_cons.mp z with h | h
    · rw [h]
      split
      · exact List.mem_cons_of_mem _ List.mem_cons_self
      · exact List.mem_cons_self
    · exact List.mem_cons_of_mem _ (List.mem_cons_of_mem _ h)
section
variable {P : Program} {w : World} {K : PySem.W.Frag} {mg : Str → Option Value} {base : Heap}
theorem scExcl : FnScope nsEx psEx (defScope sExcl) := ⟨rfl, rfl, rfl, by decide +kernel, rfl, by decide +kernel, by decide +kernel⟩
theorem scLowP : FnScope nsLP psLP (defScope sLowP) := ⟨rfl, rfl, rfl, by decide +kernel, rfl, by decide +kernel, by decide +kernel⟩
theorem ok_excl {f fW fO : Addr} {fd dW dO : FuncData} (F : Fun K "excludes" "excludes" sExcl f fd) (ma : mg "all" = none) (W : Cl P w K mg base "worth" psDP 3 (spWorth K) fW dW) (O : Cl P w K mg base "order" psOO 2 spOrder fO dO) : FnOk P w K mg base CX0 4 f fd psEx (spExcl K) := by
  refine F.ok scExcl (fun vs H Q E h => ?_) (fun cdv A outer s H vs Q E hr h => ?_)
  · obtain ⟨n, c, p, ps, xs, nv, y, rfl, _⟩ := h
    rfl
  · obtain ⟨n, c, p, ps, xs, nv, y, rfl, hn, hc, hX, hp, fn, fX, fy, lX, k⟩ := h
    have hr1 := hr.mono (show 2 ≤ 3 by decide)
    refine ⟨_, pss_cons (ps_set (i := 3) scExcl.nd rfl (Or.inr rfl) (pe_call W.G hr (by rfl) W.g W.kp W.b .nil pass0 (pa_cons (pv 0) (pa_cons (pv 2) pa_nil))))
      (pss_one (ps_ret (pe_callB (cr_all rfl) (by rfl) ma (by decide +kernel) (pa_cons (pe_lc (own := [("corner", 4)]) (g := gName 4) (tt := tYes) rfl scExcl.nd (pi_anyK (K := K) rfl (pv 1)) (blkOk_by (N := nsEx) (sc := defScope sExcl) (by decide +kernel)) (fun _ _ _ _ _ => pg_name (i := 4) scExcl.nd rfl (Or.inl rfl)) (fun _ _ _ _ _ => pts_nil)
        (fun _ _ _ _ _ => pe_cmpR op_lt (pe_call O.G hr1 (by rfl) O.g O.kp O.b .nil pass0 (pa_cons (pe_call W.G hr (by rfl) W.g W.kp W.b .nil pass0 (pa_cons (pv 0) (pa_cons (pv 4) pa_nil))) (pa_cons (pv 3) pa_nil))) pe_int (nomark _))) pa_nil)))), ?_⟩
    refine ⟨_, rfl, _, rfl, n, p, nv, y, rfl, hn, hp, ⟨fn.1.mono (by decide), fn.2.mono (by decide)⟩, ⟨fy.1.mono (by decide), fy.2.mono (by decide)⟩, fun q H1 s1 hq => ?_⟩
    have hX1 := hX.same s1
    unfold gName tRet tCB tCons
    dsimp only
    refine lc_any (K := K) (a := c) (xs := rv ps) (H1 := H1) (fun P h => ⟨_, rfl, h⟩) (.inr (.inl (.inl (s1 _ _ hc)))) fun D hD => ⟨fun j H' => Same H1 H' ∧ H' D = some (.lst (((xs.take j).map fun x => wlt nv x y).map V.bl)), ⟨same_new hD, upd_same⟩, fun _ _ _ z => z.1, ?_, ?_⟩
    · rintro j v H2 hj ⟨s2, h2⟩
      obtain ⟨r, x, rfl, hr3, hx3, hx⟩ := (hX1.same s2).get hj
      have s12 := s1.trans s2
      have fx := fX x (List.mem_of_getElem? hx3)
      refine ⟨rfl, yesT ?_⟩
      refine ⟨_, rfl, _, rfl, n, r, nv, x, rfl, hn.same s12, hx, ⟨fn.1.mono (by decide), fn.2.mono (by decide)⟩, ⟨fx.1.mono (by decide), fx.2.mono (by decide)⟩, fun u H3 s3 hu => ?_⟩
      refine ⟨_, rfl, u, q, _, _, rfl, hu, hq.same (s2.trans s3), (fine_wor fn fx).mono (by decide), (fine_wor fn fy).mono (by decide), _, _, rfl, rfl, ?_⟩
      have e : decide (sgnI ((wor nv x).1 * (wor nv y).2 - (wor nv y).1 * (wor nv x).2) < 0) = wlt nv x y := by
        unfold wlt
        exact decide_eq_decide.mpr (sgn_lt (fine_wor fn fx).1 (fine_wor fn fy).1)
      dsimp only
      rw [e]
      have e2 : ((xs.take (j + 1)).map fun x => wlt nv x y).map V.bl = ((xs.take j).map fun x => wlt nv x y).map V.bl ++ [.bl (wlt nv x y)] := by
        rw [List.take_add_one, hx3]
        simp
      rw [e2]
      exact growV hD s2 h2 s3 (by
        rw [List.length_map, List.length_map, List.length_take]
        omega)
    · rintro H2 ⟨s2, h2⟩
      have e : (rv ps).length = xs.length := by rw [rv_len, hX.1]
      rw [e, List.take_length] at h2
      refine ⟨D, _, rfl, SqL.of h2, ?_⟩
      have e3 : (xs.map fun x => wlt nv x y).all id = xs.all fun x => wlt nv x y := by rw [List.all_map]; rfl
      rw [e3]
      exact k H2 (s1.trans s2)
theorem ok_lowP {f fW fO : Addr} {fd dW dO : FuncData} (F : Fun K "lowest_point" "lowest_point" sLowP f fd) (W : Cl P w K mg base "worth" psDP 3 (spWorth K) fW dW) (O : Cl P w K mg base "order" psOO 2 spOrder fO dO) : FnOk P w K mg base CX0 4 f fd psLP spLowP := by
  refine F.ok scLowP (fun vs H Q E h => ?_) (fun cdv A outer s H vs Q E hr h => ?_)
  · obtain ⟨c, l, ps, cv, x, xs, rfl, _⟩ := h
    rfl
  · obtain ⟨c, l, ps, cv, x, xs, rfl, hc, hl, hX, fc, fX, lX, k⟩ := h
    have hr1 := hr.mono (show 2 ≤ 3 by decide)
    refine ⟨_, pss_cons (ps_set (i := 2) scLowP.nd rfl (Or.inl rfl) (pe_ix (ix_anyK (K := K) rfl) (pv 1) pe_int (fun _ _ => rfl)))
      (C8.pss_cut (ps_for PassesOwn.never rfl (pi_tupK (K := K) rfl (pe_slice (sl_tupAK (K := K) rfl) (pv 1) (po_some pe_int) po_none)) (pg_name (i := 3) scLowP.nd rfl (Or.inl rfl))
        (pss_one (ps_set (i := 2) scLowP.nd rfl (Or.inl rfl) (pe_ifExp (pt_cmpR op_lt (pe_call O.G hr1 (by rfl) O.g O.kp O.b .nil pass0 (pa_cons (pe_call W.G hr (by rfl) W.g W.kp W.b .nil pass0 (pa_cons (pv 0) (pa_cons (pv 3) pa_nil))) (pa_cons (pe_call W.G hr (by rfl) W.g W.kp W.b .nil pass0 (pa_cons (pv 0) (pa_cons (pv 2) pa_nil))) pa_nil))) pe_int (nomark _)) (pv 3) (pv 2)))))
      (pss_one (ps_ret (pv 2)))), ?_⟩
    match ps, hX.1 with
    | p :: ps, hX1 =>
    obtain ⟨hp, hT⟩ := hX.tail
    refine ⟨_, rfl, l, _, 0, _, rfl, rfl, .inr (.inl (.inl hl)), at_zero _ _, ?_⟩
    refine ⟨fun σ' H' => ∃ r v3, σ' = [some (.ref c), some (.ref l), some (.ref r), v3] ∧ Same H H' ∧ PtAt H' r (lowP cv x xs), ?_, ?_⟩
    · refine ⟨_, rfl, 1, rfl, l, _, rfl, .inl (.inl hl), fun z => ?_, fun _ T hT2 => ?_⟩
      · exfalso
        have z1 := z.1
        rw [show (some 1 : Option Int) = some ((1 : Nat) : Int) from rfl, HT.sIx_nat] at z1
        have : (rv (p :: ps)).length = ps.length + 1 := by rw [rv_len]; rfl
        omega
      rw [show rv (p :: ps) = .ref p :: rv ps from rfl, cut_one]
      have s1 := same_new (o := .tup (rv ps)) hT2
      refine ⟨T, rfl, ⟨_, .inl (.inl upd_same)⟩, ?_⟩
      refine for_tup (K := K) (a := T) (xs := rv ps) (fun j σ' H' => ∃ r v3, σ' = [some (.ref c), some (.ref l), some (.ref r), v3] ∧ Same (upd H T (.tup (rv ps))) H' ∧ PtAt H' r (lowP cv x (xs.take j))) ⟨p, none, rfl, Same.refl _, hp.same s1⟩ (fun j σ' H' _ z => ?_) (fun j v σ' H2 hj z => ?_) (fun σ' H2 z => ?_)
      · obtain ⟨r, v3, rfl, s2, _⟩ := z
        exact .inl (.inl (s2 _ _ upd_same))
      · obtain ⟨r, v3, rfl, s2, hr2⟩ := z
        have s12 := s1.trans s2
        obtain ⟨q, y, rfl, hq, hy, hqy⟩ := (hT.same s12).get hj
        have fy := fX y (List.mem_cons_of_mem _ (List.mem_of_getElem? hy))
        have fb : FineP 1000 (lowP cv x (xs.take j)) := fX _ (by
          rcases List.mem_cons.mp (lowP_mem cv (xs.take j) x) with h | h
          · rw [h]
            exact List.mem_cons_self
          · exact List.mem_cons_of_mem _ (List.mem_of_mem_take h))
        have fc3 : FineP 3000 cv := ⟨fc.1.mono (by decide), fc.2.mono (by decide)⟩
        refine ⟨_, rfl, _, rfl, c, q, cv, y, rfl, (hc.same s12).toK, hqy, fc3, ⟨fy.1.mono (by decide), fy.2.mono (by decide)⟩, fun u H3 s3 hu => ?_⟩
        refine ⟨_, rfl, _, rfl, c, r, cv, _, rfl, (hc.same (s12.trans s3)).toK, hr2.same s3, fc3, ⟨fb.1.mono (by decide), fb.2.mono (by decide)⟩, fun u2 H4 s4 hu2 => ?_⟩
        refine ⟨u, u2, _, _, rfl, hu.same s4, hu2, (fine_wor fc fy).mono (by decide), (fine_wor fc fb).mono (by decide), _, _, rfl, rfl, ?_⟩
        have e : decide (sgnI ((wor cv y).1 * (wor cv (lowP cv x (xs.take j))).2 - (wor cv (lowP cv x (xs.take j))).1 * (wor cv y).2) < 0) = wlt cv y (lowP cv x (xs.take j)) := by
          unfold wlt
          exact decide_eq_decide.mpr (sgn_lt (fine_wor fc fy).1 (fine_wor fc fb).1)
        have e2 : xs.take (j + 1) = xs.take j ++ [y] := by
          rw [List.take_add_one, hy]
          rfl
        have s34 := s3.trans s4
        refine ⟨_, rfl, ite2 (fun h => ?_) (fun h => ?_)⟩
        · refine ⟨_, rfl, q, _, rfl, s2.trans s34, ?_⟩
          rw [e] at h
          rw [e2, lowP_snoc, if_pos h]
          exact hqy.same s34
        · refine ⟨_, rfl, r, _, rfl, s2.trans s34, ?_⟩
          rw [e] at h
          rw [e2, lowP_snoc, if_neg h]
          exact hr2.same s34
      · obtain ⟨r, v3, rfl, s2, hr2⟩ := z
        have e : (rv ps).length = xs.length := by
          rw [rv_len]
          exact hT.1
        rw [e, List.take_length] at hr2
        exact ⟨r, v3, rfl, s1.trans s2, hr2⟩
    · rintro σ' H2 ⟨r, v3, rfl, s2, hr2⟩
      exact ⟨_, rfl, k r H2 s2 hr2⟩
end
end Fk

set_option Elab.async false
set_option maxRecDepth 100000
set_option maxHeartbeats 4000000
set_option exponentiation.threshold 20000
/-! The directions in which a zone ends. -/
namespace Fk
open PySem L2
abbrev sNorm : Stmt := top 26
abbrev nsNo : List Str := ["corners", "along", "right", "many", "k"]
def PtsK (K : PySem.W.Frag) (H : Hp) (ps : List Addr) (xs : List Po) : Prop := ps.length = xs.length ∧ ∀ (i : Nat) (p : Addr) (x : Po), ps[i]? = some p → xs[i]? = some x → PtK K H p x
theorem PtsAt.toK {K : PySem.W.Frag} {H : Hp} {ps : List Addr} {xs : List Po} (h : PtsAt H ps xs) : PtsK K H ps xs := ⟨h.1, fun i p x a b => (h.2 i p x a b).toK⟩
theorem PtsK.same {K : PySem.W.Frag} {H H' : Hp} {ps : List Addr} {xs : List Po} (h : PtsK K H ps xs) (s : Same H H') : PtsK K H' ps xs := ⟨h.1, fun i p x a b => (h.2 i p x a b).same s⟩
def ptN (xs : List Po) (i : Nat) : Po := xs.getD i ((0, 1), (0, 1))
theorem ptN_at {xs : List Po} {i : Nat} (h : i < xs.length) : xs[i]? = some (ptN xs i) := by
  unfold ptN
  rw [List.getD_eq_getElem?_getD, List.getElem?_eq_getElem h]
  rfl
theorem PtsAt.at_ {H : Hp} {ps : List Addr} {xs : List Po} (h : PtsAt H ps xs) {i : Nat} (hi : i < xs.length) : ∃ p, atI (rv ps) (i : Int) = some (.ref p) ∧ PtAt H p (ptN xs i) := by
  have hl : i < ps.length := by rw [h.1]; exact hi
  exact ⟨ps[i], atI_nat (by unfold rv; rw [List.getElem?_map, List.getElem?_eq_getElem hl]; rfl), h.2 i _ _ (List.getElem?_eq_getElem hl) (ptN_at hi)⟩
theorem PtsAt.add {H H' : Hp} {t : Addr} {ps : List Addr} {xs : List Po} {x : Po} (s : Same H H') (h : PtsAt H ps xs) (ht : PtAt H' t x) : PtsAt H' (ps ++ [t]) (xs ++ [x]) := by
  have hl := h.1
  refine ⟨by rw [List.length_append, List.length_append, hl]; rfl, fun i p y hp hy => ?_⟩
  rcases Nat.lt_trichotomy i xs.length with hi | hi | hi
  · rw [List.getElem?_append_left (by omega)] at hp
    rw [List.getElem?_append_left hi] at hy
    exact (h.2 i p y hp hy).same s
  · subst hi
    rw [List.getElem?_append_right (by omega), hl, Nat.sub_self] at hp
    rw [List.getElem?_append_right (by omega), Nat.sub_self] at hy
    cases hp
    cases hy
    exact ht
  · rw [List.getElem?_append_right (by omega)] at hy
    have : i - xs.length = (i - xs.length - 1) + 1 := by omega
    rw [this] at hy
    cases hy
theorem pts_nil' {H : Hp} : PtsAt H [] [] := ⟨rfl, fun i p x hp _ => nomatch hp⟩
/-- one more point in a list that a comprehension builds -/
theorem growP {H0 H2 H3 : Hp} {D r : Addr} {qs : List Addr} {xs : List Po} {x : Po} (hD : H0 D = none) (s : Same H0 H2) (hq : H2 D = some (.lst (rv qs))) (hQ : PtsAt H2 qs xs) (s3 : Same H2 H3) (hr : PtAt H3 r x) (lt : xs.length ≤ 1000) (nD : ∀ q y o, PtAt H3 q y → PtAt (upd H3 D o) q y) :
    ∃ acc, H3 D = some (.lst acc) ∧ acc.length < sizeLine ∧ Same H0 (upd H3 D (.lst (acc ++ [.ref r]))) ∧ ∃ qs', (upd H3 D (.lst (acc ++ [.ref r]))) D = some (.lst (rv qs')) ∧ PtsAt (upd H3 D (.lst (acc ++ [.ref r]))) qs' (xs ++ [x]) := by
  refine ⟨rv qs, s3 _ _ hq, by rw [rv_len, hQ.1]; exact small1000 lt, fun b o hb => ?_, qs ++ [r], ?_, ?_⟩
  · rw [upd_ne (ne_of_none hb hD)]
    exact (s.trans s3) _ _ hb
  · rw [upd_same]
    unfold rv
    rw [List.map_append]
    rfl
  · have z := (PtsAt.add s3 hQ hr)
    exact ⟨z.1, fun i p y a b => nD _ _ _ (z.2 i p y a b)⟩
theorem PtAt.upd {H : Hp} {D : Addr} {vs : List V} (hD : H D = some (.lst vs)) {q : Addr} {y : Po} {o : HO} (h : PtAt H q y) : PtAt (upd H D o) q y := by
  obtain ⟨a, b, h1, h2, h3⟩ := h
  have up : ∀ {p : Addr} {xs : List V}, H p = some (.tup xs) → L2.upd H D o p = some (.tup xs) := fun {p xs} e => by
    rw [upd_ne (ne_of e hD (fun z => nomatch z))]
    exact e
  exact ⟨a, b, up h1, up h2, up h3⟩
def axesL : List Po := [((1, 1), (0, 1)), ((0, 1), (1, 1)), ((-1, 1), (0, 1)), ((0, 1), (-1, 1))]
def edge (xs : List Po) (k : Nat) : Po := trnF (wayF (ptN xs k) (ptN xs ((k + 1) % xs.length)))
def normsF (xs : List Po) : List Po :=
  if xs.length = 1 then axesL
  else if xs.length = 2 then [trnF (wayF (ptN xs 0) (ptN xs 1)), wayF (ptN xs 0) (ptN xs 1), oppF (trnF (wayF (ptN xs 0) (ptN xs 1))), oppF (wayF (ptN xs 0) (ptN xs 1))]
  else (List.range xs.length).map (edge xs)
def spNorm (K : PySem.W.Frag) : Sp := fun vs H Q _ => ∃ (c : Addr) (ps : List Addr) (xs : List Po), vs = [.ref c] ∧ H c = some (.tup (rv ps)) ∧ PtsAt H ps xs ∧ xs ≠ [] ∧ (∀ x ∈ xs, FineP 1000 x) ∧ xs.length ≤ 1000 ∧ ∀ r qs H', Same H H' → SqT K H' r (rv qs) → PtsK K H' qs (normsF xs) → Q (.ref r) H'
section
variable {P : Program} {w : World} {K : PySem.W.Frag} {mg : Str → Option Value} {base : Heap}
theorem scNorm : FnScope nsNo ["corners"] (defScope sNorm) := ⟨rfl, rfl, rfl, by decide +kernel, rfl, by decide +kernel, by decide +kernel⟩
theorem ok_norm {f fW fT fO ax : Addr} {fd dW dT dO : FuncData} (F : Fun K "normals_of" "normals_of" sNorm f fd) (ml : mg "len" = none) (mr : mg "range" = none) (mt : mg "tuple" = none) (mA : mg "AXES" = some (.ref ax)) (hA : ∀ H, ∃ qs, SqT K H ax (rv qs) ∧ PtsK K H qs axesL)
    (W : Cl P w K mg base "way_between" ["start", "end"] 3 (spTwoP wayF) fW dW) (T : Cl P w K mg base "turned" ["way"] 1 (spOneP trnF) fT dT) (O : Cl P w K mg base "opposite" ["way"] 1 (spOneP oppF) fO dO) : FnOk P w K mg base CX0 4 f fd ["corners"] (spNorm K) := by
  refine F.ok scNorm (fun vs H Q E h => ?_) (fun cdv A outer s H vs Q E hr h => ?_)
  · obtain ⟨c, ps, xs, rfl, _⟩ := h
    rfl
  · obtain ⟨c, ps, xs, rfl, hc, hX, ne, fX, lX, k⟩ := h
    have hr1 := hr.mono (show 1 ≤ 3 by decide)
    refine ⟨_, pss_cons (ps_if (pt_cmpR op_eq (pe_callB call_len_seq (by rfl) ml PySem.boot_len (pa_cons (pv 0) pa_nil)) pe_int (nomark _)) (pss_one (ps_ret (pe_glob (v := .ref ax) (by rfl) mA rfl))) pss_nil)
      (pss_cons (ps_if (pt_cmpR op_eq (pe_callB call_len_seq (by rfl) ml PySem.boot_len (pa_cons (pv 0) pa_nil)) pe_int (nomark _))
        (pss_cons (ps_set (i := 1) scNorm.nd rfl (Or.inl rfl) (pe_call W.G hr (by rfl) W.g W.kp W.b .nil pass0 (pa_cons (pe_ix (ix_anyK (K := K) rfl) (pv 0) pe_int (fun _ _ => rfl)) (pa_cons (pe_ix (ix_anyK (K := K) rfl) (pv 0) pe_int (fun _ _ => rfl)) pa_nil))))
        (pss_cons (ps_set (i := 2) scNorm.nd rfl (Or.inl rfl) (pe_call T.G hr1 (by rfl) T.g T.kp T.b .nil pass0 (pa_cons (pv 1) pa_nil)))
        (pss_one (ps_ret (pe_tup (pa_cons (pv 2) (pa_cons (pv 1) (pa_cons (pe_call O.G hr1 (by rfl) O.g O.kp O.b .nil pass0 (pa_cons (pv 2) pa_nil)) (pa_cons (pe_call O.G hr1 (by rfl) O.g O.kp O.b .nil pass0 (pa_cons (pv 1) pa_nil)) pa_nil))))))))) pss_nil)
      (pss_cons (ps_set (i := 3) scNorm.nd rfl (Or.inr rfl) (pe_callB call_len_seq (by rfl) ml PySem.boot_len (pa_cons (pv 0) pa_nil)))
      (pss_one (ps_ret (pe_callTy call_tuple_of (by rfl) mt (by decide +kernel) (pa_cons (pe_lc (own := [("k", 4)]) (g := gName 4) (tt := tYes) rfl scNorm.nd (pi_range1 (by rfl) mr (pa_cons (pv 3) pa_nil)) (blkOk_by (N := nsNo) (sc := defScope sNorm) (by decide +kernel)) (fun _ _ _ _ _ => pg_name (i := 4) scNorm.nd rfl (Or.inl rfl)) (fun _ _ _ _ _ => pts_nil)
        (fun _ _ _ _ _ => pe_call T.G hr1 (by rfl) T.g T.kp T.b .nil pass0 (pa_cons (pe_call W.G hr (by rfl) W.g W.kp W.b .nil pass0 (pa_cons (pe_ix (ix_anyK (K := K) rfl) (pv 0) (pv 4) (fun _ _ => rfl)) (pa_cons (pe_ix (ix_anyK (K := K) rfl) (pv 0) (pe_op op_mod (pe_op op_add (pv 4) pe_int) (pv 3)) (fun _ _ => rfl)) pa_nil))) pa_nil))) pa_nil)))))), ?_⟩
    have lp : (rv ps).length = xs.length := by rw [rv_len, hX.1]
    have fp : ∀ {i : Nat}, i < xs.length → FineP 3000 (ptN xs i) := fun {i} hi => by
      have z := fX _ (List.mem_of_getElem? (ptN_at hi))
      exact ⟨z.1.mono (by decide), z.2.mono (by decide)⟩
    refine ⟨_, rfl, c, _, rfl, .inr (.inl (.inl hc)), rfl, _, rfl, ?_⟩
    rw [lp]
    refine ite2 (fun h1 => ?_) (fun h1 => ?_)
    · have e1 : xs.length = 1 := by
        have := V.int.inj (of_decide_eq_true h1)
        omega
      obtain ⟨qs, a1, a2⟩ := hA H
      refine k ax qs H (Same.refl _) a1 ?_
      unfold normsF
      rw [if_pos e1]
      exact a2
    have n1 : xs.length ≠ 1 := fun e => h1 (by rw [e]; rfl)
    refine ⟨_, rfl, c, _, rfl, .inr (.inl (.inl hc)), rfl, _, rfl, ?_⟩
    rw [lp]
    refine ite2 (fun h2 => ?_) (fun h2 => ?_)
    · have e2 : xs.length = 2 := by
        have := V.int.inj (of_decide_eq_true h2)
        omega
      obtain ⟨p0, a0, b0⟩ := hX.at_ (i := 0) (by omega)
      obtain ⟨p1, a1, b1⟩ := hX.at_ (i := 1) (by omega)
      refine ⟨_, rfl, c, _, 0, _, rfl, rfl, .inr (.inl (.inl hc)), a0, _, rfl, c, _, 1, _, rfl, rfl, .inr (.inl (.inl hc)), a1, p0, p1, _, _, rfl, b0, b1, fp (by omega), fp (by omega), fun q H1 s1 hq => ?_⟩
      refine ⟨_, rfl, q, _, rfl, hq, fun q2 H2 s2 hq2 => ?_⟩
      refine ⟨_, rfl, _, rfl, _, rfl, q2, _, rfl, hq2, fun q3 H3 s3 hq3 => ⟨_, rfl, q, _, rfl, hq.same (s2.trans s3), fun q4 H4 s4 hq4 => ⟨Nat.le_of_lt (small1000 (n := 4) (by decide)), fun R hR => ?_⟩⟩⟩
      have s5 := same_new (o := .tup (rv [q2, q, q3, q4])) hR
      refine k R [q2, q, q3, q4] _ (s1.trans (s2.trans (s3.trans (s4.trans s5)))) (.inl (.inl upd_same)) ?_
      unfold normsF
      rw [if_neg n1, if_pos e2]
      refine PtsAt.toK ?_
      refine ⟨rfl, fun i p x a b => ?_⟩
      match i, a, b with
      | 0, a, b =>
        cases a
        cases b
        exact hq2.same (s3.trans (s4.trans s5))
      | 1, a, b =>
        cases a
        cases b
        exact hq.same (s2.trans (s3.trans (s4.trans s5)))
      | 2, a, b =>
        cases a
        cases b
        exact hq3.same (s4.trans s5)
      | 3, a, b =>
        cases a
        cases b
        exact hq4.same s5
    have n2 : xs.length ≠ 2 := fun e => h2 (by rw [e]; rfl)
    have n0 : 0 < xs.length := List.length_pos_iff.mpr ne
    refine ⟨_, rfl, c, _, rfl, .inr (.inl (.inl hc)), ?_⟩
    rw [lp]
    refine ⟨_, rfl, _, rfl, by omega, by omega, fun D hD => lc_range (lo := 0) (n := xs.length) (fun i H2 => Same H H2 ∧ ∃ qs, H2 D = some (.lst (rv qs)) ∧ PtsAt H2 qs ((List.range i).map (edge xs))) ⟨same_new hD, [], upd_same, pts_nil'⟩ ?_ ?_⟩
    · rintro i H2 hi ⟨s2, qs, hqs, hQ⟩
      have e0 : (0 : Int) + (i : Int) = (i : Int) := Int.zero_add _
      obtain ⟨p0, a0, b0⟩ := (hX.same s2).at_ hi
      have hm : (i + 1) % xs.length < xs.length := Nat.mod_lt _ n0
      obtain ⟨p1, a1, b1⟩ := (hX.same s2).at_ hm
      refine ⟨rfl, yesT ?_⟩
      refine ⟨_, rfl, _, rfl, c, _, _, _, rfl, rfl, .inr (.inl (.inl (s2 _ _ hc))), by rw [e0]; exact a0, ?_⟩
      refine ⟨_, rfl, _, rfl, _, _, rfl, rfl, _, rfl, _, _, rfl, rfl, by omega, c, _, _, _, rfl, rfl, .inr (.inl (.inl (s2 _ _ hc))), by rw [e0]; exact_mod_cast a1, ?_⟩
      refine ⟨p0, p1, _, _, rfl, b0, b1, fp hi, fp hm, fun q H3 s3 hq => ⟨q, _, rfl, hq, fun q2 H4 s4 hq2 => ?_⟩⟩
      rw [List.range_succ, List.map_append]
      exact growP hD s2 hqs hQ (s3.trans s4) hq2 (by rw [List.length_map, List.length_range]; omega) (fun q y o z => PtAt.upd ((s3.trans s4) _ _ hqs) z)
    · rintro H2 ⟨s2, qs, hqs, hQ⟩
      refine ⟨D, _, rfl, .inl ⟨SqL.of hqs, fun T hT => ?_⟩⟩
      have s3 := same_new (o := .tup (rv qs)) hT
      refine k T qs _ (s2.trans s3) (.inl (.inl upd_same)) ?_
      unfold normsF
      rw [if_neg n1, if_neg n2]
      exact PtsAt.toK (hQ.same s3)
end
end Fk

set_option Elab.async false
set_option maxRecDepth 100000
set_option maxHeartbeats 4000000
set_option exponentiation.threshold 20000
/-! What is a point; a point in lowest terms. -/
namespace Fk
open PySem L2
abbrev sIsPt : Stmt := top 16
abbrev sAsPt : Stmt := top 17
/-- whether a value is a point -/
inductive ValP (K : PySem.W.Frag) (H : Hp) : V → Bool → Prop
  | other {v : V} {ty : Value} (t : TyX K H v ty) (n : PySem.W.kitOne K ty (.type "tuple") = some false) : ValP K H v false
  | len {p : Addr} {xs : List V} (h : H p = some (.tup xs)) (n : xs.length ≠ 2) : ValP K H (.ref p) false
  | one {p : Addr} {x y : V} (h : H p = some (.tup [x, y])) (hx : Val K H x false) : ValP K H (.ref p) false
  | two {p : Addr} {x y : V} {b : Bool} (h : H p = some (.tup [x, y])) (hx : Val K H x true) (hy : Val K H y b) : ValP K H (.ref p) b
def spIsPt (K : PySem.W.Frag) : Sp := fun vs H Q _ => ∃ v b, vs = [v] ∧ ValP K H v b ∧ Q (.bl b) H
/-- a value that tells the point x in any terms -/
def LowP (H : Hp) (v : V) (x : Po) : Prop := ∃ (t : Addr) (a b : V), v = .ref t ∧ H t = some (.tup [a, b]) ∧ Low H a x.1.1 x.1.2 ∧ Low H b x.2.1 x.2.2
theorem LowP.same {H H' : Hp} {v : V} {x : Po} (h : LowP H v x) (s : Same H H') : LowP H' v x := by
  obtain ⟨t, a, b, h1, h2, h3, h4⟩ := h
  exact ⟨t, a, b, h1, s _ _ h2, h3.same s, h4.same s⟩
def spAsPt : Sp := fun vs H Q _ => ∃ v x, vs = [v] ∧ LowP H v x ∧ ∀ p H', Same H H' → PtAt H' p x → Q (.ref p) H'
section
variable {P : Program} {w : World} {K : PySem.W.Frag} {mg : Str → Option Value} {base : Heap}
theorem scIsPt : FnScope psv psv (defScope sIsPt) := ⟨rfl, rfl, rfl, by decide +kernel, rfl, by decide +kernel, by decide +kernel⟩
theorem scAsPt : FnScope psv psv (defScope sAsPt) := ⟨rfl, rfl, rfl, by decide +kernel, rfl, by decide +kernel, by decide +kernel⟩
theorem ok_isPt {f fI : Addr} {fd dI : FuncData} (F : Fun K "is_point" "is_point" sIsPt f fd) (mi : mg "isinstance" = none) (mt : mg "tuple" = none) (ml : mg "len" = none) (I : Cl P w K mg base "is_ratio" psv 2 (spIsRat K) fI dI) : FnOk P w K mg base CX0 3 f fd psv (spIsPt K) := by
  refine F.ok scIsPt (fun vs H Q E h => ?_) (fun cdv A outer s H vs Q E hr h => ?_)
  · obtain ⟨i, b, rfl, _⟩ := h
    rfl
  · obtain ⟨v, b, rfl, hv, k⟩ := h
    refine ⟨_, pss_one (ps_ret (pe_and (pe_callB call_isi (by rfl) mi (by decide +kernel) (pa_cons (pv 0) (pa_cons (pe_bltn (v := .ty "tuple") (by rfl) mt (by decide +kernel) rfl) pa_nil)))
      (pe_and (pe_cmpR op_eq (pe_callB call_len_seq (by rfl) ml PySem.boot_len (pa_cons (pv 0) pa_nil)) pe_int (nomark _))
      (pe_and (pe_call I.G hr (by rfl) I.g I.kp I.b .nil pass0 (pa_cons (pe_ix ix_tup (pv 0) pe_int (fun _ _ => rfl)) pa_nil))
      (pe_one (pe_call I.G hr (by rfl) I.g I.kp I.b .nil pass0 (pa_cons (pe_ix ix_tup (pv 0) pe_int (fun _ _ => rfl)) pa_nil))))))), ?_⟩
    cases hv with
    | other t n => exact ⟨_, rfl, v, _, _, _, false, rfl, .ty _, t, n, false, rfl, iteF k⟩
    | @len p xs h n =>
      have st : SqT K H p xs := Or.inl (Or.inl h)
      refine ⟨_, rfl, _, _, _, _, true, rfl, .ty _, .base (.tup h), kit_ty (by decide), true, rfl, iteT ?_⟩
      refine ⟨_, rfl, p, _, rfl, .inr st, rfl, _, rfl, ?_⟩
      rw [decide_eq_false (fun z => n (by have := V.int.inj z; omega) : ¬ V.int (xs.length : Nat) = V.int 2)]
      exact iteF k
    | @one p x y h hx =>
      have st : SqT K H p [x, y] := Or.inl (Or.inl h)
      refine ⟨_, rfl, _, _, _, _, true, rfl, .ty _, .base (.tup h), kit_ty (by decide), true, rfl, iteT ?_⟩
      refine ⟨_, rfl, p, _, rfl, .inr st, rfl, _, rfl, iteT ?_⟩
      exact ⟨_, rfl, p, _, 0, _, rfl, rfl, st, rfl, _, false, rfl, hx, false, rfl, iteF k⟩
    | @two p x y b h hx hy =>
      have st : SqT K H p [x, y] := Or.inl (Or.inl h)
      refine ⟨_, rfl, _, _, _, _, true, rfl, .ty _, .base (.tup h), kit_ty (by decide), true, rfl, iteT ?_⟩
      refine ⟨_, rfl, p, _, rfl, .inr st, rfl, _, rfl, iteT ?_⟩
      refine ⟨_, rfl, p, _, 0, _, rfl, rfl, st, rfl, _, true, rfl, hx, true, rfl, iteT ?_⟩
      exact ⟨_, rfl, p, _, 1, _, rfl, rfl, st, rfl, _, b, rfl, hy, k⟩
theorem ok_asPt {f fA : Addr} {fd dA : FuncData} (F : Fun K "as_point" "as_point" sAsPt f fd) (L : Cl P w K mg base "as_ratio" psv 2 spAs fA dA) : FnOk P w K mg base CX0 3 f fd psv spAsPt := by
  refine F.ok scAsPt (fun vs H Q E h => ?_) (fun cdv A outer s H vs Q E hr h => ?_)
  · obtain ⟨v, x, rfl, _⟩ := h
    rfl
  · obtain ⟨v, x, rfl, ⟨t, a, b, rfl, ht, ha, hb⟩, k⟩ := h
    refine ⟨_, pss_one (ps_ret (pe_tup (pa_cons (pe_call L.G hr (by rfl) L.g L.kp L.b .nil pass0 (pa_cons (pe_ix ix_tup (pv 0) pe_int (fun _ _ => rfl)) pa_nil))
      (pa_cons (pe_call L.G hr (by rfl) L.g L.kp L.b .nil pass0 (pa_cons (pe_ix ix_tup (pv 0) pe_int (fun _ _ => rfl)) pa_nil)) pa_nil)))), ?_⟩
    refine ⟨_, rfl, t, _, 0, _, rfl, rfl, .inl (.inl ht), rfl, a, _, _, rfl, ha, fun p hp => ?_⟩
    have s1 := same_new (o := .tup [.int x.1.1, .int x.1.2]) hp
    refine ⟨_, rfl, t, _, 1, _, rfl, rfl, .inl (.inl (s1 _ _ ht)), rfl, b, _, _, rfl, hb.same s1, fun q hq => ⟨le2, fun R hR => ?_⟩⟩
    have s2 := same_new (o := .tup [.int x.2.1, .int x.2.2]) hq
    have s3 := same_new (o := .tup [.ref p, .ref q]) hR
    exact k R _ (s1.trans (s2.trans s3)) ⟨p, q, upd_same, (s2.trans s3) _ _ upd_same, s3 _ _ upd_same⟩
end
end Fk

set_option Elab.async false
set_option maxHeartbeats 2000000
/-! Points of whole numbers: turns, chains of corners (core Lean only). -/
namespace Hu
abbrev Pt := Int × Int
/-- the order of points: by the first number, then by the second -/
def lt (p q : Pt) : Prop := p.1 < q.1 ∨ (p.1 = q.1 ∧ p.2 < q.2)
/-- above 0 where the way a, b, c turns to the left -/
def cr (a b c : Pt) : Int := (b.1 - a.1) * (c.2 - a.2) - (b.2 - a.2) * (c.1 - a.1)
/-- vectors that go on in that order -/
def pos (x y : Int) : Prop := 0 < x ∨ (x = 0 ∧ 0 < y)
def xp (x y z w : Int) : Int := x * w - y * z
theorem lt_pos {p q : Pt} (h : lt p q) : pos (q.1 - p.1) (q.2 - p.2) := by
  unfold lt at h
  unfold pos
  omega
theorem lt_trans {p q r : Pt} (h : lt p q) (g : lt q r) : lt p r := by
  unfold lt at *
  omega
theorem lt_irr {p : Pt} (h : lt p p) : False := by
  unfold lt at h
  omega
theorem xp_id (a b c d e f : Int) : xp c d e f * a + xp a b c d * e = xp a b e f * c := by
  unfold xp
  grind
theorem xp_id2 (a b c d e f : Int) : xp c d e f * b + xp a b c d * f = xp a b e f * d := by
  unfold xp
  grind
theorem mul_nn {a b : Int} (h : 0 ≤ a) (g : 0 ≤ b) : 0 ≤ a * b := Int.mul_nonneg h g
theorem mul_pp {a b : Int} (h : 0 < a) (g : 0 < b) : 0 < a * b := Int.mul_pos h g
theorem nn_of {a b : Int} (h : 0 ≤ a * b) (g : 0 < b) : 0 ≤ a := by
  by_cases q : 0 ≤ a
  · exact q
  · have : 0 < -a * b := Int.mul_pos (by omega) g
    rw [Int.neg_mul] at this
    omega
theorem pp_of {a b : Int} (h : 0 < a * b) (g : 0 ≤ b) : 0 < a := by
  by_cases q : 0 < a
  · exact q
  · have : 0 ≤ -a * b := Int.mul_nonneg (by omega) g
    rw [Int.neg_mul] at this
    omega
/-- left of what is left -/
theorem cone {a b c d e f : Int} (hu : pos a b) (hv : pos c d) (hw : pos e f) (h : 0 ≤ xp a b c d) (g : 0 ≤ xp c d e f) : 0 ≤ xp a b e f := by
  have i1 := xp_id a b c d e f
  have i2 := xp_id2 a b c d e f
  have ha : 0 ≤ a := by unfold pos at hu; omega
  have he : 0 ≤ e := by unfold pos at hw; omega
  rcases hv with hc | ⟨hc, hd⟩
  · have z1 := mul_nn g ha
    have z2 := mul_nn h he
    exact nn_of (b := c) (by omega) hc
  · subst hc
    have e1 : xp a b 0 d = a * d := by unfold xp; grind
    have e2 : xp 0 d e f = -(d * e) := by unfold xp; grind
    have he0 : e = 0 := by
      rw [e2] at g
      by_cases q : e = 0
      · exact q
      · have : 0 < d * e := mul_pp hd (by omega)
        omega
    subst he0
    have hf : 0 < f := by unfold pos at hw; omega
    have e3 : xp a b 0 f = a * f := by unfold xp; grind
    rw [e3]
    exact mul_nn ha (by omega)
/-- strictly, where one of the two is -/
theorem cone1 {a b c d e f : Int} (hu : pos a b) (hv : pos c d) (hw : pos e f) (h : 0 < xp a b c d) (g : 0 ≤ xp c d e f) : 0 < xp a b e f := by
  have z := cone hu hv hw (Int.le_of_lt h) g
  by_cases q : xp a b e f = 0
  · exfalso
    -- then u and w lie on one line, and w left of v as u: contrary
    have h2 : 0 ≤ xp c d a b := by
      refine cone hv hw hu g ?_
      have : xp e f a b = -(xp a b e f) := by unfold xp; grind
      omega
    have : xp c d a b = -(xp a b c d) := by unfold xp; grind
    omega
  · omega
theorem cone2 {a b c d e f : Int} (hu : pos a b) (hv : pos c d) (hw : pos e f) (h : 0 ≤ xp a b c d) (g : 0 < xp c d e f) : 0 < xp a b e f := by
  have z := cone hu hv hw h (Int.le_of_lt g)
  by_cases q : xp a b e f = 0
  · exfalso
    have h2 : 0 ≤ xp e f c d := by
      refine cone hw hu hv ?_ h
      have : xp e f a b = -(xp a b e f) := by unfold xp; grind
      omega
    have : xp e f c d = -(xp c d e f) := by unfold xp; grind
    omega
  · omega
theorem cr_xp (a b c : Pt) : cr a b c = xp (b.1 - a.1) (b.2 - a.2) (c.1 - a.1) (c.2 - a.2) := rfl
theorem cr_xp2 (a b c : Pt) : cr a b c = xp (b.1 - a.1) (b.2 - a.2) (c.1 - b.1) (c.2 - b.2) := by
  unfold cr xp
  grind
theorem cr_self (a b : Pt) : cr a b b = 0 := by
  unfold cr
  grind
theorem cr_self0 (a b : Pt) : cr a b a = 0 := by
  unfold cr
  grind
/-- b above the way from a to s, p left of a b: p left of a s -/
theorem pop_left {a b s p : Pt} (hb : lt a b) (hs : lt a s) (hp : lt a p) (h : ¬ 0 < cr a b s) (g : 0 ≤ cr a b p) : 0 ≤ cr a s p := by
  rw [cr_xp] at *
  refine cone (lt_pos hs) (lt_pos hb) (lt_pos hp) ?_ g
  have : xp (s.1 - a.1) (s.2 - a.2) (b.1 - a.1) (b.2 - a.2) = -(xp (b.1 - a.1) (b.2 - a.2) (s.1 - a.1) (s.2 - a.2)) := by unfold xp; grind
  omega
/-- a point behind the new edge -/
theorem push_back {a t s p : Pt} (ha : lt a t) (hs : lt t s) (hp : lt p t) (h : 0 < cr a t s) (g : 0 ≤ cr a t p) : 0 ≤ cr t s p := by
  rw [cr_xp2] at h g
  have e1 : xp (t.1 - p.1) (t.2 - p.2) (t.1 - a.1) (t.2 - a.2) = xp (t.1 - a.1) (t.2 - a.2) (p.1 - t.1) (p.2 - t.2) := by unfold xp; grind
  have z := cone2 (lt_pos hp) (lt_pos ha) (lt_pos hs) (by rw [e1]; exact g) h
  have e2 : cr t s p = xp (t.1 - p.1) (t.2 - p.2) (s.1 - t.1) (s.2 - t.2) := by unfold cr xp; grind
  rw [e2]
  exact Int.le_of_lt z
/-- s stands left of an edge further back -/
theorem far_left {a b c s : Pt} (h1 : lt a b) (h2 : lt b c) (h3 : lt c s) (h : 0 < cr a b c) (g : 0 ≤ cr b c s) : 0 < cr a b s := by
  rw [cr_xp2] at *
  have z := cone1 (lt_pos h1) (lt_pos h2) (lt_pos h3) h g
  have e : xp (b.1 - a.1) (b.2 - a.2) (s.1 - b.1) (s.2 - b.2) = xp (b.1 - a.1) (b.2 - a.2) (c.1 - b.1) (c.2 - b.2) + xp (b.1 - a.1) (b.2 - a.2) (s.1 - c.1) (s.2 - c.2) := by unfold xp; grind
  omega
/-! ### a chain over points that were seen -/
structure Ch (P L : List Pt) : Prop where
  ne : L ≠ []
  fst : L.head? = P.head?
  sub : ∀ x ∈ L, x ∈ P
  srt : L.Pairwise lt
  cv : ∀ (i : Nat) (a b c : Pt), L[i]? = some a → L[i + 1]? = some b → L[i + 2]? = some c → 0 < cr a b c
  lf : ∀ (i : Nat) (a b : Pt), L[i]? = some a → L[i + 1]? = some b → ∀ p ∈ P, 0 ≤ cr a b p
theorem pw_at {L : List Pt} (h : L.Pairwise lt) {i j : Nat} {a b : Pt} (hij : i < j) (ha : L[i]? = some a) (hb : L[j]? = some b) : lt a b := by
  obtain ⟨h1, e1⟩ := List.getElem?_eq_some_iff.mp ha
  obtain ⟨h2, e2⟩ := List.getElem?_eq_some_iff.mp hb
  have z := List.pairwise_iff_getElem.mp h i j h1 h2 hij
  rw [e1, e2] at z
  exact z
/-- while corners are taken away for s -/
structure Po (P : List Pt) (s : Pt) (M : List Pt) : Prop where
  c : Ch P M
  ab : ∀ p ∈ P, lt p s
  up : ∀ t, M.getLast? = some t → ∀ p ∈ P, lt t p → 0 ≤ cr t s p
theorem last_at {L : List Pt} {t : Pt} (h : L.getLast? = some t) : L[L.length - 1]? = some t := by
  rw [← List.getLast?_eq_getElem?]
  exact h
theorem at_snoc {M : List Pt} {s x : Pt} {i : Nat} (h : (M ++ [s])[i]? = some x) : (i < M.length ∧ M[i]? = some x) ∨ (i = M.length ∧ x = s) := by
  have hl := (List.getElem?_eq_some_iff.mp h).1
  rw [List.length_append, List.length_singleton] at hl
  by_cases q : i < M.length
  · rw [List.getElem?_append_left q] at h
    exact .inl ⟨q, h⟩
  · have e : i = M.length := by omega
    subst e
    rw [List.getElem?_append_right (Nat.le_refl _), Nat.sub_self] at h
    cases h
    exact .inr ⟨rfl, rfl⟩
theorem Po.start {P L : List Pt} {s : Pt} (h : Ch P L) (hl : L.getLast? = P.getLast?) (hp : P.Pairwise lt) (ab : ∀ p ∈ P, lt p s) : Po P s L := by
  refine ⟨h, ab, fun t ht p hm hlt => ?_⟩
  exfalso
  rw [hl] at ht
  have h1 := last_at ht
  obtain ⟨i, hi, rfl⟩ := List.getElem_of_mem hm
  have h2 : P[i]? = some P[i] := List.getElem?_eq_getElem hi
  by_cases q : i = P.length - 1
  · subst q
    rw [h1] at h2
    cases h2
    exact lt_irr hlt
  · exact lt_irr (lt_trans hlt (pw_at hp (by omega) h2 h1))
theorem Ch.front {P M : List Pt} {b : Pt} (h : Ch P (M ++ [b])) (ne : M ≠ []) : Ch P M := by
  have at_ : ∀ {i : Nat} {x : Pt}, M[i]? = some x → (M ++ [b])[i]? = some x := fun {i x} e => by
    rw [List.getElem?_append_left (List.getElem?_eq_some_iff.mp e).1]
    exact e
  refine ⟨ne, ?_, fun x hx => h.sub x (List.mem_append_left _ hx), (List.pairwise_append.mp h.srt).1, fun i x y z e1 e2 e3 => h.cv i x y z (at_ e1) (at_ e2) (at_ e3), fun i x y e1 e2 => h.lf i x y (at_ e1) (at_ e2)⟩
  rw [← h.fst]
  cases M with
  | nil => exact absurd rfl ne
  | cons x r => rfl
theorem Po.pop {P M : List Pt} {s a b : Pt} (h : Po P s (M ++ [a] ++ [b])) (hc : ¬ 0 < cr a b s) : Po P s (M ++ [a]) := by
  have ha : (M ++ [a] ++ [b])[M.length]? = some a := by
    rw [List.getElem?_append_left (by simp), List.getElem?_append_right (Nat.le_refl _), Nat.sub_self]
    rfl
  have hb : (M ++ [a] ++ [b])[M.length + 1]? = some b := by
    rw [List.getElem?_append_right (by simp)]
    simp
  refine ⟨h.c.front (by simp), h.ab, fun t ht p hm hlt => ?_⟩
  have et : t = a := by
    rw [List.getLast?_concat] at ht
    exact (Option.some.inj ht).symm
  subst et
  exact pop_left (pw_at h.c.srt (Nat.lt_succ_self _) ha hb) (h.ab _ (h.c.sub _ (List.mem_of_getElem? ha))) hlt hc (h.c.lf _ _ _ ha hb p hm)
theorem Po.push {P M : List Pt} {s : Pt} (h : Po P s M) (hp : P.Pairwise lt) (hc : ∀ a b, M[M.length - 2]? = some a → M[M.length - 1]? = some b → 2 ≤ M.length → 0 < cr a b s) : Ch (P ++ [s]) (M ++ [s]) ∧ (M ++ [s]).getLast? = (P ++ [s]).getLast? := by
  have mne := h.c.ne
  have ml : 0 < M.length := List.length_pos_iff.mpr mne
  have hs : ∀ x ∈ M, lt x s := fun x hx => h.ab x (h.c.sub x hx)
  -- s stands left of every edge
  have left : ∀ (k i : Nat) (a b : Pt), i + 2 + k = M.length → M[i]? = some a → M[i + 1]? = some b → 0 < cr a b s := by
    intro k
    induction k with
    | zero =>
      intro i a b hi ea eb
      refine hc a b ?_ ?_ (by omega)
      · rw [show M.length - 2 = i by omega]
        exact ea
      · rw [show M.length - 1 = i + 1 by omega]
        exact eb
    | succ k ih =>
      intro i a b hi ea eb
      obtain ⟨c, ec⟩ : ∃ c, M[i + 2]? = some c := ⟨_, List.getElem?_eq_getElem (by omega)⟩
      have z := ih (i + 1) b c (by omega) eb ec
      exact far_left (pw_at h.c.srt (by omega) ea eb) (pw_at h.c.srt (by omega) eb ec) (hs c (List.mem_of_getElem? ec)) (h.c.cv i a b c ea eb ec) (Int.le_of_lt z)
  refine ⟨⟨by simp, ?_, fun x hx => ?_, ?_, fun i a b c ea eb ec => ?_, fun i a b ea eb p hpm => ?_⟩, by rw [List.getLast?_concat, List.getLast?_concat]⟩
  · have pn : P ≠ [] := fun e => by
      have z := h.c.fst
      rw [e] at z
      cases M with
      | nil => exact mne rfl
      | cons x r => cases z
    have z := h.c.fst
    cases M with
    | nil => exact absurd rfl mne
    | cons x r =>
      cases P with
      | nil => exact absurd rfl pn
      | cons y q => exact z
  · rcases List.mem_append.mp hx with e | e
    · exact List.mem_append_left _ (h.c.sub x e)
    · exact List.mem_append_right _ e
  · refine List.pairwise_append.mpr ⟨h.c.srt, List.pairwise_singleton _ _, fun x hx y hy => ?_⟩
    rw [List.mem_singleton.mp hy]
    exact hs x hx
  · rcases at_snoc ec with ⟨q, ec⟩ | ⟨q, rfl⟩
    · rw [List.getElem?_append_left (by omega)] at ea eb
      exact h.c.cv i a b c ea eb ec
    · rw [List.getElem?_append_left (by omega)] at ea eb
      exact left 0 i a b (by omega) ea eb
  · rcases at_snoc eb with ⟨q, eb⟩ | ⟨q, rfl⟩
    · rw [List.getElem?_append_left (by omega)] at ea
      rcases List.mem_append.mp hpm with e | e
      · exact h.c.lf i a b ea eb p e
      · rw [List.mem_singleton.mp e]
        exact Int.le_of_lt (left (M.length - i - 2) i a b (by omega) ea eb)
    · rw [List.getElem?_append_left (by omega)] at ea
      rcases List.mem_append.mp hpm with e | e
      · -- the new edge
        have el : M.getLast? = some a := by
          rw [List.getLast?_eq_getElem?, show M.length - 1 = i by omega]
          exact ea
        by_cases q1 : lt a p
        · exact h.up a el p e q1
        · by_cases q2 : a = p
          · rw [← q2, cr_self0]
            exact Int.le_refl _
          · have q3 : lt p a := by
              have : p ≠ a := fun z => q2 z.symm
              unfold lt at *
              have : ¬ (p.1 = a.1 ∧ p.2 = a.2) := fun z => this (Prod.ext z.1 z.2)
              omega
            by_cases q4 : 2 ≤ M.length
            · obtain ⟨z, ez⟩ : ∃ z, M[M.length - 2]? = some z := ⟨_, List.getElem?_eq_getElem (by omega)⟩
              have ea' : M[M.length - 2 + 1]? = some a := by
                rw [show M.length - 2 + 1 = i by omega]
                exact ea
              exact push_back (pw_at h.c.srt (by omega) ez ea') (hs a (List.mem_of_getElem? ea)) q3 (hc z a ez (by rw [show M.length - 1 = i by omega]; exact ea) q4) (h.c.lf _ z a ez ea' p e)
            · exfalso
              -- a is the first point
              have i0 : i = 0 := by omega
              subst i0
              have z := h.c.fst
              rw [List.head?_eq_getElem?, ea, List.head?_eq_getElem?] at z
              obtain ⟨j, hj, rfl⟩ := List.getElem_of_mem e
              have h2 : P[j]? = some P[j] := List.getElem?_eq_getElem hj
              by_cases j0 : j = 0
              · subst j0
                rw [← z] at h2
                cases h2
                exact lt_irr q3
              · exact lt_irr (lt_trans q3 (pw_at hp (by omega) z.symm h2))
      · rw [List.mem_singleton.mp e, cr_self]
        exact Int.le_refl _
theorem Ch.one (p : Pt) : Ch [p] [p] := ⟨by simp, rfl, fun _ h => h, List.pairwise_singleton _ _, fun i a b c _ h _ => by simp at h, fun i a b _ h => by simp at h⟩
end Hu

set_option Elab.async false
set_option maxHeartbeats 2000000
/-! The corners of points: a chain there and a chain back (core Lean only). -/
namespace Hu
def neg (p : Pt) : Pt := (-p.1, -p.2)
theorem neg_neg (p : Pt) : neg (neg p) = p := by
  unfold neg
  simp
theorem lt_neg {p q : Pt} : lt (neg p) (neg q) ↔ lt q p := by
  unfold lt neg
  dsimp only
  omega
theorem cr_neg (a b c : Pt) : cr (neg a) (neg b) (neg c) = cr a b c := by
  unfold cr neg
  dsimp only
  grind
theorem par {a b c d e f : Int} (h : pos a b) (h1 : xp a b c d = 0) (h2 : xp a b e f = 0) : xp c d e f = 0 := by
  have i1 := xp_id a b c d e f
  have i2 := xp_id2 a b c d e f
  rw [h1, h2, Int.zero_mul, Int.zero_mul, Int.add_zero] at i1 i2
  rcases Int.mul_eq_zero.mp i1 with z | z
  · exact z
  · rcases Int.mul_eq_zero.mp i2 with y | y
    · exact y
    · unfold pos at h
      omega
/-- a half of the corners, in either order -/
structure Half (R : Pt → Pt → Prop) (P L : List Pt) : Prop where
  sub : ∀ x ∈ L, x ∈ P
  srt : L.Pairwise R
  cv : ∀ (i : Nat) (a b c : Pt), L[i]? = some a → L[i + 1]? = some b → L[i + 2]? = some c → 0 < cr a b c
  lf : ∀ (i : Nat) (a b : Pt), L[i]? = some a → L[i + 1]? = some b → ∀ p ∈ P, 0 ≤ cr a b p
def gt' (p q : Pt) : Prop := lt q p
theorem Half.of {P L : List Pt} (h : Ch P L) : Half lt P L := ⟨h.sub, h.srt, h.cv, h.lf⟩
theorem Half.neg {P U : List Pt} (h : Ch (P.reverse.map neg) (U.map neg)) : Half gt' P U := by
  have at_ : ∀ {i : Nat} {x : Pt}, U[i]? = some x → (U.map Hu.neg)[i]? = some (Hu.neg x) := fun {i x} e => by
    rw [List.getElem?_map, e]
    rfl
  have mem : ∀ {p : Pt}, p ∈ P → Hu.neg p ∈ P.reverse.map Hu.neg := fun hp => List.mem_map.mpr ⟨_, List.mem_reverse.mpr hp, rfl⟩
  refine ⟨fun x hx => ?_, ?_, fun i a b c ea eb ec => ?_, fun i a b ea eb p hp => ?_⟩
  · have z := h.sub (Hu.neg x) (List.mem_map.mpr ⟨x, hx, rfl⟩)
    obtain ⟨y, hy, e⟩ := List.mem_map.mp z
    have e2 := congrArg Hu.neg e
    rw [neg_neg, neg_neg] at e2
    rw [← e2]
    exact List.mem_reverse.mp hy
  · have z := List.pairwise_map.mp h.srt
    exact z.imp fun q => lt_neg.mp q
  · have z := h.cv i _ _ _ (at_ ea) (at_ eb) (at_ ec)
    rw [cr_neg] at z
    exact z
  · have z := h.lf i _ _ (at_ ea) (at_ eb) _ (mem hp)
    rw [cr_neg] at z
    exact z
/-- where two ways meet at the end, and do not go on to the left, all points lie on one line -/
theorem joint {P : List Pt} {x z y : Pt} (hx : lt x z) (hy : lt y z) (top : ∀ p ∈ P, p ≠ z → lt p z) (e1 : ∀ p ∈ P, 0 ≤ cr x z p) (e2 : ∀ p ∈ P, 0 ≤ cr z y p) (hc : cr x z y = 0) : ∀ p ∈ P, cr x z p = 0 := fun p hp => by
  by_cases q : p = z
  · rw [q]
    exact cr_self x z
  · have pr := lt_pos (top p hp q)
    have pu := lt_pos hx
    have pg := lt_pos hy
    have a1 : xp (z.1 - x.1) (z.2 - x.2) (z.1 - y.1) (z.2 - y.2) = -(cr x z y) := by unfold xp cr; grind
    have a2 : xp (z.1 - y.1) (z.2 - y.2) (z.1 - p.1) (z.2 - p.2) = cr z y p := by unfold xp cr; grind
    have a3 : xp (z.1 - x.1) (z.2 - x.2) (z.1 - p.1) (z.2 - p.2) = -(cr x z p) := by unfold xp cr; grind
    have z1 := cone pu pg pr (by rw [a1, hc]; exact Int.le_refl _) (by rw [a2]; exact e2 p hp)
    rw [a3] at z1
    have z2 := e1 p hp
    omega
/-- three points of a line -/
theorem line3 {x z a b c : Pt} (h : lt x z) (ha : cr x z a = 0) (hb : cr x z b = 0) (hc : cr x z c = 0) : cr a b c = 0 := by
  have p := lt_pos h
  have e1 : xp (z.1 - x.1) (z.2 - x.2) (b.1 - a.1) (b.2 - a.2) = cr x z b - cr x z a := by unfold xp cr; grind
  have e2 : xp (z.1 - x.1) (z.2 - x.2) (c.1 - a.1) (c.2 - a.2) = cr x z c - cr x z a := by unfold xp cr; grind
  rw [cr_xp]
  exact par p (by rw [e1]; omega) (by rw [e2]; omega)
/-- a chain over points of one line has no corner within -/
theorem Half.flat {R : Pt → Pt → Prop} {P L : List Pt} (h : Half R P L) {x z : Pt} (hx : lt x z) (f : ∀ p ∈ P, cr x z p = 0) : L.length ≤ 2 := by
  by_cases q : L.length ≤ 2
  · exact q
  · exfalso
    have e0 : L[0]? = some L[0] := List.getElem?_eq_getElem (by omega)
    have e1 : L[1]? = some L[1] := List.getElem?_eq_getElem (by omega)
    have e2 : L[2]? = some L[2] := List.getElem?_eq_getElem (by omega)
    have z1 := h.cv 0 _ _ _ e0 e1 e2
    have z2 := line3 hx (f _ (h.sub _ (List.mem_of_getElem? e0))) (f _ (h.sub _ (List.mem_of_getElem? e1))) (f _ (h.sub _ (List.mem_of_getElem? e2)))
    omega
structure HullOk (P C : List Pt) : Prop where
  two : 2 ≤ C.length
  sub : ∀ x ∈ C, x ∈ P
  least : ∀ (k : Nat) (c x : Pt), 0 < k → C[0]? = some c → C[k]? = some x → lt c x
  edge : ∀ (k : Nat) (x y : Pt), k < C.length → C[k]? = some x → C[(k + 1) % C.length]? = some y → ∀ p ∈ P, 0 ≤ cr x y p
  turn : 3 ≤ C.length → ∀ (k : Nat) (x y z : Pt), k < C.length → C[k]? = some x → C[(k + 1) % C.length]? = some y → C[(k + 2) % C.length]? = some z → 0 < cr x y z
  seg : ∀ c d : Pt, C = [c, d] → ∀ p ∈ P, cr c d p = 0 ∧ ¬ lt p c ∧ ¬ lt d p
/-- A there (with z behind), z B back (with a behind) -/
theorem hull {P A B : List Pt} {a z : Pt} (hP : ∀ p ∈ P, (p ≠ a → lt a p) ∧ (p ≠ z → lt p z)) (haz : lt a z) (hA : (A ++ [z])[0]? = some a) (hB : (B ++ [a])[0]? = some z) (hL : Half lt P (A ++ [z])) (hU : Half gt' P (B ++ [a])) : HullOk P (A ++ B) := by
  have nza : z ≠ a := fun e => lt_irr (e ▸ haz)
  have An : 0 < A.length := by
    cases A with
    | nil =>
      exact absurd (Option.some.inj hA) nza
    | cons x r => exact Nat.succ_pos _
  have Bn : 0 < B.length := by
    cases B with
    | nil =>
      exact absurd (Option.some.inj hB).symm nza
    | cons x r => exact Nat.succ_pos _
  have A0 : A[0]? = some a := by
    rw [← hA, List.getElem?_append_left An]
  have B0 : B[0]? = some z := by
    rw [← hB, List.getElem?_append_left Bn]
  have ha : a ∈ P := hL.sub a (List.mem_of_getElem? hA)
  have hz : z ∈ P := hL.sub z (by simp)
  -- the corners, one behind another, the first again at the end
  have FL : ∀ {k : Nat} {x : Pt}, k ≤ A.length → (A ++ B)[k]? = some x → (A ++ [z])[k]? = some x := fun {k x} hk e => by
    by_cases q : k < A.length
    · rw [List.getElem?_append_left q] at e ⊢
      exact e
    · have e2 : k = A.length := by omega
      subst e2
      rw [List.getElem?_append_right (Nat.le_refl _), Nat.sub_self, B0] at e
      rw [List.getElem?_append_right (Nat.le_refl _), Nat.sub_self]
      exact e
  have FU : ∀ {k : Nat} {x : Pt}, A.length ≤ k → (A ++ B)[k]? = some x → (B ++ [a])[k - A.length]? = some x := fun {k x} hk e => by
    rw [List.getElem?_append_right hk] at e
    rw [List.getElem?_append_left (List.getElem?_eq_some_iff.mp e).1]
    exact e
  have UL : (B ++ [a])[B.length]? = some a := by
    rw [List.getElem?_append_right (Nat.le_refl _), Nat.sub_self]
    rfl
  have LL : (A ++ [z])[A.length]? = some z := by
    rw [List.getElem?_append_right (Nat.le_refl _), Nat.sub_self]
    rfl
  have len : (A ++ B).length = A.length + B.length := List.length_append
  have nextL : ∀ {k : Nat} {y : Pt}, k + 1 < A.length + B.length → (A ++ B)[(k + 1) % (A ++ B).length]? = some y → (A ++ B)[k + 1]? = some y := fun {k y} hk e => by
    rw [len, Nat.mod_eq_of_lt hk] at e
    exact e
  have edge : ∀ (k : Nat) (x y : Pt), k < (A ++ B).length → (A ++ B)[k]? = some x → (A ++ B)[(k + 1) % (A ++ B).length]? = some y → ∀ p ∈ P, 0 ≤ cr x y p := fun k x y hk ex ey => by
    by_cases q : k + 1 < A.length + B.length
    · have ey' := nextL q ey
      by_cases q2 : k < A.length
      · exact hL.lf k x y (FL (by omega) ex) (FL (by omega) ey')
      · have z1 := FU (by omega) ex
        have z2 := FU (by omega) ey'
        rw [show k + 1 - A.length = k - A.length + 1 by omega] at z2
        exact hU.lf _ x y z1 z2
    · have e1 : k + 1 = (A ++ B).length := by omega
      rw [e1, Nat.mod_self, List.getElem?_append_left An, A0] at ey
      cases ey
      have z1 := FU (by omega) ex
      refine hU.lf (k - A.length) x a z1 ?_
      rw [show k - A.length + 1 = B.length by omega]
      exact UL
  -- the two joints
  have flatAll : ∀ {x w : Pt}, lt x w → (∀ p ∈ P, cr x w p = 0) → A.length + B.length ≤ 2 := fun {x w} hx f => by
    have z1 := hL.flat hx f
    have z2 := hU.flat hx f
    rw [List.length_append, List.length_singleton] at z1 z2
    omega
  have j1 : 3 ≤ A.length + B.length → ∀ x y, (A ++ [z])[A.length - 1]? = some x → (B ++ [a])[1]? = some y → 0 < cr x z y := fun h3 x y ex ey => by
    have hx : lt x z := pw_at hL.srt (by omega) ex LL
    have hy : lt y z := (List.pairwise_iff_getElem.mp hU.srt 0 1 (by rw [List.length_append]; omega) (List.getElem?_eq_some_iff.mp ey).1 (by omega)) |> fun q => by
      obtain ⟨h1, e1⟩ := List.getElem?_eq_some_iff.mp ey
      obtain ⟨h0, e0⟩ := List.getElem?_eq_some_iff.mp hB
      rw [e1, e0] at q
      exact q
    have E1 := hL.lf (A.length - 1) x z ex (by rw [show A.length - 1 + 1 = A.length by omega]; exact LL)
    have E2 := hU.lf 0 z y hB ey
    have z1 := E1 y (hU.sub y (List.mem_of_getElem? ey))
    by_cases q : cr x z y = 0
    · exfalso
      have f := joint hx hy (fun p hp => (hP p hp).2) E1 E2 q
      have := flatAll hx f
      omega
    · omega
  have j2 : 3 ≤ A.length + B.length → ∀ x y, (B ++ [a])[B.length - 1]? = some x → (A ++ [z])[1]? = some y → 0 < cr x a y := fun h3 x y ex ey => by
    have hx : lt a x := by
      obtain ⟨h1, e1⟩ := List.getElem?_eq_some_iff.mp ex
      obtain ⟨h0, e0⟩ := List.getElem?_eq_some_iff.mp UL
      have q := List.pairwise_iff_getElem.mp hU.srt (B.length - 1) B.length h1 h0 (by omega)
      rw [e1, e0] at q
      exact q
    have hy : lt a y := pw_at hL.srt (by omega) hA ey
    have E1 := hU.lf (B.length - 1) x a ex (by rw [show B.length - 1 + 1 = B.length by omega]; exact UL)
    have E2 := hL.lf 0 a y hA ey
    have z1 := E1 y (hL.sub y (List.mem_of_getElem? ey))
    by_cases q : cr x a y = 0
    · exfalso
      have f := joint (P := P.map neg) (x := neg x) (z := neg a) (y := neg y) (lt_neg.mpr hx) (lt_neg.mpr hy) (fun p hp np => by
          obtain ⟨p', hp', rfl⟩ := List.mem_map.mp hp
          exact lt_neg.mpr ((hP p' hp').1 fun e => np (by rw [e]))) (fun p hp => by
          obtain ⟨p', hp', rfl⟩ := List.mem_map.mp hp
          rw [cr_neg]
          exact E1 p' hp') (fun p hp => by
          obtain ⟨p', hp', rfl⟩ := List.mem_map.mp hp
          rw [cr_neg]
          exact E2 p' hp') (by rw [cr_neg]; exact q)
      have f' : ∀ p ∈ P, cr a x p = 0 := fun p hp => by
        have w := f (neg p) (List.mem_map.mpr ⟨p, hp, rfl⟩)
        rw [cr_neg] at w
        have e : cr a x p = -(cr x a p) := by unfold cr; grind
        omega
      have := flatAll hx f'
      omega
    · omega
  refine ⟨by omega, fun x hx => ?_, fun k c x hk e0 ex => ?_, edge, fun h3 k x y w hk ex ey ew => ?_, fun c d e p hp => ?_⟩
  · rcases List.mem_append.mp hx with e | e
    · exact hL.sub x (List.mem_append_left _ e)
    · exact hU.sub x (List.mem_append_left _ e)
  · rw [List.getElem?_append_left An, A0] at e0
    cases e0
    by_cases q : k ≤ A.length
    · exact pw_at hL.srt hk hA (FL q ex)
    · have z1 := FU (by omega) ex
      obtain ⟨h1, e1⟩ := List.getElem?_eq_some_iff.mp z1
      obtain ⟨h0, e0⟩ := List.getElem?_eq_some_iff.mp UL
      have hkl : k - A.length < B.length := by
        have := (List.getElem?_eq_some_iff.mp ex).1
        omega
      have q := List.pairwise_iff_getElem.mp hU.srt (k - A.length) B.length h1 h0 hkl
      rw [e1, e0] at q
      exact q
  · rw [len] at h3 hk ey ew
    by_cases q : k + 2 < A.length + B.length
    · rw [Nat.mod_eq_of_lt (by omega)] at ey ew
      by_cases q2 : k + 2 ≤ A.length
      · exact hL.cv k x y w (FL (by omega) ex) (FL (by omega) ey) (FL q2 ew)
      · by_cases q3 : A.length ≤ k
        · have z1 := FU q3 ex
          have z2 := FU (by omega) ey
          have z3 := FU (by omega) ew
          rw [show k + 1 - A.length = k - A.length + 1 by omega] at z2
          rw [show k + 2 - A.length = k - A.length + 2 by omega] at z3
          exact hU.cv _ x y w z1 z2 z3
        · have ek : k + 1 = A.length := by omega
          have ey' : y = z := by
            have z2 := FL (by omega) ey
            rw [ek, LL] at z2
            exact (Option.some.inj z2).symm
          subst ey'
          have z1 := FL (by omega) ex
          have z3 := FU (by omega) ew
          rw [show k + 2 - A.length = 1 by omega] at z3
          rw [show k = A.length - 1 by omega] at z1
          exact j1 h3 x w z1 z3
    · by_cases q2 : k + 2 = A.length + B.length
      · rw [Nat.mod_eq_of_lt (by omega)] at ey
        rw [q2, Nat.mod_self, List.getElem?_append_left An, A0] at ew
        cases ew
        by_cases q3 : A.length ≤ k
        · have z1 := FU q3 ex
          have z2 := FU (by omega) ey
          rw [show k + 1 - A.length = k - A.length + 1 by omega] at z2
          refine hU.cv _ x y a z1 z2 ?_
          rw [show k - A.length + 2 = B.length by omega]
          exact UL
        · -- B has one corner
          have ek : k + 1 = A.length := by omega
          have ey' : y = z := by
            have z2 := FL (by omega) ey
            rw [ek, LL] at z2
            exact (Option.some.inj z2).symm
          subst ey'
          have z1 := FL (by omega) ex
          rw [show k = A.length - 1 by omega] at z1
          refine j1 h3 x a z1 ?_
          rw [show 1 = B.length by omega]
          exact UL
      · have ek : k + 1 = A.length + B.length := by omega
        rw [ek, Nat.mod_self, List.getElem?_append_left An, A0] at ey
        cases ey
        rw [show k + 2 = A.length + B.length + 1 by omega, Nat.add_mod_left, Nat.mod_eq_of_lt (by omega)] at ew
        have z1 := FU (by omega) ex
        rw [show k - A.length = B.length - 1 by omega] at z1
        exact j2 h3 x w z1 (FL (by omega) ew)
  · have l2 : A.length + B.length = 2 := by
      rw [← len, e]
      rfl
    have ec : c = a := by
      have z1 : (A ++ B)[0]? = some c := by
        rw [e]
        rfl
      rw [List.getElem?_append_left An, A0] at z1
      exact (Option.some.inj z1).symm
    have ed : d = z := by
      have z1 : (A ++ B)[1]? = some d := by
        rw [e]
        rfl
      rw [List.getElem?_append_right (by omega), show 1 - A.length = 0 by omega, B0] at z1
      exact (Option.some.inj z1).symm
    subst ec
    subst ed
    have E1 := edge 0 c d (by omega) (by rw [e]; rfl) (by rw [e]; rfl) p hp
    have E2 := edge 1 d c (by omega) (by rw [e]; rfl) (by rw [e]; simp) p hp
    have e3 : cr d c p = -(cr c d p) := by unfold cr; grind
    obtain ⟨h1, h2⟩ := hP p hp
    refine ⟨by omega, fun q => ?_, fun q => ?_⟩
    · exact lt_irr (lt_trans q (h1 fun e => lt_irr (e ▸ q)))
    · exact lt_irr (lt_trans q (h2 fun e => lt_irr (e ▸ q)))
end Hu

set_option Elab.async false
set_option maxHeartbeats 2000000
/-! Corners over fractions: what lies within, and what beyond (core Lean only). -/
namespace Hu
abbrev Qt := Rat × Rat
def crq (a b c : Qt) : Rat := (b.1 - a.1) * (c.2 - a.2) - (b.2 - a.2) * (c.1 - a.1)
def dot (c p : Qt) : Rat := c.1 * p.1 + c.2 * p.2
def ltq (p q : Qt) : Prop := p.1 < q.1 ∨ (p.1 = q.1 ∧ p.2 < q.2)
theorem mulq_nn {a b : Rat} (h : 0 ≤ a) (g : 0 ≤ b) : 0 ≤ a * b := Rat.mul_nonneg h g
theorem mulq_pp {a b : Rat} (h : 0 < a) (g : 0 < b) : 0 < a * b := Rat.mul_pos h g
theorem le_of_mul {a b : Rat} (h : 0 < a) (g : a * b ≤ 0) : b ≤ 0 := by
  by_cases q : b ≤ 0
  · exact q
  · have := mulq_pp h (by grind : 0 < b)
    grind
/-- a point left of both edges of a corner goes no further than the corner where the corner goes furthest -/
theorem beyond_corner {u v w p c : Qt} (t : 0 < crq u v w) (e1 : 0 ≤ crq u v p) (e2 : 0 ≤ crq v w p) (m1 : dot c u ≤ dot c v) (m2 : dot c w ≤ dot c v) : dot c p ≤ dot c v := by
  have key : crq u v w * (dot c p - dot c v) = -(crq v w p * (dot c v - dot c u)) - crq u v p * (dot c v - dot c w) := by
    unfold crq dot
    grind
  have z1 := mulq_nn e2 (by grind : 0 ≤ dot c v - dot c u)
  have z2 := mulq_nn e1 (by grind : 0 ≤ dot c v - dot c w)
  have z3 := le_of_mul t (b := dot c p - dot c v) (by rw [key]; grind)
  grind
theorem sq_pos {a : Rat} (h : a ≠ 0) : 0 < a * a := by
  by_cases q : 0 < a
  · exact mulq_pp q q
  · have := mulq_pp (by grind : 0 < -a) (by grind : 0 < -a)
    grind
theorem sq_nn (a : Rat) : 0 ≤ a * a := by
  by_cases q : a = 0
  · rw [q]
    grind
  · have := sq_pos q
    grind
/-- the same of two corners -/
theorem beyond_seg {c d p n : Qt} (h : c ≠ d) (z : crq c d p = 0) (l : 0 ≤ (d.1 - c.1) * (p.1 - c.1) + (d.2 - c.2) * (p.2 - c.2)) (r : (d.1 - c.1) * (p.1 - d.1) + (d.2 - c.2) * (p.2 - d.2) ≤ 0) : dot n p ≤ dot n c ∨ dot n p ≤ dot n d := by
  have N : 0 < (d.1 - c.1) * (d.1 - c.1) + (d.2 - c.2) * (d.2 - c.2) := by
    have a := sq_nn (d.1 - c.1)
    have b := sq_nn (d.2 - c.2)
    by_cases q : d.1 - c.1 = 0
    · by_cases q2 : d.2 - c.2 = 0
      · exact absurd (Prod.ext (by grind) (by grind)) h
      · have := sq_pos q2
        grind
    · have := sq_pos q
      grind
  by_cases q : dot n d - dot n c ≤ 0
  · left
    have key : ((d.1 - c.1) * (d.1 - c.1) + (d.2 - c.2) * (d.2 - c.2)) * (dot n p - dot n c) = ((d.1 - c.1) * (p.1 - c.1) + (d.2 - c.2) * (p.2 - c.2)) * (dot n d - dot n c) + crq c d p * (n.2 * (d.1 - c.1) - n.1 * (d.2 - c.2)) := by
      unfold crq dot
      grind
    have z1 := mulq_nn l (by grind : 0 ≤ -(dot n d - dot n c))
    have := le_of_mul N (b := dot n p - dot n c) (by rw [key, z]; grind)
    grind
  · right
    have key : ((d.1 - c.1) * (d.1 - c.1) + (d.2 - c.2) * (d.2 - c.2)) * (dot n p - dot n d) = ((d.1 - c.1) * (p.1 - d.1) + (d.2 - c.2) * (p.2 - d.2)) * (dot n d - dot n c) + crq c d p * (n.2 * (d.1 - c.1) - n.1 * (d.2 - c.2)) := by
      unfold crq dot
      grind
    have z1 := mulq_nn (by grind : 0 ≤ -((d.1 - c.1) * (p.1 - d.1) + (d.2 - c.2) * (p.2 - d.2))) (by grind : 0 ≤ dot n d - dot n c)
    have := le_of_mul N (b := dot n p - dot n d) (by rw [key, z]; grind)
    grind
/-- where a function is greatest -/
theorem max_at (f : Qt → Rat) : ∀ {C : List Qt}, C ≠ [] → ∃ (k : Nat) (v : Qt), C[k]? = some v ∧ ∀ x ∈ C, f x ≤ f v
  | [], h => absurd rfl h
  | [v], _ => ⟨0, v, rfl, fun x hx => by
    rw [List.mem_singleton.mp hx]
    exact Rat.le_refl⟩
  | v :: w :: r, _ => by
    obtain ⟨k, y, h1, h2⟩ := max_at f (List.cons_ne_nil w r)
    by_cases q : f v ≤ f y
    · refine ⟨k + 1, y, h1, fun x hx => ?_⟩
      rcases List.mem_cons.mp hx with rfl | hx
      · exact q
      · exact h2 x hx
    · refine ⟨0, v, rfl, fun x hx => ?_⟩
      rcases List.mem_cons.mp hx with rfl | hx
      · exact Rat.le_refl
      · have := h2 x hx
        grind
structure HullQ (P C : List Qt) : Prop where
  sub : ∀ x ∈ C, x ∈ P
  edge : ∀ (k : Nat) (x y : Qt), k < C.length → C[k]? = some x → C[(k + 1) % C.length]? = some y → ∀ p ∈ P, 0 ≤ crq x y p
  turn : 3 ≤ C.length → ∀ (k : Nat) (x y z : Qt), k < C.length → C[k]? = some x → C[(k + 1) % C.length]? = some y → C[(k + 2) % C.length]? = some z → 0 < crq x y z
/-- a point left of all edges goes in no direction beyond all corners -/
theorem HullQ.out {P C : List Qt} (h : HullQ P C) (h3 : 3 ≤ C.length) {p : Qt} (hp : ∀ (k : Nat) (x y : Qt), k < C.length → C[k]? = some x → C[(k + 1) % C.length]? = some y → 0 ≤ crq x y p) (c : Qt) : ∃ v ∈ C, dot c p ≤ dot c v := by
  obtain ⟨k, v, hv, hm⟩ := max_at (dot c) (C := C) (fun e => by rw [e] at h3; simp at h3)
  have hk := (List.getElem?_eq_some_iff.mp hv).1
  have m0 : 0 < C.length := by omega
  have main : ∀ j, j < C.length → (j + 1) % C.length = k → dot c p ≤ dot c v := fun j hj e => by
    obtain ⟨u, hu⟩ : ∃ u, C[j]? = some u := ⟨_, List.getElem?_eq_getElem hj⟩
    obtain ⟨w, hw⟩ : ∃ w, C[(k + 1) % C.length]? = some w := ⟨_, List.getElem?_eq_getElem (Nat.mod_lt _ m0)⟩
    have e2 : (j + 2) % C.length = (k + 1) % C.length := by
      rw [← e, Nat.mod_add_mod]
    have ev : C[(j + 1) % C.length]? = some v := by rw [e]; exact hv
    exact beyond_corner (h.turn h3 j u v w hj hu ev (by rw [e2]; exact hw)) (hp j u v hj hu ev) (hp k v w hk hv hw) (hm u (List.mem_of_getElem? hu)) (hm w (List.mem_of_getElem? hw))
  refine ⟨v, List.mem_of_getElem? hv, ?_⟩
  by_cases q : k = 0
  · exact main (C.length - 1) (by omega) (by rw [q, show C.length - 1 + 1 = C.length by omega, Nat.mod_self])
  · exact main (k - 1) (by omega) (by rw [show k - 1 + 1 = k by omega]; exact Nat.mod_eq_of_lt hk)
/-! ### mixtures -/
def mixS : List Rat → List Rat → Rat
  | s :: ss, x :: xs => s * x + mixS ss xs
  | _, _ => 0
theorem mix_le {M : Rat} : ∀ {ss xs : List Rat}, ss.length = xs.length → (∀ s ∈ ss, 0 ≤ s) → (∀ x ∈ xs, x ≤ M) → mixS ss xs ≤ M * ss.sum
  | [], [], _, _, _ => by
    show (0 : Rat) ≤ M * 0
    grind
  | [], _ :: _, h, _, _ => nomatch h
  | _ :: _, [], h, _, _ => nomatch h
  | s :: ss, x :: xs, h, hs, hx => by
    have ih := mix_le (Nat.succ.inj h) (fun y hy => hs y (List.mem_cons_of_mem _ hy)) (fun y hy => hx y (List.mem_cons_of_mem _ hy))
    have z := mulq_nn (hs s List.mem_cons_self) (by have := hx x List.mem_cons_self; grind : 0 ≤ M - x)
    rw [List.sum_cons]
    show s * x + mixS ss xs ≤ M * (s + ss.sum)
    grind
/-- a direction's worth of a mixture is the mixture of its worths -/
theorem dot_mix (n : Qt) : ∀ {ss : List Rat} {ps : List Qt}, ss.length = ps.length → dot n (mixS ss (ps.map (·.1)), mixS ss (ps.map (·.2))) = mixS ss (ps.map (dot n))
  | [], [], _ => by
    unfold dot mixS
    grind
  | [], _ :: _, h => nomatch h
  | _ :: _, [], h => nomatch h
  | s :: ss, p :: ps, h => by
    have ih := dot_mix n (ss := ss) (ps := ps) (Nat.succ.inj h)
    show n.1 * (s * p.1 + mixS ss (ps.map (·.1))) + n.2 * (s * p.2 + mixS ss (ps.map (·.2))) = s * dot n p + mixS ss (ps.map (dot n))
    rw [← ih]
    unfold dot
    grind
/-- a mixture goes no further than what all its points keep to -/
theorem mix_in {n : Qt} {ss : List Rat} {ps : List Qt} {M : Rat} (h : ss.length = ps.length) (hs : ∀ s ∈ ss, 0 ≤ s) (h1 : ss.sum = 1) (hp : ∀ p ∈ ps, dot n p ≤ M) : dot n (mixS ss (ps.map (·.1)), mixS ss (ps.map (·.2))) ≤ M := by
  rw [dot_mix n h]
  have z := mix_le (M := M) (ss := ss) (xs := ps.map (dot n)) (by rw [List.length_map]; exact h) hs fun x hx => by
    obtain ⟨p, hp2, rfl⟩ := List.mem_map.mp hx
    exact hp p hp2
  rw [h1] at z
  grind
/-- the normal of an edge tells on which side a point is -/
def nrm (x y : Qt) : Qt := (y.2 - x.2, -(y.1 - x.1))
theorem nrm_dot (x y p : Qt) : dot (nrm x y) p = dot (nrm x y) x - crq x y p := by
  unfold nrm dot crq
  grind
/-! ### from whole numbers -/
def toQ (S T : Int) (p : Pt) : Qt := ((p.1 : Rat) / (S : Rat), (p.2 : Rat) / (T : Rat))
theorem cast_pos {S : Int} (h : 0 < S) : (0 : Rat) < (S : Rat) := by exact_mod_cast h
theorem cr_cast {S T : Int} (hS : 0 < S) (hT : 0 < T) (a b c : Pt) : ((cr a b c : Int) : Rat) = (S : Rat) * (T : Rat) * crq (toQ S T a) (toQ S T b) (toQ S T c) := by
  have s := cast_pos hS
  have t := cast_pos hT
  have s0 : (S : Rat) ≠ 0 := by grind
  have t0 : (T : Rat) ≠ 0 := by grind
  unfold cr crq toQ
  dsimp only
  grind
theorem crq_nn {S T : Int} (hS : 0 < S) (hT : 0 < T) {a b c : Pt} (h : 0 ≤ cr a b c) : 0 ≤ crq (toQ S T a) (toQ S T b) (toQ S T c) := by
  have e := cr_cast hS hT a b c
  have p := mulq_pp (cast_pos hS) (cast_pos hT)
  have z : (0 : Rat) ≤ ((cr a b c : Int) : Rat) := by exact_mod_cast h
  rw [e] at z
  by_cases q : 0 ≤ crq (toQ S T a) (toQ S T b) (toQ S T c)
  · exact q
  · have := mulq_pp p (by grind : 0 < -crq (toQ S T a) (toQ S T b) (toQ S T c))
    grind
theorem crq_pp {S T : Int} (hS : 0 < S) (hT : 0 < T) {a b c : Pt} (h : 0 < cr a b c) : 0 < crq (toQ S T a) (toQ S T b) (toQ S T c) := by
  have e := cr_cast hS hT a b c
  have p := mulq_pp (cast_pos hS) (cast_pos hT)
  have z : (0 : Rat) < ((cr a b c : Int) : Rat) := by exact_mod_cast h
  rw [e] at z
  by_cases q : 0 < crq (toQ S T a) (toQ S T b) (toQ S T c)
  · exact q
  · have := mulq_nn (by grind : 0 ≤ (S : Rat) * (T : Rat)) (by grind : 0 ≤ -crq (toQ S T a) (toQ S T b) (toQ S T c))
    grind
theorem HullOk.toQ {P C : List Pt} (h : HullOk P C) {S T : Int} (hS : 0 < S) (hT : 0 < T) : HullQ (P.map (toQ S T)) (C.map (toQ S T)) := by
  have at_ : ∀ {k : Nat} {x : Qt}, (C.map (Hu.toQ S T))[k]? = some x → ∃ y, C[k]? = some y ∧ x = Hu.toQ S T y := fun {k x} e => by
    rw [List.getElem?_map] at e
    cases q : C[k]? with
    | none =>
      rw [q] at e
      cases e
    | some y =>
      rw [q] at e
      exact ⟨y, rfl, (Option.some.inj e).symm⟩
  have ln : (C.map (Hu.toQ S T)).length = C.length := List.length_map _
  refine ⟨fun x hx => ?_, fun k x y hk ex ey p hp => ?_, fun h3 k x y z hk ex ey ez => ?_⟩
  · obtain ⟨y, hy, rfl⟩ := List.mem_map.mp hx
    exact List.mem_map.mpr ⟨y, h.sub y hy, rfl⟩
  · rw [ln] at hk ey
    obtain ⟨x', ex', rfl⟩ := at_ ex
    obtain ⟨y', ey', rfl⟩ := at_ ey
    obtain ⟨p', hp', rfl⟩ := List.mem_map.mp hp
    exact crq_nn hS hT (h.edge k x' y' hk ex' ey' p' hp')
  · rw [ln] at h3 hk ey ez
    obtain ⟨x', ex', rfl⟩ := at_ ex
    obtain ⟨y', ey', rfl⟩ := at_ ey
    obtain ⟨z', ez', rfl⟩ := at_ ez
    exact crq_pp hS hT (h.turn h3 k x' y' z' hk ex' ey' ez')
end Hu

set_option Elab.async false
set_option maxRecDepth 100000
set_option maxHeartbeats 4000000
set_option exponentiation.threshold 20000
/-! Does a way turn left. -/
namespace Fk
open PySem L2
abbrev sTurns : Stmt := top 32
abbrev psTu : List Str := ["first", "second", "third"]
abbrev nsTu : List Str := ["first", "second", "third", "ahead", "after"]
def spTurns : Sp := fun vs H Q _ => ∃ (p q r : Addr) (x y z : Int × Int) (n : Nat), vs = [.ref p, .ref q, .ref r] ∧ RatAt H p x ∧ RatAt H q y ∧ RatAt H r z ∧ n ≤ 100000 ∧ Bd n x.1 ∧ Bd n x.2 ∧ Bd n y.1 ∧ Bd n y.2 ∧ Bd n z.1 ∧ Bd n z.2 ∧ ∀ H', Same H H' → Q (.bl (decide (0 < Hu.cr x y z))) H'
theorem bd_sub {n : Nat} {a b : Int} (ha : Bd n a) (hb : Bd n b) : Bd (n + 1) (a - b) := ha.subB hb
section
variable {P : Program} {w : World} {K : PySem.W.Frag} {mg : Str → Option Value} {base : Heap}
theorem scTurns : FnScope nsTu psTu (defScope sTurns) := ⟨rfl, rfl, rfl, by decide +kernel, rfl, by decide +kernel, by decide +kernel⟩
theorem ok_turns {f : Addr} {fd : FuncData} (F : Fun K "turns_left" "turns_left" sTurns f fd) : FnOk P w K mg base CX0 1 f fd psTu spTurns := by
  refine F.ok scTurns (fun vs H Q E h => ?_) (fun cdv A outer s H vs Q E hr h => ?_)
  · obtain ⟨p, q, r, x, y, z, n, rfl, _⟩ := h
    rfl
  · obtain ⟨p, q, r, x, y, z, n, rfl, hp, hq, hz, hn, x1, x2, y1, y2, z1, z2, k⟩ := h
    refine ⟨_, pss_cons (ps_set (i := 3) scTurns.nd rfl (Or.inl rfl) (pe_tup (pa_cons (pe_op op_sub (pe_ix ix_tup (pv 1) pe_int (fun _ _ => rfl)) (pe_ix ix_tup (pv 0) pe_int (fun _ _ => rfl))) (pa_cons (pe_op op_sub (pe_ix ix_tup (pv 1) pe_int (fun _ _ => rfl)) (pe_ix ix_tup (pv 0) pe_int (fun _ _ => rfl))) pa_nil))))
      (pss_cons (ps_set (i := 4) scTurns.nd rfl (Or.inl rfl) (pe_tup (pa_cons (pe_op op_sub (pe_ix ix_tup (pv 2) pe_int (fun _ _ => rfl)) (pe_ix ix_tup (pv 0) pe_int (fun _ _ => rfl))) (pa_cons (pe_op op_sub (pe_ix ix_tup (pv 2) pe_int (fun _ _ => rfl)) (pe_ix ix_tup (pv 0) pe_int (fun _ _ => rfl))) pa_nil))))
      (pss_one (ps_ret (pe_cmpR op_gt (pe_op op_mulW (pe_ix ix_tup (pv 3) pe_int (fun _ _ => rfl)) (pe_ix ix_tup (pv 4) pe_int (fun _ _ => rfl))) (pe_op op_mulW (pe_ix ix_tup (pv 3) pe_int (fun _ _ => rfl)) (pe_ix ix_tup (pv 4) pe_int (fun _ _ => rfl))) (nomark _))))), ?_⟩
    refine ⟨_, rfl, q, _, 0, _, rfl, rfl, .inl (.inl hq), rfl, _, rfl, p, _, 0, _, rfl, rfl, .inl (.inl hp), rfl, _, _, rfl, rfl, _, rfl, q, _, 1, _, rfl, rfl, .inl (.inl hq), rfl, _, rfl, p, _, 1, _, rfl, rfl, .inl (.inl hp), rfl, _, _, rfl, rfl, le2, fun a ha => ?_⟩
    have s1 := same_new (o := .tup [.int (y.1 - x.1), .int (y.2 - x.2)]) ha
    refine ⟨_, rfl, r, _, 0, _, rfl, rfl, .inl (.inl (s1 _ _ hz)), rfl, _, rfl, p, _, 0, _, rfl, rfl, .inl (.inl (s1 _ _ hp)), rfl, _, _, rfl, rfl, _, rfl, r, _, 1, _, rfl, rfl, .inl (.inl (s1 _ _ hz)), rfl, _, rfl, p, _, 1, _, rfl, rfl, .inl (.inl (s1 _ _ hp)), rfl, _, _, rfl, rfl, le2, fun b hb => ?_⟩
    have s2 := same_new (o := .tup [.int (z.1 - x.1), .int (z.2 - x.2)]) hb
    have ea := s2 _ _ (upd_same (H := H) (a := a) (o := .tup [.int (y.1 - x.1), .int (y.2 - x.2)]))
    have hn2 : n + 1 ≤ 200000 := by omega
    refine ⟨_, rfl, a, _, 0, _, rfl, rfl, .inl (.inl ea), rfl, _, rfl, b, _, 1, _, rfl, rfl, .inl (.inl upd_same), rfl, _, _, rfl, rfl, Bd.mul (bd_sub y1 x1) (bd_sub z2 x2) hn2 hn2, _, rfl, a, _, 1, _, rfl, rfl, .inl (.inl ea), rfl, _, rfl, b, _, 0, _, rfl, rfl, .inl (.inl upd_same), rfl, _, _, rfl, rfl, Bd.mul (bd_sub y2 x2) (bd_sub z1 x1) hn2 hn2, _, _, rfl, rfl, ?_⟩
    have e : decide (Hu.cr x y z > 0) = decide ((y.1 - x.1) * (z.2 - x.2) > (y.2 - x.2) * (z.1 - x.1)) := by
      refine decide_eq_decide.mpr ?_
      unfold Hu.cr
      constructor <;> intro h <;> omega
    have k' := k _ (s1.trans s2)
    have e2 : decide (0 < Hu.cr x y z) = decide (Hu.cr x y z > 0) := rfl
    rw [e2, e] at k'
    exact k'
end
end Fk

set_option Elab.async false
set_option maxRecDepth 100000
set_option maxHeartbeats 4000000
set_option exponentiation.threshold 20000
/-! The chain of points that lies below. -/
namespace Fk
open PySem L2
abbrev sChain : Stmt := top 31
abbrev nsCh : List Str := ["spots", "chain", "spot"]
/-- a list of points seen, and its chain; φ: the points themselves, or turned round -/
def ChSt (φ : Int × Int → Int × Int) (P L : List (Int × Int)) : Prop := (P = [] ∧ L = []) ∨ (Hu.Ch (P.map φ) (L.map φ) ∧ (L.map φ).getLast? = (P.map φ).getLast?)
def PoSt (φ : Int × Int → Int × Int) (P : List (Int × Int)) (s : Int × Int) (M : List (Int × Int)) : Prop := (P = [] ∧ M = []) ∨ Hu.Po (P.map φ) (φ s) (M.map φ)
theorem PoSt.start {φ : Int × Int → Int × Int} {P L : List (Int × Int)} {s : Int × Int} (h : ChSt φ P L) (hp : ((P ++ [s]).map φ).Pairwise Hu.lt) : PoSt φ P s L := by
  rcases h with h | ⟨h, hl⟩
  · exact .inl h
  · rw [List.map_append] at hp
    obtain ⟨p1, _, p3⟩ := List.pairwise_append.mp hp
    exact .inr (Hu.Po.start h hl p1 fun p hpm => p3 p hpm _ (List.mem_singleton.mpr rfl))
theorem PoSt.push {φ : Int × Int → Int × Int} {P M : List (Int × Int)} {s : Int × Int} (hφ : ∀ a b c, Hu.cr (φ a) (φ b) (φ c) = Hu.cr a b c) (h : PoSt φ P s M) (hp : ((P ++ [s]).map φ).Pairwise Hu.lt) (hc : ∀ a b, M[M.length - 2]? = some a → M[M.length - 1]? = some b → 2 ≤ M.length → 0 < Hu.cr a b s) : ChSt φ (P ++ [s]) (M ++ [s]) := by
  rcases h with ⟨rfl, rfl⟩ | h
  · exact .inr ⟨Hu.Ch.one _, rfl⟩
  · rw [List.map_append] at hp
    obtain ⟨p1, _, p3⟩ := List.pairwise_append.mp hp
    have z := h.push p1 (fun a b ha hb h2 => by
      rw [List.length_map] at ha hb h2
      rw [List.getElem?_map] at ha hb
      cases ea : M[M.length - 2]? with
      | none => rw [ea] at ha; cases ha
      | some a' =>
        cases eb : M[M.length - 1]? with
        | none => rw [eb] at hb; cases hb
        | some b' =>
          rw [ea] at ha
          rw [eb] at hb
          cases ha
          cases hb
          rw [hφ]
          exact hc a' b' ea eb h2)
    refine .inr ?_
    rw [List.map_append, List.map_append]
    exact z
theorem PoSt.pop {φ : Int × Int → Int × Int} {P M : List (Int × Int)} {s a b : Int × Int} (hφ : ∀ a b c, Hu.cr (φ a) (φ b) (φ c) = Hu.cr a b c) (h : PoSt φ P s (M ++ [a] ++ [b])) (hc : ¬ 0 < Hu.cr a b s) : PoSt φ P s (M ++ [a]) := by
  rcases h with ⟨_, h⟩ | h
  · cases M <;> cases h
  · rw [List.map_append, List.map_append] at h
    refine .inr ?_
    rw [List.map_append]
    exact h.pop (by rw [hφ]; exact hc)
def spChain : Sp := fun vs H Q _ => ∃ (l : Addr) (ps : List Addr) (P : List (Int × Int)) (n : Nat) (φ : Int × Int → Int × Int), vs = [.ref l] ∧ H l = some (.lst (rv ps)) ∧ PairsAt H ps P ∧ P.length ≤ 1000 ∧ n ≤ 100000 ∧ (∀ x ∈ P, Bd n x.1 ∧ Bd n x.2) ∧ (∀ a b c, Hu.cr (φ a) (φ b) (φ c) = Hu.cr a b c) ∧ (P.map φ).Pairwise Hu.lt ∧ ∀ r qs L H', Same H H' → H' r = some (.lst (rv qs)) → PairsAt H' qs L → (∀ x ∈ L, x ∈ P) → ChSt φ P L → Q (.ref r) H'
theorem pi_listK {X : Cx} {K : PySem.W.Frag} {tg l : Expr} {tl : TE} (hK : X.K = K) (hl : PE X l tl) : PI X tg l (iList K tl) := hK ▸ pi_list hl
theorem atI_back {xs : List V} {j : Nat} {v : V} (hj : 1 ≤ j) (hl : j ≤ xs.length) (h : xs[xs.length - j]? = some v) : atI xs (-(j : Int)) = some v := by
  unfold atI ixN
  rw [if_neg (by omega)]
  split
  · rw [Option.bind_some, show (-(j : Int) + (xs.length : Int)).toNat = xs.length - j by omega]
    exact h
  · omega
theorem PairsAt.updL {H : Hp} {D : Addr} {vs : List V} {ps : List Addr} {fs : List (Int × Int)} (hD : H D = some (.lst vs)) (h : PairsAt H ps fs) (o : HO) : PairsAt (upd H D o) ps fs := ⟨h.1, fun i p x a b => by
  have e := h.2 i p x a b
  unfold RatAt at *
  rw [upd_ne (ne_of e hD (fun z => nomatch z))]
  exact e⟩
theorem PairsAt.drop1 {H : Hp} {ps : List Addr} {fs : List (Int × Int)} (h : PairsAt H ps fs) : PairsAt H ps.dropLast fs.dropLast := by
  refine ⟨by rw [List.length_dropLast, List.length_dropLast, h.1], fun i p x a b => ?_⟩
  rw [List.getElem?_dropLast] at a b
  split at a
  · split at b
    · exact h.2 i p x a b
    · cases b
  · cases a
theorem two_last {α : Type} {M : List α} (h : 2 ≤ M.length) : ∃ M' a b, M = M' ++ [a] ++ [b] := by
  match hM : M.reverse with
  | [] =>
    have := congrArg List.length hM
    simp at this
    subst this
    simp at h
  | [x] =>
    have := congrArg List.length hM
    simp at this
    omega
  | b :: a :: r =>
    refine ⟨r.reverse, a, b, ?_⟩
    have := congrArg List.reverse hM
    simpa using this
section
variable {P : Program} {w : World} {K : PySem.W.Frag} {mg : Str → Option Value} {base : Heap}
theorem scChain : FnScope nsCh ["spots"] (defScope sChain) := ⟨rfl, rfl, rfl, by decide +kernel, rfl, by decide +kernel, by decide +kernel⟩
theorem ok_chain {f fT : Addr} {fd dT : FuncData} (F : Fun K "lower_chain" "lower_chain" sChain f fd) (ml : mg "len" = none) (T : Cl P w K mg base "turns_left" psTu 1 spTurns fT dT) : FnOk P w K mg base CX0 2 f fd ["spots"] spChain := by
  refine F.ok scChain (fun vs H Q E h => ?_) (fun cdv A outer s H vs Q E hr h => ?_)
  · obtain ⟨l, ps, Pp, n, φ, rfl, _⟩ := h
    rfl
  · obtain ⟨l, ps, Pp, n, φ, rfl, hl, hP, lP, hn, hB, hφ, hs, k⟩ := h
    refine ⟨_, pss_cons (ps_set (i := 1) scChain.nd rfl (Or.inl rfl) (pe_lst pa_nil))
      (C8.pss_cut (ps_for PassesOwn.never rfl (pi_listK (K := K) rfl (pv 0)) (pg_name (i := 2) scChain.nd rfl (Or.inl rfl))
        (C8.pss_cut (ps_while PassesOwn.never (PW.pt (pw_and (pt_cmpR op_gt (pe_callB call_len_seq (by rfl) ml PySem.boot_len (pa_cons (pv 1) pa_nil)) pe_int (nomark _)) (pw_and1 (pt_not (pt_val (pe_call T.G hr (by rfl) T.g T.kp T.b .nil pass0 (pa_cons (pe_ix ix_list (pv 1) (pe_un un_neg pe_int) (fun _ _ => rfl)) (pa_cons (pe_ix ix_list (pv 1) (pe_un un_neg pe_int) (fun _ _ => rfl)) (pa_cons (pv 2) pa_nil)))))))))
          (pss_one (ps_expr (pe_bm0 PySem.F.plainAttrs_list PySem.F.slot_list_pop PySem.F.type_list_pop mt_pop (pv 1)))))
        (pss_one (ps_expr (pe_bm PySem.F.plainAttrs_list PySem.F.slot_list_append PySem.F.type_list_append mt_append (pv 1) (pa_cons (pv 2) pa_nil))))))
      (pss_one (ps_ret (pv 1)))), ?_⟩
    refine ⟨by show 0 ≤ sizeLine; decide, fun D hD => ?_⟩
    refine ⟨fun σ' H' => ∃ v2 L qs, σ' = [some (.ref l), some (.ref D), v2] ∧ Same H H' ∧ H' D = some (.lst (rv qs)) ∧ PairsAt H' qs L ∧ (∀ x ∈ L, x ∈ Pp) ∧ ChSt φ Pp L, ?_, ?_⟩
    · refine ⟨_, rfl, l, rfl, ⟨_, SqL.of ((same_new hD) _ _ hl)⟩, ?_⟩
      refine for_list (K := K) (a := l) (xs := rv ps) (fun j σ' H' => ∃ v2 L qs, σ' = [some (.ref l), some (.ref D), v2] ∧ Same H H' ∧ H' D = some (.lst (rv qs)) ∧ PairsAt H' qs L ∧ (∀ x ∈ L, x ∈ Pp) ∧ L.length ≤ j ∧ ChSt φ (Pp.take j) L) ⟨none, [], [], rfl, same_new hD, upd_same, pairs_nil, (fun x h => nomatch h), Nat.le_refl _, .inl ⟨rfl, rfl⟩⟩ (fun j σ' H' _ z => ?_) (fun j v σ' H2 hj z => ?_) (fun σ' H2 z => ?_)
      · obtain ⟨v2, L, qs, rfl, s2, _⟩ := z
        exact SqL.of (s2 _ _ hl)
      · obtain ⟨v2, L, qs, rfl, s2, hD2, hL, sub, lL, hC⟩ := z
        obtain ⟨p, x, rfl, hp, hx, hpx⟩ := (hP.same s2).get hj
        have hjl : j < Pp.length := (List.getElem?_eq_some_iff.mp hx).1
        have et : Pp.take (j + 1) = Pp.take j ++ [x] := by
          rw [List.take_add_one, hx]
          rfl
        have hpw : ((Pp.take j ++ [x]).map φ).Pairwise Hu.lt := by
          rw [← et, List.map_take]
          exact hs.sublist (List.take_sublist _ _)
        have hxm : x ∈ Pp := List.mem_of_getElem? hx
        refine ⟨fun σ' H' => ∃ M qs, σ' = [some (.ref l), some (.ref D), some (.ref p)] ∧ Same H H' ∧ H' D = some (.lst (rv qs)) ∧ PairsAt H' qs M ∧ (∀ y ∈ M, y ∈ Pp) ∧ M.length ≤ j ∧ PoSt φ (Pp.take j) x M ∧ (∀ a b, M[M.length - 2]? = some a → M[M.length - 1]? = some b → 2 ≤ M.length → 0 < Hu.cr a b x), ?_, ?_⟩
        · refine while_by (fun σ' H' => ∃ M qs, σ' = [some (.ref l), some (.ref D), some (.ref p)] ∧ Same H H' ∧ H' D = some (.lst (rv qs)) ∧ PairsAt H' qs M ∧ (∀ y ∈ M, y ∈ Pp) ∧ M.length ≤ j ∧ PoSt φ (Pp.take j) x M) (fun _ H' => match H' D with
            | some (.lst xs) => xs.length
            | _ => 0) ⟨L, qs, rfl, s2, hD2, hL, sub, lL, PoSt.start hC hpw⟩ ?_ ?_
          · rintro σ' H3 ⟨M, qs3, rfl, s3, hD3, hM, sub3, lM, hPo⟩
            have lq : (rv qs3).length = M.length := by rw [rv_len, hM.1]
            refine ⟨_, rfl, D, _, rfl, .inl (SqL.of hD3), _, _, rfl, rfl, _, rfl, ?_⟩
            rw [lq]
            refine ite2 (fun h => ?_) (fun h => ?_)
            · have h2 : 2 ≤ M.length := by
                have := of_decide_eq_true h
                omega
              obtain ⟨M', a, b, rfl⟩ := two_last h2
              have lM' : (M' ++ [a] ++ [b]).length = M'.length + 2 := by simp
              have q1 : qs3.length = M'.length + 2 := by rw [hM.1, lM']
              obtain ⟨pa, hpa⟩ : ∃ pa, qs3[M'.length]? = some pa := ⟨_, List.getElem?_eq_getElem (by omega)⟩
              obtain ⟨pb, hpb⟩ : ∃ pb, qs3[M'.length + 1]? = some pb := ⟨_, List.getElem?_eq_getElem (by omega)⟩
              have ea : (M' ++ [a] ++ [b])[M'.length]? = some a := by simp
              have eb : (M' ++ [a] ++ [b])[M'.length + 1]? = some b := by simp
              have ra := hM.2 _ _ _ hpa ea
              have rb := hM.2 _ _ _ hpb eb
              have ia : atI (rv qs3) (-((2 : Nat) : Int)) = some (.ref pa) := atI_back (by decide) (by rw [rv_len]; omega) (by
                rw [rv_len, q1, show M'.length + 2 - 2 = M'.length by omega]
                unfold rv
                rw [List.getElem?_map, hpa]
                rfl)
              have ib : atI (rv qs3) (-((1 : Nat) : Int)) = some (.ref pb) := atI_back (by decide) (by rw [rv_len]; omega) (by
                rw [rv_len, q1, show M'.length + 2 - 1 = M'.length + 1 by omega]
                unfold rv
                rw [List.getElem?_map, hpb]
                rfl)
              have ma := hB a (sub3 a (by simp))
              have mb := hB b (sub3 b (by simp))
              have mx := hB x hxm
              refine ⟨_, rfl, _, rfl, D, _, _, _, rfl, rfl, SqL.of hD3, ia, _, rfl, _, rfl, D, _, _, _, rfl, rfl, SqL.of hD3, ib, _, rfl, pa, pb, p, a, b, x, n, rfl, ra, rb, (hP.same s3).2 j p x hp hx, hn, ma.1, ma.2, mb.1, mb.2, mx.1, mx.2, fun H4 s4 => ⟨_, rfl, ?_⟩⟩
              have hD4 := s4 _ _ hD3
              have same_up : ∀ {Hx : Hp} {o : HO}, Same H Hx → Same H (upd Hx D o) := fun {Hx o} sx b ob hb => by
                rw [upd_ne (ne_of_none hb hD)]
                exact sx _ _ hb
              refine ite2 (fun hc => ?_) (fun hc => ?_)
              · have hc' : ¬ 0 < Hu.cr a b x := by simpa using hc
                refine ⟨_, rfl, .inl ⟨rfl, _, SqL.of hD4⟩, D, _, .ref pb, rfl, rfl, hD4, ?_, ⟨M' ++ [a], qs3.dropLast, rfl, same_up (s3.trans s4), ?_, ?_, fun y hy => sub3 y (List.mem_append_left _ hy), ?_, PoSt.pop hφ hPo hc'⟩, ?_⟩
                · rw [rv_len, q1, show M'.length + 2 - 1 = M'.length + 1 by omega]
                  unfold rv
                  rw [List.getElem?_map, hpb]
                  rfl
                · rw [upd_same]
                  unfold rv
                  rw [List.map_dropLast]
                · have z := (hM.same s4).drop1
                  rw [List.dropLast_concat] at z
                  exact z.updL hD4 _
                · simp at lM ⊢
                  omega
                · rw [upd_same, hD3]
                  show (rv qs3).dropLast.length < (rv qs3).length
                  rw [List.length_dropLast, rv_len]
                  omega
              · have hc' : 0 < Hu.cr a b x := by simpa using hc
                refine ⟨M' ++ [a] ++ [b], qs3, rfl, s3.trans s4, hD4, hM.same s4, sub3, lM, hPo, fun a' b' ha' hb' _ => ?_⟩
                rw [lM', show M'.length + 2 - 2 = M'.length by omega, ea] at ha'
                rw [lM', show M'.length + 2 - 1 = M'.length + 1 by omega, eb] at hb'
                cases ha'
                cases hb'
                exact hc'
            · refine iteF ⟨M, qs3, rfl, s3, hD3, hM, sub3, lM, hPo, fun _ _ _ _ h2 => ?_⟩
              exact absurd (decide_eq_true (show (1 : Int) < ((M.length : Nat) : Int) by omega)) h
          · intro σ H Q1 Q2 hq h
            obtain ⟨v1, e1, p1, ys, e2, e3, i, j, e4, e5, kk, ek, h⟩ := h
            refine ⟨v1, e1, p1, ys, e2, e3, i, j, e4, e5, kk, ek, ?_⟩
            cases kk with
            | false => exact hq _ _ h
            | true =>
              obtain ⟨a1, a2, a3, a4, a5, a6, a7, a8, a9, a10, a11, a12, b1, b2, b3, b4, b5, b6, b7, b8, b9, b10, b11, b12, c1, c2, p, q, r, x, y, z, n, f0, f1, f2, f3, f4, f5, f6, f7, f8, f9, f10, h⟩ := h
              refine ⟨a1, a2, a3, a4, a5, a6, a7, a8, a9, a10, a11, a12, b1, b2, b3, b4, b5, b6, b7, b8, b9, b10, b11, b12, c1, c2, p, q, r, x, y, z, n, f0, f1, f2, f3, f4, f5, f6, f7, f8, f9, f10, fun H4 s4 => ?_⟩
              obtain ⟨bb, eb, hh⟩ := h H4 s4
              exact ⟨bb, eb, hq _ _ hh⟩
        · rintro σ' H3 ⟨M, qs3, rfl, s3, hD3, hM, sub3, lM, hPo, hlast⟩
          refine ⟨_, rfl, .inl ⟨rfl, _, SqL.of hD3⟩, _, rfl, D, _, _, rfl, rfl, hD3, by rw [rv_len, hM.1]; exact small1000 (by omega), some (.ref p), M ++ [x], qs3 ++ [p], rfl, fun b ob hb => ?_, ?_, hM.add hD3 ((hP.same s3).2 j p x hp hx) _, fun y hy => ?_, ?_, ?_⟩
          · rw [upd_ne (ne_of_none hb hD)]
            exact s3 _ _ hb
          · rw [upd_same]
            unfold rv
            rw [List.map_append]
            rfl
          · rcases List.mem_append.mp hy with h | h
            · exact sub3 y h
            · cases List.mem_singleton.mp h
              exact hxm
          · rw [List.length_append, List.length_singleton]
            omega
          · rw [et]
            exact hPo.push hφ hpw hlast
      · obtain ⟨v2, L, qs, rfl, s2, hD2, hL, sub, _, hC⟩ := z
        have e : (rv ps).length = Pp.length := by rw [rv_len, hP.1]
        rw [e, List.take_length] at hC
        exact ⟨v2, L, qs, rfl, s2, hD2, hL, sub, hC⟩
    · rintro σ' H2 ⟨v2, L, qs, rfl, s2, hD2, hL, sub, hC⟩
      exact ⟨_, rfl, k D qs L H2 s2 hD2 hL sub hC⟩
end
end Fk

set_option Elab.async false
set_option maxRecDepth 100000
set_option maxHeartbeats 4000000
set_option exponentiation.threshold 20000
/-! The law's worth and cross. -/
namespace Fk
open PySem L2
abbrev sLWorth : Stmt := top 49
abbrev sLCross : Stmt := top 52
abbrev psLW : List Str := ["_law_c", "_law_pay"]
abbrev psLCr : List Str := ["_law_one", "_law_two", "_law_three"]
abbrev nsLCr : List Str := ["_law_one", "_law_two", "_law_three", "_law_left", "_law_right"]
def spLWorth : Sp := fun vs H Q _ => ∃ (p q : Addr) (x y : Po), vs = [.ref p, .ref q] ∧ PtAt H p x ∧ PtAt H q y ∧ FineP 3000 x ∧ FineP 3000 y ∧ ∀ r H', Same H H' → RatAt H' r (wor x y) → Q (.ref r) H'
/-- the law's cross of three points -/
def croF (a b c : Po) : Int × Int := minF (timF (minF b.1 a.1) (minF c.2 a.2)) (timF (minF b.2 a.2) (minF c.1 a.1))
def spLCross : Sp := fun vs H Q _ => ∃ (p q r : Addr) (x y z : Po), vs = [.ref p, .ref q, .ref r] ∧ PtAt H p x ∧ PtAt H q y ∧ PtAt H r z ∧ FineP 1500 x ∧ FineP 1500 y ∧ FineP 1500 z ∧ ∀ H', Same H H' → Q (.int (sgnI (croF x y z).1)) H'
section
variable {P : Program} {w : World} {K : PySem.W.Frag} {mg : Str → Option Value} {base : Heap}
theorem scLWorth : FnScope psLW psLW (defScope sLWorth) := ⟨rfl, rfl, rfl, by decide +kernel, rfl, by decide +kernel, by decide +kernel⟩
theorem scLCross : FnScope nsLCr psLCr (defScope sLCross) := ⟨rfl, rfl, rfl, by decide +kernel, rfl, by decide +kernel, by decide +kernel⟩
theorem ok_lworth {f fP fT : Addr} {fd dP dT : FuncData} (F : Fun K "_law_worth" "_law_worth" sLWorth f fd) (Pl : Cl P w K mg base "_law_plus" psOT 3 (spTwo pluF) fP dP) (Ti : Cl P w K mg base "_law_times" psOT 3 (spTwo timF) fT dT) : FnOk P w K mg base CX0 4 f fd psLW spLWorth := by
  refine F.ok scLWorth (fun vs H Q E h => ?_) (fun cdv A outer s H vs Q E hr h => ?_)
  · obtain ⟨p, q, x, y, rfl, _⟩ := h
    rfl
  · obtain ⟨p, q, x, y, rfl, ⟨a, b, h1, h2, h3⟩, ⟨c, d, g1, g2, g3⟩, fx, fy, k⟩ := h
    refine ⟨_, pss_one (ps_ret (pe_call Pl.G hr (by rfl) Pl.g Pl.kp Pl.b .nil pass0
      (pa_cons (pe_call Ti.G hr (by rfl) Ti.g Ti.kp Ti.b .nil pass0 (pa_cons (pe_ix ix_tup (pv 0) pe_int (fun _ _ => rfl)) (pa_cons (pe_ix ix_tup (pv 1) pe_int (fun _ _ => rfl)) pa_nil)))
      (pa_cons (pe_call Ti.G hr (by rfl) Ti.g Ti.kp Ti.b .nil pass0 (pa_cons (pe_ix ix_tup (pv 0) pe_int (fun _ _ => rfl)) (pa_cons (pe_ix ix_tup (pv 1) pe_int (fun _ _ => rfl)) pa_nil))) pa_nil)))), ?_⟩
    refine ⟨_, rfl, p, _, 0, _, rfl, rfl, .inl (.inl h1), rfl, _, rfl, q, _, 0, _, rfl, rfl, .inl (.inl g1), rfl, a, c, _, _, rfl, h2, g2, fx.1.mono (by decide), fy.1.mono (by decide), fun u H1 s1 hu => ?_⟩
    refine ⟨_, rfl, p, _, 1, _, rfl, rfl, .inl (.inl (s1 _ _ h1)), rfl, _, rfl, q, _, 1, _, rfl, rfl, .inl (.inl (s1 _ _ g1)), rfl, b, d, _, _, rfl, h3.same s1, g3.same s1, fx.2.mono (by decide), fy.2.mono (by decide), fun u2 H2 s2 hu2 => ?_⟩
    exact ⟨u, u2, _, _, rfl, hu.same s2, hu2, (fine_tim fx.1 fy.1).mono (by decide), (fine_tim fx.2 fy.2).mono (by decide), fun r H3 s3 hr3 => k r H3 (s1.trans (s2.trans s3)) hr3⟩
theorem scLSign : FnScope ["_law_one"] ["_law_one"] (defScope sLSign) := ⟨rfl, rfl, rfl, by decide +kernel, rfl, by decide +kernel, by decide +kernel⟩
theorem ok_lsign {f : Addr} {fd : FuncData} (F : Fun K "_law_sign" "_law_sign" sLSign f fd) (mi : mg "int" = none) : FnOk P w K mg base CX0 1 f fd ["_law_one"] spLSign := by
  refine F.ok scLSign (fun vs H Q E h => ?_) (fun cdv A outer s H vs Q E hr h => ?_)
  · obtain ⟨p, x, rfl, _⟩ := h
    rfl
  · obtain ⟨p, x, rfl, hp, k⟩ := h
    refine ⟨_, pss_one (ps_ret (pe_op op_sub (pe_callTy call_int1 (by rfl) mi (by decide +kernel) (pa_cons (pe_cmpR op_gt (pe_ix ix_tup (pv 0) pe_int (fun _ _ => rfl)) pe_int (nomark _)) pa_nil))
      (pe_callTy call_int1 (by rfl) mi (by decide +kernel) (pa_cons (pe_cmpR op_lt (pe_ix ix_tup (pv 0) pe_int (fun _ _ => rfl)) pe_int (nomark _)) pa_nil)))), ?_⟩
    have e : ((if decide (x.1 > 0) = true then 1 else 0 : Int) - (if decide (x.1 < 0) = true then 1 else 0 : Int)) = sgnI x.1 := by
      unfold sgnI
      by_cases h1 : 0 < x.1
      · have h2 : ¬ x.1 < 0 := by omega
        simp [h1, h2]
      · by_cases h2 : x.1 < 0
        · simp [h1, h2]
        · simp [h1, h2]
    rw [← e] at k
    exact ⟨_, rfl, p, _, 0, _, rfl, rfl, .inl (.inl hp), rfl, _, _, rfl, rfl, .inr ⟨_, rfl, _, rfl, p, _, 0, _, rfl, rfl, .inl (.inl hp), rfl, _, _, rfl, rfl, .inr ⟨_, rfl, _, _, rfl, rfl, k⟩⟩⟩
theorem ok_lcross {f fM fT fS : Addr} {fd dM dT dS : FuncData} (F : Fun K "_law_cross" "_law_cross" sLCross f fd) (M : Cl P w K mg base "_law_minus" psOT 3 (spTwo minF) fM dM) (T : Cl P w K mg base "_law_times" psOT 3 (spTwo timF) fT dT) (S : Cl P w K mg base "_law_sign" ["_law_one"] 1 spLSign fS dS) : FnOk P w K mg base CX0 4 f fd psLCr spLCross := by
  refine F.ok scLCross (fun vs H Q E h => ?_) (fun cdv A outer s H vs Q E hr h => ?_)
  · obtain ⟨p, q, r, x, y, z, rfl, _⟩ := h
    rfl
  · obtain ⟨p, q, r, x, y, z, rfl, ⟨a, b, h1, h2, h3⟩, ⟨c, d, g1, g2, g3⟩, ⟨e, f', j1, j2, j3⟩, fx, fy, fz, k⟩ := h
    have hr1 := hr.mono (show 1 ≤ 3 by decide)
    refine ⟨_, pss_cons (ps_set (i := 3) scLCross.nd rfl (Or.inl rfl) (pe_call T.G hr (by rfl) T.g T.kp T.b .nil pass0
        (pa_cons (pe_call M.G hr (by rfl) M.g M.kp M.b .nil pass0 (pa_cons (pe_ix ix_tup (pv 1) pe_int (fun _ _ => rfl)) (pa_cons (pe_ix ix_tup (pv 0) pe_int (fun _ _ => rfl)) pa_nil)))
        (pa_cons (pe_call M.G hr (by rfl) M.g M.kp M.b .nil pass0 (pa_cons (pe_ix ix_tup (pv 2) pe_int (fun _ _ => rfl)) (pa_cons (pe_ix ix_tup (pv 0) pe_int (fun _ _ => rfl)) pa_nil))) pa_nil))))
      (pss_cons (ps_set (i := 4) scLCross.nd rfl (Or.inl rfl) (pe_call T.G hr (by rfl) T.g T.kp T.b .nil pass0
        (pa_cons (pe_call M.G hr (by rfl) M.g M.kp M.b .nil pass0 (pa_cons (pe_ix ix_tup (pv 1) pe_int (fun _ _ => rfl)) (pa_cons (pe_ix ix_tup (pv 0) pe_int (fun _ _ => rfl)) pa_nil)))
        (pa_cons (pe_call M.G hr (by rfl) M.g M.kp M.b .nil pass0 (pa_cons (pe_ix ix_tup (pv 2) pe_int (fun _ _ => rfl)) (pa_cons (pe_ix ix_tup (pv 0) pe_int (fun _ _ => rfl)) pa_nil))) pa_nil))))
      (pss_one (ps_ret (pe_call S.G hr1 (by rfl) S.g S.kp S.b .nil pass0 (pa_cons (pe_call M.G hr (by rfl) M.g M.kp M.b .nil pass0 (pa_cons (pv 3) (pa_cons (pv 4) pa_nil))) pa_nil))))), ?_⟩
    have m1 := fine_min fy.1 fx.1
    have m2 := fine_min fz.2 fx.2
    have m3 := fine_min fy.2 fx.2
    have m4 := fine_min fz.1 fx.1
    refine ⟨_, rfl, q, _, 0, _, rfl, rfl, .inl (.inl g1), rfl, _, rfl, p, _, 0, _, rfl, rfl, .inl (.inl h1), rfl, c, a, _, _, rfl, g2, h2, fy.1.mono (by decide), fx.1.mono (by decide), fun u1 H1 s1 hu1 => ?_⟩
    refine ⟨_, rfl, r, _, 1, _, rfl, rfl, .inl (.inl (s1 _ _ j1)), rfl, _, rfl, p, _, 1, _, rfl, rfl, .inl (.inl (s1 _ _ h1)), rfl, f', b, _, _, rfl, j3.same s1, h3.same s1, fz.2.mono (by decide), fx.2.mono (by decide), fun u2 H2 s2 hu2 => ?_⟩
    refine ⟨u1, u2, _, _, rfl, hu1.same s2, hu2, m1.mono (by decide), m2.mono (by decide), fun l H3 s3 hl => ?_⟩
    have t3 := s1.trans (s2.trans s3)
    refine ⟨_, rfl, q, _, 1, _, rfl, rfl, .inl (.inl (t3 _ _ g1)), rfl, _, rfl, p, _, 1, _, rfl, rfl, .inl (.inl (t3 _ _ h1)), rfl, d, b, _, _, rfl, g3.same t3, h3.same t3, fy.2.mono (by decide), fx.2.mono (by decide), fun u3 H4 s4 hu3 => ?_⟩
    have t4 := t3.trans s4
    refine ⟨_, rfl, r, _, 0, _, rfl, rfl, .inl (.inl (t4 _ _ j1)), rfl, _, rfl, p, _, 0, _, rfl, rfl, .inl (.inl (t4 _ _ h1)), rfl, e, a, _, _, rfl, j2.same t4, h2.same t4, fz.1.mono (by decide), fx.1.mono (by decide), fun u4 H5 s5 hu4 => ?_⟩
    refine ⟨u3, u4, _, _, rfl, hu3.same s5, hu4, m3.mono (by decide), m4.mono (by decide), fun r2 H6 s6 hr2 => ?_⟩
    refine ⟨_, rfl, _, rfl, l, r2, _, _, rfl, hl.same (s4.trans (s5.trans s6)), hr2, (fine_tim m1 m2).mono (by decide), (fine_tim m3 m4).mono (by decide), fun v H7 s7 hv => ?_⟩
    exact ⟨v, _, rfl, hv, k H7 (t4.trans (s5.trans (s6.trans s7)))⟩
end
end Fk

set_option Elab.async false
set_option maxRecDepth 100000
/-! Hulls: they are told by their points alone; what lies in them. -/
namespace Hu
theorem tri (a b : Pt) : lt a b ∨ a = b ∨ lt b a := by
  unfold lt
  rcases Int.lt_trichotomy a.1 b.1 with h | h | h
  · exact .inl (.inl h)
  · rcases Int.lt_trichotomy a.2 b.2 with g | g | g
    · exact .inl (.inr ⟨h, g⟩)
    · exact .inr (.inl (Prod.ext h g))
    · exact .inr (.inr (.inr ⟨h.symm, g⟩))
  · exact .inr (.inr (.inl h))
theorem last_top {P : List Pt} (hP : P.Pairwise lt) {z : Pt} (h : P.getLast? = some z) : ∀ p ∈ P, p = z ∨ lt p z := fun p hp => by
  obtain ⟨i, hi⟩ := List.getElem?_of_mem hp
  have hz := last_at h
  have li := (List.getElem?_eq_some_iff.mp hi).1
  by_cases q : i = P.length - 1
  · subst q
    rw [hi] at hz
    exact .inl (Option.some.inj hz)
  · exact .inr (pw_at hP (by omega) hi hz)
theorem Ch.no {P L : List Pt} (hL : Ch P L) (hP : P.Pairwise lt) (el : L.getLast? = P.getLast?) {i : Nat} {a b c : Pt} (ea : L[i]? = some a) (eb : L[i + 1]? = some b) (hc : c ∈ P) (h : lt b c) (z : cr a b c = 0) : False := by
  have ab : lt a b := pw_at hL.srt (Nat.lt_succ_self i) ea eb
  cases ed : L[i + 2]? with
  | none =>
    have hl : L.length = i + 2 := by
      have h1 := (List.getElem?_eq_some_iff.mp eb).1
      have h2 := List.getElem?_eq_none_iff.mp ed
      omega
    have e : L.getLast? = some b := by
      rw [List.getLast?_eq_getElem?, hl]
      exact eb
    rw [e] at el
    rcases last_top hP el.symm c hc with q | q
    · rw [q] at h
      exact lt_irr h
    · exact lt_irr (lt_trans h q)
  | some d =>
    have bd : lt b d := pw_at hL.srt (Nat.lt_succ_self (i + 1)) eb ed
    have z1 := hL.cv i a b d ea eb ed
    have z2 := hL.lf (i + 1) b d eb ed c hc
    rw [cr_xp2] at z1 z
    rw [cr_xp] at z2
    have := cone1 (lt_pos ab) (lt_pos bd) (lt_pos h) z1 z2
    omega
theorem Ch.uniq {P L M : List Pt} (hL : Ch P L) (hM : Ch P M) (hP : P.Pairwise lt) (el : L.getLast? = P.getLast?) (em : M.getLast? = P.getLast?) : L = M := by
  refine List.ext_getElem? fun i => ?_
  induction i with
  | zero =>
    have e1 := hL.fst
    have e2 := hM.fst
    rw [List.head?_eq_getElem?] at e1 e2
    rw [e1, e2]
  | succ i ih =>
    cases ea : L[i]? with
    | none =>
      rw [ea] at ih
      have h1 := List.getElem?_eq_none_iff.mp ea
      have h2 := List.getElem?_eq_none_iff.mp ih.symm
      rw [List.getElem?_eq_none (by omega), List.getElem?_eq_none (by omega)]
    | some a =>
      rw [ea] at ih
      have side : ∀ {L M : List Pt}, Ch P L → Ch P M → L.getLast? = P.getLast? → L[i]? = some a → M[i]? = some a → L[i + 1]? = none → M[i + 1]? = none := fun {L M} hL hM el ea ma en => by
        have h1 := (List.getElem?_eq_some_iff.mp ea).1
        have h2 := List.getElem?_eq_none_iff.mp en
        have e : L.getLast? = some a := by
          rw [List.getLast?_eq_getElem?, show L.length - 1 = i by omega]
          exact ea
        rw [e] at el
        cases eb : M[i + 1]? with
        | none => rfl
        | some b =>
          exfalso
          have ab : lt a b := pw_at hM.srt (Nat.lt_succ_self i) ma eb
          rcases last_top hP el.symm b (hM.sub b (List.mem_of_getElem? eb)) with q | q
          · rw [q] at ab
            exact lt_irr ab
          · exact lt_irr (lt_trans ab q)
      cases eb : L[i + 1]? with
      | none => exact (side hL hM el ea ih.symm eb).symm
      | some b =>
        cases ec : M[i + 1]? with
        | none =>
          have := side hM hL em ih.symm ea ec
          rw [eb] at this
          cases this
        | some c =>
          have mb := hL.sub b (List.mem_of_getElem? eb)
          have mc := hM.sub c (List.mem_of_getElem? ec)
          have z1 := hL.lf i a b ea eb c mc
          have z2 := hM.lf i a c ih.symm ec b mb
          have e : cr a c b = -(cr a b c) := by unfold cr; grind
          rcases tri b c with q | q | q
          · exact (hL.no hP el ea eb mc q (by omega)).elim
          · rw [q]
          · exact (hM.no hP em ih.symm ec mb q (by omega)).elim
theorem srt_uniq : ∀ {S T : List Pt}, S.Pairwise lt → T.Pairwise lt → (∀ x, x ∈ S ↔ x ∈ T) → S = T
  | [], [], _, _, _ => rfl
  | [], t :: T, _, _, h => nomatch (h t).mpr List.mem_cons_self
  | s :: S, [], _, _, h => nomatch (h s).mp List.mem_cons_self
  | s :: S, t :: T, hS, hT, h => by
    obtain ⟨s1, s2⟩ := List.pairwise_cons.mp hS
    obtain ⟨t1, t2⟩ := List.pairwise_cons.mp hT
    have e : s = t := by
      rcases List.mem_cons.mp ((h s).mp List.mem_cons_self) with q | q
      · exact q
      · rcases List.mem_cons.mp ((h t).mpr List.mem_cons_self) with r | r
        · exact r.symm
        · exact (lt_irr (lt_trans (s1 t r) (t1 s q))).elim
    subst e
    rw [srt_uniq (S := S) (T := T) s2 t2 fun x => ?_]
    constructor
    · intro hx
      rcases List.mem_cons.mp ((h x).mp (List.mem_cons_of_mem _ hx)) with q | q
      · subst q
        exact (lt_irr (s1 x hx)).elim
      · exact q
    · intro hx
      rcases List.mem_cons.mp ((h x).mpr (List.mem_cons_of_mem _ hx)) with q | q
      · subst q
        exact (lt_irr (t1 x hx)).elim
      · exact q
theorem snoc_of_last {L : List Pt} {z : Pt} (h : L.getLast? = some z) : L = L.dropLast ++ [z] := by
  obtain ⟨h1, h2⟩ := List.getLast?_eq_some_iff.mp h
  rw [h2]
  simp
/-- the corners of sorted points -/
structure HullS (S C : List Pt) : Prop where
  one : S.length = 1 → C = S
  more : 2 ≤ S.length → ∃ L U : List Pt, Ch S L ∧ L.getLast? = S.getLast? ∧ Ch (S.reverse.map neg) (U.map neg) ∧ (U.map neg).getLast? = (S.reverse.map neg).getLast? ∧ C = L.dropLast ++ U.dropLast
theorem rev_neg {S : List Pt} (h : S.Pairwise lt) : (S.reverse.map neg).Pairwise lt := by
  rw [List.pairwise_map, List.pairwise_reverse]
  exact h.imp fun q => lt_neg.mpr q
theorem neg_inj {L M : List Pt} (h : L.map neg = M.map neg) : L = M := by
  have e := congrArg (List.map neg) h
  rw [List.map_map, List.map_map] at e
  have i : neg ∘ neg = id := funext neg_neg
  rw [i, List.map_id, List.map_id] at e
  exact e
theorem HullS.uniq {S C D : List Pt} (hS : S.Pairwise lt) (ne : S ≠ []) (h : HullS S C) (g : HullS S D) : C = D := by
  have l0 := List.length_pos_iff.mpr ne
  by_cases q : S.length = 1
  · rw [h.one q, g.one q]
  · obtain ⟨L, U, a1, a2, a3, a4, rfl⟩ := h.more (by omega)
    obtain ⟨M, V, b1, b2, b3, b4, rfl⟩ := g.more (by omega)
    rw [a1.uniq b1 hS a2 b2, neg_inj (a3.uniq b3 (rev_neg hS) a4 b4)]
theorem HullS.ok {S C : List Pt} (hS : S.Pairwise lt) (h2 : 2 ≤ S.length) (h : HullS S C) : HullOk S C := by
  obtain ⟨L, U, a1, a2, a3, a4, rfl⟩ := h.more h2
  obtain ⟨a, ha⟩ : ∃ a, S[0]? = some a := ⟨_, List.getElem?_eq_getElem (by omega)⟩
  obtain ⟨z, hz⟩ : ∃ z, S[S.length - 1]? = some z := ⟨_, List.getElem?_eq_getElem (by omega)⟩
  have haz : lt a z := pw_at hS (by omega) ha hz
  have hP : ∀ p ∈ S, (p ≠ a → lt a p) ∧ (p ≠ z → lt p z) := fun p hp => by
    obtain ⟨i, hi⟩ := List.getElem?_of_mem hp
    have li := (List.getElem?_eq_some_iff.mp hi).1
    refine ⟨fun n => ?_, fun n => ?_⟩
    · by_cases q : i = 0
      · subst q
        rw [ha] at hi
        exact absurd (Option.some.inj hi).symm n
      · exact pw_at hS (by omega) ha hi
    · by_cases q : i = S.length - 1
      · subst q
        rw [hz] at hi
        exact absurd (Option.some.inj hi).symm n
      · exact pw_at hS (by omega) hi hz
  have lz : L.getLast? = some z := by rw [a2, List.getLast?_eq_getElem?, hz]
  have lu : U.getLast? = some a := by
    rw [List.getLast?_map, List.getLast?_map, List.getLast?_reverse, List.head?_eq_getElem?, ha] at a4
    cases e : U.getLast? with
    | none =>
      rw [e] at a4
      cases a4
    | some x =>
      rw [e] at a4
      have q := Option.some.inj a4
      have q2 := congrArg neg q
      rw [neg_neg, neg_neg] at q2
      rw [q2]
  have eL := snoc_of_last lz
  have eU := snoc_of_last lu
  have hU : Half gt' S U := Half.neg a3
  have hA : (L.dropLast ++ [z])[0]? = some a := by
    rw [← eL, ← List.head?_eq_getElem?, a1.fst, List.head?_eq_getElem?, ha]
  have hB : (U.dropLast ++ [a])[0]? = some z := by
    rw [← eU]
    have q := a3.fst
    rw [List.head?_map, List.head?_map, List.head?_reverse, List.getLast?_eq_getElem?, hz, List.head?_eq_getElem?] at q
    cases e : U[0]? with
    | none =>
      rw [e] at q
      cases q
    | some x =>
      rw [e] at q
      have q1 := Option.some.inj q
      have q2 := congrArg neg q1
      rw [neg_neg, neg_neg] at q2
      rw [q2]
  exact hull hP haz hA hB (by rw [← eL]; exact Half.of a1) (by rw [← eU]; exact hU)
end Hu

set_option Elab.async false
set_option maxRecDepth 100000
/-! Zones over fractions: what lies in them, which points their corners tell. -/
namespace Hu
structure ZoneQ (P C : List Qt) : Prop where
  ne : C ≠ []
  least : ∀ (k : Nat) (c x : Qt), 0 < k → C[0]? = some c → C[k]? = some x → ltq c x
  one : ∀ c, C = [c] → ∀ p ∈ P, p = c
  two : ∀ c d, C = [c, d] → ∀ p ∈ P, crq c d p = 0 ∧ ¬ ltq p c ∧ ¬ ltq d p
  hull : 3 ≤ C.length → HullQ P C
  sub : ∀ x ∈ C, x ∈ P
def Cov (P C : List Qt) : Prop := ∀ n, ∀ p ∈ P, ∃ v ∈ C, dot n p ≤ dot n v
theorem ltq_ne {c d : Qt} (h : ltq c d) : c ≠ d := fun e => by
  subst e
  unfold ltq at h
  rcases h with h | ⟨_, h⟩ <;> exact Rat.lt_irrefl h
theorem three {C : List Qt} (h : C ≠ []) : (∃ c, C = [c]) ∨ (∃ c d, C = [c, d]) ∨ 3 ≤ C.length := by
  match C, h with
  | [c], _ => exact .inl ⟨c, rfl⟩
  | [c, d], _ => exact .inr (.inl ⟨c, d, rfl⟩)
  | _ :: _ :: _ :: r, _ => exact .inr (.inr (by simp))
theorem nl {a b : Rat} (h : ¬ a < b) : b ≤ a := by grind
/-- on a line and between its ends, told by products -/
theorem between {c d p : Qt} (h : ltq c d) (z : crq c d p = 0) (l : ¬ ltq p c) (r : ¬ ltq d p) : 0 ≤ (d.1 - c.1) * (p.1 - c.1) + (d.2 - c.2) * (p.2 - c.2) ∧ (d.1 - c.1) * (p.1 - d.1) + (d.2 - c.2) * (p.2 - d.2) ≤ 0 := by
  unfold ltq at h l r
  unfold crq at z
  rcases h with h | ⟨h1, h2⟩
  · have a : 0 < d.1 - c.1 := by grind
    have pc : c.1 ≤ p.1 := by
      by_cases q : p.1 < c.1
      · exact (l (.inl q)).elim
      · exact nl q
    have pd : p.1 ≤ d.1 := by
      by_cases q : d.1 < p.1
      · exact (r (.inl q)).elim
      · exact nl q
    have s := sq_nn (d.2 - c.2)
    have a2 := mulq_pp a a
    constructor
    · have k1 : (d.1 - c.1) * ((d.1 - c.1) * (p.1 - c.1) + (d.2 - c.2) * (p.2 - c.2)) = ((d.1 - c.1) * (d.1 - c.1) + (d.2 - c.2) * (d.2 - c.2)) * (p.1 - c.1) := by grind
      have k2 := mulq_nn (by grind : 0 ≤ (d.1 - c.1) * (d.1 - c.1) + (d.2 - c.2) * (d.2 - c.2)) (by grind : 0 ≤ p.1 - c.1)
      have k3 := le_of_mul (b := -((d.1 - c.1) * (p.1 - c.1) + (d.2 - c.2) * (p.2 - c.2))) a (by grind)
      grind
    · have k1 : (d.1 - c.1) * ((d.1 - c.1) * (p.1 - d.1) + (d.2 - c.2) * (p.2 - d.2)) = -(((d.1 - c.1) * (d.1 - c.1) + (d.2 - c.2) * (d.2 - c.2)) * (d.1 - p.1)) := by grind
      have k2 := mulq_nn (by grind : 0 ≤ (d.1 - c.1) * (d.1 - c.1) + (d.2 - c.2) * (d.2 - c.2)) (by grind : 0 ≤ d.1 - p.1)
      exact le_of_mul a (by grind)
  · have e : p.1 = c.1 := by
      have a : d.2 - c.2 ≠ 0 := by grind
      have : (d.2 - c.2) * (p.1 - c.1) = 0 := by grind
      grind
    have pc : c.2 ≤ p.2 := by
      by_cases q : p.2 < c.2
      · exact (l (.inr ⟨e, q⟩)).elim
      · exact nl q
    have pd : p.2 ≤ d.2 := by
      by_cases q : d.2 < p.2
      · exact (r (.inr ⟨by grind, q⟩)).elim
      · exact nl q
    have a : 0 < d.2 - c.2 := by grind
    have e0 : d.1 - c.1 = 0 := by grind
    rw [e0, Rat.zero_mul, Rat.zero_mul, Rat.zero_add, Rat.zero_add]
    constructor
    · exact mulq_nn (by grind : 0 ≤ d.2 - c.2) (by grind : 0 ≤ p.2 - c.2)
    · have k := mulq_nn (by grind : 0 ≤ d.2 - c.2) (by grind : 0 ≤ d.2 - p.2)
      have k2 : (d.2 - c.2) * (p.2 - d.2) = -((d.2 - c.2) * (d.2 - p.2)) := by grind
      rw [k2]
      grind
/-- the directions in which a zone ends -/
def opp (c : Qt) : Qt := (-c.1, -c.2)
def wayq (x y : Qt) : Qt := (y.1 - x.1, y.2 - x.2)
def axesQ : List Qt := [(1, 0), (0, 1), (-1, 0), (0, -1)]
def qN (C : List Qt) (k : Nat) : Qt := C.getD k (0, 0)
def normsQ (C : List Qt) : List Qt :=
  if C.length = 1 then axesQ
  else if C.length = 2 then [nrm (qN C 0) (qN C 1), wayq (qN C 0) (qN C 1), opp (nrm (qN C 0) (qN C 1)), opp (wayq (qN C 0) (qN C 1))]
  else (List.range C.length).map fun k => nrm (qN C k) (qN C ((k + 1) % C.length))
theorem qN_at {C : List Qt} {k : Nat} {x : Qt} (h : C[k]? = some x) : qN C k = x := by
  unfold qN
  rw [List.getD_eq_getElem?_getD, h]
  rfl
theorem one_in {c v : Qt} (h : v ∈ [c]) : v = c := List.mem_singleton.mp h
/-- what is beyond in no direction of normsQ is beyond in none -/
theorem ZoneQ.norms {P C : List Qt} (h : ZoneQ P C) {p : Qt} (hp : ∀ m ∈ normsQ C, ∃ v ∈ C, dot m p ≤ dot m v) (n : Qt) : ∃ v ∈ C, dot n p ≤ dot n v := by
  rcases three h.ne with ⟨c, rfl⟩ | ⟨c, d, rfl⟩ | h3
  · have e : normsQ [c] = axesQ := if_pos rfl
    rw [e] at hp
    have a : ∀ m ∈ axesQ, dot m p ≤ dot m c := fun m hm => by
      obtain ⟨v, hv, q⟩ := hp m hm
      rw [one_in hv] at q
      exact q
    have a1 := a (1, 0) (by simp [axesQ])
    have a2 := a (0, 1) (by simp [axesQ])
    have a3 := a (-1, 0) (by simp [axesQ])
    have a4 := a (0, -1) (by simp [axesQ])
    unfold dot at a1 a2 a3 a4
    dsimp only at a1 a2 a3 a4
    have e1 : p.1 = c.1 := by grind
    have e2 : p.2 = c.2 := by grind
    refine ⟨c, List.mem_singleton.mpr rfl, ?_⟩
    unfold dot
    rw [e1, e2]
    exact Rat.le_refl
  · have lt := h.least 1 c d (by decide) rfl rfl
    have e : normsQ [c, d] = [nrm c d, wayq c d, opp (nrm c d), opp (wayq c d)] := rfl
    rw [e] at hp
    have mm : ∀ m, m ∈ [nrm c d, wayq c d, opp (nrm c d), opp (wayq c d)] → dot m p ≤ dot m c ∨ dot m p ≤ dot m d := fun m hm => by
      obtain ⟨v, hv, q⟩ := hp m hm
      rcases List.mem_cons.mp hv with rfl | hv
      · exact .inl q
      · rw [one_in hv] at q
        exact .inr q
    have m1 := mm (nrm c d) (by simp)
    have m2 := mm (wayq c d) (by simp)
    have m3 := mm (opp (nrm c d)) (by simp)
    have m4 := mm (opp (wayq c d)) (by simp)
    have sN : 0 ≤ (d.1 - c.1) * (d.1 - c.1) + (d.2 - c.2) * (d.2 - c.2) := by
      have a := sq_nn (d.1 - c.1)
      have b := sq_nn (d.2 - c.2)
      grind
    have z : crq c d p = 0 := by
      have q1 : 0 ≤ crq c d p := by
        unfold crq
        unfold dot nrm at m1
        dsimp only at m1
        rcases m1 with m | m <;> grind
      have q2 : crq c d p ≤ 0 := by
        unfold crq
        unfold dot opp nrm at m3
        dsimp only at m3
        rcases m3 with m | m <;> grind
      grind
    have l : 0 ≤ (d.1 - c.1) * (p.1 - c.1) + (d.2 - c.2) * (p.2 - c.2) := by
      unfold dot opp wayq at m4
      dsimp only at m4
      rcases m4 with m | m <;> grind
    have r : (d.1 - c.1) * (p.1 - d.1) + (d.2 - c.2) * (p.2 - d.2) ≤ 0 := by
      unfold dot wayq at m2
      dsimp only at m2
      rcases m2 with m | m <;> grind
    rcases beyond_seg (ltq_ne lt) z l r with q | q
    · exact ⟨c, by simp, q⟩
    · exact ⟨d, by simp, q⟩
  · have H := h.hull h3
    have e : normsQ C = (List.range C.length).map fun k => nrm (qN C k) (qN C ((k + 1) % C.length)) := by
      unfold normsQ
      rw [if_neg (by omega), if_neg (by omega)]
    rw [e] at hp
    refine H.out h3 (fun k x y hk ex ey => ?_) n
    obtain ⟨v, hv, q⟩ := hp (nrm x y) (List.mem_map.mpr ⟨k, List.mem_range.mpr hk, by rw [qN_at ex, qN_at ey]⟩)
    have z := H.edge k x y hk ex ey v (H.sub v hv)
    rw [nrm_dot x y p, nrm_dot x y v] at q
    grind
theorem ZoneQ.cov {P C : List Qt} (h : ZoneQ P C) : Cov P C := fun n p hp => by
  rcases three h.ne with ⟨c, rfl⟩ | ⟨c, d, rfl⟩ | h3
  · rw [h.one c rfl p hp]
    exact ⟨c, List.mem_singleton.mpr rfl, Rat.le_refl⟩
  · have lt := h.least 1 c d (by decide) rfl rfl
    obtain ⟨z, l, r⟩ := h.two c d rfl p hp
    obtain ⟨l, r⟩ := between lt z l r
    rcases beyond_seg (ltq_ne lt) z l r with q | q
    · exact ⟨c, by simp, q⟩
    · exact ⟨d, by simp, q⟩
  · have H := h.hull h3
    exact H.out h3 (fun k x y hk ex ey => H.edge k x y hk ex ey p hp) n
theorem dot2 (a b : Rat) (p : Qt) : dot (a, b) p = a * p.1 + b * p.2 := rfl
/-- the same corners tell more points that lie in the zone -/
theorem ZoneQ.more {P C P' : List Qt} (h : ZoneQ P C) (hs : ∀ x ∈ C, x ∈ P') (hc : Cov P' C) : ZoneQ P' C := by
  refine ⟨h.ne, h.least, fun c e p hp => ?_, fun c d e p hp => ?_, fun h3 => ?_, hs⟩
  · subst e
    have a : ∀ m, dot m p ≤ dot m c := fun m => by
      obtain ⟨v, hv, q⟩ := hc m p hp
      rw [one_in hv] at q
      exact q
    have a1 := a (1, 0)
    have a2 := a (0, 1)
    have a3 := a (-1, 0)
    have a4 := a (0, -1)
    rw [dot2, dot2] at a1 a2 a3 a4
    exact Prod.ext (by grind) (by grind)
  · subst e
    have lt := h.least 1 c d (by decide) rfl rfl
    have mm : ∀ m, dot m p ≤ dot m c ∨ dot m p ≤ dot m d := fun m => by
      obtain ⟨v, hv, q⟩ := hc m p hp
      rcases List.mem_cons.mp hv with rfl | hv
      · exact .inl q
      · rw [one_in hv] at q
        exact .inr q
    have z : crq c d p = 0 := by
      have m1 := mm (nrm c d)
      have m3 := mm (opp (nrm c d))
      have q1 : 0 ≤ crq c d p := by
        unfold crq
        unfold dot nrm at m1
        dsimp only at m1
        rcases m1 with m | m <;> grind
      have q2 : crq c d p ≤ 0 := by
        unfold crq
        unfold dot opp nrm at m3
        dsimp only at m3
        rcases m3 with m | m <;> grind
      grind
    have a1 := mm (1, 0)
    have a2 := mm (0, 1)
    have a3 := mm (-1, 0)
    have a4 := mm (0, -1)
    rw [dot2, dot2, dot2] at a1 a2 a3 a4
    unfold ltq at lt
    unfold crq at z
    refine ⟨by unfold crq; exact z, ?_, ?_⟩
    · unfold ltq
      rintro (q | ⟨q1, q2⟩)
      · rcases lt with l | ⟨l1, l2⟩ <;> rcases a3 with a3 | a3 <;> grind
      · rcases lt with l | ⟨l1, l2⟩
        · have : (d.1 - c.1) * (p.2 - c.2) = 0 := by grind
          have n : d.1 - c.1 ≠ 0 := by grind
          have : p.2 - c.2 = 0 := by grind
          grind
        · rcases a4 with a4 | a4 <;> grind
    · unfold ltq
      rintro (q | ⟨q1, q2⟩)
      · rcases lt with l | ⟨l1, l2⟩ <;> rcases a1 with a1 | a1 <;> grind
      · rcases lt with l | ⟨l1, l2⟩
        · have : (d.1 - c.1) * (p.2 - d.2) = 0 := by grind
          have n : d.1 - c.1 ≠ 0 := by grind
          have : p.2 - d.2 = 0 := by grind
          grind
        · rcases a2 with a2 | a2 <;> grind
  · have H := h.hull h3
    refine ⟨hs, fun k x y hk ex ey p hp => ?_, H.turn⟩
    obtain ⟨v, hv, q⟩ := hc (nrm x y) p hp
    have z := H.edge k x y hk ex ey v (H.sub v hv)
    rw [nrm_dot x y p, nrm_dot x y v] at q
    grind
/-! ### from whole numbers -/
theorem toQ_inj {S T : Int} (hS : 0 < S) (hT : 0 < T) {p q : Pt} (h : toQ S T p = toQ S T q) : p = q := by
  have s := cast_pos hS
  have t := cast_pos hT
  unfold toQ at h
  have h1 := congrArg Prod.fst h
  have h2 := congrArg Prod.snd h
  dsimp only at h1 h2
  have e1 : (p.1 : Rat) = (q.1 : Rat) := by grind
  have e2 : (p.2 : Rat) = (q.2 : Rat) := by grind
  exact Prod.ext (by exact_mod_cast e1) (by exact_mod_cast e2)
theorem div_lt {S : Int} (hS : 0 < S) {a b : Int} : (a : Rat) / (S : Rat) < (b : Rat) / (S : Rat) ↔ a < b := by
  have s := cast_pos hS
  have e : (b : Rat) / (S : Rat) - (a : Rat) / (S : Rat) = ((b : Rat) - (a : Rat)) / (S : Rat) := by grind
  constructor
  · intro h
    by_cases q : a < b
    · exact q
    · exfalso
      have z : (b : Rat) ≤ (a : Rat) := by exact_mod_cast (show b ≤ a by omega)
      have k : (S : Rat) * ((b : Rat) / (S : Rat) - (a : Rat) / (S : Rat)) = (b : Rat) - (a : Rat) := by grind
      have k2 := mulq_pp s (by grind : 0 < (b : Rat) / (S : Rat) - (a : Rat) / (S : Rat))
      grind
  · intro h
    have z : (a : Rat) < (b : Rat) := by exact_mod_cast h
    have k : (S : Rat) * ((b : Rat) / (S : Rat) - (a : Rat) / (S : Rat)) = (b : Rat) - (a : Rat) := by grind
    by_cases q : (a : Rat) / (S : Rat) < (b : Rat) / (S : Rat)
    · exact q
    · exfalso
      have k2 := mulq_nn (by grind : 0 ≤ (S : Rat)) (by grind : 0 ≤ (a : Rat) / (S : Rat) - (b : Rat) / (S : Rat))
      grind
theorem div_inj {S : Int} (hS : 0 < S) {a b : Int} (h : (a : Rat) / (S : Rat) = (b : Rat) / (S : Rat)) : a = b := by
  have s := cast_pos hS
  have e1 : (a : Rat) = (b : Rat) := by grind
  exact_mod_cast e1
theorem ltq_toQ {S T : Int} (hS : 0 < S) (hT : 0 < T) {p q : Pt} : ltq (toQ S T p) (toQ S T q) ↔ lt p q := by
  unfold ltq lt toQ
  dsimp only
  rw [div_lt hS, div_lt hT]
  constructor
  · rintro (h | ⟨h, g⟩)
    · exact .inl h
    · exact .inr ⟨div_inj hS h, g⟩
  · rintro (h | ⟨h, g⟩)
    · exact .inl h
    · exact .inr ⟨by rw [h], g⟩
theorem crq_zero {S T : Int} (hS : 0 < S) (hT : 0 < T) {a b c : Pt} (h : cr a b c = 0) : crq (toQ S T a) (toQ S T b) (toQ S T c) = 0 := by
  have z1 := crq_nn hS hT (a := a) (b := b) (c := c) (by omega)
  have e := cr_cast hS hT a b c
  rw [h] at e
  have p := mulq_pp (cast_pos hS) (cast_pos hT)
  have e0 : ((0 : Int) : Rat) = 0 := rfl
  rw [e0] at e
  by_cases q : crq (toQ S T a) (toQ S T b) (toQ S T c) = 0
  · exact q
  · exfalso
    have k := mulq_pp p (by grind : 0 < crq (toQ S T a) (toQ S T b) (toQ S T c))
    grind
theorem HullS.zone {S C : List Pt} (hS : S.Pairwise lt) (ne : S ≠ []) (h : HullS S C) {A B : Int} (hA : 0 < A) (hB : 0 < B) : ZoneQ (S.map (toQ A B)) (C.map (toQ A B)) := by
  have l0 := List.length_pos_iff.mpr ne
  have at_ : ∀ {k : Nat} {x : Qt}, (C.map (toQ A B))[k]? = some x → ∃ y, C[k]? = some y ∧ x = toQ A B y := fun {k x} e => by
    rw [List.getElem?_map] at e
    cases q : C[k]? with
    | none =>
      rw [q] at e
      cases e
    | some y =>
      rw [q] at e
      exact ⟨y, rfl, (Option.some.inj e).symm⟩
  by_cases q : S.length = 1
  · have e := h.one q
    subst e
    match C, q with
    | [c], _ =>
      refine ⟨(fun e => nomatch e), (fun k a x hk ha hx => ?_), (fun c' e p hp => ?_), (fun c' d e => nomatch e), (fun h3 => ?_), fun x hx => hx⟩
      · have hl := (List.getElem?_eq_some_iff.mp hx).1
        simp at hl
        omega
      · cases e
        exact one_in hp
      · simp at h3
  · have H := h.ok hS (by omega)
    refine ⟨fun e => ?_, fun k a x hk ha hx => ?_, fun c e => ?_, fun c d e p hp => ?_, fun _ => H.toQ hA hB, (H.toQ hA hB).sub⟩
    · have := congrArg List.length e
      have h2 := H.two
      simp at this
      subst this
      simp at h2
    · obtain ⟨a', ea, rfl⟩ := at_ ha
      obtain ⟨x', ex, rfl⟩ := at_ hx
      exact (ltq_toQ hA hB).mpr (H.least k a' x' hk ea ex)
    · have := congrArg List.length e
      have h2 := H.two
      simp at this
      omega
    · match C, e, H with
      | [c', d'], e, H =>
        cases e
        obtain ⟨p', hp', rfl⟩ := List.mem_map.mp hp
        obtain ⟨z1, z2, z3⟩ := H.seg c' d' rfl p' hp'
        exact ⟨crq_zero hA hB z1, fun w => z2 ((ltq_toQ hA hB).mp w), fun w => z3 ((ltq_toQ hA hB).mp w)⟩
end Hu

set_option Elab.async false
set_option maxRecDepth 100000
set_option maxHeartbeats 4000000
set_option exponentiation.threshold 20000
/-! Common bottoms, points scaled to whole numbers, corners: mathematics. -/
namespace Fk
open PySem L2
theorem shStep_lcm (n k : Nat) (x : Int) : shStep (n : Int) (x, (k : Int)) = ((Nat.lcm n k : Nat) : Int) := by
  unfold shStep Nat.lcm
  rw [Int.natAbs_natCast, Int.natAbs_natCast]
  have h := Nat.div_mul_right_comm (Nat.gcd_dvd_left n k) k
  rw [← h]
  push_cast
  rfl
theorem shStep_dvd {s M : Int} {x : Int × Int} (s0 : 0 < s) (x0 : 0 < x.2) (hs : s ∣ M) (hx : x.2 ∣ M) : shStep s x ∣ M := by
  obtain ⟨a, b⟩ := x
  obtain ⟨n, rfl⟩ : ∃ n : Nat, s = (n : Int) := ⟨s.toNat, by omega⟩
  obtain ⟨k, rfl⟩ : ∃ k : Nat, b = (k : Int) := ⟨b.toNat, by simp at x0; omega⟩
  rw [shStep_lcm]
  have h1 : n ∣ M.natAbs := by
    have := Int.natAbs_dvd_natAbs.mpr hs
    simpa using this
  have h2 : k ∣ M.natAbs := by
    have := Int.natAbs_dvd_natAbs.mpr hx
    simpa using this
  have z := Nat.lcm_dvd h1 h2
  exact Int.natAbs_dvd_natAbs.mp (by simpa using z)
theorem shFold_dvd {M : Int} : ∀ (fs : List (Int × Int)) (s : Int), 0 < s → s ∣ M → (∀ x ∈ fs, 0 < x.2 ∧ x.2 ∣ M) → fs.foldl shStep s ∣ M
  | [], _, _, h, _ => h
  | x :: fs, s, s0, h, hx => by
    obtain ⟨x0, xd⟩ := hx x List.mem_cons_self
    exact shFold_dvd fs (shStep s x) (shStep_pos s0 x0) (shStep_dvd s0 x0 h xd) fun y hy => hx y (List.mem_cons_of_mem _ hy)
theorem shF_dvd {fs : List (Int × Int)} {M : Int} (h : ∀ x ∈ fs, 0 < x.2 ∧ x.2 ∣ M) : shF fs ∣ M := shFold_dvd fs 1 (by decide) (Int.one_dvd M) h
theorem shF_pos {fs : List (Int × Int)} (h : ∀ x ∈ fs, 0 < x.2) : 0 < shF fs := (shF_facts fs 1 (by decide) h).1
theorem shF_of {fs : List (Int × Int)} (h : ∀ x ∈ fs, 0 < x.2) : ∀ x ∈ fs, x.2 ∣ shF fs := (shF_facts fs 1 (by decide) h).2.2
theorem shF_uniq {fs gs : List (Int × Int)} (hf : ∀ x ∈ fs, 0 < x.2) (h : ∀ x, x ∈ fs ↔ x ∈ gs) : shF fs = shF gs := by
  have hg : ∀ x ∈ gs, 0 < x.2 := fun x hx => hf x ((h x).mpr hx)
  have a := shF_dvd (fs := fs) (M := shF gs) fun x hx => ⟨hf x hx, shF_of hg x ((h x).mp hx)⟩
  have b := shF_dvd (fs := gs) (M := shF fs) fun x hx => ⟨hg x hx, shF_of hf x ((h x).mpr hx)⟩
  have p := shF_pos hf
  have q := shF_pos hg
  exact Int.dvd_antisymm (by omega) (by omega) a b
theorem dvd_bd {m : Nat} {a M : Int} (M0 : 0 < M) (h : a ∣ M) (a0 : 0 < a) (hM : Bd m M) : Bd m a := by
  have := Int.le_of_dvd M0 h
  unfold Bd at *
  omega
/-- bottoms that divide one number -/
structure PtOk (M : Int) (x : Po) : Prop where
  f : FineP 1000 x
  d1 : x.1.2 ∣ M
  d2 : x.2.2 ∣ M
def fs1 (xs : List Po) : List (Int × Int) := xs.map (·.1)
def fs2 (xs : List Po) : List (Int × Int) := xs.map (·.2)
def scX (xs : List Po) : Int := shF (fs1 xs)
def scY (xs : List Po) : Int := shF (fs2 xs)
def spotF (S T : Int) (x : Po) : Hu.Pt := (x.1.1 * (S / x.1.2), x.2.1 * (T / x.2.2))
def lowS (S T : Int) (p : Hu.Pt) : Po := (lowI p.1 S, lowI p.2 T)
def qP (x : Po) : Hu.Qt := (qv x.1, qv x.2)
structure RedP (x : Po) : Prop where
  a : Red x.1
  b : Red x.2
theorem qP_inj {x y : Po} (hx : RedP x) (hy : RedP y) (h : qP x = qP y) : x = y := Prod.ext (qv_inj hx.a hy.a (congrArg Prod.fst h)) (qv_inj hx.b hy.b (congrArg Prod.snd h))
theorem qv_spot {x : Int × Int} {S : Int} (x0 : 0 < x.2) (S0 : 0 < S) (h : x.2 ∣ S) : ((x.1 * (S / x.2) : Int) : Rat) / (S : Rat) = qv x := by
  obtain ⟨u, rfl⟩ := h
  rw [Int.mul_ediv_cancel_left _ (by omega)]
  have u0 : 0 < u := by
    by_cases q : 0 < u
    · exact q
    · exfalso
      have := Int.mul_nonneg (Int.le_of_lt x0) (show 0 ≤ -u by omega)
      rw [Int.mul_neg] at this
      omega
  have a := cast_ne x0
  have b := cast_ne u0
  unfold qv
  push_cast
  grind
theorem spot_q {S T : Int} {x : Po} (h1 : 0 < x.1.2) (h2 : 0 < x.2.2) (hS : 0 < S) (hT : 0 < T) (d1 : x.1.2 ∣ S) (d2 : x.2.2 ∣ T) : Hu.toQ S T (spotF S T x) = qP x := Prod.ext (qv_spot h1 hS d1) (qv_spot h2 hT d2)
theorem low_q {S T : Int} (hS : 0 < S) (hT : 0 < T) (p : Hu.Pt) : qP (lowS S T p) = Hu.toQ S T p := Prod.ext (qv_low hS) (qv_low hT)
theorem lowS_red {S T : Int} (hS : 0 < S) (hT : 0 < T) (p : Hu.Pt) : RedP (lowS S T p) := ⟨low_red hS, low_red hT⟩
/-- C are the corners of the hull of xs -/
structure HullP (xs C : List Po) : Prop where
  ex : ∃ S D : List Hu.Pt, S.Pairwise Hu.lt ∧ (∀ p, p ∈ S ↔ p ∈ xs.map (spotF (scX xs) (scY xs))) ∧ Hu.HullS S D ∧ C = D.map (lowS (scX xs) (scY xs))
section
variable {xs ys C D : List Po}
theorem pos1 (h : ∀ x ∈ xs, 0 < x.1.2 ∧ 0 < x.2.2) : ∀ f ∈ fs1 xs, 0 < f.2 := fun f hf => by
  obtain ⟨x, hx, rfl⟩ := List.mem_map.mp hf
  exact (h x hx).1
theorem pos2 (h : ∀ x ∈ xs, 0 < x.1.2 ∧ 0 < x.2.2) : ∀ f ∈ fs2 xs, 0 < f.2 := fun f hf => by
  obtain ⟨x, hx, rfl⟩ := List.mem_map.mp hf
  exact (h x hx).2
theorem mem_maps {α β : Type} {f : α → β} {xs ys : List α} (m : ∀ x, x ∈ xs ↔ x ∈ ys) (y : β) : y ∈ xs.map f ↔ y ∈ ys.map f := by
  constructor
  · intro h
    obtain ⟨x, hx, rfl⟩ := List.mem_map.mp h
    exact List.mem_map.mpr ⟨x, (m x).mp hx, rfl⟩
  · intro h
    obtain ⟨x, hx, rfl⟩ := List.mem_map.mp h
    exact List.mem_map.mpr ⟨x, (m x).mpr hx, rfl⟩
theorem HullP.uniq (h : ∀ x ∈ xs, 0 < x.1.2 ∧ 0 < x.2.2) (ne : xs ≠ []) (m : ∀ x, x ∈ xs ↔ x ∈ ys) (hC : HullP xs C) (hD : HullP ys D) : C = D := by
  obtain ⟨S, A, s1, s2, s3, rfl⟩ := hC.ex
  obtain ⟨T, B, t1, t2, t3, rfl⟩ := hD.ex
  have ex : scX xs = scX ys := shF_uniq (pos1 h) (mem_maps m)
  have ey : scY xs = scY ys := shF_uniq (pos2 h) (mem_maps m)
  rw [← ex, ← ey] at t2 ⊢
  have eS : S = T := Hu.srt_uniq s1 t1 fun p => by
    rw [s2 p, t2 p]
    exact mem_maps m p
  subst eS
  have nS : S ≠ [] := by
    obtain ⟨x, hx⟩ := List.exists_mem_of_ne_nil _ ne
    exact List.ne_nil_of_mem ((s2 _).mpr (List.mem_map.mpr ⟨x, hx, rfl⟩))
  rw [s3.uniq s1 nS t3]
theorem HullP.zone (h : ∀ x ∈ xs, 0 < x.1.2 ∧ 0 < x.2.2) (ne : xs ≠ []) (hC : HullP xs C) : Hu.ZoneQ (xs.map qP) (C.map qP) := by
  obtain ⟨S, A, s1, s2, s3, rfl⟩ := hC.ex
  have pX : 0 < scX xs := shF_pos (pos1 h)
  have pY : 0 < scY xs := shF_pos (pos2 h)
  have nS : S ≠ [] := by
    obtain ⟨x, hx⟩ := List.exists_mem_of_ne_nil _ ne
    exact List.ne_nil_of_mem ((s2 _).mpr (List.mem_map.mpr ⟨x, hx, rfl⟩))
  have z := s3.zone s1 nS pX pY
  have eD : (A.map (lowS (scX xs) (scY xs))).map qP = A.map (Hu.toQ (scX xs) (scY xs)) := by
    rw [List.map_map]
    exact List.map_congr_left fun p _ => low_q pX pY p
  have m : ∀ q, q ∈ S.map (Hu.toQ (scX xs) (scY xs)) ↔ q ∈ xs.map qP := fun q => by
    have sp : ∀ x ∈ xs, Hu.toQ (scX xs) (scY xs) (spotF (scX xs) (scY xs) x) = qP x := fun x hx =>
      spot_q (h x hx).1 (h x hx).2 pX pY (shF_of (pos1 h) _ (List.mem_map.mpr ⟨x, hx, rfl⟩)) (shF_of (pos2 h) _ (List.mem_map.mpr ⟨x, hx, rfl⟩))
    constructor
    · intro hq
      obtain ⟨p, hp, rfl⟩ := List.mem_map.mp hq
      obtain ⟨x, hx, rfl⟩ := List.mem_map.mp ((s2 p).mp hp)
      exact List.mem_map.mpr ⟨x, hx, (sp x hx).symm⟩
    · intro hq
      obtain ⟨x, hx, rfl⟩ := List.mem_map.mp hq
      exact List.mem_map.mpr ⟨_, (s2 _).mpr (List.mem_map.mpr ⟨x, hx, rfl⟩), sp x hx⟩
  rw [eD]
  refine z.more (fun x hx => (m x).mp (z.sub x hx)) fun n p hp => ?_
  exact z.cov n p ((m p).mpr hp)
theorem HullP.red (h : ∀ x ∈ xs, 0 < x.1.2 ∧ 0 < x.2.2) (hC : HullP xs C) : ∀ c ∈ C, RedP c := fun c hc => by
  obtain ⟨S, A, s1, s2, s3, rfl⟩ := hC.ex
  obtain ⟨p, _, rfl⟩ := List.mem_map.mp hc
  exact lowS_red (shF_pos (pos1 h)) (shF_pos (pos2 h)) p
theorem HullP.sub (h : ∀ x ∈ xs, RedP x) (ne : xs ≠ []) (hC : HullP xs C) : ∀ c ∈ C, c ∈ xs := fun c hc => by
  have h0 : ∀ x ∈ xs, 0 < x.1.2 ∧ 0 < x.2.2 := fun x hx => ⟨(h x hx).a.p, (h x hx).b.p⟩
  have z := (hC.zone h0 ne).sub (qP c) (List.mem_map.mpr ⟨c, hc, rfl⟩)
  obtain ⟨x, hx, e⟩ := List.mem_map.mp z
  have := qP_inj (h x hx) (hC.red h0 c hc) e
  rw [← this]
  exact hx
end
/-! ### keys of a dict -/
def keyP (p : Hu.Pt) : List Key := [.inl p.1, .inl p.2]
def kvsP (l : List Hu.Pt) : List (List Key × V) := l.map fun p => (keyP p, .bl true)
theorem keyP_inj {p q : Hu.Pt} (h : keyP p = keyP q) : p = q := by
  unfold keyP at h
  injection h with h1 h2
  injection h2 with h2 _
  exact Prod.ext (Sum.inl.inj h1) (Sum.inl.inj h2)
theorem putP_new (l : List Hu.Pt) (p : Hu.Pt) (h : p ∉ l) : putK (kvsP l) (keyP p) (.bl true) = kvsP (l ++ [p]) := by
  unfold putK
  rw [if_neg]
  · unfold kvsP
    rw [List.map_append]
    rfl
  · intro e
    rw [List.any_eq_true] at e
    obtain ⟨kv, hm, hd⟩ := e
    obtain ⟨q, hq, rfl⟩ := List.mem_map.mp hm
    have := keyP_inj (of_decide_eq_true hd)
    exact h (this ▸ hq)
theorem putP_old (l : List Hu.Pt) (p : Hu.Pt) (h : p ∈ l) : putK (kvsP l) (keyP p) (.bl true) = kvsP l := by
  unfold putK
  rw [if_pos]
  · unfold kvsP
    rw [List.map_map]
    refine List.map_congr_left fun q _ => ?_
    dsimp only [Function.comp]
    split <;> rfl
  · rw [List.any_eq_true]
    exact ⟨_, List.mem_map.mpr ⟨p, h, rfl⟩, decide_eq_true rfl⟩
/-- each of the first points once -/
def Seen (qs l : List Hu.Pt) : Prop := l.Nodup ∧ (∀ p, p ∈ l ↔ p ∈ qs) ∧ l.length ≤ qs.length
theorem Seen.put {qs l : List Hu.Pt} (h : Seen qs l) (p : Hu.Pt) : ∃ l', putK (kvsP l) (keyP p) (.bl true) = kvsP l' ∧ Seen (qs ++ [p]) l' := by
  obtain ⟨h1, h2, h3⟩ := h
  by_cases e : p ∈ l
  · refine ⟨l, putP_old l p e, h1, fun q => ?_, by rw [List.length_append]; omega⟩
    rw [List.mem_append, ← h2 q, List.mem_singleton]
    constructor
    · exact .inl
    · rintro (z | rfl)
      · exact z
      · exact e
  · refine ⟨l ++ [p], putP_new l p e, ?_, fun q => ?_, by rw [List.length_append, List.length_append]; exact Nat.add_le_add_right h3 _⟩
    · rw [List.nodup_append]
      refine ⟨h1, List.pairwise_singleton _ _, fun a ha b hb => ?_⟩
      rw [List.mem_singleton.mp hb]
      intro z
      exact e (z ▸ ha)
    · rw [List.mem_append, List.mem_append, h2 q]
end Fk

set_option Elab.async false
set_option maxRecDepth 100000
set_option maxHeartbeats 4000000
set_option exponentiation.threshold 20000
/-! The corners of points. -/
namespace Fk
open PySem L2
theorem nodup_len {α : Type} [DecidableEq α] : ∀ {l m : List α}, l.Nodup → (∀ x ∈ l, x ∈ m) → l.length ≤ m.length
  | [], _, _, _ => Nat.zero_le _
  | x :: l, m, h, g => by
    obtain ⟨h1, h2⟩ := List.nodup_cons.mp h
    have hm := g x List.mem_cons_self
    have z := nodup_len (l := l) (m := m.erase x) h2 fun y hy => (List.mem_erase_of_ne (fun e : y = x => h1 (by rw [← e]; exact hy))).mpr (g y (List.mem_cons_of_mem _ hy))
    rw [List.length_erase_of_mem hm] at z
    have := List.length_pos_of_mem hm
    rw [List.length_cons]
    omega
theorem cutV_m1 (xs : List V) (h : 1 ≤ xs.length) : cutV xs none (some (-1)) = xs.take (xs.length - 1) := by
  unfold cutV
  have e : HT.sIx xs.length xs.length (some (-1)) = xs.length - 1 := by
    show (if (-1 : Int) < 0 then ((-1 : Int) + (xs.length : Int)).toNat else min (-1 : Int).toNat xs.length) = _
    rw [if_pos (by decide)]
    omega
  rw [e, HT.sIx_none, List.drop_zero, Nat.sub_zero]
theorem cut_last {qs : List Addr} (h : 1 ≤ qs.length) : cutV (rv qs) none (some (-1)) = rv qs.dropLast := by
  rw [cutV_m1 _ (by rw [rv_len]; exact h), rv_len, List.dropLast_eq_take]
  unfold rv
  rw [List.map_take]
theorem PairsAt.app {H : Hp} {ps qs : List Addr} {fs gs : List (Int × Int)} (h : PairsAt H ps fs) (g : PairsAt H qs gs) : PairsAt H (ps ++ qs) (fs ++ gs) := by
  refine ⟨by rw [List.length_append, List.length_append, h.1, g.1], fun i p x a b => ?_⟩
  by_cases hi : i < ps.length
  · rw [List.getElem?_append_left hi] at a
    rw [List.getElem?_append_left (by rw [← h.1]; exact hi)] at b
    exact h.2 i p x a b
  · rw [List.getElem?_append_right (by omega)] at a
    rw [List.getElem?_append_right (by rw [← h.1]; omega), ← h.1] at b
    exact g.2 _ p x a b
theorem PairsAt.rev {H : Hp} {ps : List Addr} {fs : List (Int × Int)} (h : PairsAt H ps fs) : PairsAt H ps.reverse fs.reverse := by
  refine ⟨by rw [List.length_reverse, List.length_reverse, h.1], fun i p x a b => ?_⟩
  have hi := (List.getElem?_eq_some_iff.mp a).1
  rw [List.length_reverse] at hi
  rw [List.getElem?_reverse hi] at a
  rw [List.getElem?_reverse (by rw [← h.1]; exact hi), ← h.1] at b
  exact h.2 _ p x a b
theorem keys_pairs {H : Hp} : ∀ {l : List Hu.Pt} {bs : List Addr}, IsKeys H (kvsP l) bs → PairsAt H bs l
  | [], [], _ => pairs_nil
  | [], _ :: _, h => nomatch h
  | _ :: _, [], h => nomatch h
  | p :: l, b :: bs, h => by
    cases h with
    | cons h1 h2 =>
      have z := keys_pairs (l := l) (bs := bs) h2
      refine ⟨by rw [List.length_cons, List.length_cons, z.1], fun i q x e1 e2 => ?_⟩
      cases i with
      | zero =>
        cases e1
        cases e2
        exact h1
      | succ i => exact z.2 i q x e1 e2
/-- what stands at a place, as a pair -/
def kf (H : Hp) (v : V) : Int × Int := match v with
  | .ref b => (match H b with
    | some (.tup [.int i, .int j]) => (i, j)
    | _ => (0, 0))
  | _ => (0, 0)
theorem kf_at {H : Hp} {b : Addr} {x : Int × Int} (h : RatAt H b x) : kf H (.ref b) = x := by
  unfold kf
  dsimp only
  rw [show H b = some (.tup [.int x.1, .int x.2]) from h]
def unr : V → Addr
  | .ref b => b
  | _ => 0
theorem unr_rv (bs : List Addr) : ∀ {ys : List V}, (∀ y ∈ ys, y ∈ rv bs) → rv (ys.map unr) = ys
  | [], _ => rfl
  | y :: ys, h => by
    have z := unr_rv bs (ys := ys) fun x hx => h x (List.mem_cons_of_mem _ hx)
    obtain ⟨b, _, rfl⟩ := List.mem_map.mp (h y List.mem_cons_self)
    unfold rv at z ⊢
    rw [List.map_cons, List.map_cons, z]
    rfl
theorem PairsAt.mem {H : Hp} {bs : List Addr} {l : List (Int × Int)} (h : PairsAt H bs l) {b : Addr} (hb : b ∈ bs) : ∃ x, x ∈ l ∧ RatAt H b x := by
  obtain ⟨i, hi⟩ := List.getElem?_of_mem hb
  have li := (List.getElem?_eq_some_iff.mp hi).1
  have li2 : i < l.length := by rw [← h.1]; exact li
  have e : l[i]? = some l[i] := List.getElem?_eq_getElem li2
  exact ⟨l[i], List.mem_of_getElem? e, h.2 i b _ hi e⟩
theorem pairs_kf {H : Hp} : ∀ {bs : List Addr} {l : List (Int × Int)}, PairsAt H bs l → (rv bs).map (kf H) = l
  | [], [], _ => rfl
  | [], _ :: _, h => nomatch h.1
  | _ :: _, [], h => nomatch h.1
  | b :: bs, x :: l, h => by
    have z := pairs_kf (bs := bs) (l := l) ⟨Nat.succ.inj h.1, fun i q y a b => h.2 (i + 1) q y a b⟩
    unfold rv at z ⊢
    rw [List.map_cons, List.map_cons, z, kf_at (h.2 0 b x rfl rfl)]
theorem pairs_of {H : Hp} (l : List (Int × Int)) : ∀ {bs : List Addr}, (∀ b ∈ bs, ∃ x, x ∈ l ∧ RatAt H b x) → PairsAt H bs ((rv bs).map (kf H))
  | [], _ => pairs_nil
  | b :: bs, h => by
    have z := pairs_of (H := H) l (bs := bs) fun x hx => h x (List.mem_cons_of_mem _ hx)
    refine ⟨by rw [List.length_map, rv_len], fun i q y e1 e2 => ?_⟩
    cases i with
    | zero =>
      cases e1
      cases e2
      obtain ⟨x, _, hx⟩ := h b List.mem_cons_self
      rw [kf_at hx]
      exact hx
    | succ i => exact z.2 i q y e1 e2
theorem sorted_spots {H : Hp} {bs : List Addr} {l : List Hu.Pt} {ys : List V} (h : PairsAt H bs l) (nd : l.Nodup) (hs : SrtO.Srtd (ltP (kf H)) ys) (hp : SrtO.Stb (ltP (kf H)) ys (rv bs)) :
    ∃ (cs : List Addr) (S : List Hu.Pt), ys = rv cs ∧ PairsAt H cs S ∧ S.Pairwise Hu.lt ∧ ∀ p, p ∈ S ↔ p ∈ l := by
  have hm : ∀ y ∈ ys, y ∈ rv bs := fun y hy => hp.perm.mem_iff.mp hy
  have e := unr_rv bs hm
  have pr : (ys.map (kf H)).Perm l := by
    have z := hp.perm.map (kf H)
    rw [pairs_kf h] at z
    exact z
  refine ⟨ys.map unr, ys.map (kf H), e.symm, ?_, ?_, fun p => pr.mem_iff⟩
  · have z := pairs_of (H := H) l (bs := ys.map unr) fun b hb => by
      obtain ⟨y, hy, rfl⟩ := List.mem_map.mp hb
      obtain ⟨c, hc, rfl⟩ := List.mem_map.mp (hm y hy)
      exact h.mem hc
    rw [e] at z
    exact z
  · have n2 : (ys.map (kf H)).Nodup := pr.nodup_iff.mpr nd
    have s2 : (ys.map (kf H)).Pairwise fun p q => SrtO.lexB q p = false := List.pairwise_map.mpr hs
    refine (s2.and n2).imp fun {p q} z => ?_
    have z1 := SrtO.lexB_no.mp z.1
    rcases Hu.tri p q with g | g | g
    · exact g
    · exact absurd g z.2
    · exact absurd g z1
def spSharedM : Sp := fun vs H Q _ => ∃ (l : Addr) (ps : List Addr) (fs : List (Int × Int)) (M : Int) (m : Nat), vs = [.ref l] ∧ H l = some (.lst (rv ps)) ∧ PairsAt H ps fs ∧ (∀ x ∈ fs, 0 < x.2 ∧ x.2 ∣ M) ∧ 0 < M ∧ Bd m M ∧ m ≤ 13000 ∧ Q (.int (shF fs)) H
abbrev sCorn : Stmt := top 30
abbrev nsCo : List Str := ["points", "scales", "whole", "point", "spot", "spots", "corners", "k", "ratio", "scale", "x", "y"]
section
variable {P : Program} {w : World} {K : PySem.W.Frag} {mg : Str → Option Value} {base : Heap}
theorem ok_sharedM {f : Addr} {fd : FuncData} (F : Fun K "shared_bottom" "shared_bottom" sShared f fd) (mgc : mg "gcd" = some (.builtin "math.gcd")) : FnOk P w K mg base CX0 1 f fd ["ratios"] spSharedM := by
  refine F.ok scShared (fun vs H Q E h => ?_) (fun cdv A outer s H vs Q E hr h => ?_)
  · obtain ⟨l, ps, fs, M, m, rfl, _⟩ := h
    rfl
  · obtain ⟨l, ps, fs, M, m, rfl, hl, hps, hf, M0, hM, hm, k⟩ := h
    refine ⟨_, pss_cons (ps_set (i := 1) scShared.nd rfl (Or.inl rfl) pe_int)
      (pss_cons (ps_for PassesOwn.never rfl (pi_list (pv 0)) (pg_name (i := 2) scShared.nd rfl (Or.inl rfl))
        (pss_one (ps_set (i := 1) scShared.nd rfl (Or.inl rfl) (pe_op op_mulW (pe_op op_fdivB (pv 1) (pe_callBfun cr_gcd (by rfl) mgc (pa_cons (pv 1) (pa_cons (pe_ix ix_tup (pv 2) pe_int (fun _ _ => rfl)) pa_nil)))) (pe_ix ix_tup (pv 2) pe_int (fun _ _ => rfl))))))
      (pss_one (ps_ret (pv 1)))), ?_⟩
    have pl := hps.1
    refine ⟨_, rfl, l, rfl, ⟨_, SqL.of hl⟩, for_list (K := K) (a := l) (xs := rv ps) (fun i σ H' => H' = H ∧ ∃ v : Option V, σ = [some (.ref l), some (.int (shF (fs.take i))), v]) ⟨rfl, none, rfl⟩ (fun i σ H' _ ⟨e, _⟩ => e ▸ SqL.of hl) ?_ ?_⟩
    · rintro i x σ H' hx ⟨rfl, v, rfl⟩
      obtain ⟨p, y, rfl, hp, hy, hfr⟩ := hps.get hx
      have hym := List.mem_of_getElem? hy
      obtain ⟨y0, yd⟩ := hf y hym
      have st : SqT K H' p [.int y.1, .int y.2] := Or.inl (Or.inl hfr)
      have pp : 0 < shF (fs.take i) := shF_pos fun x hx => (hf x (List.mem_of_mem_take hx)).1
      have pb : Bd m (shF (fs.take i)) := dvd_bd M0 (shF_dvd fun x hx => hf x (List.mem_of_mem_take hx)) pp hM
      have yb : Bd m y.2 := dvd_bd M0 yd y0 hM
      have g0 := gcd_pos_int (a := shF (fs.take i)) y0
      have dle : shF (fs.take i) / ((Nat.gcd (shF (fs.take i)).natAbs y.2.natAbs : Nat) : Int) ≤ shF (fs.take i) := Int.ediv_le_self _ (by omega)
      have d2 : 0 ≤ shF (fs.take i) / ((Nat.gcd (shF (fs.take i)).natAbs y.2.natAbs : Nat) : Int) := Int.ediv_nonneg (by omega) (by omega)
      have db : Bd m (shF (fs.take i) / ((Nat.gcd (shF (fs.take i)).natAbs y.2.natAbs : Nat) : Int)) := by
        unfold Bd at *
        omega
      refine ⟨_, rfl, _, rfl, _, rfl, p, _, 1, _, rfl, rfl, st, rfl, _, _, rfl, _, _, rfl, rfl, ⟨g0, Bd.big pb (by omega)⟩, _, rfl, p, _, 1, _, rfl, rfl, st, rfl, _, _, rfl, rfl, Bd.mul db yb (by omega) (by omega), rfl, some (.ref p), ?_⟩
      rw [List.take_add_one, hy]
      show _ = [some (V.ref l), some (V.int (shF (fs.take i ++ [y]))), some (V.ref p)]
      rw [shF_snoc]
      rfl
    · rintro σ H' ⟨rfl, v, rfl⟩
      rw [rv_len, pl, List.take_length]
      exact ⟨_, rfl, k⟩
def spCorn : Sp := fun vs H Q _ => ∃ (l : Addr) (ps : List Addr) (xs : List Po) (M : Int), vs = [.ref l] ∧ H l = some (.lst (rv ps)) ∧ PtsAt H ps xs ∧ xs ≠ [] ∧ xs.length ≤ 500 ∧ (∀ x ∈ xs, PtOk M x) ∧ 0 < M ∧ Bd 1000 M ∧ ∀ r qs C H', Same H H' → H' r = some (.tup (rv qs)) → PtsAt H' qs C → HullP xs C → Q (.ref r) H'
theorem scCorn : FnScope nsCo ["points"] (defScope sCorn) := ⟨rfl, rfl, rfl, by decide +kernel, rfl, by decide +kernel, by decide +kernel⟩
theorem ok_corn {f fS fC fL : Addr} {fd dS dC dL : FuncData} (F : Fun K "corners_of" "corners_of" sCorn f fd) (mz : mg "zip" = none) (mt : mg "tuple" = none) (ml : mg "len" = none) (mli : mg "list" = none) (ms : mg "sorted" = none)
    (S : Cl P w K mg base "shared_bottom" ["ratios"] 1 spSharedM fS dS) (C : Cl P w K mg base "lower_chain" ["spots"] 2 spChain fC dC) (L : Cl P w K mg base "lowest" ["top", "bottom"] 1 spLowest fL dL) : FnOk P w K mg base CX0 3 f fd ["points"] spCorn := by
  refine F.ok scCorn (fun vs H Q E h => ?_) (fun cdv A outer s H vs Q E hr h => ?_)
  · obtain ⟨l, ps, xs, M, rfl, _⟩ := h
    rfl
  · obtain ⟨l, ps, xs, M, rfl, hl, hX, ne, lX, hx, M0, hM, k⟩ := h
    have hr1 := hr.mono (show 1 ≤ 2 by decide)
    have hu := hu_of hr
    refine ⟨_, C8.pss_cut (ps_set (i := 1) scCorn.nd rfl (Or.inr rfl) (pe_lc (own := [("k", 7)]) (g := gName 7) (tt := tYes) rfl scCorn.nd (pi_tupK (K := K) rfl (pe_tup (pa_cons pe_int (pa_cons pe_int pa_nil)))) (blkOk_by (N := nsCo) (sc := defScope sCorn) (by decide +kernel)) (fun _ _ _ _ _ => pg_name (i := 7) scCorn.nd rfl (Or.inr rfl)) (fun _ _ _ _ _ => pts_nil)
        (fun _ _ _ _ _ => pe_call S.G hr1 (by rfl) S.g S.kp S.b .nil pass0 (pa_cons (pe_lc (own := [("point", 3)]) (g := gName 3) (tt := tYes) rfl scCorn.nd (pi_listK (K := K) rfl (pv 0)) (blkOk_by (N := nsCo) (by kernel_rfl)) (fun _ _ _ _ _ => pg_name (i := 3) scCorn.nd rfl (Or.inl rfl)) (fun _ _ _ _ _ => pts_nil)
            (fun _ _ _ _ _ => pe_ix (ix_anyK (K := K) rfl) (pv 3) (pv 7) (fun _ _ => rfl))) pa_nil))))
      (pss_cons (ps_set (i := 2) scCorn.nd rfl (Or.inl rfl) pe_dnewT)
      (C8.pss_cut (ps_for PassesOwn.never rfl (pi_listK (K := K) rfl (pv 0)) (pg_name (i := 3) scCorn.nd rfl (Or.inl rfl))
        (pss_cons (ps_setLc (i := 4) (own := [("ratio", 8), ("scale", 9)]) (g := gTup K 2 (gCons (gName 8) (gCons (gName 9) gNil))) (tt := tYes) rfl scCorn.nd rfl rfl (sw_true rfl rfl rfl rfl) (pi_zipBK (K := K) rfl (by rfl) mz (pa_cons (pv 3) (pa_cons (pv 1) pa_nil))) (blkOk_by (N := nsCo) (sc := defScope sCorn) (by decide +kernel))
            (fun _ _ _ _ _ => pg_tupK (K := K) (n := 2) rfl rfl (pgs_cons (pg_name (i := 8) scCorn.nd rfl (Or.inl rfl)) (pgs_cons (pg_name (i := 9) scCorn.nd rfl (Or.inl rfl)) pgs_nil))) (fun _ _ _ _ _ => pts_nil)
            (fun _ _ _ _ _ => pe_op op_mulW (pe_ix (ix_anyK (K := K) rfl) (pv 8) pe_int (fun _ _ => rfl)) (pe_op op_fdivB (pv 9) (pe_ix (ix_anyK (K := K) rfl) (pv 8) pe_int (fun _ _ => rfl)))))
        (pss_one (ps_dput hu (pv 2) (pe_callTy call_tuple_of (by rfl) mt (by decide +kernel) (pa_cons (pv 4) pa_nil)) pe_bl rfl))))
      (C8.pss_cut (ps_set (i := 5) scCorn.nd rfl (Or.inl rfl) (pe_callB cr_sortedPO (by rfl) ms (by decide +kernel) (pa_cons (pe_callTy (call_list_dT rfl) (by rfl) mli (by decide +kernel) (pa_cons (pv 2) pa_nil)) pa_nil)))
      (pss_cons (ps_set (i := 6) scCorn.nd rfl (Or.inl rfl) (pv 5))
      (C8.pss_cut (ps_if (pt_cmpR op_gt (pe_callB call_len_seq (by rfl) ml PySem.boot_len (pa_cons (pv 5) pa_nil)) pe_int (nomark _))
          (pss_one (ps_set (i := 6) scCorn.nd rfl (Or.inl rfl) (pe_op op_cat (pe_slice sl_list (pe_call C.G hr (by rfl) C.g C.kp C.b .nil pass0 (pa_cons (pv 5) pa_nil)) po_none (po_some (pe_un un_neg pe_int)))
            (pe_slice sl_list (pe_call C.G hr (by rfl) C.g C.kp C.b .nil pass0 (pa_cons (pe_revL (pv 5)) pa_nil)) po_none (po_some (pe_un un_neg pe_int)))))) pss_nil)
      (pss_one (ps_ret (pe_callTy call_tuple_of (by rfl) mt (by decide +kernel) (pa_cons (pe_lc (own := [("x", 10), ("y", 11)]) (g := gTup K 2 (gCons (gName 10) (gCons (gName 11) gNil))) (tt := tYes) rfl scCorn.nd (pi_listK (K := K) rfl (pv 6)) (blkOk_by (N := nsCo) (sc := defScope sCorn) (by decide +kernel))
          (fun _ _ _ _ _ => pg_tupK (K := K) (n := 2) rfl rfl (pgs_cons (pg_name (i := 10) scCorn.nd rfl (Or.inl rfl)) (pgs_cons (pg_name (i := 11) scCorn.nd rfl (Or.inl rfl)) pgs_nil))) (fun _ _ _ _ _ => pts_nil)
          (fun _ _ _ _ _ => pe_tup (pa_cons (pe_call L.G hr1 (by rfl) L.g L.kp L.b .nil pass0 (pa_cons (pv 10) (pa_cons (pe_ix (ix_anyK (K := K) rfl) (pv 1) pe_int (fun _ _ => rfl)) pa_nil))) (pa_cons (pe_call L.G hr1 (by rfl) L.g L.kp L.b .nil pass0 (pa_cons (pv 11) (pa_cons (pe_ix (ix_anyK (K := K) rfl) (pv 1) pe_int (fun _ _ => rfl)) pa_nil))) pa_nil)))) pa_nil))))))))), ?_⟩
    have h0 : ∀ x ∈ xs, 0 < x.1.2 ∧ 0 < x.2.2 := fun x hx' => ⟨(hx x hx').f.1.1, (hx x hx').f.2.1⟩
    have pX : 0 < scX xs := shF_pos (pos1 h0)
    have pY : 0 < scY xs := shF_pos (pos2 h0)
    have mX : ∀ f ∈ fs1 xs, 0 < f.2 ∧ f.2 ∣ M := fun f hf => by
      obtain ⟨x, hx', rfl⟩ := List.mem_map.mp hf
      exact ⟨(h0 x hx').1, (hx x hx').d1⟩
    have mY : ∀ f ∈ fs2 xs, 0 < f.2 ∧ f.2 ∣ M := fun f hf => by
      obtain ⟨x, hx', rfl⟩ := List.mem_map.mp hf
      exact ⟨(h0 x hx').2, (hx x hx').d2⟩
    have bX : Bd 1000 (scX xs) := dvd_bd M0 (shF_dvd mX) pX hM
    have bY : Bd 1000 (scY xs) := dvd_bd M0 (shF_dvd mY) pY hM
    have lp : (rv ps).length = xs.length := by rw [rv_len, hX.1]
    refine ⟨fun σ' H' => ∃ sc, σ' = [some (.ref l), some (.ref sc), none, none, none, none, none, none, none, none, none, none] ∧ Same H H' ∧ H' sc = some (.lst [.int (scX xs), .int (scY xs)]), ?_, ?_⟩
    · refine ⟨le2, fun t ht => ⟨t, rfl, ⟨_, .inl (.inl upd_same)⟩, fun D hD => ?_⟩⟩
      have s0 := same_new (o := .tup [.int 0, .int 1]) ht
      refine lc_tup (K := K) (a := t) (xs := [.int 0, .int 1]) (fun j H' => Same (upd H t (.tup [.int 0, .int 1])) H' ∧ H' D = some (.lst ([V.int (scX xs), V.int (scY xs)].take j))) ⟨same_new hD, upd_same⟩ (fun j H' _ z => .inl (.inl (z.1 _ _ upd_same))) ?_ ?_
      · rintro j v H2 hj ⟨s2, h2⟩
        have s02 := s0.trans s2
        obtain ⟨sel, rfl, hsel, hmm⟩ : ∃ sel : Po → Int × Int, v = .int (j : Int) ∧ (∀ (x : Po) (a b : Addr) (H : Hp), RatAt H a x.1 → RatAt H b x.2 → ∃ p, atI [V.ref a, V.ref b] (j : Int) = some (.ref p) ∧ RatAt H p (sel x)) ∧ (∀ f ∈ xs.map sel, 0 < f.2 ∧ f.2 ∣ M) ∧ [V.int (scX xs), V.int (scY xs)].take (j + 1) = [V.int (scX xs), V.int (scY xs)].take j ++ [.int (shF (xs.map sel))] ∧ ([V.int (scX xs), V.int (scY xs)].take j).length ≤ 1000 := by
          match j, hj with
          | 0, hj =>
            cases hj
            exact ⟨Prod.fst, rfl, fun x a b H h1 h2 => ⟨a, rfl, h1⟩, mX, rfl, by show 0 ≤ 1000; decide⟩
          | 1, hj =>
            cases hj
            exact ⟨Prod.snd, rfl, fun x a b H h1 h2 => ⟨b, rfl, h2⟩, mY, rfl, by show 1 ≤ 1000; decide⟩
        obtain ⟨hm1, hm2, hm3⟩ := hmm
        refine ⟨rfl, yesT ?_⟩
        refine ⟨_, rfl, l, rfl, ⟨_, SqL.of (s02 _ _ hl)⟩, fun D2 hD2 => ?_⟩
        refine lc_list (K := K) (a := l) (xs := rv ps) (fun i H' => Same H2 H' ∧ ∃ qs, H' D2 = some (.lst (rv qs)) ∧ PairsAt H' qs ((xs.take i).map sel)) ⟨same_new hD2, [], upd_same, pairs_nil⟩ (fun i H' _ z => SqL.of ((s02.trans z.1) _ _ hl)) ?_ ?_
        · rintro i y H3 hi ⟨s3, qs, hqs, hQ⟩
          obtain ⟨p, x, rfl, _, hx3, a, b, p1, p2, p3⟩ := (hX.same (s02.trans s3)).get hi
          obtain ⟨r, hr1', hr2⟩ := hsel x a b H3 p2 p3
          refine ⟨rfl, yesT ?_⟩
          refine ⟨_, rfl, _, rfl, p, _, _, _, rfl, rfl, .inr (.inl (.inl p1)), hr1', ?_⟩
          have e : (xs.take (i + 1)).map sel = (xs.take i).map sel ++ [sel x] := by
            rw [List.take_add_one, hx3]
            simp
          rw [e]
          exact grow hD2 s3 hqs hQ (Same.refl _) hr2 (by rw [List.length_map, List.length_take]; omega)
        · rintro H3 ⟨s3, qs, hqs, hQ⟩
          rw [lp, List.take_length] at hQ
          refine ⟨D2, qs, _, M, 1000, rfl, hqs, hQ, hm1, M0, hM, by decide, ?_⟩
          rw [hm2]
          exact growV hD s2 h2 s3 hm3
      · rintro H2 ⟨s2, h2⟩
        exact ⟨D, rfl, s0.trans s2, h2⟩
    rintro σ1 H1 ⟨sc, rfl, s1, hsc⟩
    intro D hD
    have same_up : ∀ {Hx : Hp} {o : HO}, Same H1 Hx → Same H1 (upd Hx D o) := fun {Hx o} sx b ob hb => by
      rw [upd_ne (ne_of_none hb hD)]
      exact sx _ _ hb
    refine ⟨fun σ' H' => ∃ v3 v4 seen, σ' = [some (.ref l), some (.ref sc), some (.ref D), v3, v4, none, none, none, none, none, none, none] ∧ Same H1 H' ∧ H' D = some (.dT (kvsP seen)) ∧ Seen (xs.map (spotF (scX xs) (scY xs))) seen, ?_, ?_⟩
    · refine ⟨_, rfl, l, rfl, ⟨_, SqL.of ((s1.trans (same_new hD)) _ _ hl)⟩, ?_⟩
      refine for_list (K := K) (a := l) (xs := rv ps) (fun i σ' H' => ∃ v3 v4 seen, σ' = [some (.ref l), some (.ref sc), some (.ref D), v3, v4, none, none, none, none, none, none, none] ∧ Same H1 H' ∧ H' D = some (.dT (kvsP seen)) ∧ Seen ((xs.take i).map (spotF (scX xs) (scY xs))) seen) ⟨none, none, [], rfl, same_new hD, upd_same, List.nodup_nil, (fun p => Iff.rfl), Nat.le_refl _⟩ (fun i σ' H' _ z => ?_) (fun i v σ' H2 hi z => ?_) (fun σ' H2 z => ?_)
      · obtain ⟨v3, v4, seen, rfl, s2, _⟩ := z
        exact SqL.of ((s1.trans s2) _ _ hl)
      · obtain ⟨v3, v4, seen, rfl, s2, hD2, hS⟩ := z
        obtain ⟨p, x, rfl, _, hx3, a, b, p1, p2, p3⟩ := (hX.same (s1.trans s2)).get hi
        have hi2 : i < xs.length := (List.getElem?_eq_some_iff.mp hx3).1
        have hxm : x ∈ xs := List.mem_of_getElem? hx3
        have px := hx x hxm
        refine ⟨_, rfl, _, rfl, false, true, p, sc, rv [a, b], [.int (scX xs), .int (scY xs)], rfl, .inl (.inl p1), SqL.of (s2 _ _ hsc), fun Dn hDn => ?_⟩
        refine lc_zipB (K := K) (k := false) (l := true) (a := p) (b := sc) (D := Dn) (xs := rv [a, b]) (ys := [.int (scX xs), .int (scY xs)]) rfl (fun j H' => Same H2 H' ∧ H' Dn = some (.lst ([V.int (spotF (scX xs) (scY xs) x).1, V.int (spotF (scX xs) (scY xs) x).2].take j))) ⟨same_new hDn, upd_same⟩ (fun j H' z => ⟨.inl (.inl (z.1 _ _ p1)), SqL.of (z.1 _ _ (s2 _ _ hsc))⟩) ?_ ?_
        · rintro j u w T H3 hu' hw ⟨s3, h3⟩ hT
          have s4 := same_new (o := .tup [u, w]) hT
          obtain ⟨q, f, c, rfl, rfl, hq, ff, c0, cb, fd, e⟩ : ∃ (q : Addr) (f : Int × Int) (c : Int), u = .ref q ∧ w = .int c ∧ RatAt H2 q f ∧ Fine 1000 f ∧ 0 < c ∧ Bd 1000 c ∧ f.2 ∣ c ∧ [V.int (spotF (scX xs) (scY xs) x).1, V.int (spotF (scX xs) (scY xs) x).2].take (j + 1) = [V.int (spotF (scX xs) (scY xs) x).1, V.int (spotF (scX xs) (scY xs) x).2].take j ++ [.int (f.1 * (c / f.2))] := by
            match j, hu', hw with
            | 0, hu', hw =>
              cases hu'
              cases hw
              exact ⟨a, x.1, scX xs, rfl, rfl, p2, px.f.1, pX, bX, shF_of (pos1 h0) _ (List.mem_map.mpr ⟨x, hxm, rfl⟩), rfl⟩
            | 1, hu', hw =>
              cases hu'
              cases hw
              exact ⟨b, x.2, scY xs, rfl, rfl, p3, px.f.2, pY, bY, shF_of (pos2 h0) _ (List.mem_map.mpr ⟨x, hxm, rfl⟩), rfl⟩
          have hq' := (s3.trans s4) _ _ hq
          have db : Bd 1000 (c / f.2) := by
            have d1 : c / f.2 ≤ c := Int.ediv_le_self _ (by omega)
            have d2 : 0 ≤ c / f.2 := Int.ediv_nonneg (by omega) (by have := ff.1; omega)
            unfold Bd at *
            omega
          refine ⟨T, _, rfl, .inl (.inl upd_same), rfl, _, _, rfl, _, _, rfl, rfl, rfl, yesT ?_⟩
          refine ⟨_, rfl, q, _, 0, _, rfl, rfl, .inr (.inl (.inl hq')), rfl, _, rfl, _, rfl, q, _, 1, _, rfl, rfl, .inr (.inl (.inl hq')), rfl, _, _, rfl, rfl, ⟨ff.1, cb.big (by decide)⟩, _, _, rfl, rfl, Bd.mul ff.2.1 db (by decide) (by decide), ?_⟩
          rw [e]
          exact growV hDn s3 h3 s4 (by rw [List.length_take]; exact Nat.le_trans (Nat.min_le_right _ _) (show 2 ≤ 1000 by decide))
        · rintro H3 ⟨s3, h3⟩
          have s23 := s2.trans s3
          refine ⟨_, rfl, _, rfl, Dn, _, rfl, .inl ⟨SqL.of h3, fun tt htt => ?_⟩⟩
          have s4 := same_new (o := .tup [V.int (spotF (scX xs) (scY xs) x).1, V.int (spotF (scX xs) (scY xs) x).2]) htt
          obtain ⟨l', e1, e2⟩ := hS.put (spotF (scX xs) (scY xs) x)
          have e3 : (xs.take (i + 1)).map (spotF (scX xs) (scY xs)) = (xs.take i).map (spotF (scX xs) (scY xs)) ++ [spotF (scX xs) (scY xs) x] := by
            rw [List.take_add_one, hx3]
            simp
          refine ⟨D, _, rfl, DPut.t (k := keyP (spotF (scX xs) (scY xs) x)) ((s3.trans s4) _ _ hD2) upd_same (small1000 ?_), ?_⟩
          · have := hS.2.2
            unfold kvsP
            rw [List.length_map] at this ⊢
            rw [List.length_take] at this
            omega
          · rw [e1]
            refine ⟨_, _, l', rfl, same_up (s23.trans s4), upd_same, ?_⟩
            rw [e3]
            exact e2
      · obtain ⟨v3, v4, seen, rfl, s2, hD2, hS⟩ := z
        rw [lp, List.take_length] at hS
        exact ⟨v3, v4, seen, rfl, s2, hD2, hS⟩
    rintro σ2 H2 ⟨v3, v4, seen, rfl, s2, hD2, hSn⟩
    have lSn : seen.length ≤ 500 := by
      have := hSn.2.2
      rw [List.length_map] at this
      omega
    refine ⟨fun σ' H' => ∃ sl cs S, σ' = [some (.ref l), some (.ref sc), some (.ref D), v3, v4, some (.ref sl), none, none, none, none, none, none] ∧ Same H2 H' ∧ H' sl = some (.lst (rv cs)) ∧ PairsAt H' cs S ∧ S.Pairwise Hu.lt ∧ ∀ p, p ∈ S ↔ p ∈ seen, ?_, ?_⟩
    · refine ⟨_, rfl, D, _, rfl, .inl hD2, fun p bs hp hk => ?_⟩
      have s3 := same_new (o := .lst (bs.map V.ref)) hp
      have hk' := (keys_pairs hk).same s3
      refine ⟨p, rv bs, kf (upd H2 p (.lst (bs.map V.ref))), rfl, SqL.of upd_same, fun y hy => ?_, fun ys q hs hst hq => ?_⟩
      · obtain ⟨b, hb, rfl⟩ := List.mem_map.mp hy
        obtain ⟨x, _, hx2⟩ := hk'.mem hb
        rw [kf_at hx2]
        exact ⟨b, rfl, hx2⟩
      · obtain ⟨cs, S, rfl, z1, z2, z3⟩ := sorted_spots hk' hSn.1 hs hst
        have s4 := same_new (o := .lst (rv cs)) hq
        exact ⟨q, cs, S, rfl, s3.trans s4, upd_same, z1.same s4, z2, z3⟩
    rintro σ3 H3 ⟨sl, cs, S, rfl, s3, hsl, hcs, srt, hmS⟩
    have mS : ∀ p, p ∈ S ↔ p ∈ xs.map (spotF (scX xs) (scY xs)) := fun p => (hmS p).trans (hSn.2.1 p)
    have lS : S.length ≤ 500 := by
      have nd : S.Nodup := srt.imp fun {p q} h e => by
        subst e
        exact Hu.lt_irr h
      have := (List.perm_ext_iff_of_nodup nd hSn.1).mpr hmS
      rw [this.length_eq]
      exact lSn
    have nS : S ≠ [] := by
      obtain ⟨x, hx'⟩ := List.exists_mem_of_ne_nil _ ne
      exact List.ne_nil_of_mem ((mS _).mpr (List.mem_map.mpr ⟨x, hx', rfl⟩))
    have l0 : 0 < S.length := List.length_pos_iff.mpr nS
    have bS : ∀ p ∈ S, Bd 2000 p.1 ∧ Bd 2000 p.2 := fun p hp => by
      obtain ⟨x, hx', rfl⟩ := List.mem_map.mp ((mS p).mp hp)
      have px := hx x hx'
      have dv : ∀ {c b : Int}, 0 < c → Bd 1000 c → 0 < b → Bd 1000 (c / b) := fun {c b} c0 cb b0 => by
        have d1 : c / b ≤ c := Int.ediv_le_self _ (by omega)
        have d2 : 0 ≤ c / b := Int.ediv_nonneg (by omega) (by omega)
        unfold Bd at *
        omega
      exact ⟨px.f.1.2.1.mulB (dv pX bX px.f.1.1), px.f.2.2.1.mulB (dv pY bY px.f.2.1)⟩
    have lcs : (rv cs).length = S.length := by rw [rv_len, hcs.1]
    refine ⟨_, rfl, ?_⟩
    refine ⟨fun σ' H' => ∃ dl ds A, σ' = [some (.ref l), some (.ref sc), some (.ref D), v3, v4, some (.ref sl), some (.ref dl), none, none, none, none, none] ∧ Same H3 H' ∧ H' dl = some (.lst (rv ds)) ∧ PairsAt H' ds A ∧ Hu.HullS S A ∧ (∀ p ∈ A, p ∈ S) ∧ A.length ≤ 1000, ?_, ?_⟩
    · refine ⟨_, rfl, sl, _, rfl, .inl (SqL.of hsl), _, _, rfl, rfl, _, rfl, ?_⟩
      rw [lcs]
      refine ite2 (fun h => ?_) (fun h => ?_)
      · have h2 : 2 ≤ S.length := by
          have := of_decide_eq_true h
          omega
        have ei : S.map (fun p : Int × Int => p) = S := List.map_id _
        refine ⟨_, rfl, sl, cs, S, 2000, (fun p => p), rfl, hsl, hcs, by omega, by decide, bS, fun a b c => rfl, by rw [ei]; exact srt, fun r qs Lc H5 s5 hr5 hq5 sub5 ch5 => ⟨1, rfl, _, rfl, r, _, rfl, SqL.of hr5, fun p1 hp1 => ?_⟩⟩
        have ch5' : Hu.Ch S Lc ∧ Lc.getLast? = S.getLast? := by
          rcases ch5 with ⟨z, _⟩ | ⟨z1, z2⟩
          · exact absurd z nS
          · rw [ei, show Lc.map (fun p : Int × Int => p) = Lc from List.map_id _] at z1 z2
            exact ⟨z1, z2⟩
        have lq : 1 ≤ qs.length := by
          rw [hq5.1]
          exact List.length_pos_iff.mpr ch5'.1.ne
        have lL : Lc.length ≤ S.length := by
          have nd : Lc.Nodup := ch5'.1.srt.imp fun {p q} h e => by
            subst e
            exact Hu.lt_irr h
          exact nodup_len nd sub5
        rw [show (-(1 : Int)) = -1 from rfl, cut_last lq]
        have s6 := same_new (o := .lst (rv qs.dropLast)) hp1
        have s56 := s5.trans s6
        refine ⟨_, rfl, sl, _, rfl, SqL.of (s56 _ _ hsl), fun p2 hp2 => ?_⟩
        have s7 := same_new (o := .lst (rv cs).reverse) hp2
        have er : (rv cs).reverse = rv cs.reverse := by
          unfold rv
          rw [List.map_reverse]
        rw [er] at s7 ⊢
        refine ⟨p2, cs.reverse, S.reverse, 2000, Hu.neg, rfl, upd_same, (hcs.same (s56.trans s7)).rev, by rw [List.length_reverse]; omega, by decide, fun x hx' => bS x (List.mem_reverse.mp hx'), Hu.cr_neg, Hu.rev_neg srt, fun r8 qs8 U H8 s8 hr8 hq8 sub8 ch8 => ⟨1, rfl, _, rfl, r8, _, rfl, SqL.of hr8, fun p3 hp3 => ?_⟩⟩
        have ch8' : Hu.Ch (S.reverse.map Hu.neg) (U.map Hu.neg) ∧ (U.map Hu.neg).getLast? = (S.reverse.map Hu.neg).getLast? := by
          rcases ch8 with ⟨z, _⟩ | z
          · exact absurd (List.reverse_eq_nil_iff.mp z) nS
          · exact z
        have lq8 : 1 ≤ qs8.length := by
          rw [hq8.1]
          have z := List.length_pos_iff.mpr ch8'.1.ne
          rw [List.length_map] at z
          exact z
        have lU : U.length ≤ S.length := by
          have nd : (U.map Hu.neg).Nodup := ch8'.1.srt.imp fun {p q} h e => by
            subst e
            exact Hu.lt_irr h
          have z := nodup_len nd ch8'.1.sub
          rw [List.length_map, List.length_map, List.length_reverse] at z
          exact z
        rw [show (-(1 : Int)) = -1 from rfl, cut_last lq8]
        have s9 := same_new (o := .lst (rv qs8.dropLast)) hp3
        have h10 : (upd H8 p3 (.lst (rv qs8.dropLast))) p1 = some (.lst (rv qs.dropLast)) := (s7.trans (s8.trans s9)) _ _ upd_same
        refine ⟨p1, p3, _, _, rfl, rfl, h10, upd_same, ?_, fun p4 hp4 => ?_⟩
        · rw [rv_len, rv_len, List.length_dropLast, List.length_dropLast, hq5.1, hq8.1]
          exact Nat.le_trans (show _ ≤ 1000 by omega) (show 1000 ≤ sizeLine by decide)
        have ec : rv qs.dropLast ++ rv qs8.dropLast = rv (qs.dropLast ++ qs8.dropLast) := by
          unfold rv
          rw [List.map_append]
        rw [ec]
        have s10 := same_new (o := .lst (rv (qs.dropLast ++ qs8.dropLast))) hp4
        have s610 := s6.trans (s7.trans (s8.trans (s9.trans s10)))
        refine ⟨p4, _, Lc.dropLast ++ U.dropLast, rfl, s5.trans s610, upd_same, ((hq5.drop1).same s610).app ((hq8.drop1).same (s9.trans s10)), ⟨fun h1 => by omega, fun _ => ⟨Lc, U, ch5'.1, ch5'.2, ch8'.1, ch8'.2, rfl⟩⟩, fun p hp => ?_, ?_⟩
        · rcases List.mem_append.mp hp with z | z
          · exact sub5 p ((List.dropLast_sublist _).subset z)
          · exact List.mem_reverse.mp (sub8 p ((List.dropLast_sublist _).subset z))
        · rw [List.length_append, List.length_dropLast, List.length_dropLast]
          omega
      · have h1 : S.length = 1 := by
          have : ¬ 2 ≤ S.length := fun z => h (decide_eq_true (show (1 : Int) < ((S.length : Nat) : Int) by omega))
          omega
        exact ⟨sl, cs, S, rfl, Same.refl _, hsl, hcs, ⟨fun _ => rfl, fun h2 => by omega⟩, fun p hp => hp, by omega⟩
    rintro σ4 H4 ⟨dl, ds, A, rfl, s4, hdl, hds, hA, subA, lA⟩
    have s14 := s2.trans (s3.trans s4)
    have lds : (rv ds).length = A.length := by rw [rv_len, hds.1]
    refine ⟨_, rfl, dl, rfl, ⟨_, SqL.of hdl⟩, fun D5 hD5 => ?_⟩
    refine lc_list (K := K) (a := dl) (xs := rv ds) (fun i H' => Same H4 H' ∧ ∃ qs, H' D5 = some (.lst (rv qs)) ∧ PtsAt H' qs ((A.take i).map (lowS (scX xs) (scY xs)))) ⟨same_new hD5, [], upd_same, pts_nil'⟩ (fun i H' _ z => SqL.of (z.1 _ _ hdl)) ?_ ?_
    · rintro i y H6 hi ⟨s6, qs, hqs, hQ⟩
      obtain ⟨p, x, rfl, _, hx3, hp⟩ := (hds.same s6).get hi
      have hb := bS x (subA x (List.mem_of_getElem? hx3))
      have hsc6 := (s14.trans s6) _ _ hsc
      refine ⟨p, _, rfl, .inl (.inl hp), rfl, _, _, rfl, _, _, rfl, rfl, rfl, yesT ?_⟩
      refine ⟨_, rfl, _, rfl, sc, _, 0, _, rfl, rfl, .inl (SqL.of hsc6), rfl, x.1, scX xs, rfl, pX, hb.1.big (by decide), bX.big (by decide), fun r hr2 => ?_⟩
      have s7 := same_new (o := .tup [.int (lowI x.1 (scX xs)).1, .int (lowI x.1 (scX xs)).2]) hr2
      refine ⟨_, rfl, _, rfl, sc, _, 1, _, rfl, rfl, .inl (SqL.of (s7 _ _ hsc6)), rfl, x.2, scY xs, rfl, pY, hb.2.big (by decide), bY.big (by decide), fun r2 hr3 => ⟨le2, fun R hR => ?_⟩⟩
      have s8 := same_new (o := .tup [.int (lowI x.2 (scY xs)).1, .int (lowI x.2 (scY xs)).2]) hr3
      have s9 := same_new (o := .tup [.ref r, .ref r2]) hR
      have e : (A.take (i + 1)).map (lowS (scX xs) (scY xs)) = (A.take i).map (lowS (scX xs) (scY xs)) ++ [lowS (scX xs) (scY xs) x] := by
        rw [List.take_add_one, hx3]
        simp
      rw [e]
      have s79 := s7.trans (s8.trans s9)
      exact growP hD5 s6 hqs hQ s79 ⟨r, r2, upd_same, (s8.trans s9) _ _ upd_same, s9 _ _ upd_same⟩ (by rw [List.length_map, List.length_take]; omega) (fun q y o z => PtAt.upd (s79 _ _ hqs) z)
    · rintro H6 ⟨s6, qs, hqs, hQ⟩
      rw [lds, List.take_length] at hQ
      refine ⟨D5, _, rfl, .inl ⟨SqL.of hqs, fun T hT => ?_⟩⟩
      have s7 := same_new (o := .tup (rv qs)) hT
      exact k T qs _ _ (s1.trans (s14.trans (s6.trans s7))) upd_same (hQ.same s7) ⟨S, A, srt, mS, hA, rfl⟩
end
end Fk

set_option Elab.async false
set_option maxRecDepth 100000
set_option maxHeartbeats 4000000
set_option exponentiation.threshold 20000
/-! Points as data; own == and in. -/
namespace Fk
open PySem PySem.Spec L2 PyProof.Rows
theorem op_eqDK {X : Cx} {K : PySem.W.Frag} (hK : X.K = K) (hu : X.A.units + 64 < cLine) : OpR X (compareOp .Eq) (rEqD K) := hK ▸ op_eqD hu
theorem op_neDK {X : Cx} {K : PySem.W.Frag} (hK : X.K = K) (hu : X.A.units + 64 < cLine) : OpR X (compareOp .NotEq) (rNeD K) := hK ▸ op_neD hu
theorem op_inDK {X : Cx} {K : PySem.W.Frag} (hK : X.K = K) (hu : X.A.units + 65 < cLine) : OpR X (compareOp .In) (rInD K) := hK ▸ op_inD hu
theorem op_notInDK {X : Cx} {K : PySem.W.Frag} (hK : X.K = K) (hu : X.A.units + 65 < cLine) : OpR X (compareOp .NotIn) (rNotInD K) := hK ▸ op_notInD hu
def datP (x : Int × Int) : PyData := .tuple [.int x.1, .int x.2]
def datPt (x : Po) : PyData := .tuple [datP x.1, datP x.2]
theorem dp_ratK {K : PySem.W.Frag} {H : Hp} {p : Addr} {x : Int × Int} (h : RatK K H p x) : Dp K H (.ref p) (datP x) := .tup h (.cons (.int _) (.cons (.int _) .nil))
theorem dp_rat {K : PySem.W.Frag} {H : Hp} {p : Addr} {x : Int × Int} (h : RatAt H p x) : Dp K H (.ref p) (datP x) := dp_ratK h.toK
theorem dp_ptK {K : PySem.W.Frag} {H : Hp} {p : Addr} {x : Po} (h : PtK K H p x) : Dp K H (.ref p) (datPt x) := by
  obtain ⟨a, b, h1, h2, h3⟩ := h
  exact .tup h1 (.cons (dp_ratK h2) (.cons (dp_ratK h3) .nil))
theorem dp_pt {K : PySem.W.Frag} {H : Hp} {p : Addr} {x : Po} (h : PtAt H p x) : Dp K H (.ref p) (datPt x) := dp_ptK h.toK
theorem dp_pts {K : PySem.W.Frag} {H : Hp} : ∀ {ps : List Addr} {xs : List Po}, PtsAt H ps xs → DpAll K H (rv ps) (xs.map datPt)
  | [], [], _ => .nil
  | [], _ :: _, h => nomatch h.1
  | _ :: _, [], h => nomatch h.1
  | p :: ps, x :: xs, h => .cons (dp_pt (h.2 0 p x rfl rfl)) (dp_pts ⟨Nat.succ.inj h.1, fun i q y a b => h.2 (i + 1) q y a b⟩)
theorem pts_lay : ∀ xs : List Po, PyData.canLayAll0 (xs.map datPt) = true
  | [] => rfl
  | x :: xs => by
    rw [List.map_cons]
    show (PyData.canLay0 (datPt x) && PyData.canLayAll0 (xs.map datPt)) = true
    rw [pts_lay xs]
    rfl
theorem pts_dep : ∀ xs : List Po, PyData.depthAll (xs.map datPt) ≤ 3
  | [] => by decide
  | x :: xs => by
    have ih := pts_dep xs
    rw [List.map_cons]
    simp only [PyData.depthAll, datPt, datP, PyData.depth] at ih ⊢
    omega
theorem ptsL_shaped (xs : List Po) : SeqAt.shaped (.list (xs.map datPt)) = true := by
  have h := pts_dep xs
  refine Bool.and_eq_true_iff.mpr ⟨pts_lay xs, decide_eq_true ?_⟩
  simp only [PyData.depth]
  omega
theorem ptsT_shaped (xs : List Po) : SeqAt.shaped (.tuple (xs.map datPt)) = true := by
  have h := pts_dep xs
  refine Bool.and_eq_true_iff.mpr ⟨pts_lay xs, decide_eq_true ?_⟩
  simp only [PyData.depth]
  omega
theorem pt_shaped (x : Po) : SeqAt.shaped (datPt x) = true := by
  refine Bool.and_eq_true_iff.mpr ⟨rfl, decide_eq_true ?_⟩
  simp only [PyData.depthAll, datPt, datP, PyData.depth]
  omega
theorem rat_shaped (x : Int × Int) : SeqAt.shaped (datP x) = true := by
  refine Bool.and_eq_true_iff.mpr ⟨rfl, decide_eq_true ?_⟩
  simp only [PyData.depthAll, datP, PyData.depth]
  omega
theorem eqv_rat (x y : Int × Int) : PyData.eqv (datP x) (datP y) = decide (x = y) := by
  obtain ⟨a, b⟩ := x
  obtain ⟨c, d⟩ := y
  unfold datP
  simp only [PyData.eqv, PyData.eqvAll, Bool.and_true, Prod.mk.injEq]
  rw [Bool.eq_iff_iff]
  simp
theorem eqv_pt (x y : Po) : PyData.eqv (datPt x) (datPt y) = decide (x = y) := by
  obtain ⟨a, b⟩ := x
  obtain ⟨c, d⟩ := y
  unfold datPt
  simp only [PyData.eqv, PyData.eqvAll, Bool.and_true]
  rw [eqv_rat, eqv_rat, Bool.eq_iff_iff]
  simp
theorem eqv_all : ∀ xs ys : List Po, PyData.eqvAll (xs.map datPt) (ys.map datPt) = decide (xs = ys)
  | [], [] => by simp [PyData.eqvAll]
  | [], _ :: _ => by simp [PyData.eqvAll]
  | _ :: _, [] => by simp [PyData.eqvAll]
  | x :: xs, y :: ys => by
    rw [List.map_cons, List.map_cons]
    simp only [PyData.eqvAll]
    rw [eqv_pt, eqv_all xs ys, Bool.eq_iff_iff]
    simp
theorem eqv_ptsT (xs ys : List Po) : PyData.eqv (.tuple (xs.map datPt)) (.tuple (ys.map datPt)) = decide (xs = ys) := by
  simp only [PyData.eqv]
  exact eqv_all xs ys
theorem any_pts (x : Po) (xs : List Po) : ((xs.map datPt).any fun z => PyData.eqv z (datPt x)) = decide (x ∈ xs) := by
  rw [Bool.eq_iff_iff, List.any_eq_true, decide_eq_true_iff]
  constructor
  · rintro ⟨z, hz, e⟩
    obtain ⟨y, hy, rfl⟩ := List.mem_map.mp hz
    rw [eqv_pt] at e
    rw [← of_decide_eq_true e]
    exact hy
  · intro h
    exact ⟨_, List.mem_map.mpr ⟨x, h, rfl⟩, by rw [eqv_pt]; exact decide_eq_true rfl⟩
/-! ### == and in, by the class's own -/
theorem CallR.or {X : Cx} {f : Value} {r r' : List V → Hp → VK → Prop} (h : CallR X f r) (h' : CallR X f r') : CallR X f (fun xs H Q => r xs H Q ∨ r' xs H Q) := fun pins s σ H xs us Q I rr q => q.elim (fun q => h pins s σ H xs us Q I rr q) fun q => h' pins s σ H xs us Q I rr q
def rOwnEq (C : Addr) (sp : Sp) : R2 := fun x y H Q => ∃ a dx fs, x = .ref a ∧ H a = some (.ins C dx fs) ∧ ((∃ b dy gs, y = .ref b ∧ H b = some (.ins C dy gs)) ∨ ∃ b xs, y = .ref b ∧ H b = some (.tup xs)) ∧ sp [x, y] H (fun v H' => ∃ b, v = .bl b ∧ Q v H') fun _ _ _ => False
theorem op_ownEq {X : Cx} {n : Nat} {C f : Addr} {fd : FuncData} {ps : List Str} {sp : Sp} (F : FnOk X.prog X.w X.K X.mg X.base CX0 n f fd ps sp) (hs : PySem.W.findIn X.K (.ref C) "__eq__" = some (some (.ref f))) (hf : PySem.W.isFn X.K (.ref f) = true)
    (hb : Binds X.K fd ps []) (hr : Room n X.A) (hn : PySem.W.notFirst X.K C (.type "tuple") = true) : OpR X (compareOp .Eq) (rOwnEq C sp) := by
  intro pins s σ H x y v u Q I rx ry hq
  obtain ⟨a, dx, fs, rfl, ha, hy, hsp⟩ := hq
  cases rx
  obtain ⟨mA, J, _⟩ := ins_get I.hok ha
  obtain ⟨od, J, _⟩ := J.look
  obtain ⟨m, hF⟩ := I.fr
  have e0 := I.env0
  have go : ∀ {tb : Value}, PySem.W.Looks (model X.prog X.w) s.heap (typeOf u) tb → PySem.W.notFirst X.K C tb = true → wpAny (model X.prog X.w) X.A (compareOp .Eq (.ref a) u) (EP X pins σ Q) X.xe s := fun {tb} hl hn => by
    show wpAny (model X.prog X.w) X.A (richCompare .Eq (.ref a) u) (EP X pins σ Q) X.xe s
    refine PySem.W.cmp_K (op := .Eq) (tb := tb) hr.units0 hF I.ok.mod.kin J hl hn hs hf ?_
    refine wpAny_call (codeAny_mono (F.run X.A X.stack s H ⟨[.ref a, u], []⟩ [.ref a, u] [.ref a, y] _ _ hr e0 (by
      have z := hb s [.ref a, u] I.kIn (by simpa using F.len _ _ _ _ hsp)
      simpa using z) (.cons rfl (.cons ry .nil)) hsp) fun r s' hh => ?_)
    cases r with
    | error e => exact hh.elim
    | ok fl =>
      cases fl with
      | ret w' =>
        obtain ⟨z, G, I', rz, b, ez, hq⟩ := I.after hh
        subst ez
        cases rz
        exact ⟨.bl b, G, I', rfl, hq⟩
      | next => exact hh.elim
      | brk => exact hh.elim
      | cont => exact hh.elim
  rcases hy with ⟨b, dy, gs, rfl, hb'⟩ | ⟨b, xs, rfl, hb'⟩
  · cases ry
    obtain ⟨mB, J', _⟩ := ins_get I.hok hb'
    obtain ⟨od', J', _⟩ := J'.look
    exact go J'.type (by simp [PySem.W.notFirst])
  · cases ry
    obtain ⟨its, r, e, z⟩ := I.tuple (.inl (.inl hb'))
    obtain ⟨o, ho, hc, _⟩ := id e
    refine go (tb := .type "tuple") (fun A Q E s' k q => ?_) hn
    exact wpAny_typeOf_ref (k _ _ ho) (by rw [hc]; exact q)
def rOwnIn (C : Addr) (sp : Sp) : R2 := fun x y H Q => ∃ a dx fs, y = .ref a ∧ H a = some (.ins C dx fs) ∧ sp [y, x] H (fun v H' => ∃ b, v = .bl b ∧ Q v H') fun _ _ _ => False
theorem op_ownIn {X : Cx} {n : Nat} {C f : Addr} {fd : FuncData} {ps : List Str} {sp : Sp} (F : FnOk X.prog X.w X.K X.mg X.base CX0 n f fd ps sp) (hs : PySem.W.findIn X.K (.ref C) "__contains__" = some (some (.ref f))) (hf : PySem.W.isFn X.K (.ref f) = true)
    (hb : Binds X.K fd ps []) (hr : Room n X.A) : OpR X (compareOp .In) (rOwnIn C sp) := by
  intro pins s σ H x y v u Q I rx ry hq
  obtain ⟨a, dx, fs, rfl, ha, hsp⟩ := hq
  cases ry
  obtain ⟨mA, J, _⟩ := ins_get I.hok ha
  obtain ⟨od, J, _⟩ := J.look
  obtain ⟨m, hF⟩ := I.fr
  have e0 := I.env0
  refine PySem.W.in_K hF I.ok.mod.kin J hs hf ?_
  refine wpAny_call (codeAny_mono (F.run X.A X.stack s H ⟨[.ref a, v], []⟩ [.ref a, v] [.ref a, x] _ _ hr e0 (by
    have z := hb s [.ref a, v] I.kIn (by simpa using F.len _ _ _ _ hsp)
    simpa using z) (.cons rfl (.cons rx .nil)) hsp) fun r s' hh => ?_)
  cases r with
  | error e => exact hh.elim
  | ok fl =>
    cases fl with
    | ret w' =>
      obtain ⟨z, G, I', rz, b, ez, hq⟩ := I.after hh
      subst ez
      cases rz
      exact wpAny_truthy_bool ⟨.bl b, G, I', rfl, hq⟩
    | next => exact hh.elim
    | brk => exact hh.elim
    | cont => exact hh.elim
end Fk

set_option Elab.async false
set_option maxRecDepth 100000
set_option maxHeartbeats 4000000
set_option exponentiation.threshold 20000
/-! checked_direction; Zone: __init__, __eq__, __contains__. -/
namespace Fk
open PySem L2
theorem TyOf.same {K : PySem.W.Frag} {H H' : Hp} {v : V} {t : Value} (h : TyOf K H v t) (s : Same H H') : TyOf K H' v t := by
  cases h with
  | non => exact .non
  | bl x => exact .bl x
  | int i => exact .int i
  | str x => exact .str x
  | flt x => exact .flt x
  | lst e => exact .lst (s _ _ e)
  | frz e => exact .frz (s _ _ e)
  | tup e => exact .tup (s _ _ e)
  | dK e => exact .dK (s _ _ e)
  | dT e => exact .dT (s _ _ e)
  | ins e cl ha hn htk hm => exact .ins (s _ _ e) cl ha hn htk hm
theorem TyX.same {K : PySem.W.Frag} {H H' : Hp} {v : V} {t : Value} (h : TyX K H v t) (s : Same H H') : TyX K H' v t := by
  cases h with
  | base h => exact .base (TyOf.same h s)
  | byt b => exact .byt b
  | set e => exact .set (s _ _ e)
  | kList e c => exact .kList e c
  | kTuple e c => exact .kTuple e c
  | kDict e c => exact .kDict e c
  | fTuple e => exact .fTuple (s _ _ e)
  | fDict e => exact .fDict (s _ _ e)
theorem IntV.same {K : PySem.W.Frag} {H H' : Hp} {v : V} {b : Bool} (h : IntV K H v b) (s : Same H H') : IntV K H' v b := by
  obtain ⟨ty, b1, b2, h1, h2⟩ := h
  exact ⟨ty, b1, b2, TyX.same h1 s, h2⟩
theorem Val.same {K : PySem.W.Frag} {H H' : Hp} {v : V} {b : Bool} (h : Val K H v b) (s : Same H H') : Val K H' v b := by
  cases h with
  | int i => exact .int i
  | other h t n => exact .other (h.same s) (TyX.same t s) n
  | len h n => exact .len (s _ _ h) n
  | rat h => exact .rat (s _ _ h)
  | one h x => exact .one (s _ _ h) (x.same s)
  | two h x => exact .two (s _ _ h) (x.same s)
def zeroP : Po := ((0, 1), (0, 1))
def numW (wh : Str) (v : V) : List (Str × V) := [("number", v), ("what", .str wh)]
/-- BadNumber is raised, with what and the value -/
def BadE (CN : Addr) (wh : Str) (v : V) (H : Hp) (E : XK) : Prop := ∀ d H', H d = none → Same H H' → H' d = some (.xd (numW wh v)) → E (.ref CN) (some d) H'
theorem BadE.same {CN : Addr} {wh : Str} {v : V} {H H1 : Hp} {E : XK} (h : BadE CN wh v H E) (s : Same H H1) : BadE CN wh v H1 E := fun d H' hd hs he => h d H' (by
  cases e : H d with
  | none => rfl
  | some o =>
    rw [s _ _ e] at hd
    cases hd) (s.trans hs) he
theorem lowP_ok {K : PySem.W.Frag} {H : Hp} {v : V} {x : Po} (h : LowP H v x) : ValP K H v true := by
  obtain ⟨t, a, b, rfl, ht, ha, hb⟩ := h
  exact .two ht (low_ok ha) (low_ok hb)
abbrev sDir : Stmt := top 18
def spDir (K : PySem.W.Frag) (CN : Addr) : Sp := fun vs H Q E => ∃ v, vs = [v] ∧ ((∃ x, LowP H v x ∧ x ≠ zeroP ∧ ∀ p H', Same H H' → PtAt H' p x → Q (.ref p) H') ∨ ((ValP K H v false ∨ LowP H v zeroP) ∧ BadE CN "direction" v H E))
abbrev sZInit : Stmt := inClass (top 29) 0
abbrev sZEq : Stmt := inClass (top 29) 1
abbrev sZIn : Stmt := inClass (top 29) 2
abbrev sZLow : Stmt := inClass (top 29) 3
abbrev sZGr : Stmt := inClass (top 29) 4
abbrev znK : List Str := ["corners"]
/-- a zone and its corners -/
def ZnAt (C : Addr) (H : Hp) (z : Addr) (cs : List Po) : Prop := ∃ dx r qs, H z = some (.ins C dx (znK.zip [.ref r])) ∧ H r = some (.tup (rv qs)) ∧ PtsAt H qs cs
theorem ZnAt.same {C z : Addr} {H H' : Hp} {cs : List Po} (h : ZnAt C H z cs) (s : Same H H') : ZnAt C H' z cs := by
  obtain ⟨dx, r, qs, h1, h2, h3⟩ := h
  exact ⟨dx, r, qs, s _ _ h1, s _ _ h2, h3.same s⟩
/-- values that tell points -/
def LowsAt (H : Hp) (us : List V) (xs : List Po) : Prop := us.length = xs.length ∧ ∀ (i : Nat) (v : V) (x : Po), us[i]? = some v → xs[i]? = some x → LowP H v x
theorem LowsAt.same {H H' : Hp} {us : List V} {xs : List Po} (h : LowsAt H us xs) (s : Same H H') : LowsAt H' us xs := ⟨h.1, fun i v x a b => (h.2 i v x a b).same s⟩
/-- no list or tuple of points -/
inductive BadPts (K : PySem.W.Frag) (H : Hp) : V → Prop
  | other {v : V} {ty : Value} (t : TyX K H v ty) (n : PySem.W.kitAny K ty [.type "list", .type "tuple"] = some false) : BadPts K H v
  | none {p : Addr} (h : SqA K H p []) (t : ∃ ty, TyX K H (.ref p) ty ∧ PySem.W.kitAny K ty [.type "list", .type "tuple"] = some true) : BadPts K H (.ref p)
  | some {p : Addr} {us : List V} {bs : List Bool} (h : SqA K H p us) (t : ∃ ty, TyX K H (.ref p) ty ∧ PySem.W.kitAny K ty [.type "list", .type "tuple"] = some true) (hn : us ≠ []) (l : us.length ≤ 500) (lb : us.length = bs.length) (hb : ∀ (i : Nat) (v : V) (b : Bool), us[i]? = some v → bs[i]? = some b → ValP K H v b) (f : false ∈ bs) : BadPts K H (.ref p)
theorem SqA.ty {K : PySem.W.Frag} {H : Hp} {p : Addr} {us : List V} (h : (H p = some (.lst us)) ∨ H p = some (.tup us)) : ∃ ty, TyX K H (.ref p) ty ∧ PySem.W.kitAny K ty [.type "list", .type "tuple"] = some true := by
  rcases h with h | h
  · exact ⟨.type "list", .base (.lst h), kitAny_cons (b := true) (kit_ty (by decide)) (fun z => nomatch z) (fun _ => rfl)⟩
  · exact ⟨.type "tuple", .base (.tup h), kitAny_cons (b := false) (kit_ty (by decide)) (fun _ => kitAny_cons (b := true) (kit_ty (by decide)) (fun z => nomatch z) (fun _ => rfl)) (fun z => nomatch z)⟩
abbrev psZI : List Str := ["self", "points"]
abbrev nsZI : List Str := ["self", "points", "point"]
def spZInit (K : PySem.W.Frag) (C CN : Addr) : Sp := fun vs H Q E => ∃ (a dx : Addr) (v : V), vs = [.ref a, v] ∧ H a = some (.ins C dx []) ∧
  ((∃ (p : Addr) (us : List V) (xs : List Po) (M : Int), v = .ref p ∧ (H p = some (.lst us) ∨ H p = some (.tup us)) ∧ LowsAt H us xs ∧ xs ≠ [] ∧ xs.length ≤ 500 ∧ (∀ x ∈ xs, PtOk M x) ∧ 0 < M ∧ Bd 1000 M ∧ ∀ cs H', Keep a H H' → ZnAt C H' a cs → HullP xs cs → Q .non H') ∨ (BadPts K H v ∧ BadE CN "points" v H E))
section
variable {P : Program} {w : World} {K : PySem.W.Frag} {mg : Str → Option Value} {base : Heap}
theorem scDir : FnScope psv psv (defScope sDir) := ⟨rfl, rfl, rfl, by decide +kernel, rfl, by decide +kernel, by decide +kernel⟩
theorem ok_dir {f CN gN fI fA zr : Addr} {fd dN dI dA : FuncData} (F : Fun K "checked_direction" "checked_direction" sDir f fd) (EN : Err P w K mg base "BadNumber" numFs CN gN dN) (mZ : mg "ZERO" = some (.ref zr)) (hZ : ∀ H, RatK K H zr (0, 1))
    (I : Cl P w K mg base "is_point" psv 3 (spIsPt K) fI dI) (A : Cl P w K mg base "as_point" psv 3 spAsPt fA dA) : FnOk P w K mg base (L2.CX P w) 4 f fd psv (spDir K CN) := by
  refine F.okX scDir (fun vs H Q E h => ?_) (fun cdv A' outer s H vs Q E hr h => ?_)
  · obtain ⟨v, rfl, _⟩ := h
    rfl
  · obtain ⟨v, rfl, h⟩ := h
    refine ⟨_, pss_cons (ps_if (PW.pt (pw_or (pt_not (pt_val (pe_call I.G hr (by rfl) I.g I.kp I.b .nil pass0 (pa_cons (pv 0) pa_nil)))) (pw_or1 (pt_cmpR (op_eqDK (K := K) rfl hr.units) (pe_call A.G hr (by rfl) A.g A.kp A.b .nil pass0 (pa_cons (pv 0) pa_nil)) (pe_tup (pa_cons (pe_glob (v := .ref zr) (by rfl) mZ rfl) (pa_cons (pe_glob (v := .ref zr) (by rfl) mZ rfl) pa_nil))) (nomark _)))))
        (pss_one (ps_raise rfl (takes_of rfl rfl rfl rfl) (pmk_oex EN.ox EN.iC EN.tI EN.G (hr.mono (by decide)) EN.b .nil pass0 (by rfl) EN.g (pa_cons pe_str (pa_cons (pv 0) pa_nil))))) pss_nil)
      (pss_one (ps_ret (pe_call A.G hr (by rfl) A.g A.kp A.b .nil pass0 (pa_cons (pv 0) pa_nil)))), ?_⟩
    rcases h with ⟨x, hx, n0, k⟩ | ⟨hv | hx, k⟩
    · refine ⟨_, rfl, v, true, rfl, lowP_ok hx, true, rfl, iteF ?_⟩
      refine ⟨_, rfl, v, x, rfl, hx, fun p H1 s1 hp => ⟨le2, fun z hz => ?_⟩⟩
      have s2 := same_new (o := .tup [.ref zr, .ref zr]) hz
      have hzz : PtK K (upd H1 z (.tup [.ref zr, .ref zr])) z zeroP := ⟨zr, zr, .inl (.inl upd_same), hZ _, hZ _⟩
      refine ⟨datPt x, datPt zeroP, dp_pt (hp.same s2), dp_ptK hzz, pt_shaped _, pt_shaped _, ?_⟩
      rw [eqv_pt, decide_eq_false n0]
      refine ⟨_, rfl, iteF ?_⟩
      exact ⟨_, rfl, v, x, rfl, hx.same (s1.trans s2), fun q H2 s3 hq => k q H2 ((s1.trans s2).trans s3) hq⟩
    · refine ⟨_, rfl, v, false, rfl, hv, false, rfl, iteT ?_⟩
      exact ⟨_, rfl, raise_ok rfl (by show 2 ≤ 1000; decide) k⟩
    · refine ⟨_, rfl, v, true, rfl, lowP_ok hx, true, rfl, iteF ?_⟩
      refine ⟨_, rfl, v, zeroP, rfl, hx, fun p H1 s1 hp => ⟨le2, fun z hz => ?_⟩⟩
      have s2 := same_new (o := .tup [.ref zr, .ref zr]) hz
      have hzz : PtK K (upd H1 z (.tup [.ref zr, .ref zr])) z zeroP := ⟨zr, zr, .inl (.inl upd_same), hZ _, hZ _⟩
      refine ⟨datPt zeroP, datPt zeroP, dp_pt (hp.same s2), dp_ptK hzz, pt_shaped _, pt_shaped _, ?_⟩
      rw [eqv_pt, decide_eq_true rfl]
      refine ⟨_, rfl, iteT ?_⟩
      exact ⟨_, rfl, raise_ok rfl (by show 2 ≤ 1000; decide) (k.same (s1.trans s2))⟩
theorem scZInit : FnScope nsZI psZI (defScope sZInit) := ⟨rfl, rfl, rfl, by decide +kernel, rfl, by decide +kernel, by decide +kernel⟩
theorem lows_val {K : PySem.W.Frag} {H : Hp} {us : List V} {xs : List Po} (h : LowsAt H us xs) {i : Nat} {v : V} (hv : us[i]? = some v) : ValP K H v true := by
  have hi := (List.getElem?_eq_some_iff.mp hv).1
  have e : xs[i]? = some (ptN xs i) := ptN_at (by rw [← h.1]; exact hi)
  exact lowP_ok (h.2 i v _ hv e)
theorem ValP.same {K : PySem.W.Frag} {H H' : Hp} {v : V} {b : Bool} (h : ValP K H v b) (s : Same H H') : ValP K H' v b := by
  cases h with
  | other t n => exact .other (TyX.same t s) n
  | len h n => exact .len (s _ _ h) n
  | one h hx => exact .one (s _ _ h) (hx.same s)
  | two h hx hy => exact .two (s _ _ h) (hx.same s) (hy.same s)
theorem nx_len {n : Nat} (h : n ≠ 0) : decide (V.int (n : Nat) = V.int 0) = false := decide_eq_false fun z => h (by have := V.int.inj z; omega)
theorem ok_zinit {f C CN gN fI fA fC : Addr} {fd dN dI dA dC : FuncData} (F : Fun K "__init__" "Zone.__init__" sZInit f fd) (T : VCls K C znK) (EN : Err P w K mg base "BadNumber" numFs CN gN dN) (mi : mg "isinstance" = none) (mL : mg "list" = none) (mT : mg "tuple" = none) (ml : mg "len" = none) (ma : mg "all" = none)
    (I : Cl P w K mg base "is_point" psv 3 (spIsPt K) fI dI) (A : Cl P w K mg base "as_point" psv 3 spAsPt fA dA) (Co : Cl P w K mg base "corners_of" ["points"] 3 spCorn fC dC) : FnOk P w K mg base (L2.CX P w) 4 f fd psZI (spZInit K C CN) := by
  refine F.okX scZInit (fun vs H Q E h => ?_) (fun cdv A' outer s H vs Q E hr h => ?_)
  · obtain ⟨a, dx, v, rfl, _⟩ := h
    rfl
  · obtain ⟨a, dx, v, rfl, ha, h⟩ := h
    have hr1 := hr.mono (show 1 ≤ 3 by decide)
    refine ⟨_, pss_cons (ps_if (PW.pt (pw_or (pt_not (pt_val (pe_callB call_isiT (by rfl) mi (by decide +kernel) (pa_cons (pv 1) (pa_cons (pe_tup (pa_cons (pe_bltn (v := .ty "list") (by rfl) mL (by decide +kernel) rfl) (pa_cons (pe_bltn (v := .ty "tuple") (by rfl) mT (by decide +kernel) rfl) pa_nil))) pa_nil)))))
          (pw_or1 (pt_cmpR op_eq (pe_callB call_len_seq (by rfl) ml PySem.boot_len (pa_cons (pv 1) pa_nil)) pe_int (nomark _)))))
        (pss_one (ps_raise rfl (takes_of rfl rfl rfl rfl) (pmk_oex EN.ox EN.iC EN.tI EN.G (hr.mono (by decide)) EN.b .nil pass0 (by rfl) EN.g (pa_cons pe_str (pa_cons (pv 1) pa_nil))))) pss_nil)
      (pss_cons (ps_if (pt_not (pt_val (pe_callB (cr_all rfl) (by rfl) ma (by decide +kernel) (pa_cons (pe_lc (own := [("point", 2)]) (g := gName 2) (tt := tYes) rfl scZInit.nd (pi_anyK (K := K) rfl (pv 1)) (blkOk_by (N := nsZI) (sc := defScope sZInit) (by decide +kernel)) (fun _ _ _ _ _ => pg_name (i := 2) scZInit.nd rfl (Or.inl rfl)) (fun _ _ _ _ _ => pts_nil)
            (fun _ _ _ _ _ => pe_call I.G hr (by rfl) I.g I.kp I.b .nil pass0 (pa_cons (pv 2) pa_nil))) pa_nil))))
        (pss_one (ps_raise rfl (takes_of rfl rfl rfl rfl) (pmk_oex EN.ox EN.iC EN.tI EN.G (hr.mono (by decide)) EN.b .nil pass0 (by rfl) EN.g (pa_cons pe_str (pa_cons (pv 1) pa_nil))))) pss_nil)
      (pss_one (ps_fld (pv 0) (pe_call Co.G hr (by rfl) Co.g Co.kp Co.b .nil pass0 (pa_cons (pe_lc (own := [("point", 2)]) (g := gName 2) (tt := tYes) rfl scZInit.nd (pi_anyK (K := K) rfl (pv 1)) (blkOk_by (N := nsZI) (sc := defScope sZInit) (by decide +kernel)) (fun _ _ _ _ _ => pg_name (i := 2) scZInit.nd rfl (Or.inl rfl)) (fun _ _ _ _ _ => pts_nil)
            (fun _ _ _ _ _ => pe_call A.G hr (by rfl) A.g A.kp A.b .nil pass0 (pa_cons (pv 2) pa_nil))) pa_nil)) rfl))), ?_⟩
    refine ⟨_, rfl, by show 2 ≤ sizeLine; decide, fun tp htp => ?_⟩
    have s0 := same_new (o := .tup [.ty "list", .ty "tuple"]) htp
    -- the values, looked at one by one
    rcases h with ⟨p, us, xs, M, rfl, hp, hL, ne, lx, hx, M0, hM, k⟩ | ⟨hb, k⟩
    · obtain ⟨ty, t1, t2⟩ := SqA.ty (K := K) hp
      have hsq : SqA K H p us := hp.elim SqA.lst SqA.tup
      have lu := hL.1
      have l0 : 0 < xs.length := List.length_pos_iff.mpr ne
      refine ⟨.ref p, tp, _, ty, _, true, rfl, upd_same, .cons (.ty _) (.cons (.ty _) .nil), TyX.same t1 s0, t2, true, rfl, iteF ?_⟩
      refine ⟨_, rfl, p, us, rfl, hsq.same s0, rfl, _, rfl, ?_⟩
      rw [nx_len (by omega)]
      refine iteF ?_
      unfold tNext tSeq tIfS tNot tB tCB tCons
      dsimp only
      refine lc_any (K := K) (a := p) (xs := us) (H1 := upd H tp (.tup [.ty "list", .ty "tuple"])) (fun P h => ⟨_, rfl, h⟩) (hsq.same s0) fun D hD => ⟨fun j H' => Same (upd H tp (.tup [.ty "list", .ty "tuple"])) H' ∧ H' D = some (.lst ((List.replicate j true).map V.bl)), ⟨same_new hD, upd_same⟩, fun _ _ _ z => z.1, ?_, ?_⟩
      · rintro j v H2 hj ⟨s2, h2⟩
        have hj2 := (List.getElem?_eq_some_iff.mp hj).1
        refine ⟨rfl, yesT ?_⟩
        refine ⟨_, rfl, v, true, rfl, lows_val (hL.same (s0.trans s2)) hj, ?_⟩
        have e2 : (List.replicate (j + 1) true).map V.bl = (List.replicate j true).map V.bl ++ [.bl true] := by
          rw [List.replicate_succ', List.map_append]
          rfl
        dsimp only
        rw [e2]
        exact growV hD s2 h2 (Same.refl _) (by rw [List.length_map, List.length_replicate]; omega)
      · rintro H2 ⟨s2, h2⟩
        refine ⟨D, _, rfl, SqL.of h2, ?_⟩
        have e3 : (List.replicate us.length true).all id = true := by
          rw [List.all_eq_true]
          intro x hx'
          rw [(List.mem_replicate.mp hx').2]
          rfl
        rw [e3]
        refine ⟨true, rfl, iteF ?_⟩
        have s02 := s0.trans s2
        unfold sFld tCall
        dsimp only
        refine lc_any (K := K) (a := p) (xs := us) (H1 := H2) (fun P h => ⟨_, rfl, h⟩) (hsq.same s02) fun D3 hD3 => ⟨fun j H' => Same H2 H' ∧ ∃ qs, H' D3 = some (.lst (rv qs)) ∧ PtsAt H' qs (xs.take j), ⟨same_new hD3, [], upd_same, pts_nil'⟩, fun _ _ _ z => z.1, ?_, ?_⟩
        · rintro j v H3 hj ⟨s3, qs, hqs, hQ⟩
          have hj2 := (List.getElem?_eq_some_iff.mp hj).1
          have hj3 : j < xs.length := by omega
          have hv := (hL.same (s02.trans s3)).2 j v _ hj (ptN_at hj3)
          refine ⟨rfl, yesT ?_⟩
          refine ⟨_, rfl, v, _, rfl, hv, fun r H4 s4 hr4 => ?_⟩
          have e : xs.take (j + 1) = xs.take j ++ [ptN xs j] := by
            rw [List.take_add_one, ptN_at hj3]
            rfl
          dsimp only
          rw [e]
          exact growP hD3 s3 hqs hQ s4 hr4 (by rw [List.length_take]; omega) (fun q y o z => PtAt.upd (s4 _ _ hqs) z)
        · rintro H3 ⟨s3, qs, hqs, hQ⟩
          rw [lu, List.take_length] at hQ
          refine ⟨D3, qs, xs, M, rfl, hqs, hQ, ne, lx, hx, M0, hM, fun r rs C' H4 s4 hr4 hr5 hull => ?_⟩
          have s04 := s02.trans (s3.trans s4)
          have ha4 := s04 _ _ ha
          refine ⟨_, rfl, a, C, dx, [], rfl, ha4, T.cl, T.no _ (by decide +kernel), by show 0 < 1000; decide, ?_⟩
          have nr : r ≠ a := ne_of hr4 ha4 (fun z => nomatch z)
          refine k C' _ ((Same.keep s04).trans Keep.upd) ⟨dx, r, rs, upd_same, ?_, ?_⟩ hull
          · rw [upd_ne nr]
            exact hr4
          · refine ⟨hr5.1, fun i q y e1 e2 => ?_⟩
            obtain ⟨b1, b2, g1, g2, g3⟩ := hr5.2 i q y e1 e2
            have up : ∀ {p : Addr} {zs : List V}, H4 p = some (.tup zs) → (L2.upd H4 a (.ins C dx (putF "corners" (.ref r) []))) p = some (.tup zs) := fun {p zs} e => by
              rw [upd_ne (ne_of e ha4 (fun z => nomatch z))]
              exact e
            exact ⟨b1, b2, up g1, up g2, up g3⟩
    · have k1 := k.same s0
      have bad : ∀ {H1 : Hp}, Same (upd H tp (.tup [.ty "list", .ty "tuple"])) H1 → BadE CN "points" v H1 E := fun s => k1.same s
      cases hb with
      | other t n =>
        refine ⟨v, tp, _, _, _, false, rfl, upd_same, .cons (.ty _) (.cons (.ty _) .nil), TyX.same t s0, n, false, rfl, iteT ?_⟩
        exact ⟨_, rfl, raise_ok rfl (by show 2 ≤ 1000; decide) k1⟩
      | @none p hsq t =>
        obtain ⟨ty, t1, t2⟩ := t
        refine ⟨.ref p, tp, _, ty, _, true, rfl, upd_same, .cons (.ty _) (.cons (.ty _) .nil), TyX.same t1 s0, t2, true, rfl, iteF ?_⟩
        refine ⟨_, rfl, p, [], rfl, hsq.same s0, rfl, _, rfl, iteT ?_⟩
        exact ⟨_, rfl, raise_ok rfl (by show 2 ≤ 1000; decide) k1⟩
      | @some p us bs hsq t hn l5 lb hv hf =>
        obtain ⟨ty, t1, t2⟩ := t
        have l0 : 0 < us.length := List.length_pos_iff.mpr hn
        refine ⟨.ref p, tp, _, ty, _, true, rfl, upd_same, .cons (.ty _) (.cons (.ty _) .nil), TyX.same t1 s0, t2, true, rfl, iteF ?_⟩
        refine ⟨_, rfl, p, us, rfl, hsq.same s0, rfl, _, rfl, ?_⟩
        rw [nx_len (by omega)]
        refine iteF ?_
        unfold tNext tSeq tIfS tNot tB tCB tCons
        dsimp only
        refine lc_any (K := K) (a := p) (xs := us) (H1 := upd H tp (.tup [.ty "list", .ty "tuple"])) (fun P h => ⟨_, rfl, h⟩) (hsq.same s0) fun D hD => ⟨fun j H' => Same (upd H tp (.tup [.ty "list", .ty "tuple"])) H' ∧ H' D = some (.lst ((bs.take j).map V.bl)), ⟨same_new hD, upd_same⟩, fun _ _ _ z => z.1, ?_, ?_⟩
        · rintro j v H2 hj ⟨s2, h2⟩
          have hj2 := (List.getElem?_eq_some_iff.mp hj).1
          have hj3 : j < bs.length := by omega
          have eb : bs[j]? = some bs[j] := List.getElem?_eq_getElem hj3
          refine ⟨rfl, yesT ?_⟩
          refine ⟨_, rfl, v, bs[j], rfl, (hv j v _ hj eb).same (s0.trans s2), ?_⟩
          have e2 : (bs.take (j + 1)).map V.bl = (bs.take j).map V.bl ++ [.bl bs[j]] := by
            rw [List.take_add_one, eb, List.map_append]
            rfl
          dsimp only
          rw [e2]
          exact growV hD s2 h2 (Same.refl _) (by rw [List.length_map, List.length_take]; omega)
        · rintro H2 ⟨s2, h2⟩
          rw [lb, List.take_length] at h2
          refine ⟨D, _, rfl, SqL.of h2, ?_⟩
          have e3 : bs.all id = false := by
            rw [List.all_eq_false]
            exact ⟨false, hf, fun z => nomatch z⟩
          rw [e3]
          refine ⟨false, rfl, iteT ?_⟩
          exact ⟨_, rfl, raise_ok rfl (by show 2 ≤ 1000; decide) (bad s2)⟩
end
end Fk

set_option Elab.async false
set_option maxRecDepth 100000
set_option maxHeartbeats 4000000
set_option exponentiation.threshold 20000
/-! Zone: __eq__, __contains__, lowest, grown. -/
namespace Fk
open PySem L2
abbrev psZE : List Str := ["self", "other"]
abbrev psZC : List Str := ["self", "point"]
abbrev nsZC : List Str := ["self", "point", "place", "normal"]
abbrev psZL : List Str := ["self", "c"]
abbrev nsZL : List Str := ["self", "c", "direction"]
abbrev psZG : List Str := ["self", "ratio"]
abbrev nsZG : List Str := ["self", "ratio", "far", "found", "x", "y", "left"]
def spZEq (C : Addr) : Sp := fun vs H Q _ => ∃ (a : Addr) (cs : List Po) (v : V), vs = [.ref a, v] ∧ ZnAt C H a cs ∧ ((∃ b ds, v = .ref b ∧ ZnAt C H b ds ∧ Q (.bl (decide (cs = ds))) H) ∨ ∃ b xs, v = .ref b ∧ H b = some (.tup xs) ∧ Q (.bl false) H)
def inB (cs : List Po) (y : Po) : Bool := !(normsF cs).any fun n => cs.all fun x => wlt n x y
def CsOk (cs : List Po) : Prop := cs ≠ [] ∧ (∀ x ∈ cs, FineP 1000 x) ∧ cs.length ≤ 1000
def spZIn (K : PySem.W.Frag) (C : Addr) : Sp := fun vs H Q _ => ∃ (a : Addr) (cs : List Po) (v : V), vs = [.ref a, v] ∧ ZnAt C H a cs ∧ CsOk cs ∧ ((ValP K H v false ∧ Q (.bl false) H) ∨ ∃ y, LowP H v y ∧ FineP 1000 y ∧ ∀ H', Same H H' → Q (.bl (inB cs y)) H')
def spZLow (K : PySem.W.Frag) (C CN : Addr) : Sp := fun vs H Q E => ∃ (a : Addr) (x : Po) (xs : List Po) (v : V), vs = [.ref a, v] ∧ ZnAt C H a (x :: xs) ∧ CsOk (x :: xs) ∧ ((∃ c, LowP H v c ∧ c ≠ zeroP ∧ FineP 2001 c ∧ ∀ r H', Same H H' → RatAt H' r (wor c (lowP c x xs)) → Q (.ref r) H') ∨ ((ValP K H v false ∨ LowP H v zeroP) ∧ BadE CN "direction" v H E))
def gr4 (f : Int × Int) (p : Po) : List Po := [(minF p.1 f, minF p.2 f), (minF p.1 f, pluF p.2 f), (pluF p.1 f, minF p.2 f), (pluF p.1 f, pluF p.2 f)]
def grF (f : Int × Int) (cs : List Po) : List Po := cs.flatMap (gr4 f)
def spZGr (K : PySem.W.Frag) (C CN : Addr) : Sp := fun vs H Q E => ∃ (a : Addr) (cs : List Po) (v : V), vs = [.ref a, v] ∧ ZnAt C H a cs ∧ CsOk cs ∧ ((∃ (f : Int × Int) (M : Int), Low H v f.1 f.2 ∧ 0 ≤ f.1 ∧ Fine 1000 f ∧ cs.length ≤ 100 ∧ (∀ x ∈ grF f cs, PtOk M x) ∧ 0 < M ∧ Bd 1000 M ∧ ∀ z ds H', Same H H' → ZnAt C H' z ds → HullP (grF f cs) ds → Q (.ref z) H') ∨ ((Val K H v false ∨ ∃ x : Int × Int, Low H v x.1 x.2 ∧ x.1 < 0) ∧ BadE CN "grown" v H E))
theorem norms_fine {xs : List Po} (ne : xs ≠ []) (h : ∀ x ∈ xs, FineP 1000 x) : ∀ n ∈ normsF xs, FineP 2001 n := fun n hn => by
  have l0 := List.length_pos_iff.mpr ne
  have fp : ∀ {i : Nat}, i < xs.length → FineP 1000 (ptN xs i) := fun {i} hi => h _ (List.mem_of_getElem? (ptN_at hi))
  have fw : ∀ {i j : Nat}, i < xs.length → j < xs.length → FineP 2001 (wayF (ptN xs i) (ptN xs j)) := fun {i j} hi hj => by
    have z := fineP_way (fp hi) (fp hj)
    exact ⟨z.1.mono (by decide), z.2.mono (by decide)⟩
  unfold normsF at hn
  split at hn
  · unfold axesL at hn
    simp only [List.mem_cons, List.not_mem_nil, or_false] at hn
    have f1 : Fine 2001 (1, 1) := ⟨by decide, by unfold Bd; decide, by unfold Bd; decide⟩
    have f0 : Fine 2001 (0, 1) := ⟨by decide, by unfold Bd; decide, by unfold Bd; decide⟩
    have fm : Fine 2001 (-1, 1) := ⟨by decide, by unfold Bd; decide, by unfold Bd; decide⟩
    rcases hn with rfl | rfl | rfl | rfl
    · exact ⟨f1, f0⟩
    · exact ⟨f0, f1⟩
    · exact ⟨fm, f0⟩
    · exact ⟨f0, fm⟩
  · split at hn
    · rename_i h2
      simp only [List.mem_cons, List.not_mem_nil, or_false] at hn
      have w := fw (i := 0) (j := 1) (by omega) (by omega)
      rcases hn with rfl | rfl | rfl | rfl
      · exact fineP_trn w
      · exact w
      · exact fineP_opp (fineP_trn w)
      · exact fineP_opp w
    · obtain ⟨k, hk, rfl⟩ := List.mem_map.mp hn
      have hk' := List.mem_range.mp hk
      exact fineP_trn (fw hk' (Nat.mod_lt _ l0))
section
variable {P : Program} {w : World} {K : PySem.W.Frag} {mg : Str → Option Value} {base : Heap}
theorem look_c (r : Addr) : (znK.zip [V.ref r]).lookup ("corners" : Str) = some (.ref r) := rfl
theorem scZEq : FnScope psZE psZE (defScope sZEq) := ⟨rfl, rfl, rfl, by decide +kernel, rfl, by decide +kernel, by decide +kernel⟩
theorem ok_zeq {f C : Addr} {fd : FuncData} (F : Fun K "__eq__" "Zone.__eq__" sZEq f fd) (T : VCls K C znK) (IC : C8.InsC K C) (mi : mg "isinstance" = none) (mC : mg "Zone" = some (.ref C)) (kt : PySem.W.kitOne K (.type "tuple") (.ref C) = some false) : FnOk P w K mg base CX0 1 f fd psZE (spZEq C) := by
  refine F.ok scZEq (fun vs H Q E h => ?_) (fun cdv A outer s H vs Q E hr h => ?_)
  · obtain ⟨a, cs, v, rfl, _⟩ := h
    rfl
  · obtain ⟨a, cs, v, rfl, ⟨dx, r, qs, h1, h2, h3⟩, h⟩ := h
    refine ⟨_, pss_one (ps_ret (pe_and (pe_callB (CallR.or (C8.call_isC IC) call_isi) (by rfl) mi (by decide +kernel) (pa_cons (pv 1) (pa_cons (pe_glob (v := .ref C) (by rfl) mC rfl) pa_nil)))
      (pe_one (pe_cmpR (op_eqDK (K := K) rfl hr.units) (pe_fldK (K := K) rfl (pv 0) rfl) (pe_fldK (K := K) rfl (pv 1) rfl) (nomark _))))), ?_⟩
    rcases h with ⟨b, ds, rfl, ⟨dy, r2, qs2, g1, g2, g3⟩, k⟩ | ⟨b, xs, rfl, hb, k⟩
    · refine ⟨_, rfl, .inl ⟨b, dy, _, rfl, g1, true, rfl, iteT ?_⟩⟩
      refine ⟨_, rfl, a, C, dx, _, _, rfl, h1, T.cl, T.no _ (by decide +kernel), look_c r, ?_⟩
      refine ⟨_, rfl, b, C, dy, _, _, rfl, g1, T.cl, T.no _ (by decide +kernel), look_c r2, ?_⟩
      refine ⟨_, _, .tup (.inl (.inl h2)) (dp_pts h3), .tup (.inl (.inl g2)) (dp_pts g3), ptsT_shaped _, ptsT_shaped _, ?_⟩
      rw [eqv_ptsT]
      exact k
    · exact ⟨_, rfl, .inr ⟨_, .ref C, _, .ref C, false, rfl, .own C, .base (.tup hb), kt, false, rfl, iteF k⟩⟩
theorem scZIn : FnScope nsZC psZC (defScope sZIn) := ⟨rfl, rfl, rfl, by decide +kernel, rfl, by decide +kernel, by decide +kernel⟩
theorem ok_zin {f C fI fA fN fX : Addr} {fd dI dA dN dX : FuncData} (F : Fun K "__contains__" "Zone.__contains__" sZIn f fd) (T : VCls K C znK) (ma : mg "any" = none)
    (I : Cl P w K mg base "is_point" psv 3 (spIsPt K) fI dI) (A : Cl P w K mg base "as_point" psv 3 spAsPt fA dA) (N : Cl P w K mg base "normals_of" ["corners"] 4 (spNorm K) fN dN) (X : Cl P w K mg base "excludes" psEx 4 (spExcl K) fX dX) : FnOk P w K mg base CX0 5 f fd psZC (spZIn K C) := by
  refine F.ok scZIn (fun vs H Q E h => ?_) (fun cdv A' outer s H vs Q E hr h => ?_)
  · obtain ⟨a, cs, v, rfl, _⟩ := h
    rfl
  · obtain ⟨a, cs, v, rfl, ⟨dx, r, qs, h1, h2, h3⟩, ⟨ne, fc, lc⟩, h⟩ := h
    have hr3 := hr.mono (show 3 ≤ 4 by decide)
    refine ⟨_, pss_cons (ps_if (pt_not (pt_val (pe_call I.G hr3 (by rfl) I.g I.kp I.b .nil pass0 (pa_cons (pv 1) pa_nil)))) (pss_one (ps_ret pe_bl)) pss_nil)
      (C8.pss_cut (ps_set (i := 2) scZIn.nd rfl (Or.inr rfl) (pe_call A.G hr3 (by rfl) A.g A.kp A.b .nil pass0 (pa_cons (pv 1) pa_nil)))
      (pss_one (ps_ret (pe_not (pe_callB (cr_any rfl) (by rfl) ma (by decide +kernel) (pa_cons (pe_lc (own := [("normal", 3)]) (g := gName 3) (tt := tYes) rfl scZIn.nd (pi_anyK (K := K) rfl (pe_call N.G hr (by rfl) N.g N.kp N.b .nil pass0 (pa_cons (pe_fldK (K := K) rfl (pv 0) rfl) pa_nil))) (blkOk_by (N := nsZC) (sc := defScope sZIn) (by decide +kernel)) (fun _ _ _ _ _ => pg_name (i := 3) scZIn.nd rfl (Or.inl rfl)) (fun _ _ _ _ _ => pts_nil)
          (fun _ _ _ _ _ => pe_call X.G hr (by rfl) X.g X.kp X.b .nil pass0 (pa_cons (pv 3) (pa_cons (pe_fldK (K := K) rfl (pv 0) rfl) (pa_cons (pv 2) pa_nil))))) pa_nil)))))), ?_⟩
    rcases h with ⟨hv, k⟩ | ⟨y, hy, fy, k⟩
    · exact ⟨_, rfl, v, false, rfl, hv, false, rfl, iteT k⟩
    · refine ⟨_, rfl, v, true, rfl, lowP_ok hy, true, rfl, iteF ?_⟩
      refine ⟨fun σ' H' => ∃ p, σ' = [some (.ref a), some v, some (.ref p), none] ∧ Same H H' ∧ PtAt H' p y, ⟨_, rfl, v, y, rfl, hy, fun p H1 s1 hp => ⟨p, rfl, s1, hp⟩⟩, ?_⟩
      rintro σ1 H1 ⟨p, rfl, s1, hp⟩
      unfold tRet tNotV tCB tCons
      dsimp only
      refine .inr ⟨_, rfl, a, C, dx, _, _, rfl, s1 _ _ h1, T.cl, T.no _ (by decide +kernel), look_c r, r, qs, cs, rfl, s1 _ _ h2, h3.same s1, ne, fc, lc, fun u us H2 s2 hu hus => ⟨u, rfl, ⟨_, hu⟩, fun D hD => ?_⟩⟩
      have fn := norms_fine ne fc
      have s12 := s1.trans s2
      refine lc_tup (K := K) (a := u) (xs := rv us) (fun j H' => Same H2 H' ∧ H' D = some (.lst ((((normsF cs).take j).map fun n => cs.all fun x => wlt n x y).map V.bl))) ⟨same_new hD, upd_same⟩ (fun j H' _ z => SqT.same hu z.1) ?_ ?_
      · rintro j w H3 hj ⟨s3, h3'⟩
        have hjl : j < (normsF cs).length := by
          have := (List.getElem?_eq_some_iff.mp hj).1
          rw [rv_len, hus.1] at this
          exact this
        have en : (normsF cs)[j]? = some (normsF cs)[j] := List.getElem?_eq_getElem hjl
        have hju : j < us.length := by rw [hus.1]; exact hjl
        have ew : w = .ref us[j] := by
          unfold rv at hj
          rw [List.getElem?_map, List.getElem?_eq_getElem hju] at hj
          exact (Option.some.inj hj).symm
        subst ew
        have pn := (hus.2 j _ _ (List.getElem?_eq_getElem hju) en).same s3
        have s13 := s12.trans s3
        refine ⟨rfl, yesT ?_⟩
        refine ⟨_, rfl, _, rfl, a, C, dx, _, _, rfl, s13 _ _ h1, T.cl, T.no _ (by decide +kernel), look_c r, _, rfl, us[j], r, p, qs, cs, _, y, rfl, pn, s13 _ _ h2, h3.same s13, hp.same (s2.trans s3), fn _ (List.getElem_mem hjl), fc, fy, lc, fun H4 s4 => ?_⟩
        have e2 : (((normsF cs).take (j + 1)).map fun n => cs.all fun x => wlt n x y).map V.bl = (((normsF cs).take j).map fun n => cs.all fun x => wlt n x y).map V.bl ++ [.bl (cs.all fun x => wlt (normsF cs)[j] x y)] := by
          rw [List.take_add_one, en, Option.toList_some, List.map_append, List.map_append]
          rfl
        dsimp only
        rw [e2]
        have ln : (normsF cs).length ≤ 1000 := by
          unfold normsF
          split
          · show 4 ≤ 1000
            decide
          · split
            · show 4 ≤ 1000
              decide
            · rw [List.length_map, List.length_range]
              exact lc
        exact growV hD s3 h3' s4 (by
          rw [List.length_map, List.length_map, List.length_take]
          omega)
      · rintro H3 ⟨s3, h3'⟩
        rw [rv_len, hus.1, List.take_length] at h3'
        refine ⟨D, _, rfl, SqL.of h3', ?_⟩
        have e3 : ((normsF cs).map fun n => cs.all fun x => wlt n x y).any id = (normsF cs).any fun n => cs.all fun x => wlt n x y := by
          rw [List.any_map]
          rfl
        rw [e3]
        exact ⟨_, rfl, k H3 (s12.trans s3)⟩
theorem scZLow : FnScope nsZL psZL (defScope sZLow) := ⟨rfl, rfl, rfl, by decide +kernel, rfl, by decide +kernel, by decide +kernel⟩
theorem ok_zlow {f C CN fD fL fW : Addr} {fd dD dL dW : FuncData} (F : Fun K "lowest" "Zone.lowest" sZLow f fd) (T : VCls K C znK)
    (DG : FnOk P w K mg base (L2.CX P w) 4 fD dD psv (spDir K CN)) (Dg : mg "checked_direction" = some (.ref fD)) (Dk : PySem.W.keepIn K (.ref fD) = true) (Db : Binds K dD psv [])
    (L : Cl P w K mg base "lowest_point" psLP 4 spLowP fL dL) (W : Cl P w K mg base "worth" psDP 3 (spWorth K) fW dW) : FnOk P w K mg base (L2.CX P w) 5 f fd psZL (spZLow K C CN) := by
  refine F.okX scZLow (fun vs H Q E h => ?_) (fun cdv A' outer s H vs Q E hr h => ?_)
  · obtain ⟨a, x, xs, v, rfl, _⟩ := h
    rfl
  · obtain ⟨a, x, xs, v, rfl, ⟨dx, r, qs, h1, h2, h3⟩, ⟨ne, fc, lc⟩, h⟩ := h
    have hr3 := hr.mono (show 3 ≤ 4 by decide)
    refine ⟨_, pss_cons (ps_set (i := 2) scZLow.nd rfl (Or.inl rfl) (pe_call DG hr (by rfl) Dg Dk Db .nil (passes_call (takes_of rfl rfl rfl rfl) (fun _ _ _ _ h => h)) (pa_cons (pv 1) pa_nil)))
      (pss_one (ps_ret (pe_call W.G hr3 (by rfl) W.g W.kp W.b .nil pass0 (pa_cons (pv 2) (pa_cons (pe_call L.G hr (by rfl) L.g L.kp L.b .nil pass0 (pa_cons (pv 2) (pa_cons (pe_fldK (K := K) rfl (pv 0) rfl) pa_nil))) pa_nil))))), ?_⟩
    rcases h with ⟨c, hc, n0, f2, k⟩ | ⟨hb, k⟩
    · refine ⟨_, rfl, v, rfl, .inl ⟨c, hc, n0, fun p H1 s1 hp => ?_⟩⟩
      refine ⟨_, rfl, _, rfl, _, rfl, a, C, dx, _, _, rfl, s1 _ _ h1, T.cl, T.no _ (by decide +kernel), look_c r, p, r, qs, c, x, xs, rfl, hp, s1 _ _ h2, h3.same s1, f2, fc, by
        rw [List.length_cons] at lc
        omega, fun u H2 s2 hu => ?_⟩
      have fl : FineP 1000 (lowP c x xs) := fc _ (lowP_mem c xs x)
      exact ⟨p, u, c, _, rfl, (hp.same s2).toK, hu, ⟨f2.1.mono (by decide), f2.2.mono (by decide)⟩, ⟨fl.1.mono (by decide), fl.2.mono (by decide)⟩, fun t H3 s3 ht => k t H3 (s1.trans (s2.trans s3)) ht⟩
    · exact ⟨_, rfl, v, rfl, .inr ⟨hb, k⟩⟩
end
end Fk

set_option Elab.async false
set_option maxRecDepth 100000
set_option maxHeartbeats 4000000
set_option exponentiation.threshold 20000
/-! Zone.grown. -/
namespace Fk
open PySem L2
theorem gr_snoc (f : Int × Int) (cs : List Po) (p : Po) : grF f (cs ++ [p]) = grF f cs ++ gr4 f p := by
  unfold grF
  rw [List.flatMap_append]
  simp
theorem gr_len (f : Int × Int) : ∀ cs : List Po, (grF f cs).length = 4 * cs.length
  | [] => rfl
  | p :: cs => by
    have := gr_len f cs
    unfold grF at this ⊢
    rw [List.flatMap_cons, List.length_append, this, List.length_cons]
    show 4 + _ = _
    omega
theorem pts_add2 {H H' : Hp} {fl t u : Addr} {ps : List Addr} {xs : List Po} {x y : Po} (s : Same H H') (h : PtsAt H ps xs) (ht : PtAt H' t x) (hu : PtAt H' u y) : PtsAt H' (ps ++ [t, u]) (xs ++ [x, y]) := by
  have a := PtsAt.add s h ht
  have b := PtsAt.add (Same.refl H') a hu
  rw [List.append_assoc, List.append_assoc] at b
  exact b
theorem low_selfR {H : Hp} {q : Addr} {x : Int × Int} (h : RatAt H q x) (r : Red x) (f : Fine 1000 x) : Low H (.ref q) x.1 x.2 := .inr ⟨q, x.1, x.2, rfl, h, r.p, f.2.1.big (by decide), f.2.2.big (by decide), by rw [r.g]; simp, by rw [r.g]; simp⟩
theorem low_ptR {H : Hp} {q : Addr} {x : Po} (h : PtAt H q x) (r : RedP x) (f : FineP 1000 x) : LowP H (.ref q) x := by
  obtain ⟨a, b, h1, h2, h3⟩ := h
  exact ⟨q, .ref a, .ref b, rfl, h1, low_selfR h2 r.a f.1, low_selfR h3 r.b f.2⟩
theorem min_red {x y : Int × Int} (hx : 0 < x.2) (hy : 0 < y.2) : Red (minF x y) := low_red (Int.mul_pos hx hy)
theorem plu_red {x y : Int × Int} (hx : 0 < x.2) (hy : 0 < y.2) : Red (pluF x y) := low_red (Int.mul_pos hx hy)
theorem gr_mem {f : Int × Int} {cs : List Po} {x : Po} (h : x ∈ grF f cs) : ∃ p ∈ cs, x ∈ gr4 f p := List.mem_flatMap.mp h
theorem gr_red {f : Int × Int} {cs : List Po} (f0 : 0 < f.2) (hc : ∀ p ∈ cs, 0 < p.1.2 ∧ 0 < p.2.2) : ∀ x ∈ grF f cs, RedP x := fun x hx => by
  obtain ⟨p, hp, hx⟩ := gr_mem hx
  obtain ⟨a, b⟩ := hc p hp
  simp only [gr4, List.mem_cons, List.not_mem_nil, or_false] at hx
  rcases hx with rfl | rfl | rfl | rfl
  · exact ⟨min_red a f0, min_red b f0⟩
  · exact ⟨min_red a f0, plu_red b f0⟩
  · exact ⟨plu_red a f0, min_red b f0⟩
  · exact ⟨plu_red a f0, plu_red b f0⟩
section
variable {P : Program} {w : World} {K : PySem.W.Frag} {mg : Str → Option Value} {base : Heap}
theorem scZGr : FnScope nsZG psZG (defScope sZGr) := ⟨rfl, rfl, rfl, by decide +kernel, rfl, by decide +kernel, by decide +kernel⟩
theorem ok_zgr {f C CN gN fR fA fM fP fZ : Addr} {fd dN dR dA dM dP dZ : FuncData} (F : Fun K "grown" "Zone.grown" sZGr f fd) (T : VCls K C znK) (EN : Err P w K mg base "BadNumber" numFs CN gN dN)
    (R : Cl P w K mg base "is_ratio" psv 2 (spIsRat K) fR dR) (A : Cl P w K mg base "as_ratio" psv 2 spAs fA dA) (M : Cl P w K mg base "minus" psOO 2 (spTwo minF) fM dM) (Pl : Cl P w K mg base "plus" psOO 2 (spTwo pluF) fP dP)
    (ZM : Mk K C fZ) (ZG : FnOk P w K mg base (L2.CX P w) 4 fZ dZ psZI (spZInit K C CN)) (Zg : mg "Zone" = some (.ref C)) (Zb : Binds K dZ psZI []) : FnOk P w K mg base (L2.CX P w) 6 f fd psZG (spZGr K C CN) := by
  refine F.okX scZGr (fun vs H Q E h => ?_) (fun cdv A' outer s H vs Q E hr h => ?_)
  · obtain ⟨a, cs, v, rfl, _⟩ := h
    rfl
  · obtain ⟨a, cs, v, rfl, ⟨dx, r, qs, h1, h2, h3⟩, ⟨ne, fc, lc⟩, h⟩ := h
    have hr2 := hr.mono (show 2 ≤ 5 by decide)
    refine ⟨_, pss_cons (ps_if (PW.pt (pw_or (pt_not (pt_val (pe_call R.G hr2 (by rfl) R.g R.kp R.b .nil pass0 (pa_cons (pv 1) pa_nil)))) (pw_or1 (pt_cmpR op_lt (pe_ix ix_tup (pe_call A.G hr2 (by rfl) A.g A.kp A.b .nil pass0 (pa_cons (pv 1) pa_nil)) pe_int (fun _ _ => rfl)) pe_int (nomark _)))))
        (pss_one (ps_raise rfl (takes_of rfl rfl rfl rfl) (pmk_oex EN.ox EN.iC EN.tI EN.G (hr.mono (by decide)) EN.b .nil pass0 (by rfl) EN.g (pa_cons pe_str (pa_cons (pv 1) pa_nil))))) pss_nil)
      (C8.pss_cut (ps_set (i := 2) scZGr.nd rfl (Or.inl rfl) (pe_call A.G hr2 (by rfl) A.g A.kp A.b .nil pass0 (pa_cons (pv 1) pa_nil)))
      (pss_cons (ps_set (i := 3) scZGr.nd rfl (Or.inl rfl) (pe_lst pa_nil))
      (C8.pss_cut (ps_for (passes_of rfl) rfl (pi_tupK (K := K) rfl (pe_fldK (K := K) rfl (pv 0) rfl)) (pg_tupK (K := K) (n := 2) rfl rfl (pgs_cons (pg_name (i := 4) scZGr.nd rfl (Or.inl rfl)) (pgs_cons (pg_name (i := 5) scZGr.nd rfl (Or.inl rfl)) pgs_nil)))
        (pss_one (ps_for (passes_of rfl) rfl (pi_tupK (K := K) rfl (pe_tup (pa_cons (pe_call M.G hr2 (by rfl) M.g M.kp M.b .nil pass0 (pa_cons (pv 4) (pa_cons (pv 2) pa_nil))) (pa_cons (pe_call Pl.G hr2 (by rfl) Pl.g Pl.kp Pl.b .nil pass0 (pa_cons (pv 4) (pa_cons (pv 2) pa_nil))) pa_nil)))) (pg_name (i := 6) scZGr.nd rfl (Or.inl rfl))
          (pss_one (ps_set (i := 3) scZGr.nd rfl (Or.inl rfl) (pe_op op_cat (pv 3) (pe_lst (pa_cons (pe_tup (pa_cons (pv 6) (pa_cons (pe_call M.G hr2 (by rfl) M.g M.kp M.b .nil pass0 (pa_cons (pv 5) (pa_cons (pv 2) pa_nil))) pa_nil))) (pa_cons (pe_tup (pa_cons (pv 6) (pa_cons (pe_call Pl.G hr2 (by rfl) Pl.g Pl.kp Pl.b .nil pass0 (pa_cons (pv 5) (pa_cons (pv 2) pa_nil))) pa_nil))) pa_nil)))))))))
      (pss_one (ps_ret (pe_make ZM ZG hr (by rfl) Zg Zb .nil (passes_call (takes_of rfl rfl rfl rfl) (fun _ _ _ _ h => h)) (pa_cons (pv 3) pa_nil))))))), ?_⟩
    rcases h with ⟨f', Mm, hv, f0, ff, l1, ok, M0, hM, k⟩ | ⟨hb, k⟩
    · have hval : Val K H v true := low_ok hv
      refine ⟨_, rfl, v, true, rfl, hval, true, rfl, iteF ?_⟩
      refine ⟨_, rfl, v, f'.1, f'.2, rfl, hv, fun p hp => ?_⟩
      have s0 := same_new (o := .tup [.int f'.1, .int f'.2]) hp
      refine ⟨p, _, 0, _, rfl, rfl, .inl (.inl upd_same), rfl, _, _, rfl, rfl, _, rfl, ?_⟩
      refine iteF' (decide_eq_false (by omega)) ?_
      refine ⟨fun σ' H' => ∃ fr, σ' = [some (.ref a), some v, some (.ref fr), none, none, none, none] ∧ Same H H' ∧ RatAt H' fr f', ⟨_, rfl, v, f'.1, f'.2, rfl, hv.same s0, fun q hq => ⟨q, rfl, s0.trans (same_new hq), upd_same⟩⟩, ?_⟩
      rintro σ1 H1 ⟨fr, rfl, s1, hfr⟩
      refine ⟨by show 0 ≤ sizeLine; decide, fun fl0 hfl0 => ?_⟩
      have s2 := same_new (o := .lst []) hfl0
      refine ⟨fun σ' H' => ∃ fl fs v4 v5 v6, σ' = [some (.ref a), some v, some (.ref fr), some (.ref fl), v4, v5, v6] ∧ Same H1 H' ∧ H' fl = some (.lst (rv fs)) ∧ PtsAt H' fs (grF f' cs), ?_, ?_⟩
      · refine ⟨_, rfl, a, C, dx, _, _, rfl, (s1.trans s2) _ _ h1, T.cl, T.no _ (by decide +kernel), look_c r, r, rfl, ⟨_, .inl (.inl ((s1.trans s2) _ _ h2))⟩, ?_⟩
        refine for_tup (K := K) (a := r) (xs := rv qs) (fun i σ' H' => ∃ fl fs v4 v5 v6, σ' = [some (.ref a), some v, some (.ref fr), some (.ref fl), v4, v5, v6] ∧ Same H1 H' ∧ H' fl = some (.lst (rv fs)) ∧ PtsAt H' fs (grF f' (cs.take i))) ⟨fl0, [], none, none, none, rfl, s2, upd_same, pts_nil'⟩ (fun i σ' H' _ z => ?_) (fun i y σ' H2 hi z => ?_) (fun σ' H2 z => ?_)
        · obtain ⟨fl, fs, v4, v5, v6, rfl, s3, _⟩ := z
          exact .inl (.inl ((s1.trans s3) _ _ h2))
        · obtain ⟨fl, fs, v4, v5, v6, rfl, s3, hfl, hfs⟩ := z
          have s13 := s1.trans s3
          obtain ⟨t, x, rfl, _, hx3, c, d, t1, t2, t3⟩ := (h3.same s13).get hi
          have fx := fc x (List.mem_of_getElem? hx3)
          have hil : i < cs.length := (List.getElem?_eq_some_iff.mp hx3).1
          refine ⟨t, _, rfl, .inl (.inl t1), rfl, _, _, rfl, _, _, rfl, rfl, ?_⟩
          have fx6 : Fine 6600 x.1 := fx.1.mono (by decide)
          have fy6 : Fine 6600 x.2 := fx.2.mono (by decide)
          have ff6 : Fine 6600 f' := ff.mono (by decide)
          refine ⟨_, rfl, _, rfl, c, fr, _, _, rfl, t2, s3 _ _ hfr, fx6, ff6, fun u1 H3 s4 hu1 => ?_⟩
          refine ⟨_, rfl, _, rfl, c, fr, _, _, rfl, s4 _ _ t2, (s3.trans s4) _ _ hfr, fx6, ff6, fun u2 H4 s5 hu2 => ⟨le2, fun tt htt => ?_⟩⟩
          have s6 := same_new (o := .tup [.ref u1, .ref u2]) htt
          have s46 := s4.trans (s5.trans s6)
          refine ⟨tt, rfl, ⟨_, .inl (.inl upd_same)⟩, ?_⟩
          refine for_tup (K := K) (a := tt) (xs := rv [u1, u2]) (fun j σ' H' => ∃ fl fs v6, σ' = [some (.ref a), some v, some (.ref fr), some (.ref fl), some (.ref c), some (.ref d), v6] ∧ Same (upd H4 tt (.tup [.ref u1, .ref u2])) H' ∧ H' fl = some (.lst (rv fs)) ∧ PtsAt H' fs (grF f' (cs.take i) ++ (gr4 f' x).take (2 * j))) ⟨fl, fs, _, rfl, Same.refl _, s46 _ _ hfl, ?_⟩ (fun j σ' H' _ z => ?_) (fun j y σ' H5 hj z => ?_) (fun σ' H5 z => ?_)
          · have z := hfs.same s46
            have e : grF f' (cs.take i) ++ (gr4 f' x).take (2 * 0) = grF f' (cs.take i) := by simp
            rw [e]
            exact z
          · obtain ⟨fl, fs, v6, rfl, s7, _⟩ := z
            exact .inl (.inl (s7 _ _ upd_same))
          · obtain ⟨fl2, fs2, v6', rfl, s7, hfl2, hfs2⟩ := z
            have s47 := s46.trans s7
            obtain ⟨u, fx', rfl, hu, e4, hj1⟩ : ∃ (u : Addr) (fx' : Int × Int), y = .ref u ∧ RatAt H5 u fx' ∧ (gr4 f' x).take (2 * (j + 1)) = (gr4 f' x).take (2 * j) ++ [(fx', minF x.2 f'), (fx', pluF x.2 f')] ∧ j ≤ 1 := by
              match j, hj with
              | 0, hj =>
                cases hj
                exact ⟨u1, _, rfl, ((s5.trans s6).trans s7) _ _ hu1, rfl, by decide⟩
              | 1, hj =>
                cases hj
                exact ⟨u2, _, rfl, (s6.trans s7) _ _ hu2, rfl, by decide⟩
            refine ⟨_, rfl, _, rfl, _, rfl, _, rfl, d, fr, _, _, rfl, s47 _ _ t3, (s3.trans s47) _ _ hfr, fy6, ff6, fun w1 H6 s8 hw1 => ⟨le2, fun z1 hz1 => ?_⟩⟩
            have s9 := same_new (o := .tup [.ref u, .ref w1]) hz1
            refine ⟨_, rfl, _, rfl, _, rfl, d, fr, _, _, rfl, (s47.trans (s8.trans s9)) _ _ t3, (s3.trans (s47.trans (s8.trans s9))) _ _ hfr, fy6, ff6, fun w2 H7 s10 hw2 => ⟨le2, fun z2 hz2 => ⟨le2, fun z3 hz3 => ?_⟩⟩⟩
            have s11 := same_new (o := .tup [.ref u, .ref w2]) hz2
            have s12 := same_new (o := .lst [.ref z1, .ref z2]) hz3
            have s812 := s8.trans (s9.trans (s10.trans (s11.trans s12)))
            refine ⟨fl2, z3, _, _, rfl, rfl, s812 _ _ hfl2, upd_same, ?_, fun z4 hz4 => ?_⟩
            · have := hfs2.1
              rw [List.length_append, gr_len, List.length_take, List.length_take] at this
              rw [rv_len, this]
              have l4 : (gr4 f' x).length = 4 := rfl
              exact Nat.le_trans (show _ ≤ 1000 by
                show _ + 2 ≤ 1000
                omega) (show 1000 ≤ sizeLine by decide)
            have er : rv fs2 ++ [V.ref z1, V.ref z2] = rv (fs2 ++ [z1, z2]) := by
              unfold rv
              rw [List.map_append]
              rfl
            rw [er]
            have s13' := same_new (o := .lst (rv (fs2 ++ [z1, z2]))) hz4
            refine ⟨z4, _, _, rfl, s7.trans (s812.trans s13'), upd_same, ?_⟩
            rw [e4, ← List.append_assoc]
            refine pts_add2 (fl := z4) (s812.trans s13') hfs2 ⟨u, w1, ?_, ?_, ?_⟩ ⟨u, w2, ?_, ?_, ?_⟩
            · exact (s10.trans (s11.trans (s12.trans s13'))) _ _ upd_same
            · exact (s812.trans s13') _ _ hu
            · exact (s9.trans (s10.trans (s11.trans (s12.trans s13')))) _ _ hw1
            · exact (s12.trans s13') _ _ upd_same
            · exact (s812.trans s13') _ _ hu
            · exact (s11.trans (s12.trans s13')) _ _ hw2
          · obtain ⟨fl2, fs2, v6', rfl, s7, hfl2, hfs2⟩ := z
            have e : cs.take (i + 1) = cs.take i ++ [x] := by
              rw [List.take_add_one, hx3]
              rfl
            refine ⟨fl2, fs2, _, _, _, rfl, s3.trans (s46.trans s7), hfl2, ?_⟩
            rw [e, gr_snoc]
            exact hfs2
        · obtain ⟨fl, fs, v4, v5, v6, rfl, s3, hfl, hfs⟩ := z
          rw [rv_len, h3.1, List.take_length] at hfs
          exact ⟨fl, fs, v4, v5, v6, rfl, s3, hfl, hfs⟩
      rintro σ2 H2 ⟨fl, fs, v4, v5, v6, rfl, s3, hfl, hfs⟩
      refine ⟨_, rfl, ?_⟩
      intro z dz hz hdz nz
      have sz : Same H2 (upd (upd H2 dz (.own z)) z (.ins C dz [])) := fun b o hb => by
        rw [upd_ne (ne_of_none hb hz), upd_ne (ne_of_none hb hdz)]
        exact hb
      have back : ∀ {H' : Hp}, Keep z (upd (upd H2 dz (.own z)) z (.ins C dz [])) H' → Same H2 H' := fun {H'} kk b o hb => kk b o (ne_of_none hb hz) (sz _ _ hb)
      have lows : LowsAt (upd (upd H2 dz (.own z)) z (.ins C dz [])) (rv fs) (grF f' cs) := by
        have hf := hfs.same sz
        refine ⟨by rw [rv_len, hf.1], fun i y x e1 e2 => ?_⟩
        obtain ⟨t, x', rfl, _, e3, g⟩ := hf.get e1
        rw [e2] at e3
        cases e3
        have hm := List.mem_of_getElem? e2
        exact low_ptR g (gr_red ff.1 (fun p hp => ⟨(fc p hp).1.1, (fc p hp).2.1⟩) x hm) (ok x hm).f
      refine ⟨z, dz, .ref fl, rfl, upd_same, .inl ⟨fl, rv fs, grF f' cs, Mm, rfl, .inl (sz _ _ hfl), lows, ?_, by rw [gr_len]; omega, ok, M0, hM, fun ds H' kk hz' hull => ⟨rfl, k z ds H' ((s1.trans s3).trans (back kk)) hz' hull⟩⟩⟩
      intro e
      have := gr_len f' cs
      rw [e] at this
      have := List.length_pos_iff.mpr ne
      simp at *
      omega
    · rcases hb with hb | ⟨x, hx, x0⟩
      · refine ⟨_, rfl, v, false, rfl, hb, false, rfl, iteT ?_⟩
        exact ⟨_, rfl, raise_ok rfl (by show 2 ≤ 1000; decide) k⟩
      · refine ⟨_, rfl, v, true, rfl, low_ok hx, true, rfl, iteF ?_⟩
        refine ⟨_, rfl, v, x.1, x.2, rfl, hx, fun p hp => ?_⟩
        refine ⟨p, _, 0, _, rfl, rfl, .inl (.inl upd_same), rfl, _, _, rfl, rfl, _, rfl, ?_⟩
        rw [decide_eq_true x0]
        refine iteT ⟨_, rfl, raise_ok rfl (by show 2 ≤ 1000; decide) (k.same (same_new hp))⟩
end
end Fk

set_option Elab.async false
set_option maxRecDepth 100000
set_option maxHeartbeats 4000000
set_option exponentiation.threshold 20000
namespace Fk
open PySem L2
/-! ### what is drawn -/
theorem PenAt.dk {H : Hp} {p l : Addr} {c : Int} (P : PenAt H p l c) : ∃ u, H p = some u ∧ (∀ xs, HO.lst xs ≠ u) ∧ (∀ xs, HO.tup xs ≠ u) ∧ ∀ C dx fs, HO.ins C dx fs ≠ u := by
  obtain ⟨⟨a, d, f, ns, h1, _⟩, _⟩ := P
  exact ⟨_, h1, fun _ z => (nomatch z), fun _ z => (nomatch z), fun _ _ _ z => nomatch z⟩
theorem PenAt.there {H : Hp} {p l : Addr} {c : Int} (P : PenAt H p l c) : ∃ u, H l = some u := by
  obtain ⟨⟨a, d, f, ns, _, h2, _⟩, _⟩ := P
  exact ⟨_, h2⟩
theorem PenAt.set {H : Hp} {p l D : Addr} {c : Int} {o : HO} {xs : List V} (P : PenAt H p l c) (hD : H D = some (.lst xs)) (n : D ≠ l) : PenAt (L2.upd H D o) p l c := by
  obtain ⟨⟨a, d, f, ns, h1, h2, h3⟩, lo⟩ := P
  have nD : D ≠ p := fun e => by
    rw [e, h1] at hD
    cases hD
  exact ⟨⟨a, d, f, ns, by rw [upd_ne nD.symm]; exact h1, by rw [upd_ne n.symm]; exact h2, h3⟩, lo⟩
theorem Keep.lst {H H' : Hp} {p l q : Addr} {c : Int} {xs : List V} (k : Keep p H H') (P : PenAt H p l c) (h : H q = some (.lst xs)) : H' q = some (.lst xs) := by
  obtain ⟨u, h1, h2, _, _⟩ := P.dk
  exact k.there h1 h (h2 _)
theorem Keep.rat {H H' : Hp} {p l q : Addr} {c : Int} {x : Int × Int} (k : Keep p H H') (P : PenAt H p l c) (h : RatAt H q x) : RatAt H' q x := by
  obtain ⟨u, h1, _, h2, _⟩ := P.dk
  exact k.there h1 h (h2 _)
theorem Keep.pairs {H H' : Hp} {p l : Addr} {c : Int} {ps : List Addr} {fs : List (Int × Int)} (k : Keep p H H') (P : PenAt H p l c) (h : PairsAt H ps fs) : PairsAt H' ps fs := ⟨h.1, fun i q x a b => k.rat P (h.2 i q x a b)⟩
theorem new_ne {H : Hp} {p l D : Addr} {c : Int} (P : PenAt H p l c) (h : H D = none) : D ≠ l := fun e => by
  obtain ⟨u, hu⟩ := P.there
  rw [e, hu] at h
  cases h
theorem PenAt.same {H H' : Hp} {p l : Addr} {c : Int} (h : PenAt H p l c) (s : Same H H') : PenAt H' p l c := by
  obtain ⟨⟨a, d, f, ns, h1, h2, h3⟩, lo⟩ := h
  exact ⟨⟨a, d, f, ns, s _ _ h1, s _ _ h2, h3⟩, lo⟩
theorem low_fit {A B : Nat} {a b : Int} (b0 : 0 < b) (ha : Bd A a) (hb : Bd B b) : Fit A B (lowI a b) := by
  have r := low_red (a := a) b0
  have z := low_bd b0 ha hb
  exact ⟨r.p, r.g, z.1, z.2⟩
theorem fig20 {r fg : Int} (h0 : 0 ≤ r) (h : r < 10 ^ fg.toNat) (f : fg ≤ 30) : Bd 100 r := by
  have e : ((10 : Int) ^ fg.toNat) = ((10 ^ fg.toNat : Nat) : Int) := by simp
  rw [e] at h
  have z : (10 : Nat) ^ fg.toNat ≤ 10 ^ 30 := Nat.pow_le_pow_right (by decide) (by omega)
  have z2 : (10 : Nat) ^ 30 < 2 ^ 100 := by decide
  unfold Bd
  omega
theorem fig1 {r fg : Int} (h0 : 0 ≤ r) (h : r < 10 ^ fg.toNat) (f : fg = 1) : Bd 4 r := by
  subst f
  have e : ((10 : Int) ^ (1 : Int).toNat) = 10 := by decide
  rw [e] at h
  have z2 : (10 : Nat) < 2 ^ 4 := by decide
  unfold Bd
  omega
theorem sgn_bd {s r : Int} {A : Nat} (h : s = 1 ∨ s = -1) (hr : Bd A r) : Bd A (s * r) := by
  unfold Bd at *
  rcases h with rfl | rfl
  · rw [Int.one_mul]
    exact hr
  · rw [Int.neg_mul, Int.one_mul, Int.natAbs_neg]
    exact hr
abbrev sLRatio : Stmt := top 46
abbrev sLPassed : Stmt := top 47
def spLRatio : Sp := fun vs H Q _ => ∃ (p l : Addr) (c fg : Int), vs = [.ref p, .int fg] ∧ PenAt H p l c ∧ c < 800000000 ∧ 1 ≤ fg ∧ fg ≤ 30 ∧ ∀ q x c' H', Keep p H H' → PenAt H' p l c' → c ≤ c' → c' ≤ c + 40 → RatAt H' q x → Fit 100 7 x → (fg = 1 → Fit 4 7 x) → Q (.ref q) H'
abbrev psLPassed : List Str := ["_law_pen_here", "_law_ratio_here"]
abbrev nsLPassed : List Str := ["_law_pen_here", "_law_ratio_here", "_law_way", "_law_by"]
def spLPassed : Sp := fun vs H Q _ => ∃ (p l q : Addr) (c : Int) (x : Int × Int), vs = [.ref p, .ref q] ∧ PenAt H p l c ∧ c < 700000000 ∧ RatAt H q x ∧ Fit 600 600 x ∧ ∀ v c' H', Keep p H H' → PenAt H' p l c' → c ≤ c' → c' ≤ c + 2 → Low H' v x.1 x.2 → Q v H'
theorem low_self {H : Hp} {q : Addr} {x : Int × Int} (h : RatAt H q x) (f : Fit 600 600 x) : Low H (.ref q) x.1 x.2 := .inr ⟨q, x.1, x.2, rfl, h, f.p, f.b1.big (by decide), f.b2.big (by decide), by rw [f.g]; simp, by rw [f.g]; simp⟩
theorem low_scaled {H : Hp} {q : Addr} {x : Int × Int} {b : Int} (h : H q = some (.tup [.int (x.1 * b), .int (x.2 * b)])) (f : Fit 600 600 x) (b0 : 0 < b) (bb : Bd 7 b) : Low H (.ref q) x.1 x.2 := by
  have g : (Nat.gcd (x.1 * b).natAbs (x.2 * b).natAbs : Nat) = b.natAbs := by rw [Int.natAbs_mul, Int.natAbs_mul, Nat.gcd_mul_right, f.g, Nat.one_mul]
  have e : ((Nat.gcd (x.1 * b).natAbs (x.2 * b).natAbs : Nat) : Int) = b := by
    rw [g]
    omega
  refine .inr ⟨q, _, _, rfl, h, Int.mul_pos f.p b0, (f.b1.mulB bb).big (by decide), (f.b2.mulB bb).big (by decide), ?_, ?_⟩
  · rw [e, Int.mul_ediv_cancel _ (by omega)]
  · rw [e, Int.mul_ediv_cancel _ (by omega)]
section
variable {P : Program} {w : World} {K : PySem.W.Frag} {mg : Str → Option Value} {base : Heap}
theorem scLRatio : FnScope ["_law_pen_here", "_law_figures", "_law_top", "_law_bottom"] psBig (defScope sLRatio) := ⟨rfl, rfl, rfl, by decide +kernel, rfl, by decide +kernel, by decide +kernel⟩
theorem ok_lratio {f fD fP fB fQ : Addr} {fd dD dP dB dQ : FuncData} (F : Fun K "_law_ratio" "_law_ratio" sLRatio f fd) (D : Cl P w K mg base "_law_draw" psDraw 1 spDraw fD dD) (C : Cl P w K mg base "_law_pick" psPick 2 spPick fP dP) (B : Cl P w K mg base "_law_big" psBig 3 spBig fB dB) (L : Cl P w K mg base "_law_q" psQ 2 spQ fQ dQ) :
    FnOk P w K mg base CX0 4 f fd psBig spLRatio := by
  refine F.ok scLRatio (fun vs H Q E h => ?_) (fun cdv A outer s H vs Q E hr h => ?_)
  · obtain ⟨p, l, c, fg, rfl, _⟩ := h
    rfl
  · obtain ⟨p, l, c, fg, rfl, hp, c1, f1, f2, k⟩ := h
    have hr2 := hr.mono (show 2 ≤ 3 by decide)
    have hr1 := hr.mono (show 1 ≤ 3 by decide)
    refine ⟨_, pss_cons (ps_set (i := 2) scLRatio.nd rfl (Or.inl rfl) (pe_call B.G hr (by rfl) B.g B.kp B.b .nil pass0 (pa_cons (pv 0) (pa_cons (pv 1) pa_nil))))
      (pss_cons (ps_set (i := 3) scLRatio.nd rfl (Or.inl rfl) (pe_call C.G hr2 (by rfl) C.g C.kp C.b .nil pass0 (pa_cons (pv 0) (pa_cons (pe_lst (pa_cons pe_int (pa_cons pe_int (pa_cons pe_int (pa_cons pe_int (pa_cons pe_int (pa_cons pe_int (pa_cons pe_int (pa_cons (pe_op op_add pe_int (pe_call D.G hr1 (by rfl) D.g D.kp D.b .nil pass0 (pa_cons (pv 0) (pa_cons pe_int pa_nil)))) pa_nil))))))))) pa_nil))))
      (pss_one (ps_ret (pe_call L.G hr2 (by rfl) L.g L.kp L.b .nil pass0 (pa_cons (pe_op op_mulW (pe_call C.G hr2 (by rfl) C.g C.kp C.b .nil pass0 (pa_cons (pv 0) (pa_cons (pe_lst (pa_cons pe_int (pa_cons pe_int (pa_cons (pe_un un_neg pe_int) pa_nil)))) pa_nil))) (pv 2)) (pa_cons (pv 3) pa_nil)))))), ?_⟩
    refine ⟨_, rfl, _, rfl, p, l, c, fg, rfl, hp, by omega, f1, by omega, fun r c2 H1 r0 r1 l1 l2 P1 k1 => ?_⟩
    have rb := fig20 r0 r1 f2
    refine ⟨_, rfl, _, rfl, p, l, c2, 97, rfl, P1, by omega, by decide, by decide, fun d H2 d0 d1 P2 k2 => ?_⟩
    refine ⟨_, _, rfl, rfl, by show 8 ≤ sizeLine; decide, fun q hq => ?_⟩
    refine ⟨p, l, q, c2 + 1, _, rfl, P2.upd hq, by omega, upd_same, by show 0 < 8; decide, by show 8 ≤ 1000; decide, fun i x H3 hx P3 k3 => ?_⟩
    obtain ⟨b, rfl, b0, b1⟩ : ∃ b : Int, x = .int b ∧ 0 < b ∧ b ≤ 97 := by
      have hm := List.mem_of_getElem? hx
      simp only [List.mem_cons, List.not_mem_nil, or_false] at hm
      rcases hm with e | e | e | e | e | e | e | e
      · exact ⟨1, e, by decide, by decide⟩
      · exact ⟨1, e, by decide, by decide⟩
      · exact ⟨1, e, by decide, by decide⟩
      · exact ⟨2, e, by decide, by decide⟩
      · exact ⟨3, e, by decide, by decide⟩
      · exact ⟨4, e, by decide, by decide⟩
      · exact ⟨7, e, by decide, by decide⟩
      · exact ⟨1 + d, e, by omega, by omega⟩
    refine ⟨_, rfl, 1, rfl, by show 3 ≤ sizeLine; decide, fun q2 hq2 => ?_⟩
    refine ⟨p, l, q2, c2 + 1 + 1, _, rfl, P3.upd hq2, by omega, upd_same, by show 0 < 3; decide, by show 3 ≤ 1000; decide, fun i2 x2 H4 hx2 P4 k4 => ?_⟩
    obtain ⟨s1, rfl, sb⟩ : ∃ s1 : Int, x2 = .int s1 ∧ (s1 = 1 ∨ s1 = -1) := by
      have hm := List.mem_of_getElem? hx2
      simp only [List.mem_cons, List.not_mem_nil, or_false] at hm
      rcases hm with e | e | e
      · exact ⟨1, e, .inl rfl⟩
      · exact ⟨1, e, .inl rfl⟩
      · exact ⟨-1, e, .inr rfl⟩
    have bb : Bd 7 b := by
      unfold Bd
      have : (2 : Nat) ^ 7 = 128 := by decide
      omega
    have s1b : Bd 1 s1 := by
      rcases sb with rfl | rfl
      · exact one_bd
      · unfold Bd
        decide
    refine ⟨_, rfl, _, _, rfl, rfl, Bd.mul s1b rb (by decide) (by decide), _, rfl, _, b, rfl, b0, ((s1b.mulB rb).big (by decide)), (bb.big (by decide)), fun u H5 s5 hu => ?_⟩
    have k04 : Keep p H H4 := k1.trans (k2.trans ((Keep.new hq).trans (k3.trans ((Keep.new hq2).trans k4))))
    exact k u _ (c2 + 1 + 1 + 1) H5 (k04.trans (Same.keep s5)) (P4.same s5) (by omega) (by omega) hu (low_fit b0 (sgn_bd sb rb) bb) (fun e => low_fit b0 (sgn_bd sb (fig1 r0 r1 e)) bb)
theorem scLPassed : FnScope nsLPassed psLPassed (defScope sLPassed) := ⟨rfl, rfl, rfl, by decide +kernel, rfl, by decide +kernel, by decide +kernel⟩
theorem ok_lpassed {f fD : Addr} {fd dD : FuncData} (F : Fun K "_law_passed" "_law_passed" sLPassed f fd) (D : Cl P w K mg base "_law_draw" psDraw 1 spDraw fD dD) : FnOk P w K mg base CX0 2 f fd psLPassed spLPassed := by
  refine F.ok scLPassed (fun vs H Q E h => ?_) (fun cdv A outer s H vs Q E hr h => ?_)
  · obtain ⟨p, l, q, c, x, rfl, _⟩ := h
    rfl
  · obtain ⟨p, l, q, c, x, rfl, hp, c1, hq, fx, k⟩ := h
    refine ⟨_, pss_cons (ps_set (i := 2) scLPassed.nd rfl (Or.inl rfl) (pe_call D.G hr (by rfl) D.g D.kp D.b .nil pass0 (pa_cons (pv 0) (pa_cons pe_int pa_nil))))
      (C8.pss_cut (ps_if (PW.pt (pw_and (pt_cmpR op_eq (pv 2) pe_int (nomark _)) (pw_and1 (pt_cmpR op_eq (pe_ix ix_tup (pv 1) pe_int (fun _ _ => rfl)) pe_int (nomark _))))) (pss_one (ps_ret (pe_ix ix_tup (pv 1) pe_int (fun _ _ => rfl)))) pss_nil)
      (pss_cons (ps_if (pt_cmpR op_eq (pv 2) pe_int (nomark _)) (pss_cons (ps_set (i := 3) scLPassed.nd rfl (Or.inl rfl) (pe_op op_add pe_int (pe_call D.G hr (by rfl) D.g D.kp D.b .nil pass0 (pa_cons (pv 0) (pa_cons pe_int pa_nil)))))
        (pss_one (ps_ret (pe_tup (pa_cons (pe_op op_mulW (pe_ix ix_tup (pv 1) pe_int (fun _ _ => rfl)) (pv 3)) (pa_cons (pe_op op_mulW (pe_ix ix_tup (pv 1) pe_int (fun _ _ => rfl)) (pv 3)) pa_nil)))))) pss_nil)
      (pss_one (ps_ret (pv 1))))), ?_⟩
    refine ⟨_, rfl, p, l, c, 4, rfl, hp, by omega, by decide, by decide, fun d H1 d0 d1 P1 k1 => ?_⟩
    have hq1 := k1.rat hp hq
    refine ⟨fun σ' H' => σ' = [some (.ref p), some (.ref q), some (.int d), none] ∧ H' = H1, ?_, ?_⟩
    · refine ⟨_, rfl, rfl, _, rfl, ite2 (fun _ => ?_) fun _ => iteF ⟨rfl, rfl⟩⟩
      refine ⟨_, rfl, q, _, 1, _, rfl, rfl, .inl (.inl hq1), rfl, rfl, _, rfl, ite2 (fun e => ?_) fun _ => ⟨rfl, rfl⟩⟩
      have e1 : x.2 = 1 := V.int.inj (of_decide_eq_true e)
      refine ⟨_, rfl, q, _, 0, _, rfl, rfl, .inl (.inl hq1), rfl, ?_⟩
      exact k _ (c + 1) H1 k1 P1 (by omega) (by omega) (.inl ⟨rfl, e1⟩)
    rintro σ' H' ⟨rfl, rfl⟩
    refine ⟨_, rfl, rfl, _, rfl, ite2 (fun _ => ?_) fun _ => ?_⟩
    · refine ⟨_, rfl, p, l, c + 1, 5, rfl, P1, by omega, by decide, by decide, fun e H2 e0 e1 P2 k2 => ?_⟩
      have hq2 := k2.rat P1 hq1
      have eb : Bd 7 (2 + e) := by
        unfold Bd
        have : (2 : Nat) ^ 7 = 128 := by decide
        omega
      refine ⟨_, _, rfl, rfl, ?_⟩
      refine ⟨_, rfl, q, _, 0, _, rfl, rfl, .inl (.inl hq2), rfl, _, rfl, _, _, rfl, rfl, Bd.mul fx.b1 eb (by decide) (by decide), _, rfl, q, _, 1, _, rfl, rfl, .inl (.inl hq2), rfl, _, rfl, _, _, rfl, rfl, Bd.mul fx.b2 eb (by decide) (by decide), by show 2 ≤ sizeLine; decide, fun t ht => ?_⟩
      exact k _ (c + 1 + 1) _ (k1.trans (k2.trans (Keep.new ht))) (P2.upd ht) (by omega) (by omega) (low_scaled upd_same fx (by omega) eb)
    · exact ⟨_, rfl, k _ (c + 1) _ k1 P1 (by omega) (by omega) (low_self hq1 fx)⟩
end
end Fk

set_option Elab.async false
set_option maxRecDepth 100000
set_option maxHeartbeats 4000000
set_option exponentiation.threshold 20000
/-! The law: directions, points before, points passed. -/
namespace Fk
open PySem L2
theorem Keep.tup {H H' : Hp} {p l q : Addr} {c : Int} {xs : List V} (k : Keep p H H') (P : PenAt H p l c) (h : H q = some (.tup xs)) : H' q = some (.tup xs) := by
  obtain ⟨u, hu, _, h3, _⟩ := P.dk
  exact k.there hu h (h3 _)
theorem Keep.pt {H H' : Hp} {p l q : Addr} {c : Int} {x : Po} (k : Keep p H H') (P : PenAt H p l c) (h : PtAt H q x) : PtAt H' q x := by
  obtain ⟨a, b, h1, h2, h3⟩ := h
  exact ⟨a, b, k.tup P h1, k.rat P h2, k.rat P h3⟩
theorem Keep.pts {H H' : Hp} {p l : Addr} {c : Int} {ps : List Addr} {xs : List Po} (k : Keep p H H') (P : PenAt H p l c) (h : PtsAt H ps xs) : PtsAt H' ps xs := ⟨h.1, fun i q x a b => k.pt P (h.2 i q x a b)⟩
theorem Keep.ins {H H' : Hp} {p l q C dx : Addr} {c : Int} {fs : List (Str × V)} (k : Keep p H H') (P : PenAt H p l c) (h : H q = some (.ins C dx fs)) : H' q = some (.ins C dx fs) := by
  obtain ⟨u, hu, _, _, h4⟩ := P.dk
  exact k.there hu h (h4 _ _ _)
theorem Keep.zn {H H' : Hp} {p l z C : Addr} {c : Int} {cs : List Po} (k : Keep p H H') (P : PenAt H p l c) (h : ZnAt C H z cs) : ZnAt C H' z cs := by
  obtain ⟨dx, r, qs, h1, h2, h3⟩ := h
  exact ⟨dx, r, qs, k.ins P h1, k.tup P h2, k.pts P h3⟩
theorem Keep.low {H H' : Hp} {p l : Addr} {c : Int} {v : V} {a b : Int} (k : Keep p H H') (P : PenAt H p l c) (h : Low H v a b) : Low H' v a b := by
  obtain ⟨u, hu, _, h3, _⟩ := P.dk
  exact h.keep k hu h3
theorem Keep.lowP {H H' : Hp} {p l : Addr} {c : Int} {v : V} {x : Po} (k : Keep p H H') (P : PenAt H p l c) (h : LowP H v x) : LowP H' v x := by
  obtain ⟨t, a, b, h1, h2, h3, h4⟩ := h
  exact ⟨t, a, b, h1, k.tup P h2, k.low P h3, k.low P h4⟩
abbrev sLDir : Stmt := top 48
abbrev sLPB : Stmt := top 53
abbrev sLPP : Stmt := top 58
abbrev psLDir : List Str := ["_law_pen_here"]
abbrev nsLDir : List Str := ["_law_pen_here", "_law_c"]
abbrev psLPP : List Str := ["_law_pen_here", "_law_point"]
structure DirOk (x : Po) : Prop where
  a : Fit 100 7 x.1
  b : Fit 100 7 x.2
  n : x ≠ zeroP
def spLDir : Sp := fun vs H Q _ => ∃ (p l : Addr) (c : Int), vs = [.ref p] ∧ PenAt H p l c ∧ c < 700000000 ∧ ∀ r x c' H', Keep p H H' → PenAt H' p l c' → c ≤ c' → c' ≤ c + 100 → PtAt H' r x → DirOk x → Q (.ref r) H'
def pbB (x y : Po) : Bool := decide (qv x.1 < qv y.1) || (decide (x.1 = y.1) && decide (qv x.2 < qv y.2))
def spLPB : Sp := fun vs H Q _ => ∃ (p q : Addr) (x y : Po), vs = [.ref p, .ref q] ∧ PtAt H p x ∧ PtAt H q y ∧ FineP 6600 x ∧ FineP 6600 y ∧ Q (.bl (pbB x y)) H
def spLPP : Sp := fun vs H Q _ => ∃ (p l q : Addr) (c : Int) (x : Po), vs = [.ref p, .ref q] ∧ PenAt H p l c ∧ c < 600000000 ∧ PtAt H q x ∧ Fit 600 600 x.1 ∧ Fit 600 600 x.2 ∧ ∀ v c' H', Keep p H H' → PenAt H' p l c' → c ≤ c' → c' ≤ c + 4 → LowP H' v x → Q v H'
theorem pb_iff {x y : Po} (hx : RedP x) (hy : RedP y) : pbB x y = true ↔ Hu.ltq (qP x) (qP y) := by
  unfold pbB Hu.ltq qP
  dsimp only
  rw [Bool.or_eq_true, Bool.and_eq_true, decide_eq_true_iff, decide_eq_true_iff, decide_eq_true_iff]
  constructor
  · rintro (h | ⟨h, g⟩)
    · exact .inl h
    · exact .inr ⟨by rw [h], g⟩
  · rintro (h | ⟨h, g⟩)
    · exact .inl h
    · exact .inr ⟨qv_inj hx.a hy.a h, g⟩
section
variable {P : Program} {w : World} {K : PySem.W.Frag} {mg : Str → Option Value} {base : Heap}
theorem scLDir : FnScope nsLDir psLDir (defScope sLDir) := ⟨rfl, rfl, rfl, by decide +kernel, rfl, by decide +kernel, by decide +kernel⟩
theorem ok_ldir {f fR fP : Addr} {fd dR dP : FuncData} (F : Fun K "_law_direction" "_law_direction" sLDir f fd) (R : Cl P w K mg base "_law_ratio" psBig 4 spLRatio fR dR) (C : Cl P w K mg base "_law_pick" psPick 2 spPick fP dP) : FnOk P w K mg base CX0 5 f fd psLDir spLDir := by
  refine F.ok scLDir (fun vs H Q E h => ?_) (fun cdv A outer s H vs Q E hr h => ?_)
  · obtain ⟨p, l, c, rfl, _⟩ := h
    rfl
  · obtain ⟨p, l, c, rfl, hp, c1, k⟩ := h
    have hr2 := hr.mono (show 2 ≤ 4 by decide)
    refine ⟨_, pss_cons (ps_set (i := 1) scLDir.nd rfl (Or.inl rfl) (pe_tup (pa_cons (pe_call R.G hr (by rfl) R.g R.kp R.b .nil pass0 (pa_cons (pv 0) (pa_cons pe_int pa_nil))) (pa_cons (pe_call R.G hr (by rfl) R.g R.kp R.b .nil pass0 (pa_cons (pv 0) (pa_cons pe_int pa_nil))) pa_nil))))
      (pss_cons (ps_if (pt_cmpR (op_eqDK (K := K) rfl hr.units) (pv 1) (pe_tup (pa_cons (pe_tup (pa_cons pe_int (pa_cons pe_int pa_nil))) (pa_cons (pe_tup (pa_cons pe_int (pa_cons pe_int pa_nil))) pa_nil))) (nomark _))
          (pss_one (ps_ret (pe_tup (pa_cons (pe_tup (pa_cons pe_int (pa_cons pe_int pa_nil))) (pa_cons (pe_tup (pa_cons pe_int (pa_cons pe_int pa_nil))) pa_nil))))) pss_nil)
      (pss_one (ps_ret (pe_call C.G hr2 (by rfl) C.g C.kp C.b .nil pass0 (pa_cons (pv 0) (pa_cons (pe_lst (pa_cons (pv 1) (pa_cons (pv 1)
          (pa_cons (pe_tup (pa_cons (pe_tup (pa_cons pe_int (pa_cons pe_int pa_nil))) (pa_cons (pe_tup (pa_cons pe_int (pa_cons pe_int pa_nil))) pa_nil)))
          (pa_cons (pe_tup (pa_cons (pe_tup (pa_cons pe_int (pa_cons pe_int pa_nil))) (pa_cons (pe_tup (pa_cons (pe_un un_neg pe_int) (pa_cons pe_int pa_nil))) pa_nil)))
          (pa_cons (pe_tup (pa_cons (pe_tup (pa_cons (pe_un un_neg pe_int) (pa_cons pe_int pa_nil))) (pa_cons (pe_tup (pa_cons pe_int (pa_cons pe_int pa_nil))) pa_nil))) pa_nil)))))) pa_nil)))))), ?_⟩
    have f1 : Fit 100 7 (1, 1) := ⟨by decide, by decide, by unfold Bd; decide, by unfold Bd; decide⟩
    have f0 : Fit 100 7 (0, 1) := ⟨by decide, by decide, by unfold Bd; decide, by unfold Bd; decide⟩
    have fm : Fit 100 7 (-1, 1) := ⟨by decide, by decide, by unfold Bd; decide, by unfold Bd; decide⟩
    refine ⟨_, rfl, p, l, c, 2, rfl, hp, by omega, by decide, by decide, fun q1 x1 d1 H1 k1 P1 a1 a2 hq1 fx1 _ => ?_⟩
    refine ⟨_, rfl, p, l, d1, 2, rfl, P1, by omega, by decide, by decide, fun q2 x2 d2 H2 k2 P2 b1 b2 hq2 fx2 _ => ⟨le2, fun t ht => ?_⟩⟩
    have s1 := same_new (o := .tup [.ref q1, .ref q2]) ht
    have K12 := k1.trans k2
    have hpt : PtAt (upd H2 t (.tup [.ref q1, .ref q2])) t (x1, x2) := ⟨q1, q2, upd_same, (k2.rat P1 hq1).same s1, hq2.same s1⟩
    have P3 := P2.same s1
    generalize upd H2 t (.tup [.ref q1, .ref q2]) = H3 at s1 hpt P3 ⊢
    have K13 : Keep p H H3 := K12.trans (Same.keep s1)
    refine ⟨_, rfl, le2, fun u1 hu1 => ⟨le2, fun u2 hu2 => ⟨le2, fun u3 hu3 => ?_⟩⟩⟩
    have s2 := same_new (o := .tup [.int 0, .int 1]) hu1
    have s3 := same_new (o := .tup [.int 0, .int 1]) hu2
    have s4 := same_new (o := .tup [.ref u1, .ref u2]) hu3
    have hz : PtAt (upd (upd (upd H3 u1 (.tup [.int 0, .int 1])) u2 (.tup [.int 0, .int 1])) u3 (.tup [.ref u1, .ref u2])) u3 zeroP := ⟨u1, u2, upd_same, (s3.trans s4) _ _ upd_same, s4 _ _ upd_same⟩
    have s24 := s2.trans (s3.trans s4)
    generalize upd (upd (upd H3 u1 (.tup [.int 0, .int 1])) u2 (.tup [.int 0, .int 1])) u3 (.tup [.ref u1, .ref u2]) = H4 at s24 hz ⊢
    refine ⟨datPt (x1, x2), datPt zeroP, dp_pt (hpt.same s24), dp_pt hz, pt_shaped _, pt_shaped _, ?_⟩
    rw [eqv_pt]
    refine ⟨_, rfl, ite2 (fun e => ?_) (fun e => ?_)⟩
    · refine ⟨le2, fun w1 hw1 => ⟨le2, fun w2 hw2 => ⟨le2, fun w3 hw3 => ?_⟩⟩⟩
      have t2 := same_new (o := .tup [.int 0, .int 1]) hw1
      have t3 := same_new (o := .tup [.int 1, .int 1]) hw2
      have t4 := same_new (o := .tup [.ref w1, .ref w2]) hw3
      have t24 := s24.trans (t2.trans (t3.trans t4))
      exact k w3 ((0, 1), (1, 1)) d2 _ (K13.trans (Same.keep t24)) (P3.same t24) (by omega) (by omega) ⟨w1, w2, upd_same, (t3.trans t4) _ _ upd_same, t4 _ _ upd_same⟩ ⟨f0, f1, fun z => by cases z⟩
    · have n0 : (x1, x2) ≠ zeroP := fun z => e (decide_eq_true z)
      refine ⟨_, rfl, _, rfl, _, rfl, le2, fun w1 hw1 => ⟨le2, fun w2 hw2 => ⟨le2, fun w3 hw3 => ⟨le2, fun w4 hw4 => ⟨1, rfl, le2, fun w5 hw5 => ⟨le2, fun w6 hw6 => ⟨1, rfl, le2, fun w7 hw7 => ⟨le2, fun w8 hw8 => ⟨le2, fun w9 hw9 => ⟨by show 5 ≤ sizeLine; decide, fun lz hlz => ?_⟩⟩⟩⟩⟩⟩⟩⟩⟩⟩
      have t1 := same_new (o := .tup [.int 1, .int 1]) hw1
      have t2 := same_new (o := .tup [.int 0, .int 1]) hw2
      have t3 := same_new (o := .tup [.ref w1, .ref w2]) hw3
      have t4 := same_new (o := .tup [.int 0, .int 1]) hw4
      have t5 := same_new (o := .tup [.int (-1), .int 1]) hw5
      have t6 := same_new (o := .tup [.ref w4, .ref w5]) hw6
      have t7 := same_new (o := .tup [.int (-1), .int 1]) hw7
      have t8 := same_new (o := .tup [.int 1, .int 1]) hw8
      have t9 := same_new (o := .tup [.ref w7, .ref w8]) hw9
      have tl := same_new (o := .lst [.ref t, .ref t, .ref w3, .ref w6, .ref w9]) hlz
      have g9 := t9.trans tl
      have g8 := t8.trans g9
      have g7 := t7.trans g8
      have g6 := t6.trans g7
      have g5 := t5.trans g6
      have g4 := t4.trans g5
      have g3 := t3.trans g4
      have g2 := t2.trans g3
      have g1 := t1.trans g2
      have sA := s24.trans g1
      have Pn := P3.same sA
      refine ⟨p, l, lz, d2, _, rfl, Pn, by omega, upd_same, by show 0 < 5; decide, by show 5 ≤ 1000; decide, fun i y H5 hy P5 k5 => ?_⟩
      have hm := List.mem_of_getElem? hy
      simp only [List.mem_cons, List.not_mem_nil, or_false] at hm
      have KK : Keep p H H5 := (K13.trans (Same.keep sA)).trans k5
      have fin : ∀ {r : Addr} {x : Po}, y = .ref r → PtAt _ r x → DirOk x → Q y H5 := fun {r x} e hx hd => by
        subst e
        exact k r x (d2 + 1) H5 KK P5 (by omega) (by omega) (k5.pt Pn hx) hd
      rcases hm with e | e | e | e | e
      · exact fin e (hpt.same sA) ⟨fx1, fx2, n0⟩
      · exact fin e (hpt.same sA) ⟨fx1, fx2, n0⟩
      · exact fin (x := ((1, 1), (0, 1))) e ⟨w1, w2, g4 _ _ upd_same, g2 _ _ upd_same, g3 _ _ upd_same⟩ ⟨f1, f0, fun z => by cases z⟩
      · exact fin (x := ((0, 1), (-1, 1))) e ⟨w4, w5, g7 _ _ upd_same, g5 _ _ upd_same, g6 _ _ upd_same⟩ ⟨f0, fm, fun z => by cases z⟩
      · exact fin (x := ((-1, 1), (1, 1))) e ⟨w7, w8, tl _ _ upd_same, g8 _ _ upd_same, g9 _ _ upd_same⟩ ⟨fm, f1, fun z => by cases z⟩
theorem scLPB : FnScope psOT psOT (defScope sLPB) := ⟨rfl, rfl, rfl, by decide +kernel, rfl, by decide +kernel, by decide +kernel⟩
theorem ok_lpb {f fL : Addr} {fd dL : FuncData} (F : Fun K "_law_point_before" "_law_point_before" sLPB f fd) (L : Cl P w K mg base "_law_less" psOT 1 spLLess fL dL) : FnOk P w K mg base CX0 2 f fd psOT spLPB := by
  refine F.ok scLPB (fun vs H Q E h => ?_) (fun cdv A outer s H vs Q E hr h => ?_)
  · obtain ⟨p, q, x, y, rfl, _⟩ := h
    rfl
  · obtain ⟨p, q, x, y, rfl, ⟨a, b, h1, h2, h3⟩, ⟨c, d, g1, g2, g3⟩, fx, fy, k⟩ := h
    refine ⟨_, pss_one (ps_ret (pe_or (pe_call L.G hr (by rfl) L.g L.kp L.b .nil pass0 (pa_cons (pe_ix ix_tup (pv 0) pe_int (fun _ _ => rfl)) (pa_cons (pe_ix ix_tup (pv 1) pe_int (fun _ _ => rfl)) pa_nil)))
      (pe_one (pe_and (pe_cmpR (op_eqDK (K := K) rfl hr.units) (pe_ix ix_tup (pv 0) pe_int (fun _ _ => rfl)) (pe_ix ix_tup (pv 1) pe_int (fun _ _ => rfl)) (nomark _)) (pe_one (pe_call L.G hr (by rfl) L.g L.kp L.b .nil pass0 (pa_cons (pe_ix ix_tup (pv 0) pe_int (fun _ _ => rfl)) (pa_cons (pe_ix ix_tup (pv 1) pe_int (fun _ _ => rfl)) pa_nil)))))))), ?_⟩
    refine ⟨_, rfl, p, _, 0, _, rfl, rfl, .inl (.inl h1), rfl, _, rfl, q, _, 0, _, rfl, rfl, .inl (.inl g1), rfl, a, c, _, _, rfl, h2, g2, fx.1, fy.1, _, rfl, ?_⟩
    unfold pbB at k
    by_cases q1 : qv x.1 < qv y.1
    · rw [decide_eq_true q1] at k ⊢
      exact iteT k
    · rw [decide_eq_false q1] at k ⊢
      refine iteF ?_
      refine ⟨_, rfl, p, _, 0, _, rfl, rfl, .inl (.inl h1), rfl, _, rfl, q, _, 0, _, rfl, rfl, .inl (.inl g1), rfl, datP x.1, datP y.1, dp_rat h2, dp_rat g2, rat_shaped _, rat_shaped _, _, rfl, ?_⟩
      rw [eqv_rat]
      rw [Bool.false_or] at k
      by_cases q2 : x.1 = y.1
      · rw [decide_eq_true q2] at k ⊢
        refine iteT ?_
        exact ⟨_, rfl, p, _, 1, _, rfl, rfl, .inl (.inl h1), rfl, _, rfl, q, _, 1, _, rfl, rfl, .inl (.inl g1), rfl, b, d, _, _, rfl, h3, g3, fx.2, fy.2, k⟩
      · rw [decide_eq_false q2] at k ⊢
        exact iteF k
theorem scLPP : FnScope psLPP psLPP (defScope sLPP) := ⟨rfl, rfl, rfl, by decide +kernel, rfl, by decide +kernel, by decide +kernel⟩
theorem ok_lpp {f fS : Addr} {fd dS : FuncData} (F : Fun K "_law_passed_point" "_law_passed_point" sLPP f fd) (S : Cl P w K mg base "_law_passed" psLPassed 2 spLPassed fS dS) : FnOk P w K mg base CX0 3 f fd psLPP spLPP := by
  refine F.ok scLPP (fun vs H Q E h => ?_) (fun cdv A outer s H vs Q E hr h => ?_)
  · obtain ⟨p, l, q, c, x, rfl, _⟩ := h
    rfl
  · obtain ⟨p, l, q, c, x, rfl, hp, c1, hq, f1, f2, k⟩ := h
    obtain ⟨a, b, h1, h2, h3⟩ := id hq
    refine ⟨_, pss_one (ps_ret (pe_tup (pa_cons (pe_call S.G hr (by rfl) S.g S.kp S.b .nil pass0 (pa_cons (pv 0) (pa_cons (pe_ix ix_tup (pv 1) pe_int (fun _ _ => rfl)) pa_nil))) (pa_cons (pe_call S.G hr (by rfl) S.g S.kp S.b .nil pass0 (pa_cons (pv 0) (pa_cons (pe_ix ix_tup (pv 1) pe_int (fun _ _ => rfl)) pa_nil))) pa_nil)))), ?_⟩
    refine ⟨_, rfl, _, rfl, q, _, 0, _, rfl, rfl, .inl (.inl h1), rfl, p, l, a, c, _, rfl, hp, by omega, h2, f1, fun v d1 H1 k1 P1 a1 a2 hv => ?_⟩
    refine ⟨_, rfl, _, rfl, q, _, 1, _, rfl, rfl, .inl (.inl (k1.tup hp h1)), rfl, p, l, b, d1, _, rfl, P1, by omega, k1.rat hp h3, f2, fun v2 d2 H2 k2 P2 b1 b2 hv2 => ⟨le2, fun t ht => ?_⟩⟩
    have s1 := same_new (o := .tup [v, v2]) ht
    exact k (.ref t) d2 _ (k1.trans (k2.trans (Same.keep s1))) (P2.same s1) (by omega) (by omega) ⟨t, v, v2, rfl, upd_same, (k2.low P1 hv).same s1, hv2.same s1⟩
end
end Fk

set_option Elab.async false
set_option maxRecDepth 100000
set_option maxHeartbeats 4000000
set_option exponentiation.threshold 20000
/-! The law: least, lowest, grown. -/
namespace Fk
open PySem L2
abbrev sLLeast : Stmt := top 50
abbrev sLLowest : Stmt := top 55
abbrev sLGrown : Stmt := top 56
abbrev psLLe : List Str := ["_law_values"]
abbrev nsLLe : List Str := ["_law_values", "_law_best", "_law_one"]
abbrev psLLo : List Str := ["_law_points_here", "_law_c"]
abbrev nsLLo : List Str := ["_law_points_here", "_law_c", "_law_point"]
abbrev psLGr : List Str := ["_law_points_here", "_law_by"]
abbrev nsLGr : List Str := ["_law_points_here", "_law_by", "_law_found", "_law_back", "_law_one", "_law_two", "_law_a", "_law_b"]
def spLLeast : Sp := fun vs H Q _ => ∃ (l : Addr) (ps : List Addr) (fs : List (Int × Int)), vs = [.ref l] ∧ H l = some (.lst (rv ps)) ∧ PairsAt H ps fs ∧ fs ≠ [] ∧ (∀ x ∈ fs, Fine 6600 x) ∧ ∀ r y, RatAt H r y → y ∈ fs → (∀ z ∈ fs, qv y ≤ qv z) → Q (.ref r) H
def spLLowest : Sp := fun vs H Q _ => ∃ (l c : Addr) (ps : List Addr) (xs : List Po) (cv : Po), vs = [.ref l, .ref c] ∧ H l = some (.lst (rv ps)) ∧ PtsAt H ps xs ∧ PtAt H c cv ∧ xs ≠ [] ∧ xs.length ≤ 1000 ∧ FineP 3000 cv ∧ (∀ x ∈ xs, FineP 3000 x ∧ Fine 6600 (wor cv x)) ∧ ∀ r H', Same H H' → (∃ x ∈ xs, RatAt H' r (wor cv x) ∧ ∀ z ∈ xs, qv (wor cv x) ≤ qv (wor cv z)) → Q (.ref r) H'
/-- the law's four points around a point -/
def lg4 (f : Int × Int) (p : Po) : List Po := [(pluF p.1 f, pluF p.2 f), (pluF p.1 f, pluF p.2 (ngI f)), (pluF p.1 (ngI f), pluF p.2 f), (pluF p.1 (ngI f), pluF p.2 (ngI f))]
def lgF (f : Int × Int) (xs : List Po) : List Po := xs.flatMap (lg4 f)
def spLGrown : Sp := fun vs H Q _ => ∃ (l b : Addr) (ps : List Addr) (xs : List Po) (f : Int × Int), vs = [.ref l, .ref b] ∧ H l = some (.lst (rv ps)) ∧ PtsAt H ps xs ∧ RatAt H b f ∧ Fine 6600 f ∧ (∀ x ∈ xs, FineP 6600 x) ∧ xs.length ≤ 100 ∧ ∀ r qs H', Same H H' → H' r = some (.lst (rv qs)) → PtsAt H' qs (lgF f xs) → Q (.ref r) H'
theorem plu_ng (x f : Int × Int) : pluF x (ngI f) = minF x f := by
  unfold pluF minF ngI
  dsimp only
  rw [show x.1 * f.2 + -f.1 * x.2 = x.1 * f.2 - f.1 * x.2 by rw [Int.neg_mul]; omega]
theorem lg_snoc (f : Int × Int) (cs : List Po) (p : Po) : lgF f (cs ++ [p]) = lgF f cs ++ lg4 f p := by
  unfold lgF
  rw [List.flatMap_append]
  simp
theorem lg_len (f : Int × Int) : ∀ cs : List Po, (lgF f cs).length = 4 * cs.length
  | [] => rfl
  | p :: cs => by
    have := lg_len f cs
    unfold lgF at this ⊢
    rw [List.flatMap_cons, List.length_append, this, List.length_cons]
    show 4 + _ = _
    omega
theorem lg_mem {f : Int × Int} {xs : List Po} {x : Po} : x ∈ lgF f xs ↔ x ∈ grF f xs := by
  have e : ∀ p, x ∈ lg4 f p ↔ x ∈ gr4 f p := fun p => by
    unfold lg4 gr4
    rw [plu_ng, plu_ng]
    simp only [List.mem_cons, List.not_mem_nil, or_false]
    constructor
    · rintro (h | h | h | h)
      · exact .inr (.inr (.inr h))
      · exact .inr (.inr (.inl h))
      · exact .inr (.inl h)
      · exact .inl h
    · rintro (h | h | h | h)
      · exact .inr (.inr (.inr h))
      · exact .inr (.inr (.inl h))
      · exact .inr (.inl h)
      · exact .inl h
  unfold lgF grF
  rw [List.mem_flatMap, List.mem_flatMap]
  constructor
  · rintro ⟨p, hp, h⟩
    exact ⟨p, hp, (e p).mp h⟩
  · rintro ⟨p, hp, h⟩
    exact ⟨p, hp, (e p).mpr h⟩
section
variable {P : Program} {w : World} {K : PySem.W.Frag} {mg : Str → Option Value} {base : Heap}
theorem scLLeast : FnScope nsLLe psLLe (defScope sLLeast) := ⟨rfl, rfl, rfl, by decide +kernel, rfl, by decide +kernel, by decide +kernel⟩
theorem ok_lleast {f fL : Addr} {fd dL : FuncData} (F : Fun K "_law_least" "_law_least" sLLeast f fd) (L : Cl P w K mg base "_law_less" psOT 1 spLLess fL dL) : FnOk P w K mg base CX0 2 f fd psLLe spLLeast := by
  refine F.ok scLLeast (fun vs H Q E h => ?_) (fun cdv A outer s H vs Q E hr h => ?_)
  · obtain ⟨l, ps, fs, rfl, _⟩ := h
    rfl
  · obtain ⟨l, ps, fs, rfl, hl, hX, ne, hf, k⟩ := h
    refine ⟨_, pss_cons (ps_set (i := 1) scLLeast.nd rfl (Or.inl rfl) (pe_ix ix_list (pv 0) pe_int (fun _ _ => rfl)))
      (C8.pss_cut (ps_for PassesOwn.never rfl (pi_list (pv 0)) (pg_name (i := 2) scLLeast.nd rfl (Or.inl rfl))
        (pss_one (ps_if (pt_val (pe_call L.G hr (by rfl) L.g L.kp L.b .nil pass0 (pa_cons (pv 2) (pa_cons (pv 1) pa_nil)))) (pss_one (ps_set (i := 1) scLLeast.nd rfl (Or.inl rfl) (pv 2))) pss_nil)))
      (pss_one (ps_ret (pv 1)))), ?_⟩
    have l0 : 0 < fs.length := List.length_pos_iff.mpr ne
    obtain ⟨p0, a0, r0⟩ := hX.at_ l0
    have m0 : gp fs 0 ∈ fs := gp_mem l0
    refine ⟨_, rfl, l, _, 0, _, rfl, rfl, SqL.of hl, a0, ?_⟩
    refine ⟨fun σ' H' => ∃ r y v2, σ' = [some (.ref l), some (.ref r), v2] ∧ H' = H ∧ RatAt H r y ∧ y ∈ fs ∧ ∀ z ∈ fs, qv y ≤ qv z, ?_, ?_⟩
    · refine ⟨_, rfl, l, rfl, ⟨_, SqL.of hl⟩, ?_⟩
      refine for_list (K := K) (a := l) (xs := rv ps) (fun i σ' H' => ∃ r y v2, σ' = [some (.ref l), some (.ref r), v2] ∧ H' = H ∧ RatAt H r y ∧ y ∈ fs ∧ ∀ z ∈ fs.take i, qv y ≤ qv z) ⟨p0, _, none, rfl, rfl, r0, m0, fun z hz => nomatch hz⟩ (fun i σ' H' _ z => ?_) (fun i v σ' H2 hi z => ?_) (fun σ' H2 z => ?_)
      · obtain ⟨r, y, v2, rfl, rfl, _⟩ := z
        exact SqL.of hl
      · obtain ⟨r, y, v2, rfl, rfl, hr', hy, hm⟩ := z
        obtain ⟨p, x, rfl, _, hx3, hp⟩ := hX.get hi
        have hxm := List.mem_of_getElem? hx3
        have et : fs.take (i + 1) = fs.take i ++ [x] := by
          rw [List.take_add_one, hx3]
          rfl
        refine ⟨_, rfl, _, rfl, p, r, x, y, rfl, hp, hr', hf x hxm, hf y hy, _, rfl, ite2 (fun h => ?_) (fun h => ?_)⟩
        · have lt := of_decide_eq_true h
          refine ⟨_, rfl, p, x, _, rfl, rfl, hp, hxm, fun z hz => ?_⟩
          rw [et] at hz
          rcases List.mem_append.mp hz with hz | hz
          · have := hm z hz
            grind
          · rw [List.mem_singleton.mp hz]
            exact Rat.le_refl
        · have ge : ¬ qv x < qv y := fun z => h (decide_eq_true z)
          refine ⟨r, y, _, rfl, rfl, hr', hy, fun z hz => ?_⟩
          rw [et] at hz
          rcases List.mem_append.mp hz with hz | hz
          · exact hm z hz
          · rw [List.mem_singleton.mp hz]
            grind
      · obtain ⟨r, y, v2, rfl, rfl, hr', hy, hm⟩ := z
        rw [rv_len, hX.1, List.take_length] at hm
        exact ⟨r, y, v2, rfl, rfl, hr', hy, hm⟩
    · rintro σ' H' ⟨r, y, v2, rfl, rfl, hr', hy, hm⟩
      exact ⟨_, rfl, k r y hr' hy hm⟩
theorem scLLowest : FnScope nsLLo psLLo (defScope sLLowest) := ⟨rfl, rfl, rfl, by decide +kernel, rfl, by decide +kernel, by decide +kernel⟩
theorem ok_llowest {f fL fW : Addr} {fd dL dW : FuncData} (F : Fun K "_law_lowest" "_law_lowest" sLLowest f fd) (L : Cl P w K mg base "_law_least" psLLe 2 spLLeast fL dL) (W : Cl P w K mg base "_law_worth" psLW 4 spLWorth fW dW) : FnOk P w K mg base CX0 5 f fd psLLo spLLowest := by
  refine F.ok scLLowest (fun vs H Q E h => ?_) (fun cdv A outer s H vs Q E hr h => ?_)
  · obtain ⟨l, c, ps, xs, cv, rfl, _⟩ := h
    rfl
  · obtain ⟨l, c, ps, xs, cv, rfl, hl, hX, hc, ne, lx, fc, fx, k⟩ := h
    have hr2 := hr.mono (show 2 ≤ 4 by decide)
    refine ⟨_, pss_one (ps_ret (pe_call L.G hr2 (by rfl) L.g L.kp L.b .nil pass0 (pa_cons (pe_lc (own := [("_law_point", 2)]) (g := gName 2) (tt := tYes) rfl scLLowest.nd (pi_listK (K := K) rfl (pv 0)) (blkOk_by (N := nsLLo) (sc := defScope sLLowest) (by decide +kernel)) (fun _ _ _ _ _ => pg_name (i := 2) scLLowest.nd rfl (Or.inl rfl)) (fun _ _ _ _ _ => pts_nil)
        (fun _ _ _ _ _ => pe_call W.G hr (by rfl) W.g W.kp W.b .nil pass0 (pa_cons (pv 1) (pa_cons (pv 2) pa_nil)))) pa_nil))), ?_⟩
    refine ⟨_, rfl, l, rfl, ⟨_, SqL.of hl⟩, fun D hD => ?_⟩
    refine lc_list (K := K) (a := l) (xs := rv ps) (fun i H' => Same H H' ∧ ∃ qs, H' D = some (.lst (rv qs)) ∧ PairsAt H' qs ((xs.take i).map (wor cv))) ⟨same_new hD, [], upd_same, pairs_nil⟩ (fun i H' _ z => SqL.of (z.1 _ _ hl)) ?_ ?_
    · rintro i y H2 hi ⟨s2, qs, hqs, hQ⟩
      obtain ⟨p, x, rfl, _, hx3, hp⟩ := (hX.same s2).get hi
      refine ⟨rfl, yesT ?_⟩
      refine ⟨_, rfl, _, rfl, c, p, cv, x, rfl, hc.same s2, hp, fc, (fx x (List.mem_of_getElem? hx3)).1, fun r H3 s3 hr3 => ?_⟩
      have e : (xs.take (i + 1)).map (wor cv) = (xs.take i).map (wor cv) ++ [wor cv x] := by
        rw [List.take_add_one, hx3]
        simp
      rw [e]
      exact grow hD s2 hqs hQ s3 hr3 (by rw [List.length_map, List.length_take]; omega)
    · rintro H2 ⟨s2, qs, hqs, hQ⟩
      rw [rv_len, hX.1, List.take_length] at hQ
      refine ⟨D, qs, _, rfl, hqs, hQ, fun e => ne (List.map_eq_nil_iff.mp e), fun y hy => ?_, fun r y hr' hy hm => ?_⟩
      · obtain ⟨x, hx, rfl⟩ := List.mem_map.mp hy
        exact (fx x hx).2
      · obtain ⟨x, hx, rfl⟩ := List.mem_map.mp hy
        exact k r H2 s2 ⟨x, hx, hr', fun z hz => hm _ (List.mem_map.mpr ⟨z, hz, rfl⟩)⟩
theorem scLGrown : FnScope nsLGr psLGr (defScope sLGrown) := ⟨rfl, rfl, rfl, by decide +kernel, rfl, by decide +kernel, by decide +kernel⟩
theorem ok_lgrown {f fP : Addr} {fd dP : FuncData} (F : Fun K "_law_grown" "_law_grown" sLGrown f fd) (Pl : Cl P w K mg base "_law_plus" psOT 3 (spTwo pluF) fP dP) : FnOk P w K mg base CX0 4 f fd psLGr spLGrown := by
  refine F.ok scLGrown (fun vs H Q E h => ?_) (fun cdv A outer s H vs Q E hr h => ?_)
  · obtain ⟨l, b, ps, xs, fv, rfl, _⟩ := h
    rfl
  · obtain ⟨l, b, ps, xs, fv, rfl, hl, hX, hb, ff, fx, lx, k⟩ := h
    refine ⟨_, C8.pss_cut (ps_par (i := 2) (j := 3) (by rfl) scLGrown.nd rfl rfl (by decide) rfl rfl (pa_cons (pe_lst pa_nil) (pa_cons (pe_tup (pa_cons (pe_un un_neg (pe_ix ix_tup (pv 1) pe_int (fun _ _ => rfl))) (pa_cons (pe_ix ix_tup (pv 1) pe_int (fun _ _ => rfl)) pa_nil))) pa_nil)) (by rfl))
      (C8.pss_cut (ps_for PassesOwn.never rfl (pi_list (pv 0)) (pg_tupK (K := K) (n := 2) rfl rfl (pgs_cons (pg_name (i := 4) scLGrown.nd rfl (Or.inl rfl)) (pgs_cons (pg_name (i := 5) scLGrown.nd rfl (Or.inl rfl)) pgs_nil)))
        (pss_one (ps_for PassesOwn.never rfl (pi_list (pe_lst (pa_cons (pe_tup (pa_cons (pv 1) (pa_cons (pv 1) pa_nil))) (pa_cons (pe_tup (pa_cons (pv 1) (pa_cons (pv 3) pa_nil))) (pa_cons (pe_tup (pa_cons (pv 3) (pa_cons (pv 1) pa_nil))) (pa_cons (pe_tup (pa_cons (pv 3) (pa_cons (pv 3) pa_nil))) pa_nil)))))) (pg_tupK (K := K) (n := 2) rfl rfl (pgs_cons (pg_name (i := 6) scLGrown.nd rfl (Or.inl rfl)) (pgs_cons (pg_name (i := 7) scLGrown.nd rfl (Or.inl rfl)) pgs_nil)))
          (pss_one (ps_expr (pe_bm PySem.F.plainAttrs_list PySem.F.slot_list_append PySem.F.type_list_append mt_append (pv 2) (pa_cons (pe_tup (pa_cons (pe_call Pl.G hr (by rfl) Pl.g Pl.kp Pl.b .nil pass0 (pa_cons (pv 4) (pa_cons (pv 6) pa_nil))) (pa_cons (pe_call Pl.G hr (by rfl) Pl.g Pl.kp Pl.b .nil pass0 (pa_cons (pv 5) (pa_cons (pv 7) pa_nil))) pa_nil))) pa_nil)))))))
      (pss_one (ps_ret (pv 2)))), ?_⟩
    refine ⟨fun σ' H' => ∃ D bk, σ' = [some (.ref l), some (.ref b), some (.ref D), some (.ref bk), none, none, none, none] ∧ Same H H' ∧ H' D = some (.lst []) ∧ RatAt H' bk (ngI fv) ∧ H D = none, ?_, ?_⟩
    · refine ⟨by show 0 ≤ sizeLine; decide, fun D hD => ?_⟩
      have s1 := same_new (o := .lst []) hD
      refine ⟨_, rfl, b, _, 0, _, rfl, rfl, .inl (.inl (s1 _ _ hb)), rfl, _, rfl, _, rfl, b, _, 1, _, rfl, rfl, .inl (.inl (s1 _ _ hb)), rfl, le2, fun t ht => ?_⟩
      have s2 := same_new (o := .tup [.int (-fv.1), .int fv.2]) ht
      exact ⟨_, _, rfl, D, t, rfl, s1.trans s2, s2 _ _ upd_same, upd_same, hD⟩
    rintro σ1 H1 ⟨D, bk, rfl, s1, hD1, hbk, hDH⟩
    have same_up : ∀ {Hx : Hp} {o : HO}, Same H Hx → Same H (upd Hx D o) := fun {Hx o} sx c ob hc => by
      rw [upd_ne (ne_of_none hc hDH)]
      exact sx _ _ hc
    -- the back stays too
    refine ⟨fun σ' H' => ∃ fs v4 v5 v6 v7, σ' = [some (.ref l), some (.ref b), some (.ref D), some (.ref bk), v4, v5, v6, v7] ∧ Same H H' ∧ RatAt H' bk (ngI fv) ∧ H' D = some (.lst (rv fs)) ∧ PtsAt H' fs (lgF fv xs), ?_, ?_⟩
    · refine ⟨_, rfl, l, rfl, ⟨_, SqL.of (s1 _ _ hl)⟩, ?_⟩
      refine for_list (K := K) (a := l) (xs := rv ps) (fun i σ' H' => ∃ fs v4 v5 v6 v7, σ' = [some (.ref l), some (.ref b), some (.ref D), some (.ref bk), v4, v5, v6, v7] ∧ Same H H' ∧ RatAt H' bk (ngI fv) ∧ H' D = some (.lst (rv fs)) ∧ PtsAt H' fs (lgF fv (xs.take i))) ⟨[], none, none, none, none, rfl, s1, hbk, hD1, pts_nil'⟩ (fun i σ' H' _ z => ?_) (fun i y σ' H2 hi z => ?_) (fun σ' H2 z => ?_)
      · obtain ⟨fs, v4, v5, v6, v7, rfl, s2, _⟩ := z
        exact SqL.of (s2 _ _ hl)
      · obtain ⟨fs, v4, v5, v6, v7, rfl, s2, hbk2, hD2, hfs⟩ := z
        obtain ⟨t, x, rfl, _, hx3, c, d, t1, t2, t3⟩ := (hX.same s2).get hi
        have fx3 := fx x (List.mem_of_getElem? hx3)
        have hil : i < xs.length := (List.getElem?_eq_some_iff.mp hx3).1
        have fng := fine_ng ff
        refine ⟨t, _, rfl, .inl (.inl t1), rfl, _, _, rfl, _, _, rfl, rfl, ?_⟩
        refine ⟨_, rfl, _, rfl, le2, fun w1 hw1 => ⟨_, rfl, _, rfl, le2, fun w2 hw2 => ⟨_, rfl, _, rfl, le2, fun w3 hw3 => ⟨_, rfl, _, rfl, le2, fun w4 hw4 => ⟨by show 4 ≤ sizeLine; decide, fun lz hlz => ?_⟩⟩⟩⟩⟩
        have u1 := same_new (o := .tup [.ref b, .ref b]) hw1
        have u2 := same_new (o := .tup [.ref b, .ref bk]) hw2
        have u3 := same_new (o := .tup [.ref bk, .ref b]) hw3
        have u4 := same_new (o := .tup [.ref bk, .ref bk]) hw4
        have u5 := same_new (o := .lst [.ref w1, .ref w2, .ref w3, .ref w4]) hlz
        have e1 := (u2.trans (u3.trans (u4.trans u5))) _ _ (upd_same (H := H2) (a := w1) (o := .tup [.ref b, .ref b]))
        have e2 := (u3.trans (u4.trans u5)) w2 (.tup [.ref b, .ref bk]) upd_same
        have e3 := (u4.trans u5) w3 (.tup [.ref bk, .ref b]) upd_same
        have e4 := u5 w4 (.tup [.ref bk, .ref bk]) upd_same
        have e5 : (upd (upd (upd (upd (upd H2 w1 (.tup [.ref b, .ref b])) w2 (.tup [.ref b, .ref bk])) w3 (.tup [.ref bk, .ref b])) w4 (.tup [.ref bk, .ref bk])) lz (.lst [.ref w1, .ref w2, .ref w3, .ref w4])) lz = some (.lst [.ref w1, .ref w2, .ref w3, .ref w4]) := upd_same
        have u15 := u1.trans (u2.trans (u3.trans (u4.trans u5)))
        generalize upd (upd (upd (upd (upd H2 w1 (.tup [.ref b, .ref b])) w2 (.tup [.ref b, .ref bk])) w3 (.tup [.ref bk, .ref b])) w4 (.tup [.ref bk, .ref bk])) lz (.lst [.ref w1, .ref w2, .ref w3, .ref w4]) = H3 at e1 e2 e3 e4 e5 u15 ⊢
        refine ⟨lz, rfl, ⟨_, SqL.of e5⟩, ?_⟩
        have nlD : lz ≠ D := fun z => by
          have q := u15 _ _ hD2
          rw [← z, e5] at q
          have q2 := congrArg (fun o : Option HO => match o with | some (.lst vs) => vs | _ => []) q
          dsimp only at q2
          have hz : H2 lz = some (.lst (rv fs)) := by rw [z]; exact hD2
          have hz2 := u1 _ _ hz
          have hz3 := u2 _ _ hz2
          have hz4 := u3 _ _ hz3
          have hz5 := u4 _ _ hz4
          rw [hlz] at hz5
          cases hz5
        have nw : ∀ {q : Addr} {zs : List V} {Hx : Hp} {vs : List V}, Hx q = some (.tup zs) → Hx D = some (.lst vs) → q ≠ D := fun h1 h2 => ne_of h1 h2 (fun z => nomatch z)
        refine for_list (K := K) (a := lz) (xs := [.ref w1, .ref w2, .ref w3, .ref w4]) (fun j σ' H' => ∃ fs v6 v7, σ' = [some (.ref l), some (.ref b), some (.ref D), some (.ref bk), some (.ref c), some (.ref d), v6, v7] ∧ Keeps [D] H3 H' ∧ H' D = some (.lst (rv fs)) ∧ PtsAt H' fs (lgF fv (xs.take i) ++ (lg4 fv x).take j)) ⟨fs, _, _, rfl, Keeps.refl, u15 _ _ hD2, ?_⟩ (fun j σ' H' _ z => ?_) (fun j y σ' H5 hj z => ?_) (fun σ' H5 z => ?_)
        · rw [List.take_zero, List.append_nil]
          exact hfs.same u15
        · obtain ⟨fs2, v6, v7, rfl, k7, _⟩ := z
          exact SqL.of (k7 _ _ (fun z => nlD (List.mem_singleton.mp z)) e5)
        · obtain ⟨fs2, v6', v7', rfl, k7, hD7, hfs2⟩ := z
          have kt : ∀ {q : Addr} {zs : List V}, H3 q = some (.tup zs) → H5 q = some (.tup zs) := fun {q zs} h => k7 _ _ (fun z => nw h (u15 _ _ hD2) (List.mem_singleton.mp z)) h
          have hb5 : RatAt H5 b fv := kt (u15 _ _ (s2 _ _ hb))
          have hbk5 : RatAt H5 bk (ngI fv) := kt (u15 _ _ hbk2)
          obtain ⟨w0, a1, a2, g1, g2, ey, hw0, ha1, ha2, fg1, fg2, e6⟩ : ∃ (w0 a1 a2 : Addr) (g1 g2 : Int × Int), y = .ref w0 ∧ H5 w0 = some (.tup [.ref a1, .ref a2]) ∧ RatAt H5 a1 g1 ∧ RatAt H5 a2 g2 ∧ Fine 6600 g1 ∧ Fine 6600 g2 ∧ (lg4 fv x).take (j + 1) = (lg4 fv x).take j ++ [(pluF x.1 g1, pluF x.2 g2)] := by
            match j, hj with
            | 0, hj =>
              cases hj
              exact ⟨w1, b, b, fv, fv, rfl, kt e1, hb5, hb5, ff, ff, rfl⟩
            | 1, hj =>
              cases hj
              exact ⟨w2, b, bk, fv, ngI fv, rfl, kt e2, hb5, hbk5, ff, fng, rfl⟩
            | 2, hj =>
              cases hj
              exact ⟨w3, bk, b, ngI fv, fv, rfl, kt e3, hbk5, hb5, fng, ff, rfl⟩
            | 3, hj =>
              cases hj
              exact ⟨w4, bk, bk, ngI fv, ngI fv, rfl, kt e4, hbk5, hbk5, fng, fng, rfl⟩
          have hj4 : j < 4 := (List.getElem?_eq_some_iff.mp hj).1
          subst ey
          refine ⟨w0, _, rfl, .inl (.inl hw0), rfl, _, _, rfl, _, _, rfl, rfl, ?_⟩
          refine ⟨_, rfl, .inl ⟨rfl, _, SqL.of hD7⟩, ?_⟩
          refine ⟨_, rfl, _, rfl, c, a1, _, _, rfl, kt (u15 _ _ t2), ha1, fx3.1, fg1, fun q1 H6 s6 hq1 => ?_⟩
          refine ⟨_, rfl, _, rfl, d, a2, _, _, rfl, s6 _ _ (kt (u15 _ _ t3)), s6 _ _ ha2, fx3.2, fg2, fun q2 H7 s7 hq2 => ⟨le2, fun tq htq => ?_⟩⟩
          have s8 := same_new (o := .tup [.ref q1, .ref q2]) htq
          have s68 := s6.trans (s7.trans s8)
          have hD8 := s68 _ _ hD7
          refine ⟨D, _, _, rfl, rfl, hD8, ?_, fs2 ++ [tq], _, _, rfl, (k7.trans (Same.keeps s68)).trans (Keeps.at (List.mem_singleton.mpr rfl)), ?_, ?_⟩
          · have := hfs2.1
            rw [List.length_append, lg_len, List.length_take, List.length_take] at this
            rw [rv_len, this]
            exact small1000 (by omega)
          · rw [upd_same]
            unfold rv
            rw [List.map_append]
            rfl
          · rw [e6, ← List.append_assoc]
            have z := PtsAt.add s68 hfs2 (x := (pluF x.1 g1, pluF x.2 g2)) (t := tq) ⟨q1, q2, upd_same, (s7.trans s8) _ _ hq1, s8 _ _ hq2⟩
            exact ⟨z.1, fun i p y a b => PtAt.upd hD8 (z.2 i p y a b)⟩
        · obtain ⟨fs2, v6', v7', rfl, k7, hD7, hfs2⟩ := z
          have e : xs.take (i + 1) = xs.take i ++ [x] := by
            rw [List.take_add_one, hx3]
            rfl
          refine ⟨fs2, _, _, _, _, rfl, fun q o hq => ?_, ?_, hD7, ?_⟩
          · exact k7 _ _ (fun z => (ne_of_none hq hDH) (List.mem_singleton.mp z)) (u15 _ _ (s2 _ _ hq))
          · exact k7 _ _ (fun z => nw hbk2 hD2 (List.mem_singleton.mp z)) (u15 _ _ hbk2)
          · rw [e, lg_snoc]
            exact hfs2
      · obtain ⟨fs, v4, v5, v6, v7, rfl, s2, hbk2, hD2, hfs⟩ := z
        rw [rv_len, hX.1, List.take_length] at hfs
        exact ⟨fs, v4, v5, v6, v7, rfl, s2, hbk2, hD2, hfs⟩
    · rintro σ2 H2 ⟨fs, v4, v5, v6, v7, rfl, s2, hbk2, hD2, hfs⟩
      exact ⟨_, rfl, k D fs H2 s2 hD2 hfs⟩
end
end Fk

set_option Elab.async false
set_option maxRecDepth 100000
set_option maxHeartbeats 4000000
set_option exponentiation.threshold 20000
/-! The law: a drawn mixture. -/
namespace Fk
open PySem L2
abbrev sLMix : Stmt := top 51
abbrev psLMix : List Str := ["_law_pen_here", "_law_many"]
abbrev nsLMix : List Str := ["_law_pen_here", "_law_many", "_law_parts", "_law_k", "_law_part"]
/-- weights over a common sum -/
structure MixOk (n : Nat) (ds : List Int) (ss : List (Int × Int)) : Prop where
  ln : ds.length = n
  nn : ∀ d ∈ ds, 0 ≤ d ∧ d ≤ 30
  pos : 0 < ds.sum
  e : ss = ds.map fun d => lowI d ds.sum
def spLMix : Sp := fun vs H Q _ => ∃ (p l : Addr) (c : Int) (n : Nat), vs = [.ref p, .int (n : Nat)] ∧ PenAt H p l c ∧ c < 700000000 ∧ 0 < n ∧ n ≤ 20 ∧ ∀ r qs ds ss c' H', Keep p H H' → PenAt H' p l c' → c ≤ c' → c' ≤ c + 100 → H' r = some (.lst (rv qs)) → PairsAt H' qs ss → MixOk n ds ss → Q (.ref r) H'
theorem sum_bd : ∀ {ds : List Int}, (∀ d ∈ ds, 0 ≤ d ∧ d ≤ 30) → 0 ≤ ds.sum ∧ ds.sum ≤ 30 * ds.length
  | [], _ => ⟨Int.le_refl _, Int.le_refl _⟩
  | d :: ds, h => by
    have h1 := h d List.mem_cons_self
    have h2 := sum_bd (ds := ds) fun x hx => h x (List.mem_cons_of_mem _ hx)
    rw [List.sum_cons, List.length_cons]
    omega
theorem sum_pos {ds : List Int} (h : ∀ d ∈ ds, 0 ≤ d ∧ d ≤ 30) {x : Int} (hx : x ∈ ds) (x0 : 0 < x) : 0 < ds.sum := by
  induction ds with
  | nil => cases hx
  | cons d ds ih =>
    have h1 := h d List.mem_cons_self
    have h2 := (sum_bd (ds := ds) fun x hx => h x (List.mem_cons_of_mem _ hx)).1
    rw [List.sum_cons]
    rcases List.mem_cons.mp hx with rfl | hx
    · omega
    · have := ih (fun x hx => h x (List.mem_cons_of_mem _ hx)) hx
      omega
/-- numbers that a comprehension draws -/
def IntL (p l D : Addr) (H0 : Hp) (c0 : Int) (j : Nat) (H' : Hp) : Prop := ∃ (ds : List Int) (c' : Int), Keep p H0 H' ∧ PenAt H' p l c' ∧ c0 ≤ c' ∧ c' ≤ c0 + 2 * j ∧ H' D = some (.lst (iv ds)) ∧ ds.length = j ∧ ∀ d ∈ ds, 0 ≤ d ∧ d ≤ 30
theorem iv_app (ds : List Int) (d : Int) : iv ds ++ [.int d] = iv (ds ++ [d]) := by
  unfold iv
  rw [List.map_append]
  rfl
section
variable {P : Program} {w : World} {K : PySem.W.Frag} {mg : Str → Option Value} {base : Heap}
theorem cr_sumK {X : Cx} {K : PySem.W.Frag} (hK : X.K = K) (hc : X.calm = true) : CallR X (.builtin "sum") (rSum K) := hK ▸ cr_sum hc
theorem scLMix : FnScope nsLMix psLMix (defScope sLMix) := ⟨rfl, rfl, rfl, by decide +kernel, rfl, by decide +kernel, by decide +kernel⟩
theorem ok_lmix {f fD fP fQ : Addr} {fd dD dP dQ : FuncData} (F : Fun K "_law_drawn_mixture" "_law_drawn_mixture" sLMix f fd) (mr : mg "range" = none) (ms : mg "sum" = none) (D : Cl P w K mg base "_law_draw" psDraw 1 spDraw fD dD) (C : Cl P w K mg base "_law_pick" psPick 2 spPick fP dP) (L : Cl P w K mg base "_law_q" psQ 2 spQ fQ dQ) : FnOk P w K mg base CX0 3 f fd psLMix spLMix := by
  refine F.ok scLMix (fun vs H Q E h => ?_) (fun cdv A outer s H vs Q E hr h => ?_)
  · obtain ⟨p, l, c, n, rfl, _⟩ := h
    rfl
  · obtain ⟨p, l, c, n, rfl, hp, c1, n0, n1, k⟩ := h
    have hr1 := hr.mono (show 1 ≤ 2 by decide)
    refine ⟨_, C8.pss_cut (ps_set (i := 2) scLMix.nd rfl (Or.inr rfl) (pe_lc (own := [("_law_k", 3)]) (g := gName 3) (tt := tYes) rfl scLMix.nd (pi_range1 (by rfl) mr (pa_cons (pv 1) pa_nil)) (blkOk_by (N := nsLMix) (sc := defScope sLMix) (by decide +kernel)) (fun _ _ _ _ _ => pg_name (i := 3) scLMix.nd rfl (Or.inl rfl)) (fun _ _ _ _ _ => pts_nil)
        (fun _ _ _ _ _ => pe_call D.G hr1 (by rfl) D.g D.kp D.b .nil pass0 (pa_cons (pv 0) (pa_cons (pe_call C.G hr (by rfl) C.g C.kp C.b .nil pass0 (pa_cons (pv 0) (pa_cons (pe_lst (pa_cons pe_int (pa_cons pe_int (pa_cons pe_int (pa_cons pe_int pa_nil))))) pa_nil))) pa_nil)))))
      (C8.pss_cut (ps_asg (pe_op op_add pe_int (pe_call D.G hr1 (by rfl) D.g D.kp D.b .nil pass0 (pa_cons (pv 0) (pa_cons pe_int pa_nil)))) (pg_sub (pv 2) (pe_call D.G hr1 (by rfl) D.g D.kp D.b .nil pass0 (pa_cons (pv 0) (pa_cons (pv 1) pa_nil))) set_list))
      (pss_one (ps_ret (pe_lc (own := [("_law_part", 4)]) (g := gName 4) (tt := tYes) rfl scLMix.nd (pi_listK (K := K) rfl (pv 2)) (blkOk_by (N := nsLMix) (sc := defScope sLMix) (by decide +kernel)) (fun _ _ _ _ _ => pg_name (i := 4) scLMix.nd rfl (Or.inl rfl)) (fun _ _ _ _ _ => pts_nil)
        (fun _ _ _ _ _ => pe_call L.G hr (by rfl) L.g L.kp L.b .nil pass0 (pa_cons (pv 4) (pa_cons (pe_callB (cr_sumK (K := K) rfl rfl) (by rfl) ms (by decide +kernel) (pa_cons (pv 2) pa_nil)) pa_nil))))))), ?_⟩
    refine ⟨fun σ' H' => ∃ D0 ds c', σ' = [some (.ref p), some (.int (n : Nat)), some (.ref D0), none, none] ∧ Keep p H H' ∧ PenAt H' p l c' ∧ c ≤ c' ∧ c' ≤ c + 2 * n ∧ H' D0 = some (.lst (iv ds)) ∧ ds.length = n ∧ (∀ d ∈ ds, 0 ≤ d ∧ d ≤ 30) ∧ D0 ≠ l ∧ H D0 = none, ?_, ?_⟩
    · refine ⟨_, rfl, _, rfl, by omega, by omega, fun D0 hD => ?_⟩
      have nDl := new_ne hp hD
      rw [Int.toNat_natCast]
      refine lc_range (lo := 0) (n := n) (fun i H2 => IntL p l D0 H c i H2) ⟨[], c, Keep.new hD, hp.upd hD, by omega, by omega, upd_same, rfl, fun d h => nomatch h⟩ ?_ ?_
      · rintro i H2 hi ⟨ds, c2, k2, P2, a1, a2, hq, hl, hd⟩
        refine ⟨rfl, yesT ?_⟩
        refine ⟨_, rfl, _, rfl, by show 4 ≤ sizeLine; decide, fun q hq' => ?_⟩
        have s3 := same_new (o := .lst [V.int 1, V.int 2, V.int 5, V.int 30]) hq'
        refine ⟨p, l, q, c2, _, rfl, P2.same s3, by omega, upd_same, by show 0 < 4; decide, by show 4 ≤ 1000; decide, fun j x H4 hx P4 k4 => ?_⟩
        obtain ⟨m, rfl, m0, m1⟩ : ∃ m : Int, x = .int m ∧ 0 < m ∧ m ≤ 30 := by
          have hm := List.mem_of_getElem? hx
          simp only [List.mem_cons, List.not_mem_nil, or_false] at hm
          rcases hm with e | e | e | e
          · exact ⟨1, e, by decide, by decide⟩
          · exact ⟨2, e, by decide, by decide⟩
          · exact ⟨5, e, by decide, by decide⟩
          · exact ⟨30, e, by decide, by decide⟩
        refine ⟨p, l, c2 + 1, m, rfl, P4, by omega, m0, by omega, fun r H5 r0 r1 P5 k5 => ?_⟩
        have k35 : Keep p H2 H5 := (Same.keep s3).trans (k4.trans k5)
        have hq5 := k35.lst P2 hq
        refine ⟨iv ds, hq5, by rw [iv_len, hl]; exact small1000 (by omega), ds ++ [r], c2 + 1 + 1, fun b o nb hb => ?_, P5.set hq5 nDl, by omega, by omega, ?_, by rw [List.length_append, hl]; rfl, fun d hd' => ?_⟩
        · rw [upd_ne (ne_of_none hb hD)]
          exact (k2.trans k35) _ _ nb hb
        · rw [upd_same, iv_app]
        · rcases List.mem_append.mp hd' with z | z
          · exact hd d z
          · rw [List.mem_singleton.mp z]
            omega
      · rintro H2 ⟨ds, c2, k2, P2, a1, a2, hq, hl, hd⟩
        exact ⟨D0, ds, c2, rfl, k2, P2, a1, a2, hq, hl, hd, nDl, hD⟩
    rintro σ1 H1 ⟨D0, ds, c2, rfl, k1, P1, a1, a2, hD1, hl, hd, nDl, hDH⟩
    refine ⟨fun σ' H' => ∃ ds c', σ' = [some (.ref p), some (.int (n : Nat)), some (.ref D0), none, none] ∧ Keep p H H' ∧ PenAt H' p l c' ∧ c ≤ c' ∧ c' ≤ c + 2 * n + 2 ∧ H' D0 = some (.lst (iv ds)) ∧ ds.length = n ∧ (∀ d ∈ ds, 0 ≤ d ∧ d ≤ 30) ∧ 0 < ds.sum, ?_, ?_⟩
    · refine ⟨_, rfl, p, l, c2, 3, rfl, P1, by omega, by decide, by decide, fun r H2 r0 r1 P2 k2 => ?_⟩
      refine ⟨_, _, rfl, rfl, _, rfl, _, rfl, _, rfl, p, l, c2 + 1, n, rfl, P2, by omega, by omega, by omega, fun m H3 m0 m1 P3 k3 => ?_⟩
      have hD3 := (k2.trans k3).lst P1 hD1
      obtain ⟨mn, rfl⟩ : ∃ mn : Nat, m = (mn : Int) := ⟨m.toNat, by omega⟩
      have em : ixN (iv ds).length (mn : Int) = some mn := by
        rw [iv_len, hl]
        unfold ixN
        rw [if_pos (by omega), if_pos (by omega), Int.toNat_natCast]
      refine ⟨D0, _, _, mn, rfl, rfl, hD3, em, ds.set mn (1 + r), c2 + 1 + 1, rfl, fun b o nb hb => ?_, P3.set hD3 nDl, by omega, by omega, ?_, by rw [List.length_set, hl], fun d hd' => ?_, ?_⟩
      · rw [upd_ne (ne_of_none hb hDH)]
        exact (k1.trans (k2.trans k3)) _ _ nb hb
      · rw [upd_same]
        unfold iv
        rw [List.map_set]
      · rcases List.mem_or_eq_of_mem_set hd' with z | z
        · exact hd d z
        · omega
      · refine sum_pos (fun d hd' => ?_) (List.mem_set (h := by rw [hl]; omega) (a := 1 + r)) (by omega)
        rcases List.mem_or_eq_of_mem_set hd' with z | z
        · exact hd d z
        · omega
    rintro σ2 H2 ⟨ds, c3, rfl, k2, P2, b1, b2, hD2, hl, hd, sp⟩
    have hs := sum_bd hd
    have bs : Bd 20 ds.sum := by
      unfold Bd
      have : (2 : Nat) ^ 20 = 1048576 := by decide
      omega
    refine ⟨_, rfl, D0, rfl, ⟨_, SqL.of hD2⟩, fun D5 hD5 => ?_⟩
    refine lc_list (K := K) (a := D0) (xs := iv ds) (fun i H' => Same H2 H' ∧ ∃ qs, H' D5 = some (.lst (rv qs)) ∧ PairsAt H' qs ((ds.take i).map fun d => lowI d ds.sum)) ⟨same_new hD5, [], upd_same, pairs_nil⟩ (fun i H' _ z => SqL.of (z.1 _ _ hD2)) ?_ ?_
    · rintro i y H3 hi ⟨s3, qs, hqs, hQ⟩
      obtain ⟨d, hd1, rfl⟩ := iv_at hi
      have hdm := hd d (List.mem_of_getElem? hd1)
      have bd : Bd 20 d := by
        unfold Bd
        have : (2 : Nat) ^ 20 = 1048576 := by decide
        omega
      refine ⟨rfl, yesT ?_⟩
      refine ⟨_, rfl, _, rfl, D0, ds, rfl, SqL.of (s3 _ _ hD2), d, ds.sum, rfl, sp, bd.big (by decide), bs.big (by decide), fun r H4 s4 hr4 => ?_⟩
      have e : ((ds.take (i + 1)).map fun d => lowI d ds.sum) = ((ds.take i).map fun d => lowI d ds.sum) ++ [lowI d ds.sum] := by
        rw [List.take_add_one, hd1]
        simp
      rw [e]
      exact grow hD5 s3 hqs hQ s4 hr4 (by rw [List.length_map, List.length_take]; omega)
    · rintro H3 ⟨s3, qs, hqs, hQ⟩
      rw [iv_len, List.take_length] at hQ
      exact k D5 qs ds _ c3 H3 (k2.trans (Same.keep s3)) (P2.same s3) (by omega) (by omega) hqs hQ ⟨hl, hd, sp, rfl⟩
end
end Fk

set_option Elab.async false
set_option maxRecDepth 100000
set_option maxHeartbeats 4000000
set_option exponentiation.threshold 20000
/-! The law: the corners are right. -/
namespace Fk
open PySem L2
theorem ix_tupK {X : Cx} {K : PySem.W.Frag} (hK : X.K = K) : IxR X (rIxT K) := hK ▸ ix_tup
theorem room65 {k : Nat} {A : Around} (r : Room k A) : A.units + 65 < cLine := by
  have := r.un
  omega
theorem noT {A B : Prop} (h : B) : if false = true then A else B := by
  rw [if_neg (fun z => nomatch z)]
  exact h
abbrev sLCR : Stmt := top 54
abbrev psLCR : List Str := ["_law_corners", "_law_points_here"]
abbrev nsLCR : List Str := ["_law_corners", "_law_points_here", "_law_many", "_law_point", "_law_k", "_law_one"]
/-- the corners are those of the points -/
structure Right (pts cs : List Po) : Prop where
  sub : ∀ x ∈ cs, x ∈ pts
  red : ∀ x ∈ pts, RedP x
  f : ∀ x ∈ pts, FineP 1500 x
  lp : pts.length ≤ 500
  z : Hu.ZoneQ (pts.map qP) (cs.map qP)
theorem sgn_crq {a b c : Po} (ha : FineP 1500 a) (hb : FineP 1500 b) (hc : FineP 1500 c) : (0 < (croF a b c).1 ↔ 0 < Hu.crq (qP a) (qP b) (qP c)) ∧ ((croF a b c).1 < 0 ↔ Hu.crq (qP a) (qP b) (qP c) < 0) := by
  have m1 := fine_min hb.1 ha.1
  have m2 := fine_min hc.2 ha.2
  have m3 := fine_min hb.2 ha.2
  have m4 := fine_min hc.1 ha.1
  have t1 := fine_tim m1 m2
  have t2 := fine_tim m3 m4
  have p : 0 < (croF a b c).2 := (fine_min t1 t2).1
  have e : qv (croF a b c) = Hu.crq (qP a) (qP b) (qP c) := by
    unfold croF
    rw [qv_min t1.1 t2.1, qv_tim m1.1 m2.1, qv_tim m3.1 m4.1, qv_min hb.1.1 ha.1.1, qv_min hc.2.1 ha.2.1, qv_min hb.2.1 ha.2.1, qv_min hc.1.1 ha.1.1]
    rfl
  have s := cast_pos p
  have h := qv_mul p
  rw [e] at h
  constructor
  · constructor
    · intro g
      have g' : (0 : Rat) < ((croF a b c).1 : Rat) := by exact_mod_cast g
      by_cases q : 0 < Hu.crq (qP a) (qP b) (qP c)
      · exact q
      · exfalso
        have := Hu.mulq_nn (by grind : 0 ≤ -Hu.crq (qP a) (qP b) (qP c)) (by grind : 0 ≤ ((croF a b c).2 : Rat))
        grind
    · intro g
      have := Hu.mulq_pp g s
      rw [h] at this
      exact_mod_cast this
  · constructor
    · intro g
      have g' : ((croF a b c).1 : Rat) < 0 := by exact_mod_cast g
      by_cases q : Hu.crq (qP a) (qP b) (qP c) < 0
      · exact q
      · exfalso
        have := Hu.mulq_nn (by grind : 0 ≤ Hu.crq (qP a) (qP b) (qP c)) (by grind : 0 ≤ ((croF a b c).2 : Rat))
        grind
    · intro g
      have := Hu.mulq_pp (by grind : 0 < -Hu.crq (qP a) (qP b) (qP c)) s
      have g' : ((croF a b c).1 : Rat) < 0 := by grind
      exact_mod_cast g'
theorem Right.fc {pts cs : List Po} (h : Right pts cs) : ∀ x ∈ cs, FineP 1500 x := fun x hx => h.f x (h.sub x hx)
theorem map_at {α β : Type} {f : α → β} {xs : List α} {i : Nat} {x : α} (h : xs[i]? = some x) : (xs.map f)[i]? = some (f x) := by
  rw [List.getElem?_map, h]
  rfl
theorem at_turn {H : Hp} {qs : List Addr} {cs : List Po} (h : PtsAt H qs cs) {i j : Nat} (hi : i < cs.length) (hj : j ≤ cs.length) : ∃ p, atI (rv qs) ((0 + (i : Int)) - (j : Int)) = some (.ref p) ∧ PtAt H p (ptN cs ((i + cs.length - j) % cs.length)) := by
  have l0 : 0 < cs.length := by omega
  have hm : (i + cs.length - j) % cs.length < cs.length := Nat.mod_lt _ l0
  have hq : (i + cs.length - j) % cs.length < qs.length := by rw [h.1]; exact hm
  refine ⟨qs[(i + cs.length - j) % cs.length], ?_, h.2 _ _ _ (List.getElem?_eq_getElem hq) (ptN_at hm)⟩
  have e : ixN (rv qs).length ((0 + (i : Int)) - (j : Int)) = some ((i + cs.length - j) % cs.length) := by
    rw [rv_len, h.1]
    unfold ixN
    by_cases q : j ≤ i
    · have em : (i + cs.length - j) % cs.length = i - j := by
        rw [show i + cs.length - j = (i - j) + cs.length by omega, Nat.add_mod_right]
        exact Nat.mod_eq_of_lt (by omega)
      rw [if_pos (by omega), if_pos (by omega), em]
      exact congrArg some (by omega)
    · have em : (i + cs.length - j) % cs.length = i + cs.length - j := Nat.mod_eq_of_lt (by omega)
      rw [if_neg (by omega), if_pos (by omega), em]
      exact congrArg some (by omega)
  unfold atI
  rw [e]
  show (rv qs)[(i + cs.length - j) % cs.length]? = _
  unfold rv
  rw [List.getElem?_map, List.getElem?_eq_getElem hq]
  rfl
theorem turn_eq {n i : Nat} (hi : i < n) (h3 : 3 ≤ n) : ((i + n - 2) % n + 1) % n = (i + n - 1) % n ∧ ((i + n - 2) % n + 2) % n = i ∧ ((i + n - 1) % n + 1) % n = i := by
  refine ⟨?_, ?_, ?_⟩
  · rw [Nat.mod_add_mod, show i + n - 2 + 1 = i + n - 1 by omega]
  · rw [Nat.mod_add_mod, show i + n - 2 + 2 = i + n by omega, Nat.add_mod_right]
    exact Nat.mod_eq_of_lt hi
  · rw [Nat.mod_add_mod, show i + n - 1 + 1 = i + n by omega, Nat.add_mod_right]
    exact Nat.mod_eq_of_lt hi
theorem sgnI_pos {i : Int} (h : 0 < i) : sgnI i = 1 := by
  unfold sgnI
  rw [if_pos h]
theorem sgnI_zero {i : Int} (h1 : ¬ 0 < i) (h2 : ¬ i < 0) : sgnI i = 0 := by
  unfold sgnI
  rw [if_neg h1, if_neg h2]
theorem sgnI_neg {i : Int} : sgnI i = -1 ↔ i < 0 := by
  unfold sgnI
  split
  · omega
  · split <;> omega
def spLCR : Sp := fun vs H Q _ => ∃ (c l : Addr) (qs ps : List Addr) (cs pts : List Po), vs = [.ref c, .ref l] ∧ H c = some (.tup (rv qs)) ∧ PtsAt H qs cs ∧ H l = some (.lst (rv ps)) ∧ PtsAt H ps pts ∧ Right pts cs ∧ cs.length ≤ 1000 ∧ ∀ H', Same H H' → Q (.bl true) H'
section
variable {P : Program} {w : World} {K : PySem.W.Frag} {mg : Str → Option Value} {base : Heap}
theorem scLCR : FnScope nsLCR psLCR (defScope sLCR) := ⟨rfl, rfl, rfl, by decide +kernel, rfl, by decide +kernel, by decide +kernel⟩
theorem ok_lcr {f fB fC : Addr} {fd dB dC : FuncData} (F : Fun K "_law_corners_right" "_law_corners_right" sLCR f fd) (mi : mg "isinstance" = none) (mT : mg "tuple" = none) (ml : mg "len" = none) (mr : mg "range" = none)
    (B : Cl P w K mg base "_law_point_before" psOT 2 spLPB fB dB) (C : Cl P w K mg base "_law_cross" psLCr 4 spLCross fC dC) : FnOk P w K mg base CX0 5 f fd psLCR spLCR := by
  refine F.ok scLCR (fun vs H Q E h => ?_) (fun cdv A outer s H vs Q E hr h => ?_)
  · obtain ⟨c, l, qs, ps, cs, pts, rfl, _⟩ := h
    rfl
  · obtain ⟨c, l, qs, ps, cs, pts, rfl, hc, hC, hl, hX, R, lc, k⟩ := h
    have hr2 := hr.mono (show 2 ≤ 4 by decide)
    refine ⟨_, C8.pss_cut (ps_if (PW.pt (pw_or (pt_not (pt_val (pe_callB call_isi (by rfl) mi (by decide +kernel) (pa_cons (pv 0) (pa_cons (pe_bltn (v := .ty "tuple") (by rfl) mT (by decide +kernel) rfl) pa_nil)))))
          (pw_or1 (pt_cmpR (op_neDK (K := K) rfl hr.units) (pe_lc (own := [("_law_one", 5)]) (g := gName 5) rfl scLCR.nd (pi_tupK (K := K) rfl (pv 0)) (blkOk_by (N := nsLCR) (sc := defScope sLCR) (by decide +kernel)) (fun _ _ _ _ _ => pg_name (i := 5) scLCR.nd rfl (Or.inl rfl))
            (fun _ _ _ _ _ => pts_one (pt_cmpR (op_notInDK (K := K) rfl (room65 hr)) (pv 5) (pv 1) (by rfl))) (fun _ _ _ _ _ => pv 5)) (pe_lst pa_nil) (nomark _)))))
        (pss_one (ps_ret pe_bl)) pss_nil)
      (pss_cons (ps_set (i := 2) scLCR.nd rfl (Or.inl rfl) (pe_callB call_len_seq (by rfl) ml PySem.boot_len (pa_cons (pv 0) pa_nil)))
      (C8.pss_cut (ps_if (PW.pt (pw_or (pt_cmpR op_eq (pv 2) pe_int (nomark _))
          (pw_or1 (pt_cmpR (op_neDK (K := K) rfl hr.units) (pe_lc (own := [("_law_one", 5)]) (g := gName 5) rfl scLCR.nd (pi_tupK (K := K) rfl (pe_slice (sl_tupAK (K := K) rfl) (pv 0) (po_some pe_int) po_none)) (blkOk_by (N := nsLCR) (sc := defScope sLCR) (by decide +kernel)) (fun _ _ _ _ _ => pg_name (i := 5) scLCR.nd rfl (Or.inl rfl))
            (fun _ _ _ _ _ => pts_one (pt_not (pt_val (pe_call B.G hr2 (by rfl) B.g B.kp B.b .nil pass0 (pa_cons (pe_ix (ix_tupK (K := K) rfl) (pv 0) pe_int (fun _ _ => rfl)) (pa_cons (pv 5) pa_nil)))))) (fun _ _ _ _ _ => pv 5)) (pe_lst pa_nil) (nomark _)))))
        (pss_one (ps_ret pe_bl)) pss_nil)
      (C8.pss_cut (ps_if (pt_cmpR op_eq (pv 2) pe_int (nomark _))
        (pss_one (ps_ret (pe_cmpR (op_eqDK (K := K) rfl hr.units) (pe_lc (own := [("_law_one", 5)]) (g := gName 5) rfl scLCR.nd (pi_listK (K := K) rfl (pv 1)) (blkOk_by (N := nsLCR) (sc := defScope sLCR) (by decide +kernel)) (fun _ _ _ _ _ => pg_name (i := 5) scLCR.nd rfl (Or.inl rfl))
            (fun _ _ _ _ _ => pts_one (pt_cmpR (op_neDK (K := K) rfl hr.units) (pv 5) (pe_ix (ix_tupK (K := K) rfl) (pv 0) pe_int (fun _ _ => rfl)) (nomark _))) (fun _ _ _ _ _ => pv 5)) (pe_lst pa_nil) (nomark _)))) pss_nil)
      (C8.pss_cut (ps_if (pt_cmpR op_eq (pv 2) pe_int (nomark _))
        (C8.pss_cut (ps_for PassesOwn.never rfl (pi_list (pv 1)) (pg_name (i := 3) scLCR.nd rfl (Or.inl rfl))
          (pss_cons (ps_if (pt_cmpR op_ne (pe_call C.G hr (by rfl) C.g C.kp C.b .nil pass0 (pa_cons (pe_ix (ix_tupK (K := K) rfl) (pv 0) pe_int (fun _ _ => rfl)) (pa_cons (pe_ix (ix_tupK (K := K) rfl) (pv 0) pe_int (fun _ _ => rfl)) (pa_cons (pv 3) pa_nil)))) pe_int (nomark _)) (pss_one (ps_ret pe_bl)) pss_nil)
          (pss_one (ps_if (PW.pt (pw_or (pt_val (pe_call B.G hr2 (by rfl) B.g B.kp B.b .nil pass0 (pa_cons (pv 3) (pa_cons (pe_ix (ix_tupK (K := K) rfl) (pv 0) pe_int (fun _ _ => rfl)) pa_nil)))) (pw_or1 (pt_val (pe_call B.G hr2 (by rfl) B.g B.kp B.b .nil pass0 (pa_cons (pe_ix (ix_tupK (K := K) rfl) (pv 0) pe_int (fun _ _ => rfl)) (pa_cons (pv 3) pa_nil))))))) (pss_one (ps_ret pe_bl)) pss_nil))))
        (pss_one (ps_ret pe_bl))) pss_nil)
      (C8.pss_cut (ps_for PassesOwn.never rfl (pi_range1 (by rfl) mr (pa_cons (pv 2) pa_nil)) (pg_name (i := 4) scLCR.nd rfl (Or.inr rfl))
          (C8.pss_cut (ps_if (pt_cmpR op_ne (pe_call C.G hr (by rfl) C.g C.kp C.b .nil pass0 (pa_cons (pe_ix (ix_tupK (K := K) rfl) (pv 0) (pe_op op_sub (pv 4) pe_int) (fun _ _ => rfl)) (pa_cons (pe_ix (ix_tupK (K := K) rfl) (pv 0) (pe_op op_sub (pv 4) pe_int) (fun _ _ => rfl)) (pa_cons (pe_ix (ix_tupK (K := K) rfl) (pv 0) (pv 4) (fun _ _ => rfl)) pa_nil)))) pe_int (nomark _)) (pss_one (ps_ret pe_bl)) pss_nil)
          (pss_one (ps_if (pt_cmpR (op_neDK (K := K) rfl hr.units) (pe_lc (own := [("_law_point", 3)]) (g := gName 3) rfl scLCR.nd (pi_listK (K := K) rfl (pv 1)) (blkOk_by (N := nsLCR) (sc := defScope sLCR) (by decide +kernel)) (fun _ _ _ _ _ => pg_name (i := 3) scLCR.nd rfl (Or.inl rfl))
            (fun _ _ _ _ _ => pts_one (pt_cmpR op_eq (pe_call C.G hr (by rfl) C.g C.kp C.b .nil pass0 (pa_cons (pe_ix (ix_tupK (K := K) rfl) (pv 0) (pe_op op_sub (pv 4) pe_int) (fun _ _ => rfl)) (pa_cons (pe_ix (ix_tupK (K := K) rfl) (pv 0) (pv 4) (fun _ _ => rfl)) (pa_cons (pv 3) pa_nil)))) (pe_un un_neg pe_int) (nomark _))) (fun _ _ _ _ _ => pe_int)) (pe_lst pa_nil) (nomark _)) (pss_one (ps_ret pe_bl)) pss_nil))))
      (pss_one (ps_ret pe_bl))))))), ?_⟩
    have lq : (rv qs).length = cs.length := by rw [rv_len, hC.1]
    have lp : (rv ps).length = pts.length := by rw [rv_len, hX.1]
    have fc := R.fc
    have ne : cs ≠ [] := fun e => R.z.ne (by rw [e]; rfl)
    have l0 : 0 < cs.length := List.length_pos_iff.mpr ne
    have f66 : ∀ {x : Po}, FineP 1500 x → FineP 6600 x := fun h => ⟨h.1.mono (by decide), h.2.mono (by decide)⟩
    have rc : ∀ x ∈ cs, RedP x := fun x hx => R.red x (R.sub x hx)
    refine ⟨fun σ' H' => σ' = [some (.ref c), some (.ref l), none, none, none, none] ∧ Same H H', ?_, ?_⟩
    · refine ⟨_, rfl, _, _, _, _, true, rfl, .ty _, .base (.tup hc), kit_ty (by decide), true, rfl, iteF ?_⟩
      refine ⟨_, rfl, c, rfl, ⟨_, .inl (.inl hc)⟩, fun D hD => ?_⟩
      refine lc_tup (K := K) (a := c) (xs := rv qs) (fun i H' => Same H H' ∧ H' D = some (.lst [])) ⟨same_new hD, upd_same⟩ (fun i H' _ z => .inl (.inl (z.1 _ _ hc))) ?_ ?_
      · rintro i y H2 hi ⟨s2, hD2⟩
        obtain ⟨p, x, rfl, _, hx3, hp⟩ := (hC.same s2).get hi
        refine ⟨rfl, ?_⟩
        refine ⟨_, rfl, _, rfl, datPt x, pts.map datPt, dp_pt hp, .lst (SqL.of (s2 _ _ hl)) (dp_pts (hX.same s2)), pt_shaped _, ptsL_shaped _, ?_⟩
        rw [any_pts, decide_eq_true (R.sub x (List.mem_of_getElem? hx3))]
        exact ⟨false, rfl, noT ⟨s2, hD2⟩⟩
      · rintro H2 ⟨s2, hD2⟩
        refine ⟨by show 0 ≤ sizeLine; decide, fun u hu => ?_⟩
        have s3 := same_new (o := .lst []) hu
        exact ⟨.list [], .list [], .lst (SqL.of (s3 _ _ hD2)) .nil, .lst (SqL.of upd_same) .nil, rfl, rfl, _, rfl, iteF ⟨rfl, s2.trans s3⟩⟩
    rintro σ1 H1 ⟨rfl, s1⟩
    refine ⟨_, rfl, c, _, rfl, .inr (.inl (.inl (s1 _ _ hc))), ?_⟩
    rw [lq]
    refine ⟨fun σ' H' => σ' = [some (.ref c), some (.ref l), some (.int (cs.length : Nat)), none, none, none] ∧ Same H H', ?_, ?_⟩
    · refine ⟨_, rfl, rfl, _, rfl, ?_⟩
      rw [nx_len (by omega)]
      refine iteF ?_
      match cs, qs, hC, ne, l0, lq, R, fc, rc, hc with
      | c0 :: cs', q0 :: qs', hC, ne, l0, lq, R, fc, rc, hc =>
      obtain ⟨hq0, hC'⟩ := hC.tail
      have hc1 := s1 _ _ hc
      refine ⟨_, rfl, 1, rfl, c, _, rfl, .inl (.inl hc1), fun z => ?_, fun _ T hT2 => ?_⟩
      · exfalso
        have z1 := z.1
        rw [show (some 1 : Option Int) = some ((1 : Nat) : Int) from rfl, HT.sIx_nat] at z1
        have : (rv (q0 :: qs')).length = qs'.length + 1 := by rw [rv_len]; rfl
        omega
      rw [show rv (q0 :: qs') = .ref q0 :: rv qs' from rfl, cut_one]
      have s2 := same_new (o := .tup (rv qs')) hT2
      refine ⟨T, rfl, ⟨_, .inl (.inl upd_same)⟩, fun D hD => ?_⟩
      refine lc_tup (K := K) (a := T) (xs := rv qs') (fun i H' => Same (upd H1 T (.tup (rv qs'))) H' ∧ H' D = some (.lst [])) ⟨same_new hD, upd_same⟩ (fun i H' _ z => .inl (.inl (z.1 _ _ upd_same))) ?_ ?_
      · rintro i y H3 hi ⟨s3, hD3⟩
        have s13 := s1.trans (s2.trans s3)
        obtain ⟨p, x, rfl, _, hx3, hp⟩ := (hC'.same s13).get hi
        have hxm : x ∈ c0 :: cs' := List.mem_cons_of_mem _ (List.mem_of_getElem? hx3)
        refine ⟨rfl, ?_⟩
        refine ⟨_, rfl, c, _, 0, _, rfl, rfl, .inl (.inl (s13 _ _ hc)), at_zero _ _, _, rfl, q0, p, c0, x, rfl, hq0.same s13, hp, f66 (fc _ List.mem_cons_self), f66 (fc _ hxm), ?_⟩
        have e : pbB c0 x = true := (pb_iff (rc _ List.mem_cons_self) (rc _ hxm)).mpr (R.z.least (i + 1) (qP c0) (qP x) (Nat.succ_pos _) rfl (map_at (f := qP) (xs := c0 :: cs') (i := i + 1) hx3))
        rw [e]
        exact ⟨true, rfl, noT ⟨s3, hD3⟩⟩
      · rintro H3 ⟨s3, hD3⟩
        refine ⟨by show 0 ≤ sizeLine; decide, fun u hu => ?_⟩
        have s4 := same_new (o := .lst []) hu
        exact ⟨.list [], .list [], .lst (SqL.of (s4 _ _ hD3)) .nil, .lst (SqL.of upd_same) .nil, rfl, rfl, _, rfl, iteF ⟨rfl, s1.trans (s2.trans (s3.trans s4))⟩⟩
    rintro σ2 H2 ⟨rfl, s2⟩
    have hc2 := s2 _ _ hc
    have hC2 := hC.same s2
    have hl2 := s2 _ _ hl
    have hX2 := hX.same s2
    -- one corner
    refine ⟨fun σ' H' => σ' = [some (.ref c), some (.ref l), some (.int (cs.length : Nat)), none, none, none] ∧ H' = H2 ∧ cs.length ≠ 1, ?_, ?_⟩
    · refine ⟨_, rfl, rfl, _, rfl, ite2 (fun h => ?_) (fun h => ?_)⟩
      · have e1 : cs.length = 1 := by
          have := V.int.inj (of_decide_eq_true h)
          omega
        obtain ⟨c0, rfl⟩ : ∃ c0, cs = [c0] := by
          match cs, e1 with
          | [c0], _ => exact ⟨c0, rfl⟩
        obtain ⟨q0, a0, hq0⟩ := hC2.at_ (i := 0) (Nat.succ_pos _)
        refine ⟨_, rfl, l, rfl, ⟨_, SqL.of hl2⟩, fun D hD => ?_⟩
        refine lc_list (K := K) (a := l) (xs := rv ps) (fun i H' => Same H2 H' ∧ H' D = some (.lst [])) ⟨same_new hD, upd_same⟩ (fun i H' _ z => SqL.of (z.1 _ _ hl2)) ?_ ?_
        · rintro i y H3 hi ⟨s3, hD3⟩
          obtain ⟨p, x, rfl, _, hx3, hp⟩ := (hX2.same s3).get hi
          have hxm := List.mem_of_getElem? hx3
          have ex : x = c0 := qP_inj (R.red x hxm) (rc c0 List.mem_cons_self) (R.z.one (qP c0) rfl (qP x) (List.mem_map.mpr ⟨x, hxm, rfl⟩))
          refine ⟨rfl, ?_⟩
          refine ⟨_, rfl, _, rfl, c, _, 0, _, rfl, rfl, .inl (.inl (s3 _ _ hc2)), a0, datPt x, datPt c0, dp_pt hp, dp_pt (hq0.same s3), pt_shaped _, pt_shaped _, ?_⟩
          rw [eqv_pt, decide_eq_true ex]
          exact ⟨_, rfl, noT ⟨s3, hD3⟩⟩
        · rintro H3 ⟨s3, hD3⟩
          refine ⟨by show 0 ≤ sizeLine; decide, fun u hu => ?_⟩
          have s4 := same_new (o := .lst []) hu
          exact ⟨.list [], .list [], .lst (SqL.of (s4 _ _ hD3)) .nil, .lst (SqL.of upd_same) .nil, rfl, rfl, k _ (s2.trans (s3.trans s4))⟩
      · exact ⟨rfl, rfl, fun e => h (by rw [e]; rfl)⟩
    rintro σ3 H3 ⟨rfl, rfl, n1⟩
    -- two
    refine ⟨fun σ' H' => σ' = [some (.ref c), some (.ref l), some (.int (cs.length : Nat)), none, none, none] ∧ H' = H3 ∧ 3 ≤ cs.length, ?_, ?_⟩
    · refine ⟨_, rfl, rfl, _, rfl, ite2 (fun h => ?_) (fun h => ?_)⟩
      · have e2 : cs.length = 2 := by
          have := V.int.inj (of_decide_eq_true h)
          omega
        obtain ⟨c0, c1, rfl⟩ : ∃ c0 c1, cs = [c0, c1] := by
          match cs, e2 with
          | [c0, c1], _ => exact ⟨c0, c1, rfl⟩
        obtain ⟨q0, a0, hq0⟩ := hC2.at_ (i := 0) (Nat.succ_pos _)
        obtain ⟨q1, a1, hq1⟩ := hC2.at_ (i := 1) (Nat.succ_lt_succ (Nat.succ_pos _))
        have m0 : c0 ∈ [c0, c1] := List.mem_cons_self
        have m1 : c1 ∈ [c0, c1] := by simp
        refine ⟨fun σ' H' => (∃ v3, σ' = [some (.ref c), some (.ref l), some (.int 2), v3, none, none]) ∧ Same H3 H', ?_, ?_⟩
        · refine ⟨_, rfl, l, rfl, ⟨_, SqL.of hl2⟩, ?_⟩
          refine for_list (K := K) (a := l) (xs := rv ps) (fun i σ' H' => (∃ v3, σ' = [some (.ref c), some (.ref l), some (.int 2), v3, none, none]) ∧ Same H3 H') ⟨⟨none, rfl⟩, Same.refl _⟩ (fun i σ' H' _ z => SqL.of (z.2 _ _ hl2)) (fun i y σ' H4 hi z => ?_) (fun σ' H4 z => z)
          obtain ⟨⟨v3, rfl⟩, s3⟩ := z
          obtain ⟨p, x, rfl, _, hx3, hp⟩ := (hX2.same s3).get hi
          have hxm := List.mem_of_getElem? hx3
          obtain ⟨z1, z2, z3⟩ := R.z.two (qP c0) (qP c1) rfl (qP x) (List.mem_map.mpr ⟨x, hxm, rfl⟩)
          have fx := R.f x hxm
          have sg := sgn_crq (fc c0 m0) (fc c1 m1) fx
          refine ⟨_, rfl, c, _, 0, _, rfl, rfl, .inl (.inl (s3 _ _ hc2)), a0, _, rfl, c, _, 1, _, rfl, rfl, .inl (.inl (s3 _ _ hc2)), a1, _, rfl, q0, q1, p, c0, c1, x, rfl, hq0.same s3, hq1.same s3, hp, fc c0 m0, fc c1 m1, fx, fun H5 s5 => ?_⟩
          have s35 := s3.trans s5
          rw [sgnI_zero (fun g => by have := sg.1.mp g; grind) (fun g => by have := sg.2.mp g; grind)]
          refine ⟨rfl, _, rfl, iteF ?_⟩
          have e1 : pbB x c0 = false := by
            rw [Bool.eq_false_iff]
            exact fun g => z2 ((pb_iff (R.red x hxm) (rc c0 m0)).mp g)
          have e2 : pbB c1 x = false := by
            rw [Bool.eq_false_iff]
            exact fun g => z3 ((pb_iff (rc c1 m1) (R.red x hxm)).mp g)
          refine ⟨_, rfl, _, rfl, c, _, 0, _, rfl, rfl, .inl (.inl (s35 _ _ hc2)), a0, p, q0, x, c0, rfl, hp.same s5, hq0.same s35, f66 fx, f66 (fc c0 m0), ?_⟩
          rw [e1]
          refine ⟨false, rfl, iteF ?_⟩
          refine ⟨_, rfl, c, _, 1, _, rfl, rfl, .inl (.inl (s35 _ _ hc2)), a1, _, rfl, q1, p, c1, x, rfl, hq1.same s35, hp.same s5, f66 (fc c1 m1), f66 fx, ?_⟩
          rw [e2]
          exact ⟨false, rfl, iteF ⟨⟨_, rfl⟩, s35⟩⟩
        · rintro σ4 H4 ⟨⟨v3, rfl⟩, s3⟩
          exact k H4 (s2.trans s3)
      · have n2 : cs.length ≠ 2 := fun e => h (by rw [e]; rfl)
        exact ⟨rfl, rfl, by omega⟩
    rintro σ4 H4 ⟨rfl, rfl, h3⟩
    have HQ := R.z.hull (by rw [List.length_map]; exact h3)
    have mapl : (cs.map qP).length = cs.length := List.length_map _
    refine ⟨fun σ' H' => Same H4 H', ?_, ?_⟩
    · refine ⟨_, rfl, _, rfl, by omega, by omega, ?_⟩
      rw [Int.toNat_natCast]
      refine for_range (lo := 0) (n := cs.length) (fun i σ' H' => (∃ v4, σ' = [some (.ref c), some (.ref l), some (.int (cs.length : Nat)), none, v4, none]) ∧ Same H4 H') ⟨⟨none, rfl⟩, Same.refl _⟩ ?_ (fun σ' H' z => z.2)
      rintro i σ' H5 hi ⟨⟨v4, rfl⟩, s5⟩
      obtain ⟨t1, t2, t3⟩ := turn_eq hi h3
      have hc5 := s5 _ _ hc2
      obtain ⟨p2, b2, g2⟩ := at_turn (hC2.same s5) hi (j := 2) (by omega)
      obtain ⟨p1, b1, g1⟩ := at_turn (hC2.same s5) hi (j := 1) (by omega)
      obtain ⟨p0, b0, g0⟩ := at_turn (hC2.same s5) hi (j := 0) (by omega)
      rw [Nat.sub_zero, Nat.add_mod_right, Nat.mod_eq_of_lt hi] at g0
      have hm : ∀ {j : Nat}, (i + cs.length - j) % cs.length < cs.length := fun {j} => Nat.mod_lt _ l0
      have at_ : ∀ {j : Nat}, j < cs.length → (cs.map qP)[j]? = some (qP (ptN cs j)) := fun {j} hj => map_at (ptN_at hj)
      have mem : ∀ {j : Nat}, j < cs.length → ptN cs j ∈ cs := fun {j} hj => List.mem_of_getElem? (ptN_at hj)
      have f2 := fc _ (mem (hm (j := 2)))
      have f1 := fc _ (mem (hm (j := 1)))
      have f0 := fc _ (mem hi)
      refine ⟨fun σ' H' => σ' = [some (.ref c), some (.ref l), some (.int (cs.length : Nat)), none, some (.int (0 + (i : Int))), none] ∧ Same H4 H', ?_, ?_⟩
      · have b0' : atI (rv qs) (0 + (i : Int)) = some (.ref p0) := by
          have z := b0
          rw [show (0 + (i : Int)) - ((0 : Nat) : Int) = 0 + (i : Int) by omega] at z
          exact z
        refine ⟨_, rfl, _, rfl, _, _, rfl, rfl, c, _, _, _, rfl, rfl, .inl (.inl hc5), b2, _, rfl, _, rfl, _, _, rfl, rfl, c, _, _, _, rfl, rfl, .inl (.inl hc5), b1, _, rfl, _, rfl, c, _, _, _, rfl, rfl, .inl (.inl hc5), b0', p2, p1, p0, _, _, _, rfl, g2, g1, g0, f2, f1, f0, fun H6 s6 => ?_⟩
        have tr := HQ.turn (by rw [mapl]; exact h3) ((i + cs.length - 2) % cs.length) (qP (ptN cs ((i + cs.length - 2) % cs.length))) (qP (ptN cs ((i + cs.length - 1) % cs.length))) (qP (ptN cs i)) (by rw [mapl]; exact hm) (at_ hm) (by rw [mapl, t1]; exact at_ hm) (by rw [mapl, t2]; exact at_ hi)
        rw [sgnI_pos ((sgn_crq f2 f1 f0).1.mpr tr)]
        exact ⟨rfl, _, rfl, iteF ⟨rfl, s5.trans s6⟩⟩
      rintro σ5 H6 ⟨rfl, s6⟩
      have hc6 := s6 _ _ hc2
      refine ⟨_, rfl, l, rfl, ⟨_, SqL.of (s6 _ _ hl2)⟩, fun D hD => ?_⟩
      refine lc_list (K := K) (a := l) (xs := rv ps) (fun i H' => Same H6 H' ∧ H' D = some (.lst [])) ⟨same_new hD, upd_same⟩ (fun i H' _ z => SqL.of ((s6.trans z.1) _ _ hl2)) ?_ ?_
      · rintro j y H7 hj ⟨s7, hD7⟩
        have s67 := s6.trans s7
        obtain ⟨p, x, rfl, _, hx3, hp⟩ := (hX2.same s67).get hj
        have hxm := List.mem_of_getElem? hx3
        obtain ⟨p1, b1, g1⟩ := at_turn (hC2.same s67) hi (j := 1) (by omega)
        obtain ⟨p0, b0, g0⟩ := at_turn (hC2.same s67) hi (j := 0) (by omega)
        rw [Nat.sub_zero, Nat.add_mod_right, Nat.mod_eq_of_lt hi] at g0
        have b0' : atI (rv qs) (0 + (i : Int)) = some (.ref p0) := by
          have z := b0
          rw [show (0 + (i : Int)) - ((0 : Nat) : Int) = 0 + (i : Int) by omega] at z
          exact z
        have ed := HQ.edge ((i + cs.length - 1) % cs.length) (qP (ptN cs ((i + cs.length - 1) % cs.length))) (qP (ptN cs i)) (by rw [mapl]; exact hm) (at_ hm) (by rw [mapl, t3]; exact at_ hi) (qP x) (List.mem_map.mpr ⟨x, hxm, rfl⟩)
        refine ⟨rfl, ?_⟩
        refine ⟨_, rfl, _, rfl, _, _, rfl, rfl, c, _, _, _, rfl, rfl, .inl (.inl (s7 _ _ hc6)), b1, _, rfl, _, rfl, c, _, _, _, rfl, rfl, .inl (.inl (s7 _ _ hc6)), b0', _, rfl, p1, p0, p, _, _, x, rfl, g1, g0, hp, f1, f0, R.f x hxm, fun H8 s8 => ?_⟩
        have ns : sgnI (croF (ptN cs ((i + cs.length - 1) % cs.length)) (ptN cs i) x).1 ≠ -1 := fun e => by
          have z := (sgn_crq f1 f0 (R.f x hxm)).2.mp (sgnI_neg.mp e)
          grind
        refine ⟨1, rfl, rfl, _, rfl, ?_⟩
        rw [decide_eq_false (fun e => ns (V.int.inj e))]
        exact noT ⟨s7.trans s8, s8 _ _ hD7⟩
      · rintro H7 ⟨s7, hD7⟩
        refine ⟨by show 0 ≤ sizeLine; decide, fun u hu => ?_⟩
        have s8 := same_new (o := .lst []) hu
        exact ⟨.list [], .list [], .lst (SqL.of (s8 _ _ hD7)) .nil, .lst (SqL.of upd_same) .nil, rfl, rfl, _, rfl, iteF ⟨⟨_, rfl⟩, s6.trans (s7.trans s8)⟩⟩
    · intro σ5 H5 s5
      exact k H5 (s2.trans s5)
end
end Fk

set_option Elab.async false
set_option maxRecDepth 100000
set_option maxHeartbeats 8000000
set_option exponentiation.threshold 20000
/-! The law: its points. -/
namespace Fk
open PySem L2
def Bq : Rat := ((2 ^ 105 : Int) : Rat)
def Lo (b : Rat) (x : Rat) : Prop := -b ≤ x ∧ x ≤ b
/-- a point: lowest terms, bottoms that divide M, not far -/
structure PV (M : Int) (x : Po) : Prop where
  red : RedP x
  d1 : x.1.2 ∣ M
  d2 : x.2.2 ∣ M
  b1 : Lo Bq (qv x.1)
  b2 : Lo Bq (qv x.2)
structure PtsV (M : Int) (xs : List Po) : Prop where
  M0 : 0 < M
  M1 : Bd 400 M
  ne : xs ≠ []
  ln : xs.length ≤ 11
  pv : ∀ x ∈ xs, PV M x
theorem PV.up {M N : Int} {x : Po} (h : PV M x) (d : M ∣ N) : PV N x := ⟨h.red, Int.dvd_trans h.d1 d, Int.dvd_trans h.d2 d, h.b1, h.b2⟩
theorem lo_of {A : Nat} {x : Int × Int} (x0 : 0 < x.2) (h : Bd A x.1) : Lo ((2 ^ A : Int) : Rat) (qv x) := by
  have s := cast_pos x0
  have e := qv_mul x0
  have h2 : -(2 ^ A : Int) * x.2 ≤ x.1 ∧ x.1 ≤ (2 ^ A : Int) * x.2 := by
    have h' : x.1.natAbs < 2 ^ A := h
    have p : ((2 ^ A : Nat) : Int) = (2 ^ A : Int) := by simp
    have q : (0 : Int) < 2 ^ A := Int.pow_pos (by decide)
    have m : (2 ^ A : Int) ≤ (2 ^ A : Int) * x.2 := by
      have := Int.mul_le_mul_of_nonneg_left (show (1 : Int) ≤ x.2 by omega) (Int.le_of_lt q)
      omega
    rw [Int.neg_mul]
    omega
  have a1 : ((-(2 ^ A : Int) * x.2 : Int) : Rat) ≤ (x.1 : Rat) := by exact_mod_cast h2.1
  have a2 : (x.1 : Rat) ≤ (((2 ^ A : Int) * x.2 : Int) : Rat) := by exact_mod_cast h2.2
  rw [Rat.intCast_mul] at a1 a2
  rw [Rat.intCast_neg] at a1
  generalize ((2 ^ A : Int) : Rat) = b at *
  unfold Lo
  constructor
  · by_cases q : -b ≤ qv x
    · exact q
    · exfalso
      have := Hu.mulq_pp (by grind : 0 < -b - qv x) s
      grind
  · by_cases q : qv x ≤ b
    · exact q
    · exfalso
      have := Hu.mulq_pp (by grind : 0 < qv x - b) s
      grind
theorem bd_of_lo {x : Int × Int} {m : Nat} (x0 : 0 < x.2) (hm : Bd m x.2) (h : Lo Bq (qv x)) : Bd (105 + m) x.1 := by
  have s := cast_pos x0
  have e := qv_mul x0
  obtain ⟨h1, h2⟩ := h
  unfold Bq at h1 h2
  have a1 : ((-(2 ^ 105 : Int) * x.2 : Int) : Rat) ≤ (x.1 : Rat) := by
    rw [Rat.intCast_mul, Rat.intCast_neg]
    generalize ((2 ^ 105 : Int) : Rat) = b at *
    have := Hu.mulq_nn (by grind : 0 ≤ qv x + b) (by grind : 0 ≤ (x.2 : Rat))
    grind
  have a2 : (x.1 : Rat) ≤ (((2 ^ 105 : Int) * x.2 : Int) : Rat) := by
    rw [Rat.intCast_mul]
    generalize ((2 ^ 105 : Int) : Rat) = b at *
    have := Hu.mulq_nn (by grind : 0 ≤ b - qv x) (by grind : 0 ≤ (x.2 : Rat))
    grind
  have b1 : -(2 ^ 105 : Int) * x.2 ≤ x.1 := by exact_mod_cast a1
  have b2 : x.1 ≤ (2 ^ 105 : Int) * x.2 := by exact_mod_cast a2
  have le : x.1.natAbs ≤ 2 ^ 105 * x.2.natAbs := by
    rw [Int.neg_mul] at b1
    have p : (2 ^ 105 : Int) = ((2 ^ 105 : Nat) : Int) := by decide
    have q : x.2 = ((x.2.natAbs : Nat) : Int) := by omega
    rw [p, q] at b1 b2
    have r : ((2 ^ 105 : Nat) : Int) * ((x.2.natAbs : Nat) : Int) = ((2 ^ 105 * x.2.natAbs : Nat) : Int) := (Int.natCast_mul _ _).symm
    rw [r] at b1 b2
    omega
  unfold Bd at *
  rw [Nat.pow_add]
  exact Nat.lt_of_le_of_lt le (Nat.mul_lt_mul_of_pos_left hm (by decide))
theorem PV.fine {M : Int} {m : Nat} {x : Po} (h : PV M x) (M0 : 0 < M) (hM : Bd m M) (hm : m ≤ 450) : FineP 600 x ∧ Fit 600 600 x.1 ∧ Fit 600 600 x.2 := by
  have c1 := dvd_bd M0 h.d1 h.red.a.p hM
  have c2 := dvd_bd M0 h.d2 h.red.b.p hM
  have t1 := (bd_of_lo h.red.a.p c1 h.b1).mono (show _ ≤ 600 by omega)
  have t2 := (bd_of_lo h.red.b.p c2 h.b2).mono (show _ ≤ 600 by omega)
  have u1 := c1.mono (show _ ≤ 600 by omega)
  have u2 := c2.mono (show _ ≤ 600 by omega)
  exact ⟨⟨⟨h.red.a.p, t1, u1⟩, ⟨h.red.b.p, t2, u2⟩⟩, ⟨h.red.a.p, h.red.a.g, t1, u1⟩, ⟨h.red.b.p, h.red.b.g, t2, u2⟩⟩
/-- the bottom of a number that a multiple makes whole -/
theorem dvd_of_whole {x : Int × Int} {M N : Int} (h : Red x) (M0 : 0 < M) (e : qv x * (M : Rat) = (N : Rat)) : x.2 ∣ M := by
  obtain ⟨u, h1, _, _⟩ := red_dvd h M0 e
  exact ⟨u, h1⟩
theorem whole_of {x : Int × Int} {M : Int} (x0 : 0 < x.2) (d : x.2 ∣ M) : ∃ N : Int, qv x * (M : Rat) = (N : Rat) := by
  obtain ⟨u, rfl⟩ := d
  refine ⟨x.1 * u, ?_⟩
  have := qv_mul x0
  rw [Rat.intCast_mul, Rat.intCast_mul]
  grind
/-- a ratio as it is drawn -/
theorem pv_ratio {x y : Int × Int} {M : Int} (hx : Fit 100 7 x) (hy : Fit 100 7 y) (h1 : x.2 ∣ M) (h2 : y.2 ∣ M) : PV M (x, y) := by
  have up : ∀ {z : Rat}, Lo ((2 ^ 100 : Int) : Rat) z → Lo Bq z := fun {z} h => by
    have e : ((2 ^ 100 : Int) : Rat) ≤ Bq := by
      unfold Bq
      exact Rat.intCast_le_intCast.mpr (show (2 ^ 100 : Int) ≤ 2 ^ 105 by decide)
    obtain ⟨a, b⟩ := h
    generalize ((2 ^ 100 : Int) : Rat) = u at *
    generalize Bq = v at *
    exact ⟨by grind, by grind⟩
  exact ⟨⟨hx.red, hy.red⟩, h1, h2, up (lo_of hx.p hx.b1), up (lo_of hy.p hy.b1)⟩
/-- base + by * way -/
theorem co_line {b g w : Int × Int} {M : Int} (hb : Fit 100 7 b) (hg : Fit 4 7 g) (hw : Fit 100 7 w) (M0 : 0 < M) (d1 : b.2 ∣ M) (d2 : w.2 ∣ M) : Red (pluF b (timF g w)) ∧ (pluF b (timF g w)).2 ∣ M * g.2 ∧ Lo Bq (qv (pluF b (timF g w))) := by
  have t0 : 0 < (timF g w).2 := (tim_red hg.p hw.p).p
  have r : Red (pluF b (timF g w)) := plu_red hb.p t0
  have e : qv (pluF b (timF g w)) = qv b + qv g * qv w := by rw [qv_plu hb.p t0, qv_tim hg.p hw.p]
  refine ⟨r, ?_, ?_⟩
  · obtain ⟨N1, e1⟩ := whole_of hb.p d1
    obtain ⟨N2, e2⟩ := whole_of hw.p d2
    have e3 := qv_mul hg.p
    refine dvd_of_whole (N := N1 * g.2 + g.1 * N2) r (Int.mul_pos M0 hg.p) ?_
    rw [e, Rat.intCast_add, Rat.intCast_mul, Rat.intCast_mul, Rat.intCast_mul, ← e1, ← e2, ← e3]
    grind
  · obtain ⟨a1, a2⟩ := lo_of hb.p hb.b1
    obtain ⟨b1, b2⟩ := lo_of hg.p hg.b1
    obtain ⟨c1, c2⟩ := lo_of hw.p hw.b1
    rw [e]
    have k1 : ((2 ^ 4 : Int) : Rat) = 16 := rfl
    have k2 : Bq = 32 * ((2 ^ 100 : Int) : Rat) := by
      unfold Bq
      have : (2 ^ 105 : Int) = 32 * 2 ^ 100 := by decide
      rw [this, Rat.intCast_mul]
      rfl
    have k3 : (0 : Rat) ≤ ((2 ^ 100 : Int) : Rat) := Rat.intCast_nonneg.mpr (show (0 : Int) ≤ 2 ^ 100 by decide)
    rw [k1] at b1 b2
    rw [k2]
    generalize ((2 ^ 100 : Int) : Rat) = u at *
    generalize qv b = x at *
    generalize qv g = y at *
    generalize qv w = z at *
    have p1 := Hu.mulq_nn (by grind : 0 ≤ 16 - y) (by grind : 0 ≤ u - z)
    have p2 := Hu.mulq_nn (by grind : 0 ≤ 16 + y) (by grind : 0 ≤ u + z)
    have p3 := Hu.mulq_nn (by grind : 0 ≤ 16 - y) (by grind : 0 ≤ u + z)
    have p4 := Hu.mulq_nn (by grind : 0 ≤ 16 + y) (by grind : 0 ≤ u - z)
    exact ⟨by grind, by grind⟩
/-- by * a + (1 - by) * b, by thirds -/
theorem co_mix {a b : Int × Int} {M d : Int} (d0 : 0 ≤ d) (d3 : d ≤ 3) (ra : Red a) (rb : Red b) (M0 : 0 < M) (da : a.2 ∣ M) (db : b.2 ∣ M) (la : Lo Bq (qv a)) (lb : Lo Bq (qv b)) :
    let g := lowI d 3
    let r := minF (1, 1) g
    Red (pluF (timF g a) (timF r b)) ∧ (pluF (timF g a) (timF r b)).2 ∣ 3 * M ∧ Lo Bq (qv (pluF (timF g a) (timF r b))) := by
  intro g r
  have g0 : 0 < g.2 := (low_red (a := d) (b := 3) (by decide)).p
  have r0 : 0 < r.2 := (min_red (x := (1, 1)) (by decide) g0).p
  have t1 : 0 < (timF g a).2 := (tim_red g0 ra.p).p
  have t2 : 0 < (timF r b).2 := (tim_red r0 rb.p).p
  have rr : Red (pluF (timF g a) (timF r b)) := plu_red t1 t2
  have eg : qv g = (d : Rat) / 3 := by
    show qv (lowI d 3) = _
    rw [qv_low (by decide)]
    rfl
  have er : qv r = 1 - qv g := by
    show qv (minF (1, 1) g) = _
    rw [qv_min (by decide) g0, qv_one]
    rfl
  have e : qv (pluF (timF g a) (timF r b)) = qv g * qv a + qv r * qv b := by rw [qv_plu t1 t2, qv_tim g0 ra.p, qv_tim r0 rb.p]
  refine ⟨rr, ?_, ?_⟩
  · obtain ⟨N1, e1⟩ := whole_of ra.p da
    obtain ⟨N2, e2⟩ := whole_of rb.p db
    refine dvd_of_whole (N := d * N1 + (3 - d) * N2) rr (by omega) ?_
    rw [e, er, eg, Rat.intCast_add, Rat.intCast_mul, Rat.intCast_mul, Rat.intCast_mul, Rat.intCast_sub, ← e1, ← e2, show ((3 : Int) : Rat) = 3 from rfl]
    grind
  · have q0 : (0 : Rat) ≤ (d : Rat) := by exact_mod_cast d0
    have q3 : (d : Rat) ≤ 3 := by exact_mod_cast d3
    rw [e, er, eg]
    obtain ⟨a1, a2⟩ := la
    obtain ⟨b1, b2⟩ := lb
    generalize Bq = u at *
    generalize qv a = x at *
    generalize qv b = y at *
    generalize (d : Rat) = z at *
    have p1 := Hu.mulq_nn q0 (by grind : 0 ≤ u - x)
    have p2 := Hu.mulq_nn q0 (by grind : 0 ≤ u + x)
    have p3 := Hu.mulq_nn (by grind : 0 ≤ 3 - z) (by grind : 0 ≤ u - y)
    have p4 := Hu.mulq_nn (by grind : 0 ≤ 3 - z) (by grind : 0 ≤ u + y)
    exact ⟨by grind, by grind⟩
end Fk

set_option Elab.async false
set_option maxRecDepth 100000
set_option maxHeartbeats 1000000
set_option exponentiation.threshold 20000
namespace Fk
open PySem L2
abbrev sLPts : Stmt := top 57
abbrev nsLPts : List Str := ["_law_pen_here", "_law_points_here", "_law_figures", "_law_base", "_law_way", "_law_line", "_law_k", "_law_kind", "_law_point", "_law_by", "_law_one", "_law_two", "_law_rest", "_law_a", "_law_b"]
def spLPts : Sp := fun vs H Q _ => ∃ (p l : Addr) (c : Int), vs = [.ref p] ∧ PenAt H p l c ∧ c < 500000000 ∧ ∀ r ps xs M c' H', Keep p H H' → PenAt H' p l c' → c ≤ c' → c' ≤ c + 3000 → H' r = some (.lst (rv ps)) → PtsAt H' ps xs → PtsV M xs → H r = none → Q (.ref r) H'
/-- what stands while the points are drawn -/
structure PtSt (H0 : Hp) (p l pl bs wy : Addr) (b w : Po) (c0 c : Int) (M : Int) (k : Nat) (n : Int) (ps : List Addr) (xs : List Po) (H : Hp) : Prop where
  kp : Keep p H0 H
  P : PenAt H p l c
  c1 : c0 ≤ c
  c2 : c ≤ c0 + 300 + n
  hl : H pl = some (.lst (rv ps))
  hx : PtsAt H ps xs
  hb : PtAt H bs b
  hw : PtAt H wy w
  M0 : 0 < M
  M1 : Bd k M
  pv : ∀ x ∈ xs, PV M x
  db1 : b.1.2 ∣ M
  db2 : b.2.2 ∣ M
  dw1 : w.1.2 ∣ M
  dw2 : w.2.2 ∣ M
theorem PtSt.same {H0 H H' : Hp} {p l pl bs wy : Addr} {b w : Po} {c0 c M n : Int} {k : Nat} {ps : List Addr} {xs : List Po} (h : PtSt H0 p l pl bs wy b w c0 c M k n ps xs H) (s : Same H H') : PtSt H0 p l pl bs wy b w c0 c M k n ps xs H' :=
  ⟨h.kp.trans (Same.keep s), h.P.same s, h.c1, h.c2, s _ _ h.hl, h.hx.same s, h.hb.same s, h.hw.same s, h.M0, h.M1, h.pv, h.db1, h.db2, h.dw1, h.dw2⟩
theorem PtSt.keep {H0 H H' : Hp} {p l pl bs wy : Addr} {b w : Po} {c0 c c' M n m : Int} {k : Nat} {ps : List Addr} {xs : List Po} (h : PtSt H0 p l pl bs wy b w c0 c M k n ps xs H) (kk : Keep p H H') (P' : PenAt H' p l c') (g1 : c ≤ c') (g2 : c' ≤ c0 + 300 + m) : PtSt H0 p l pl bs wy b w c0 c' M k m ps xs H' :=
  ⟨h.kp.trans kk, P', Int.le_trans h.c1 g1, g2, kk.lst h.P h.hl, kk.pts h.P h.hx, kk.pt h.P h.hb, kk.pt h.P h.hw, h.M0, h.M1, h.pv, h.db1, h.db2, h.dw1, h.dw2⟩
theorem PtSt.up {H0 H : Hp} {p l pl bs wy : Addr} {b w : Po} {c0 c M N n : Int} {k k' : Nat} {ps : List Addr} {xs : List Po} (h : PtSt H0 p l pl bs wy b w c0 c M k n ps xs H) (d : M ∣ N) (N0 : 0 < N) (N1 : Bd k' N) : PtSt H0 p l pl bs wy b w c0 c N k' n ps xs H :=
  ⟨h.kp, h.P, h.c1, h.c2, h.hl, h.hx, h.hb, h.hw, N0, N1, fun x hx => (h.pv x hx).up d, Int.dvd_trans h.db1 d, Int.dvd_trans h.db2 d, Int.dvd_trans h.dw1 d, Int.dvd_trans h.dw2 d⟩
theorem eqv_nil (xs : List Po) : PyData.eqv (.list (xs.map datPt)) (.list []) = decide (xs = []) := by
  simp only [PyData.eqv]
  exact eqv_all xs []
theorem two_dvd {a b : Int} : a ∣ a * b ∧ b ∣ a * b := ⟨⟨b, rfl⟩, ⟨a, Int.mul_comm a b⟩⟩
section
variable {P : Program} {w : World} {K : PySem.W.Frag} {mg : Str → Option Value} {base : Heap}
theorem scLPts : FnScope nsLPts psLDir (defScope sLPts) := ⟨rfl, rfl, rfl, by decide +kernel, rfl, by decide +kernel, by decide +kernel⟩
theorem ok_lpts {f fD fC fR fG fQ fP fM fT : Addr} {fd dD dC dR dG dQ dP dM dT : FuncData} (F : Fun K "_law_points" "_law_points" sLPts f fd) (mr : mg "range" = none) (mz : mg "zip" = none) (mT : mg "tuple" = none) (D : Cl P w K mg base "_law_draw" psDraw 1 spDraw fD dD) (C : Cl P w K mg base "_law_pick" psPick 2 spPick fC dC)
    (R : Cl P w K mg base "_law_ratio" psBig 4 spLRatio fR dR) (G : Cl P w K mg base "_law_direction" psLDir 5 spLDir fG dG) (Qc : Cl P w K mg base "_law_q" psQ 2 spQ fQ dQ) (Pl : Cl P w K mg base "_law_plus" psOT 3 (spTwo pluF) fP dP) (Mi : Cl P w K mg base "_law_minus" psOT 3 (spTwo minF) fM dM) (Ti : Cl P w K mg base "_law_times" psOT 3 (spTwo timF) fT dT) : FnOk P w K mg base CX0 6 f fd psLDir spLPts := by
  refine F.ok scLPts (fun vs H Q E h => ?_) (fun cdv A outer s H vs Q E hr h => ?_)
  · obtain ⟨p, l, c, rfl, _⟩ := h
    rfl
  · obtain ⟨p, l, c, rfl, hp, c1, k⟩ := h
    have hr1 := hr.mono (show 1 ≤ 5 by decide)
    have hr2 := hr.mono (show 2 ≤ 5 by decide)
    have hr3 := hr.mono (show 3 ≤ 5 by decide)
    have hr4 := hr.mono (show 4 ≤ 5 by decide)
    refine ⟨_, pss_cons (ps_set (i := 1) scLPts.nd rfl (Or.inl rfl) (pe_lst pa_nil))
      (pss_cons (ps_set (i := 2) scLPts.nd rfl (Or.inl rfl) (pe_call C.G hr2 (by rfl) C.g C.kp C.b .nil pass0 (pa_cons (pv 0) (pa_cons (pe_lst (pa_cons pe_int (pa_cons pe_int (pa_cons pe_int (pa_cons pe_int pa_nil))))) pa_nil))))
      (pss_cons (ps_set (i := 3) scLPts.nd rfl (Or.inl rfl) (pe_tup (pa_cons (pe_call R.G hr4 (by rfl) R.g R.kp R.b .nil pass0 (pa_cons (pv 0) (pa_cons (pv 2) pa_nil))) (pa_cons (pe_call R.G hr4 (by rfl) R.g R.kp R.b .nil pass0 (pa_cons (pv 0) (pa_cons (pv 2) pa_nil))) pa_nil))))
      (pss_cons (ps_set (i := 4) scLPts.nd rfl (Or.inl rfl) (pe_call G.G hr (by rfl) G.g G.kp G.b .nil pass0 (pa_cons (pv 0) pa_nil)))
      (C8.pss_cut (ps_set (i := 5) scLPts.nd rfl (Or.inl rfl) (pe_cmpR op_eq (pe_call D.G hr1 (by rfl) D.g D.kp D.b .nil pass0 (pa_cons (pv 0) (pa_cons pe_int pa_nil))) pe_int (nomark _)))
      (C8.pss_cut (ps_for PassesOwn.never rfl (pi_range1 (by rfl) mr (pa_cons (pe_op op_add pe_int (pe_call D.G hr1 (by rfl) D.g D.kp D.b .nil pass0 (pa_cons (pv 0) (pa_cons pe_int pa_nil)))) pa_nil)) (pg_name (i := 6) scLPts.nd rfl (Or.inl rfl))
        (pss_cons (ps_set (i := 7) scLPts.nd rfl (Or.inl rfl) (pe_call D.G hr1 (by rfl) D.g D.kp D.b .nil pass0 (pa_cons (pv 0) (pa_cons pe_int pa_nil))))
        (C8.pss_cut (ps_set (i := 8) scLPts.nd rfl (Or.inl rfl) (pe_tup (pa_cons (pe_call R.G hr4 (by rfl) R.g R.kp R.b .nil pass0 (pa_cons (pv 0) (pa_cons (pv 2) pa_nil))) (pa_cons (pe_call R.G hr4 (by rfl) R.g R.kp R.b .nil pass0 (pa_cons (pv 0) (pa_cons (pv 2) pa_nil))) pa_nil))))
        (C8.pss_cut (ps_if (pt_val (pv 5)) (pss_cons (ps_set (i := 9) scLPts.nd rfl (Or.inr rfl) (pe_call R.G hr4 (by rfl) R.g R.kp R.b .nil pass0 (pa_cons (pv 0) (pa_cons pe_int pa_nil))))
            (pss_one (ps_set (i := 8) scLPts.nd rfl (Or.inl rfl) (pe_tup (pa_cons (pe_call Pl.G hr3 (by rfl) Pl.g Pl.kp Pl.b .nil pass0 (pa_cons (pe_ix (ix_tupK (K := K) rfl) (pv 3) pe_int (fun _ _ => rfl)) (pa_cons (pe_call Ti.G hr3 (by rfl) Ti.g Ti.kp Ti.b .nil pass0 (pa_cons (pv 9) (pa_cons (pe_ix (ix_tupK (K := K) rfl) (pv 4) pe_int (fun _ _ => rfl)) pa_nil))) pa_nil)))
              (pa_cons (pe_call Pl.G hr3 (by rfl) Pl.g Pl.kp Pl.b .nil pass0 (pa_cons (pe_ix (ix_tupK (K := K) rfl) (pv 3) pe_int (fun _ _ => rfl)) (pa_cons (pe_call Ti.G hr3 (by rfl) Ti.g Ti.kp Ti.b .nil pass0 (pa_cons (pv 9) (pa_cons (pe_ix (ix_tupK (K := K) rfl) (pv 4) pe_int (fun _ _ => rfl)) pa_nil))) pa_nil))) pa_nil)))))) pss_nil)
        (C8.pss_cut (ps_if (PW.pt (pw_and (pt_cmpR op_eq (pv 7) pe_int (nomark _)) (pw_and1 (pt_cmpR (op_neDK (K := K) rfl hr.units) (pv 1) (pe_lst pa_nil) (nomark _))))) (pss_one (ps_set (i := 8) scLPts.nd rfl (Or.inl rfl) (pe_call C.G hr2 (by rfl) C.g C.kp C.b .nil pass0 (pa_cons (pv 0) (pa_cons (pv 1) pa_nil))))) pss_nil)
        (C8.pss_cut (ps_if (PW.pt (pw_and (pt_cmpR op_eq (pv 7) pe_int (nomark _)) (pw_and1 (pt_cmpR (op_neDK (K := K) rfl hr.units) (pv 1) (pe_lst pa_nil) (nomark _)))))
            (C8.pss_cut (ps_asg (pe_tup (pa_cons (pe_call C.G hr2 (by rfl) C.g C.kp C.b .nil pass0 (pa_cons (pv 0) (pa_cons (pv 1) pa_nil))) (pa_cons (pe_call C.G hr2 (by rfl) C.g C.kp C.b .nil pass0 (pa_cons (pv 0) (pa_cons (pv 1) pa_nil))) (pa_cons (pe_call Qc.G hr2 (by rfl) Qc.g Qc.kp Qc.b .nil pass0 (pa_cons (pe_call D.G hr1 (by rfl) D.g D.kp D.b .nil pass0 (pa_cons (pv 0) (pa_cons pe_int pa_nil))) (pa_cons pe_int pa_nil))) pa_nil))))
                (pg_tupK (K := K) (n := 3) rfl rfl (pgs_cons (pg_name (i := 10) scLPts.nd rfl (Or.inl rfl)) (pgs_cons (pg_name (i := 11) scLPts.nd rfl (Or.inl rfl)) (pgs_cons (pg_name (i := 9) scLPts.nd rfl (Or.inr rfl)) pgs_nil)))))
            (C8.pss_cut (ps_set (i := 12) scLPts.nd rfl (Or.inr rfl) (pe_call Mi.G hr3 (by rfl) Mi.g Mi.kp Mi.b .nil pass0 (pa_cons (pe_tup (pa_cons pe_int (pa_cons pe_int pa_nil))) (pa_cons (pv 9) pa_nil))))
            (pss_one (ps_set (i := 8) scLPts.nd rfl (Or.inl rfl) (pe_callTy call_tuple_of (by rfl) mT (by decide +kernel) (pa_cons (pe_lc (own := [("_law_a", 13), ("_law_b", 14)]) (g := gTup K 2 (gCons (gName 13) (gCons (gName 14) gNil))) (tt := tYes) rfl scLPts.nd (pi_zipBK (K := K) rfl (by rfl) mz (pa_cons (pv 10) (pa_cons (pv 11) pa_nil))) (blkOk_by (N := nsLPts) (sc := defScope sLPts) (by decide +kernel))
                (fun _ _ _ _ _ => pg_tupK (K := K) (n := 2) rfl rfl (pgs_cons (pg_name (i := 13) scLPts.nd rfl (Or.inl rfl)) (pgs_cons (pg_name (i := 14) scLPts.nd rfl (Or.inl rfl)) pgs_nil))) (fun _ _ _ _ _ => pts_nil)
                (fun _ _ _ _ _ => pe_call Pl.G hr3 (by rfl) Pl.g Pl.kp Pl.b .nil pass0 (pa_cons (pe_call Ti.G hr3 (by rfl) Ti.g Ti.kp Ti.b .nil pass0 (pa_cons (pv 9) (pa_cons (pv 13) pa_nil))) (pa_cons (pe_call Ti.G hr3 (by rfl) Ti.g Ti.kp Ti.b .nil pass0 (pa_cons (pv 12) (pa_cons (pv 14) pa_nil))) pa_nil)))) pa_nil)))))) pss_nil)
        (pss_one (ps_expr (pe_bm PySem.F.plainAttrs_list PySem.F.slot_list_append PySem.F.type_list_append mt_append (pv 1) (pa_cons (pv 8) pa_nil))))))))))
      (pss_one (ps_ret (pv 1)))))))), ?_⟩
    refine ⟨by show 0 ≤ sizeLine; decide, fun pl hpl => ?_⟩
    have s1 := same_new (o := .lst []) hpl
    have npl : pl ≠ l := new_ne hp hpl
    refine ⟨_, rfl, by show 4 ≤ sizeLine; decide, fun q hq => ?_⟩
    have s2 := same_new (o := .lst [V.int 1, V.int 1, V.int 2, V.int 20]) hq
    have P2 := hp.same (s1.trans s2)
    have hpl2 := s2 _ _ (upd_same (H := H) (a := pl) (o := .lst []))
    refine ⟨p, l, q, c, _, rfl, P2, by omega, upd_same, by show 0 < 4; decide, by show 4 ≤ 1000; decide, fun i x H3 hx P3 k3 => ?_⟩
    obtain ⟨fg, rfl, g0, g1⟩ : ∃ m : Int, x = .int m ∧ 1 ≤ m ∧ m ≤ 30 := by
      have hm := List.mem_of_getElem? hx
      simp only [List.mem_cons, List.not_mem_nil, or_false] at hm
      rcases hm with e | e | e | e
      · exact ⟨1, e, by decide, by decide⟩
      · exact ⟨1, e, by decide, by decide⟩
      · exact ⟨2, e, by decide, by decide⟩
      · exact ⟨20, e, by decide, by decide⟩
    have hpl3 := k3.lst P2 hpl2
    have K3 : Keep p H H3 := (Same.keep (s1.trans s2)).trans k3
    refine ⟨_, rfl, _, rfl, p, l, c + 1, fg, rfl, P3, by omega, g0, g1, fun q1 x1 d1 H4 k4 P4 a1 a2 hq1 fx1 _ => ?_⟩
    refine ⟨_, rfl, _, rfl, p, l, d1, fg, rfl, P4, by omega, g0, g1, fun q2 x2 d2 H5 k5 P5 a3 a4 hq2 fx2 _ => ⟨le2, fun bs hbs => ?_⟩⟩
    have s6 := same_new (o := .tup [.ref q1, .ref q2]) hbs
    have hb6 : PtAt (upd H5 bs (.tup [.ref q1, .ref q2])) bs (x1, x2) := ⟨q1, q2, upd_same, (k5.rat P4 hq1).same s6, hq2.same s6⟩
    have P6 := P5.same s6
    have K6 : Keep p H (upd H5 bs (.tup [.ref q1, .ref q2])) := K3.trans (k4.trans (k5.trans (Same.keep s6)))
    have hpl6 := s6 _ _ (k5.lst P4 (k4.lst P3 hpl3))
    refine ⟨_, rfl, p, l, d2, rfl, P6, by omega, fun wy wv d3 H7 k7 P7 a5 a6 hw dw => ?_⟩
    have hb7 := k7.pt P6 hb6
    have hpl7 := k7.lst P6 hpl6
    have M0p : 0 < x1.2 * x2.2 * (wv.1.2 * wv.2.2) := Int.mul_pos (Int.mul_pos fx1.p fx2.p) (Int.mul_pos dw.a.p dw.b.p)
    have M0b : Bd 40 (x1.2 * x2.2 * (wv.1.2 * wv.2.2)) := ((fx1.b2.mulB fx2.b2).mulB (dw.a.b2.mulB dw.b.b2)).mono (by decide)
    have dA : x1.2 * x2.2 ∣ x1.2 * x2.2 * (wv.1.2 * wv.2.2) := two_dvd.1
    have dB : wv.1.2 * wv.2.2 ∣ x1.2 * x2.2 * (wv.1.2 * wv.2.2) := two_dvd.2
    have St0 : PtSt H p l pl bs wy (x1, x2) wv c d3 (x1.2 * x2.2 * (wv.1.2 * wv.2.2)) 40 0 [] [] H7 := ⟨K6.trans k7, P7, by omega, by omega, hpl7, pts_nil', hb7, hw, M0p, M0b, fun x hx => (nomatch hx), Int.dvd_trans two_dvd.1 dA, Int.dvd_trans two_dvd.2 dA, Int.dvd_trans two_dvd.1 dB, Int.dvd_trans two_dvd.2 dB⟩
    generalize x1.2 * x2.2 * (wv.1.2 * wv.2.2) = M0 at St0
    have fb1 : Fit 100 7 x1 := fx1
    have fb2 : Fit 100 7 x2 := fx2
    have a7 := St0.c2
    have a8 := St0.c1
    clear hb6 hb7 hw hpl2 hpl3 hpl6 hpl7 P2 P3 P4 P5 P6 K3 K6 k3 k4 k5 k7 M0p M0b dA dB hq1 hq2 s1 s2 s6 a1 a2 a3 a4 a5 a6 fx1 fx2 hx hq hbs
    refine ⟨fun σ' H' => ∃ lb c', σ' = [some (.ref p), some (.ref pl), some (.int fg), some (.ref bs), some (.ref wy), some (.bl lb), none, none, none, none, none, none, none, none, none] ∧ PtSt H p l pl bs wy (x1, x2) wv c c' M0 40 1 [] [] H', ?_, ?_⟩
    · refine ⟨_, rfl, p, l, d3, 3, rfl, P7, by omega, by decide, by decide, fun r H8 r0 r1 P8 k8 => ⟨rfl, ?_⟩⟩
      exact ⟨_, _, rfl, St0.keep k8 P8 (by omega) (by omega)⟩
    rintro σ1 H1 ⟨lb, c2, rfl, St1⟩
    have e1 := St1.c2
    refine ⟨fun σ' H' => ∃ M k' c' n ps xs, (∃ v6 v7 v8 v9 v10 v11 v12 v13 v14, σ' = [some (.ref p), some (.ref pl), some (.int fg), some (.ref bs), some (.ref wy), some (.bl lb), v6, v7, v8, v9, v10, v11, v12, v13, v14]) ∧ PtSt H p l pl bs wy (x1, x2) wv c c' M k' n ps xs H' ∧ k' ≤ 400 ∧ n ≤ 2500 ∧ 0 < xs.length ∧ xs.length ≤ 11, ?_, ?_⟩
    · refine ⟨_, rfl, p, l, c2, 11, rfl, St1.P, by omega, by decide, by decide, fun r H2 r0 r1 P2 k2 => ?_⟩
      have St2 := St1.keep (m := 2) k2 P2 (by omega) (by omega)
      refine ⟨_, _, rfl, rfl, _, rfl, by omega, by omega, ?_⟩
      refine for_range (lo := 0) (n := (1 + r).toNat) (fun i σ' H' => ∃ M c' ps xs, (∃ v6 v7 v8 v9 v10 v11 v12 v13 v14, σ' = [some (.ref p), some (.ref pl), some (.int fg), some (.ref bs), some (.ref wy), some (.bl lb), v6, v7, v8, v9, v10, v11, v12, v13, v14]) ∧ PtSt H p l pl bs wy (x1, x2) wv c c' M (40 + 30 * i) (2 + 200 * (i : Int)) ps xs H' ∧ xs.length = i) ⟨M0, _, [], [], ⟨_, _, _, _, _, _, _, _, _, rfl⟩, St2, rfl⟩ ?_ ?_
      · rintro i σ' H3 hi ⟨M, c3, ps, xs, ⟨v6, v7, v8, v9, v10, v11, v12, v13, v14, rfl⟩, St3, lx⟩
        have i11 : i ≤ 10 := by omega
        have e3 := St3.c2
        refine ⟨_, rfl, p, l, c3, 5, rfl, St3.P, by omega, by decide, by decide, fun kd H4 _ _ P4 k4 => ?_⟩
        have St4 := St3.keep (m := 3 + 200 * (i : Int)) k4 P4 (by omega) (by omega)
        have e4 := St4.c2
        -- a point of ratios
        refine ⟨fun σ' H' => ∃ t x c' M, σ' = [some (.ref p), some (.ref pl), some (.int fg), some (.ref bs), some (.ref wy), some (.bl lb), some (.int (0 + (i : Int))), some (.int kd), some (.ref t), v9, v10, v11, v12, v13, v14] ∧ PtSt H p l pl bs wy (x1, x2) wv c c' M (40 + 30 * i + 14) (83 + 200 * (i : Int)) ps xs H' ∧ PtAt H' t x ∧ PV M x, ?_, ?_⟩
        · refine ⟨_, rfl, _, rfl, p, l, c3 + 1, fg, rfl, P4, by omega, g0, g1, fun q1 y1 d4 H5 k5 P5 b1 b2 hq1 fy1 _ => ?_⟩
          refine ⟨_, rfl, _, rfl, p, l, d4, fg, rfl, P5, by omega, g0, g1, fun q2 y2 d5 H6 k6 P6 b3 b4 hq2 fy2 _ => ⟨le2, fun t ht => ?_⟩⟩
          have s7 := same_new (o := .tup [.ref q1, .ref q2]) ht
          have St6 := (St4.keep (m := 83 + 200 * (i : Int)) (k5.trans k6) P6 (by omega) (by omega)).same s7
          have dm : M ∣ M * (y1.2 * y2.2) := two_dvd.1
          have dn : y1.2 * y2.2 ∣ M * (y1.2 * y2.2) := two_dvd.2
          refine ⟨t, (y1, y2), d5, M * (y1.2 * y2.2), rfl, St6.up dm (Int.mul_pos St6.M0 (Int.mul_pos fy1.p fy2.p)) ((St6.M1.mulB (fy1.b2.mulB fy2.b2)).mono (by omega)), ⟨q1, q2, upd_same, (k6.rat P5 hq1).same s7, hq2.same s7⟩, pv_ratio fy1 fy2 (Int.dvd_trans two_dvd.1 dn) (Int.dvd_trans two_dvd.2 dn)⟩
        rintro σ5 H5 ⟨t, x, c5, M, rfl, St5, ht, hx⟩
        have e5 := St5.c2
        -- on a line
        refine ⟨fun σ' H' => ∃ t x c' M v9, σ' = [some (.ref p), some (.ref pl), some (.int fg), some (.ref bs), some (.ref wy), some (.bl lb), some (.int (0 + (i : Int))), some (.int kd), some (.ref t), v9, v10, v11, v12, v13, v14] ∧ PtSt H p l pl bs wy (x1, x2) wv c c' M (40 + 30 * i + 21) (123 + 200 * (i : Int)) ps xs H' ∧ PtAt H' t x ∧ PV M x, ?_, ?_⟩
        · refine ⟨_, rfl, lb, rfl, ite2 (fun _ => ?_) (fun _ => ?_)⟩
          · refine ⟨_, rfl, p, l, c5, 1, rfl, St5.P, by omega, by decide, by decide, fun gq g d6 H6 k6 P6 b1 b2 hg _ fg4 => ?_⟩
            have fg := fg4 rfl
            have St6 := St5.keep (m := 123 + 200 * (i : Int)) k6 P6 (by omega) (by omega)
            obtain ⟨b1a, b2a, hb0, hb1, hb2⟩ := St6.hb
            obtain ⟨w1a, w2a, hw0, hw1, hw2⟩ := St6.hw
            have L1 := co_line fb1 fg dw.a St6.M0 St6.db1 St6.dw1
            have L2 := co_line fb2 fg dw.b St6.M0 St6.db2 St6.dw2
            have gF : Fine 6600 g := ⟨fg.p, fg.b1.mono (by decide), fg.b2.mono (by decide)⟩
            have wF1 : Fine 6600 wv.1 := ⟨dw.a.p, dw.a.b1.mono (by decide), dw.a.b2.mono (by decide)⟩
            have wF2 : Fine 6600 wv.2 := ⟨dw.b.p, dw.b.b1.mono (by decide), dw.b.b2.mono (by decide)⟩
            have bF1 : Fine 6600 x1 := ⟨fb1.p, fb1.b1.mono (by decide), fb1.b2.mono (by decide)⟩
            have bF2 : Fine 6600 x2 := ⟨fb2.p, fb2.b1.mono (by decide), fb2.b2.mono (by decide)⟩
            have tf : ∀ {u v : Int × Int}, Fit 4 7 u → Fit 100 7 v → Fine 6600 (timF u v) := fun {u v} hu hv => (fine_tim (n := 100) (m := 100) ⟨hu.p, hu.b1.mono (by decide), hu.b2.mono (by decide)⟩ ⟨hv.p, hv.b1.mono (by decide), hv.b2.mono (by decide)⟩).mono (by decide)
            refine ⟨_, rfl, bs, _, 0, _, rfl, rfl, .inl (.inl hb0), rfl, _, rfl, _, rfl, wy, _, 0, _, rfl, rfl, .inl (.inl hw0), rfl, gq, w1a, _, _, rfl, hg, hw1, gF, wF1, fun u H7 s7 hu => ?_⟩
            refine ⟨b1a, u, _, _, rfl, s7 _ _ hb1, hu, bF1, tf fg dw.a, fun r1 H8 s8 hr1' => ?_⟩
            have s78 := s7.trans s8
            refine ⟨_, rfl, bs, _, 1, _, rfl, rfl, .inl (.inl (s78 _ _ hb0)), rfl, _, rfl, _, rfl, wy, _, 1, _, rfl, rfl, .inl (.inl (s78 _ _ hw0)), rfl, gq, w2a, _, _, rfl, s78 _ _ hg, s78 _ _ hw2, gF, wF2, fun u2 H9 s9 hu2 => ?_⟩
            refine ⟨b2a, u2, _, _, rfl, (s78.trans s9) _ _ hb2, hu2, bF2, tf fg dw.b, fun r2 H10 s10 hr2' => ⟨le2, fun t2 ht2 => ?_⟩⟩
            have s11 := same_new (o := .tup [.ref r1, .ref r2]) ht2
            have sA := s78.trans (s9.trans (s10.trans s11))
            have dm : M ∣ M * g.2 := two_dvd.1
            refine ⟨t2, (pluF x1 (timF g wv.1), pluF x2 (timF g wv.2)), d6, M * g.2, some (.ref gq), rfl, (St6.same sA).up dm (Int.mul_pos St6.M0 fg.p) ((St6.M1.mulB fg.b2).mono (by omega)), ⟨r1, r2, upd_same, (s9.trans (s10.trans s11)) _ _ hr1', s11 _ _ hr2'⟩, ⟨⟨L1.1, L2.1⟩, L1.2.1, L2.2.1, L1.2.2, L2.2.2⟩⟩
          · refine ⟨t, x, c5, M, v9, rfl, (St5.keep (m := 123 + 200 * (i : Int)) (Keep.refl _ _) St5.P (by omega) (by omega)).up (Int.dvd_refl M) St5.M0 (St5.M1.mono (by omega)), ht, hx⟩
        rintro σ6 H6 ⟨t, x, c6, M, v9, rfl, St6, ht, hx⟩
        have e6 := St6.c2
        have lps : (rv ps).length = i := by rw [rv_len, St6.hx.1, lx]
        -- one of the points
        refine ⟨fun σ' H' => ∃ t x c', σ' = [some (.ref p), some (.ref pl), some (.int fg), some (.ref bs), some (.ref wy), some (.bl lb), some (.int (0 + (i : Int))), some (.int kd), some (.ref t), v9, v10, v11, v12, v13, v14] ∧ PtSt H p l pl bs wy (x1, x2) wv c c' M (40 + 30 * i + 21) (124 + 200 * (i : Int)) ps xs H' ∧ PtAt H' t x ∧ PV M x, ?_, ?_⟩
        · have stay : ∀ {H' : Hp}, Same H6 H' → ∃ t' x' c', [some (V.ref p), some (.ref pl), some (.int fg), some (.ref bs), some (.ref wy), some (.bl lb), some (.int (0 + (i : Int))), some (.int kd), some (.ref t), v9, v10, v11, v12, v13, v14] = [some (V.ref p), some (.ref pl), some (.int fg), some (.ref bs), some (.ref wy), some (.bl lb), some (.int (0 + (i : Int))), some (.int kd), some (.ref t'), v9, v10, v11, v12, v13, v14] ∧ PtSt H p l pl bs wy (x1, x2) wv c c' M (40 + 30 * i + 21) (124 + 200 * (i : Int)) ps xs H' ∧ PtAt H' t' x' ∧ PV M x' := fun {H'} s => ⟨t, x, c6, rfl, (St6.same s).keep (Keep.refl _ _) (St6.same s).P (by omega) (by omega), ht.same s, hx⟩
          refine ⟨_, rfl, rfl, _, rfl, ite2 (fun _ => ?_) (fun _ => ?_)⟩
          · refine ⟨_, rfl, by show 0 ≤ sizeLine; decide, fun u hu => ?_⟩
            have s7 := same_new (o := .lst []) hu
            refine ⟨.list (xs.map datPt), .list [], .lst (SqL.of (s7 _ _ St6.hl)) (dp_pts (St6.hx.same s7)), .lst (SqL.of upd_same) .nil, ptsL_shaped _, rfl, ?_⟩
            rw [eqv_nil]
            refine ⟨_, rfl, ite2 (fun q => ?_) (fun _ => ?_)⟩
            · have ne : xs ≠ [] := fun z => by
                rw [decide_eq_true z] at q
                cases q
              have l0 := List.length_pos_iff.mpr ne
              have St7 := St6.same s7
              refine ⟨_, rfl, _, rfl, p, l, pl, c6, rv ps, rfl, St7.P, by omega, St7.hl, by omega, by omega, fun j y H8 hy P8 k8 => ?_⟩
              obtain ⟨q2, x2', rfl, _, hx3, hq2⟩ := St7.hx.get hy
              exact ⟨q2, x2', c6 + 1, rfl, St7.keep (m := 124 + 200 * (i : Int)) k8 P8 (by omega) (by omega), k8.pt St7.P hq2, St6.pv x2' (List.mem_of_getElem? hx3)⟩
            · exact stay s7
          · exact iteF (stay (Same.refl _))
        rintro σ7 H7 ⟨t, x, c7, rfl, St7, ht, hx⟩
        have e7 := St7.c2
        -- a mixture of two
        refine ⟨fun σ' H' => ∃ t x c' M v9 v10 v11 v12, σ' = [some (.ref p), some (.ref pl), some (.int fg), some (.ref bs), some (.ref wy), some (.bl lb), some (.int (0 + (i : Int))), some (.int kd), some (.ref t), v9, v10, v11, v12, v13, v14] ∧ PtSt H p l pl bs wy (x1, x2) wv c c' M (40 + 30 * i + 23) (130 + 200 * (i : Int)) ps xs H' ∧ PtAt H' t x ∧ PV M x, ?_, ?_⟩
        · have stay : ∀ {H' : Hp}, Same H7 H' → ∃ t' x c' M' v9' v10' v11' v12', [some (V.ref p), some (.ref pl), some (.int fg), some (.ref bs), some (.ref wy), some (.bl lb), some (.int (0 + (i : Int))), some (.int kd), some (.ref t), v9, v10, v11, v12, v13, v14] = [some (V.ref p), some (.ref pl), some (.int fg), some (.ref bs), some (.ref wy), some (.bl lb), some (.int (0 + (i : Int))), some (.int kd), some (.ref t'), v9', v10', v11', v12', v13, v14] ∧ PtSt H p l pl bs wy (x1, x2) wv c c' M' (40 + 30 * i + 23) (130 + 200 * (i : Int)) ps xs H' ∧ PtAt H' t' x ∧ PV M' x := fun {H'} s => ⟨t, x, c7, M, v9, v10, v11, v12, rfl, ((St7.same s).keep (Keep.refl _ _) (St7.same s).P (by omega) (by omega)).up (Int.dvd_refl M) St7.M0 (St7.M1.mono (by omega)), ht.same s, hx⟩
          refine ⟨_, rfl, rfl, _, rfl, ite2 (fun _ => ?_) (fun _ => ?_)⟩
          · refine ⟨_, rfl, by show 0 ≤ sizeLine; decide, fun u hu => ?_⟩
            have s8 := same_new (o := .lst []) hu
            refine ⟨.list (xs.map datPt), .list [], .lst (SqL.of (s8 _ _ St7.hl)) (dp_pts (St7.hx.same s8)), .lst (SqL.of upd_same) .nil, ptsL_shaped _, rfl, ?_⟩
            rw [eqv_nil]
            refine ⟨_, rfl, ite2 (fun q => ?_) (fun _ => ?_)⟩
            · have ne : xs ≠ [] := fun z => by
                rw [decide_eq_true z] at q
                cases q
              have l0 := List.length_pos_iff.mpr ne
              have St8 := St7.same s8
              -- the two points, and by
              refine ⟨fun σ' H' => ∃ q1 q2 gq y1 y2 d c', σ' = [some (.ref p), some (.ref pl), some (.int fg), some (.ref bs), some (.ref wy), some (.bl lb), some (.int (0 + (i : Int))), some (.int kd), some (.ref t), some (.ref gq), some (.ref q1), some (.ref q2), v12, v13, v14] ∧ PtSt H p l pl bs wy (x1, x2) wv c c' M (40 + 30 * i + 21) (130 + 200 * (i : Int)) ps xs H' ∧ PtAt H' q1 y1 ∧ PtAt H' q2 y2 ∧ y1 ∈ xs ∧ y2 ∈ xs ∧ RatAt H' gq (lowI d 3) ∧ 0 ≤ d ∧ d ≤ 3, ?_, ?_⟩
              · refine ⟨_, rfl, _, rfl, p, l, pl, c7, rv ps, rfl, St8.P, by omega, St8.hl, by omega, by omega, fun j y H9 hy P9 k9 => ?_⟩
                obtain ⟨q1, y1, rfl, _, hy3, hq1⟩ := St8.hx.get hy
                have St9 := St8.keep (m := 125 + 200 * (i : Int)) k9 P9 (by omega) (by omega)
                have hq1' := k9.pt St8.P hq1
                refine ⟨_, rfl, _, rfl, p, l, pl, c7 + 1, rv ps, rfl, St9.P, by omega, St9.hl, by omega, by omega, fun j2 z H10 hz P10 k10 => ?_⟩
                obtain ⟨q2, y2, rfl, _, hz3, hq2⟩ := St9.hx.get hz
                have St10 := St9.keep (m := 126 + 200 * (i : Int)) k10 P10 (by omega) (by omega)
                have hq1'' := k10.pt St9.P hq1'
                have hq2' := k10.pt St9.P hq2
                refine ⟨_, rfl, p, l, c7 + 1 + 1, 4, rfl, St10.P, by omega, by decide, by decide, fun d H11 z0 z1 P11 k11 => ?_⟩
                have St11 := St10.keep (m := 130 + 200 * (i : Int)) k11 P11 (by omega) (by omega)
                have bd : Bd 3 d := by
                  unfold Bd
                  have : (2 : Nat) ^ 3 = 8 := by decide
                  omega
                refine ⟨d, 3, rfl, by decide, bd.big (by decide), by decide, fun gq H12 s12 hg => ⟨by show 3 ≤ sizeLine; decide, fun T hT => ?_⟩⟩
                have s13 := same_new (o := .tup [.ref q1, .ref q2, .ref gq]) hT
                have s1213 := s12.trans s13
                refine ⟨T, _, rfl, .inl (.inl upd_same), rfl, _, _, rfl, _, _, rfl, _, _, rfl, rfl, ?_⟩
                exact ⟨q1, q2, gq, y1, y2, d, _, rfl, St11.same s1213, (k11.pt St10.P hq1'').same s1213, (k11.pt St10.P hq2').same s1213, List.mem_of_getElem? hy3, List.mem_of_getElem? hz3, s13 _ _ hg, z0, by omega⟩
              rintro σ9 H9 ⟨q1, q2, gq, y1, y2, d, c9, rfl, St9, hq1, hq2, m1, m2, hg, d0, d3⟩
              have g0' : 0 < (lowI d 3).2 := (low_red (a := d) (b := 3) (by decide)).p
              have bd3 : Bd 3 d := by
                unfold Bd
                have : (2 : Nat) ^ 3 = 8 := by decide
                omega
              have gF : Fine 20 (lowI d 3) := (fine_low (n := 3) (by decide) bd3 (by unfold Bd; decide)).mono (by decide)
              have oF : Fine 20 (1, 1) := ⟨by decide, by unfold Bd; decide, by unfold Bd; decide⟩
              have rF : Fine 60 (minF (1, 1) (lowI d 3)) := (fine_min oF gF).mono (by decide)
              refine ⟨fun σ' H' => ∃ rq, σ' = [some (.ref p), some (.ref pl), some (.int fg), some (.ref bs), some (.ref wy), some (.bl lb), some (.int (0 + (i : Int))), some (.int kd), some (.ref t), some (.ref gq), some (.ref q1), some (.ref q2), some (.ref rq), v13, v14] ∧ Same H9 H' ∧ RatAt H' rq (minF (1, 1) (lowI d 3)), ?_, ?_⟩
              · refine ⟨le2, fun o ho => ?_⟩
                have s10 := same_new (o := .tup [.int 1, .int 1]) ho
                refine ⟨_, rfl, o, gq, (1, 1), _, rfl, upd_same, s10 _ _ hg, oF.mono (by decide), gF.mono (by decide), fun rq H11 s11 hrq => ⟨rq, rfl, s10.trans s11, hrq⟩⟩
              rintro σ10 H10 ⟨rq, rfl, s10, hrq⟩
              obtain ⟨y1a, y1b, h10, h11, h12⟩ := hq1.same s10
              obtain ⟨y2a, y2b, h20, h21, h22⟩ := hq2.same s10
              have p1 := St9.pv y1 m1
              have p2 := St9.pv y2 m2
              have k400 : 40 + 30 * i + 21 ≤ 450 := by omega
              have f1 := (p1.fine St9.M0 St9.M1 k400).1
              have f2 := (p2.fine St9.M0 St9.M1 k400).1
              have X1 := co_mix d0 d3 p1.red.a p2.red.a St9.M0 p1.d1 p2.d1 p1.b1 p2.b1
              have X2 := co_mix d0 d3 p1.red.b p2.red.b St9.M0 p1.d2 p2.d2 p1.b2 p2.b2
              refine ⟨_, rfl, _, rfl, false, false, q1, q2, rv [y1a, y1b], rv [y2a, y2b], rfl, .inl (.inl h10), .inl (.inl h20), fun Dn hDn => ?_⟩
              refine lc_zipB (K := K) (k := false) (l := false) (a := q1) (b := q2) (D := Dn) (xs := rv [y1a, y1b]) (ys := rv [y2a, y2b]) rfl (fun j H' => Same H10 H' ∧ ∃ us, H' Dn = some (.lst (rv us)) ∧ PairsAt H' us ([pluF (timF (lowI d 3) y1.1) (timF (minF (1, 1) (lowI d 3)) y2.1), pluF (timF (lowI d 3) y1.2) (timF (minF (1, 1) (lowI d 3)) y2.2)].take j)) ⟨same_new hDn, [], upd_same, pairs_nil⟩ (fun j H' ⟨z, _⟩ => ⟨.inl (.inl (z _ _ h10)), .inl (.inl (z _ _ h20))⟩) ?_ ?_
              · rintro j u v T H11 hu' hv' ⟨s11, us, hus, hU⟩ hT
                have s12 := same_new (o := .tup [u, v]) hT
                obtain ⟨ua, va, fa, fb, rfl, rfl, hua, hva, Fa, Fb, ee, lj⟩ : ∃ (ua va : Addr) (fa fb : Int × Int), u = .ref ua ∧ v = .ref va ∧ RatAt H10 ua fa ∧ RatAt H10 va fb ∧ Fine 600 fa ∧ Fine 600 fb ∧ [pluF (timF (lowI d 3) y1.1) (timF (minF (1, 1) (lowI d 3)) y2.1), pluF (timF (lowI d 3) y1.2) (timF (minF (1, 1) (lowI d 3)) y2.2)].take (j + 1) = [pluF (timF (lowI d 3) y1.1) (timF (minF (1, 1) (lowI d 3)) y2.1), pluF (timF (lowI d 3) y1.2) (timF (minF (1, 1) (lowI d 3)) y2.2)].take j ++ [pluF (timF (lowI d 3) fa) (timF (minF (1, 1) (lowI d 3)) fb)] ∧ j ≤ 1 := by
                  match j, hu', hv' with
                  | 0, hu', hv' =>
                    cases hu'
                    cases hv'
                    exact ⟨y1a, y2a, y1.1, y2.1, rfl, rfl, h11, h21, f1.1, f2.1, rfl, by decide⟩
                  | 1, hu', hv' =>
                    cases hu'
                    cases hv'
                    exact ⟨y1b, y2b, y1.2, y2.2, rfl, rfl, h12, h22, f1.2, f2.2, rfl, by decide⟩
                have sz := s11.trans s12
                refine ⟨T, _, rfl, .inl (.inl upd_same), rfl, _, _, rfl, _, _, rfl, rfl, rfl, yesT ?_⟩
                refine ⟨_, rfl, _, rfl, gq, ua, _, _, rfl, (s10.trans sz) _ _ hg, sz _ _ hua, gF.mono (by decide), Fa.mono (by decide), fun w1 H12 s13 hw1 => ?_⟩
                refine ⟨_, rfl, _, rfl, rq, va, _, _, rfl, (sz.trans s13) _ _ hrq, (sz.trans s13) _ _ hva, rF.mono (by decide), Fb.mono (by decide), fun w2 H13 s14 hw2 => ?_⟩
                refine ⟨w1, w2, _, _, rfl, s14 _ _ hw1, hw2, (fine_tim gF Fa).mono (by decide), (fine_tim rF Fb).mono (by decide), fun r H14 s15 hr' => ?_⟩
                rw [ee]
                exact grow hDn s11 hus hU (s12.trans (s13.trans (s14.trans s15))) hr' (by
                  have : [pluF (timF (lowI d 3) y1.1) (timF (minF (1, 1) (lowI d 3)) y2.1), pluF (timF (lowI d 3) y1.2) (timF (minF (1, 1) (lowI d 3)) y2.2)].length = 2 := rfl
                  rw [List.length_take]
                  omega)
              · rintro H11 ⟨s11, us, hus, hU⟩
                have lu : us.length = 2 := hU.1
                match us, lu, hus, hU with
                | [u, v], _, hus, hU =>
                  have ru := hU.2 0 u _ rfl rfl
                  have rv' := hU.2 1 v _ rfl rfl
                  refine ⟨Dn, _, rfl, .inl ⟨SqL.of hus, fun tt htt => ?_⟩⟩
                  have s12 := same_new (o := .tup (rv [u, v])) htt
                  have sA := s10.trans (s11.trans s12)
                  have dm : M ∣ 3 * M := ⟨3, Int.mul_comm _ _⟩
                  have b3 : Bd 2 3 := by unfold Bd; decide
                  exact ⟨tt, (pluF (timF (lowI d 3) y1.1) (timF (minF (1, 1) (lowI d 3)) y2.1), pluF (timF (lowI d 3) y1.2) (timF (minF (1, 1) (lowI d 3)) y2.2)), c9, 3 * M, _, _, _, _, rfl, (St9.same sA).up dm (by have := St9.M0; omega) ((b3.mulB St9.M1).mono (by omega)), ⟨u, v, upd_same, s12 _ _ ru, s12 _ _ rv'⟩, ⟨⟨X1.1, X2.1⟩, X1.2.1, X2.2.1, X1.2.2, X2.2.2⟩⟩
            · exact stay s8
          · exact iteF (stay (Same.refl _))
        rintro σ8 H8 ⟨t, x, c8, M, v9, v10, v11, v12, rfl, St8, ht, hx⟩
        have e8 := St8.c2
        have hl8 := St8.hl
        refine ⟨_, rfl, .inl ⟨rfl, _, SqL.of hl8⟩, _, rfl, pl, _, _, rfl, rfl, hl8, by rw [lps]; exact small1000 (by omega), M, c8, ps ++ [t], xs ++ [x], ⟨_, _, _, _, _, _, _, _, _, rfl⟩, ?_, by rw [List.length_append, lx]; rfl⟩
        have pts' := PtsAt.add (Same.refl _) St8.hx ht
        have pu : ∀ {q : Addr} {y : Po}, PtAt H8 q y → PtAt (upd H8 pl (.lst (rv ps ++ [V.ref t]))) q y := fun h => PtAt.upd hl8 h
        have nip : H pl = none := hpl
        refine ⟨fun b o nb hb => ?_, St8.P.set hl8 npl, St8.c1, by omega, ?_, ⟨pts'.1, fun j q y a b => pu (pts'.2 j q y a b)⟩, pu St8.hb, pu St8.hw, St8.M0, St8.M1.mono (by omega), fun y hy => ?_, St8.db1, St8.db2, St8.dw1, St8.dw2⟩
        · rw [upd_ne (ne_of_none hb nip)]
          exact St8.kp _ _ nb hb
        · rw [upd_same]
          unfold rv
          rw [List.map_append]
          rfl
        · rcases List.mem_append.mp hy with z | z
          · exact St8.pv y z
          · rw [List.mem_singleton.mp z]
            exact hx
      · rintro σ' H3 ⟨M, c3, ps, xs, hv, St3, lx⟩
        exact ⟨M, _, c3, _, ps, xs, hv, St3, by omega, by omega, by omega, by omega⟩
    rintro σ2 H2 ⟨M, k', c3, n, ps, xs, ⟨v6, v7, v8, v9, v10, v11, v12, v13, v14, rfl⟩, St, hk, hn, l0, l11⟩
    have := St.c2
    exact ⟨_, rfl, k pl ps xs M c3 H2 St.kp St.P St.c1 (by omega) St.hl St.hx ⟨St.M0, St.M1.mono hk, List.length_pos_iff.mp l0, l11, St.pv⟩ hpl⟩
end
end Fk

set_option Elab.async false
set_option maxRecDepth 100000
set_option maxHeartbeats 4000000
set_option exponentiation.threshold 20000
/-! Made and called within a try; the law's refusals. -/
namespace Fk
open PySem PySem.Spec L2 PyProof.Rows
section
variable {X : Cx} {CX : CXT} {k : Nat} {g C : Addr} {gd : FuncData} {ns : List Str} {pr : Sp} {E : L2.St → XK} {nm md : Str} {p1 pos p2 : Pos} {e ob : Expr} {es : List Expr} {to : TE} {ta : TA}
def tMkS (C : Addr) (pr : Sp) (E : L2.St → XK) (ta : TA) : TE := fun σ H Q => ta σ H fun vs H1 => ∀ z dz, H1 z = none → H1 dz = none → dz ≠ z → pr (.ref z :: vs) (upd (upd H1 dz (.own z)) z (.ins C dz [])) (fun v H2 => v = .non ∧ Q (.ref z) H2) (E σ)
theorem pe_mkS (M : Mk X.K C g) (G : FnOk X.prog X.w X.K X.mg X.base CX k g gd ns pr) (room : Room (k + 1) X.A) (gl : Gl X nm) (at_ : X.mg nm = some (.ref C)) (bd : Binds X.K gd ns []) (out : ∀ σ, PassesAt CX X σ (E σ)) (hta : PA X (e :: es) ta)
    (nd : (nm == ("__debug__" : Str)) = false := by decide) (st : starEach (e :: es) X.env = (false, eval e X.env) :: starEach es X.env := by rfl) (pl : (backTo pos (starEach es X.env)).any (·.1) = false := by rfl) : PE X (.Call (.Name nm p1) (e :: es) [] pos) (tMkS C pr E ta) := by
  refine ⟨fun pins s0 σ H Q I0 h0 => wpAny_Call_Name_kw (ld_glob I0 gl at_ ?_ nd)⟩
  refine PySem.W.callWith_K (h₀ := X.base) I0.ok.mod.kin M.kp (thn (hta.run pos pins s0 σ H _ I0 h0) fun us s ⟨vs, H1, I, r, h⟩ => ⟨I.kIn, ?_⟩) st pl
  have hp := h (s.heap.objs.size + 1) s.heap.objs.size (I.hok.fresh (Nat.le_succ _)) (I.hok.fresh (Nat.le_refl _)) (Nat.ne_of_lt (Nat.lt_succ_self _))
  have J := Inv.made (C := C) I
  have two : Vals (V.ref (s.heap.objs.size + 1) :: vs) (Value.ref (s.heap.objs.size + 1) :: us) := .cons rfl r
  have ln : (Value.ref (s.heap.objs.size + 1) :: us).length = ns.length := by rw [← two.length]; exact G.len _ _ _ _ hp
  refine wpAny_call (make_map (f := g) I.kIn M.makes M.init (beq_iff_eq.mp M.fn) (codeAny_mono (G.run _ X.stack _ _ ⟨Value.ref (s.heap.objs.size + 1) :: us, []⟩ (Value.ref (s.heap.objs.size + 1) :: us) _ _ (E σ) (room.make C us []) (J.env0.make C us []) (by
    have z := bd _ (Value.ref (s.heap.objs.size + 1) :: us) J.kIn (by rw [List.append_nil]; exact ln)
    rw [List.append_nil] at z
    exact z) two hp) fun r' s' hq => ?_))
  cases r' with
  | error e => exact out σ pins _ _ e s' J hq
  | ok fl =>
    cases fl with
    | ret u =>
      obtain ⟨v, H', J', rv, ev, q⟩ := J.after hq
      subst ev
      exact ⟨rv, ⟨V.ref (s.heap.objs.size + 1), H', J', rfl, q⟩⟩
    | next => exact hq.elim
    | brk => exact hq.elim
    | cont => exact hq.elim
def tMdS (C : Addr) (md : Str) (pr : Sp) (E : L2.St → XK) (to : TE) (ta : TA) : TE := fun σ H Q => to σ H fun x H1 => ∃ a dx fs, x = .ref a ∧ H1 a = some (.ins C dx fs) ∧ fs.lookup md = none ∧ ta σ H1 fun vs H2 => pr (.ref a :: vs) H2 Q (E σ)
theorem pe_mdS {q : Sem Bool} (hto : PE X ob to) (cl : Cls X.K C) (hm : Meth X.K C md g) (G : FnOk X.prog X.w X.K X.mg X.base CX k g gd ns pr) (room : Room k X.A) (bd : Binds X.K gd ns []) (out : ∀ σ, PassesAt CX X σ (E σ)) (hta : PA X (e :: es) ta)
    (st : starEach (e :: es) X.env = (false, eval e X.env) :: starEach es X.env := by rfl) (pl : (backTo pos (starEach es X.env)).any (·.1) = false := by rfl)
    (ht : eval (.Call (.Attribute ob md p2) (e :: es) [] pos) X.env = (do
      let ov ← eval ob X.env
      standAt p2.atName
      let (f, first) ← holding [ov] (getMethod ov md q)
      callWith pos f first (backTo pos (starEach (e :: es) X.env)) (backToKw pos (keywordEach [] X.env))) := by rfl) : PE X (.Call (.Attribute ob md p2) (e :: es) [] pos) (tMdS C md pr E to ta) := by
  refine ⟨fun pins s0 σ H Q I0 h0 => PySem.W.methodCall_KW (pl := q) (thn (hto.run pins s0 σ H _ I0 h0) fun u s1 ⟨x, H1, I1, rx, a, dx, fs, ex, ea, lk, h1⟩ => ?_) ht⟩
  subst ex
  obtain rfl : u = Value.ref a := rx
  refine getmeth_ok I1 ea cl hm lk (PySem.W.callWith_K (first := [.ref a]) (h₀ := X.base) I1.ok.mod.kin hm.kp (thn (hta.run pos pins s1 σ H1 _ I1 h1) fun us s2 ⟨vs, H2, I2, r, h2⟩ => ⟨I2.kIn, ?_⟩) st pl)
  exact run_fnS (us := .ref a :: us) (vs := .ref a :: vs) G room bd (out σ) I2 (.cons rfl r) h2
end
def rRepr (K : PySem.W.Frag) : List V → Hp → VK → Prop := fun xs H Q => ∃ (v : V) (d : PyData), xs = [v] ∧ Dp K H v d ∧ d.showable = true ∧ d.hasDict = false ∧ d.depth ≤ 10 ∧ d.shown.length ≤ sizeLine ∧ Q (.str d.shown) H
theorem call_reprVK {X : Cx} {K : PySem.W.Frag} (hK : X.K = K) (hg : X.A.guards = some []) (hu : X.A.units + 64 < cLine) : CallR X (.builtin "repr") (rRepr K) := hK ▸ call_reprV hg hu
abbrev sRefused : Stmt := top 59
abbrev psRefused : List Str := ["_law_kind", "_law_zone", "_law_value"]
theorem look_nw (wh : Str) (v : V) : (numW wh v).lookup ("what" : Str) = some (V.str wh) := by
  unfold numW
  rw [List.lookup_cons, show (("what" : Str) == "number") = false by decide +kernel, List.lookup_cons, show (("what" : Str) == "what") = true by decide +kernel]
theorem look_nn (wh : Str) (v : V) : (numW wh v).lookup ("number" : Str) = some v := by
  unfold numW
  rw [List.lookup_cons, show (("number" : Str) == "number") = true by decide +kernel]
structure Kin (K : PySem.W.Frag) (mg : Str → Option Value) (CN : Addr) : Prop where
  gr : mg "repr" = none
  eN : ExcC K CN
  xN : XfC K CN
  nw : PySem.W.findIn K (.ref CN) "what" = some none
  nn : PySem.W.findIn K (.ref CN) "number" = some none
  mNN : PySem.W.exmOne K (.ref CN) (.ref CN) = some true
/-- data that can be shown -/
def Shows (K : PySem.W.Frag) (H : Hp) (v : V) (d : PyData) : Prop := (∀ H', Same H H' → Dp K H' v d) ∧ d.showable = true ∧ d.hasDict = false ∧ d.depth ≤ 10 ∧ d.shown.length ≤ sizeLine
theorem BadPts.same {K : PySem.W.Frag} {H H' : Hp} {v : V} (h : BadPts K H v) (s : Same H H') : BadPts K H' v := by
  cases h with
  | other t n => exact .other (TyX.same t s) n
  | none h t =>
    obtain ⟨ty, t1, t2⟩ := t
    exact .none (h.same s) ⟨ty, TyX.same t1 s, t2⟩
  | some h t hn l lb hb f =>
    obtain ⟨ty, t1, t2⟩ := t
    exact .some (h.same s) ⟨ty, TyX.same t1 s, t2⟩ hn l lb (fun i v b a c => (hb i v b a c).same s) f
/-- a value that is refused, by the kind of the call -/
def Wrong (K : PySem.W.Frag) (H : Hp) (kd : Int) (wh : Str) (v : V) : Prop := (kd = 0 ∧ wh = "points" ∧ BadPts K H v) ∨ (kd = 1 ∧ wh = "direction" ∧ (ValP K H v false ∨ LowP H v zeroP)) ∨ (kd = 2 ∧ wh = "grown" ∧ (Val K H v false ∨ ∃ x : Int × Int, Low H v x.1 x.2 ∧ x.1 < 0))
def spLRef (K : PySem.W.Frag) (C : Addr) : Sp := fun vs H Q _ => ∃ (kd : Int) (z : Addr) (cs : List Po) (v : V) (wh : Str) (d : PyData), vs = [.int kd, .ref z, v] ∧ ZnAt C H z cs ∧ CsOk cs ∧ Wrong K H kd wh v ∧ Shows K H v d ∧ ∀ p H', Same H H' → H' p = some (.tup [.str wh, .str d.shown]) → Q (.ref p) H'
section
variable {P : Program} {w : World} {K : PySem.W.Frag} {mg : Str → Option Value} {base : Heap}
theorem scRefused : FnScope ["_law_kind", "_law_zone", "_law_value", "e"] psRefused (defScope sRefused) := ⟨rfl, rfl, rfl, by decide +kernel, rfl, by decide +kernel, by decide +kernel⟩
theorem ok_lref {f C CN gN fZ fL fG : Addr} {fd dN dZ dL dG : FuncData} (F : Fun K "_law_refused" "_law_refused" sRefused f fd) (T : Kin K mg CN) (EN : Err P w K mg base "BadNumber" numFs CN gN dN) (V : VCls K C znK)
    (ZM : Mk K C fZ) (ZG : FnOk P w K mg base (L2.CX P w) 4 fZ dZ psZI (spZInit K C CN)) (Zg : mg "Zone" = some (.ref C)) (Zb : Binds K dZ psZI [])
    (Lm : Meth K C "lowest" fL) (LG : FnOk P w K mg base (L2.CX P w) 5 fL dL psZL (spZLow K C CN)) (Lb : Binds K dL psZL []) (Gm : Meth K C "grown" fG) (GG : FnOk P w K mg base (L2.CX P w) 6 fG dG psZG (spZGr K C CN)) (Gb : Binds K dG psZG []) : FnG P w K mg base 7 f fd psRefused (spLRef K C) := by
  refine fun_okG F scRefused (fun vs H Q E h => ?_) (fun cdv A outer s H vs Q E hG hr h => ?_)
  · obtain ⟨kd, z, cs, v, wh, d, rfl, _⟩ := h
    rfl
  · obtain ⟨kd, z, cs, v, wh, d, rfl, hz, ok, hw, ⟨s1, s2, s3, s4, s5⟩, k⟩ := h
    have hr5 := hr.mono (show 5 ≤ 6 by decide)
    refine ⟨_, pss_cons (ps_try_each rfl rfl scRefused.nd takes0
        (fun W pn xe tk _ => pss_one (ps_if (pt_cmpR op_eq (pv 0) pe_int (nomark _)) (pss_one (ps_expr (pe_mkS ZM ZG hr5 (by rfl) Zg Zb (passAt tk) (pa_cons (pv 2) pa_nil))))
          (pss_one (ps_if (pt_cmpR op_eq (pv 0) pe_int (nomark _)) (pss_one (ps_expr (pe_mdS (pv 1) V.cl Lm LG hr5 Lb (passAt tk) (pa_cons (pv 2) pa_nil)))) (pss_one (ps_expr (pe_mdS (pv 1) V.cl Gm GG hr Gb (passAt tk) (pa_cons (pv 2) pa_nil))))))))
        (Clauses.cons (i := 3) ⟨by rfl, by decide +kernel, Or.inl EN.g⟩ rfl rfl (fun a oe cls d pn hz hf =>
            pss_one (ps_ret (pe_tup (pa_cons (pe_xf T.xN T.nw hz hf (pv 3)) (pa_cons (pe_callB (call_reprVK (K := K) rfl hG hr.units) (by rfl) T.gr (by decide +kernel) (pa_cons (pe_xf T.xN T.nn hz hf (pv 3)) pa_nil)) pa_nil))))) Clauses.nil))
      (pss_one (ps_ret pe_non)), ?_⟩
    obtain ⟨dx, r, qs, h1, h2, h3⟩ := id hz
    rcases hw with ⟨rfl, rfl, hb⟩ | ⟨rfl, rfl, hb⟩ | ⟨rfl, rfl, hb⟩
    · refine ⟨_, rfl, rfl, _, rfl, iteT ⟨_, rfl, fun zz dz hzz hdz nz => ?_⟩⟩
      have sz : Same H (upd (upd H dz (.own zz)) zz (.ins C dz [])) := fun b o hb' => by
        rw [upd_ne (ne_of_none hb' hzz), upd_ne (ne_of_none hb' hdz)]
        exact hb'
      refine ⟨zz, dz, v, rfl, upd_same, .inr ⟨hb.same sz, fun dd H' hd hs he => ?_⟩⟩
      refine ⟨true, T.mNN, fun _ a ha => ?_, (fun q => nomatch q)⟩
      have hs' := sz.trans hs
      exact ⟨_, rfl, rfl, rfl, dd, _, _, rfl, he, look_nw _ _, _, rfl, rfl, rfl, dd, _, _, rfl, he, look_nn _ _, v, d, rfl, s1 _ hs', s2, s3, s4, s5, by show 2 ≤ sizeLine; decide, fun p hp => k p _ (hs'.trans (same_new hp)) upd_same⟩
    · refine ⟨_, rfl, rfl, _, rfl, iteF ⟨_, rfl, rfl, _, rfl, iteT ⟨_, rfl, z, dx, _, rfl, h1, rfl, _, rfl, ?_⟩⟩⟩
      match cs, ok, hz with
      | x :: xs, ok, hz =>
      refine ⟨z, x, xs, v, rfl, hz, ok, .inr ⟨hb, fun dd H' hd hs he => ?_⟩⟩
      refine ⟨true, T.mNN, fun _ a ha => ?_, (fun q => nomatch q)⟩
      exact ⟨_, rfl, rfl, rfl, dd, _, _, rfl, he, look_nw _ _, _, rfl, rfl, rfl, dd, _, _, rfl, he, look_nn _ _, v, d, rfl, s1 _ hs, s2, s3, s4, s5, by show 2 ≤ sizeLine; decide, fun p hp => k p _ (hs.trans (same_new hp)) upd_same⟩
    · refine ⟨_, rfl, rfl, _, rfl, iteF ⟨_, rfl, rfl, _, rfl, iteF ⟨_, rfl, z, dx, _, rfl, h1, rfl, _, rfl, ?_⟩⟩⟩
      refine ⟨z, cs, v, rfl, hz, ok, .inr ⟨hb, fun dd H' hd hs he => ?_⟩⟩
      refine ⟨true, T.mNN, fun _ a ha => ?_, (fun q => nomatch q)⟩
      exact ⟨_, rfl, rfl, rfl, dd, _, _, rfl, he, look_nw _ _, _, rfl, rfl, rfl, dd, _, _, rfl, he, look_nn _ _, v, d, rfl, s1 _ hs, s2, s3, s4, s5, by show 2 ≤ sizeLine; decide, fun p hp => k p _ (hs.trans (same_new hp)) upd_same⟩
end
end Fk

set_option Elab.async false
set_option maxRecDepth 100000
set_option maxHeartbeats 4000000
set_option exponentiation.threshold 20000
/-! Mixtures of points, and points beyond: mathematics. -/
namespace Fk
open PySem L2
theorem wor_q {c x : Po} (hc : 0 < c.1.2 ∧ 0 < c.2.2) (hx : 0 < x.1.2 ∧ 0 < x.2.2) : qv (wor c x) = Hu.dot (qP c) (qP x) := by
  unfold wor Hu.dot qP
  rw [qv_plu (tim_red hc.1 hx.1).p (tim_red hc.2 hx.2).p, qv_tim hc.1 hx.1, qv_tim hc.2 hx.2]
theorem qP_trn {x : Po} : qP (trnF x) = ((qP x).2, -(qP x).1) := by
  unfold trnF ngI qP qv
  dsimp only
  rw [Rat.intCast_neg]
  refine Prod.ext rfl ?_
  dsimp only
  grind
theorem qP_opp {x : Po} : qP (oppF x) = Hu.opp (qP x) := by
  unfold oppF ngI qP qv Hu.opp
  dsimp only
  rw [Rat.intCast_neg, Rat.intCast_neg]
  refine Prod.ext ?_ ?_ <;> dsimp only <;> grind
theorem qP_way {x y : Po} (hx : 0 < x.1.2 ∧ 0 < x.2.2) (hy : 0 < y.1.2 ∧ 0 < y.2.2) : qP (wayF x y) = Hu.wayq (qP x) (qP y) := by
  unfold wayF qP Hu.wayq
  dsimp only
  rw [qv_min hy.1 hx.1, qv_min hy.2 hx.2]
theorem qP_nrm {x y : Po} (hx : 0 < x.1.2 ∧ 0 < x.2.2) (hy : 0 < y.1.2 ∧ 0 < y.2.2) : qP (trnF (wayF x y)) = Hu.nrm (qP x) (qP y) := by
  rw [qP_trn, qP_way hx hy]
  rfl
theorem qN_map {cs : List Po} {k : Nat} (hk : k < cs.length) : Hu.qN (cs.map qP) k = qP (ptN cs k) := Hu.qN_at (map_at (ptN_at hk))
theorem norms_q {cs : List Po} (ne : cs ≠ []) (h : ∀ x ∈ cs, 0 < x.1.2 ∧ 0 < x.2.2) : (normsF cs).map qP = Hu.normsQ (cs.map qP) := by
  have l0 := List.length_pos_iff.mpr ne
  have ps : ∀ {k : Nat}, k < cs.length → 0 < (ptN cs k).1.2 ∧ 0 < (ptN cs k).2.2 := fun {k} hk => h _ (List.mem_of_getElem? (ptN_at hk))
  unfold normsF Hu.normsQ
  rw [List.length_map]
  split
  · show [qP ((1, 1), (0, 1)), qP ((0, 1), (1, 1)), qP ((-1, 1), (0, 1)), qP ((0, 1), (-1, 1))] = Hu.axesQ
    have a1 : qv (1, 1) = 1 := by rw [qv_one]; rfl
    have a0 : qv (0, 1) = 0 := qv_zero
    have am : qv (-1, 1) = -1 := by rw [qv_one]; rfl
    unfold qP Hu.axesQ
    dsimp only
    rw [a1, a0, am]
  · split
    · rename_i h2
      have p0 := ps (k := 0) (by omega)
      have p1 := ps (k := 1) (by omega)
      rw [qN_map (by omega), qN_map (by omega)]
      show [_, _, _, _] = _
      rw [qP_nrm p0 p1, qP_way p0 p1, qP_opp, qP_opp, qP_nrm p0 p1, qP_way p0 p1]
    · rw [List.map_map]
      refine List.map_congr_left fun k hk => ?_
      have hk' := List.mem_range.mp hk
      have hm : (k + 1) % cs.length < cs.length := Nat.mod_lt _ l0
      rw [qN_map hk', qN_map hm]
      exact qP_nrm (ps hk') (ps hm)
theorem norms_pos {cs : List Po} (ne : cs ≠ []) (h : ∀ x ∈ cs, FineP 1000 x) : ∀ n ∈ normsF cs, 0 < n.1.2 ∧ 0 < n.2.2 := fun n hn => ⟨(norms_fine ne h n hn).1.1, (norms_fine ne h n hn).2.1⟩
theorem inB_iff {cs : List Po} {y : Po} (ne : cs ≠ []) (h : ∀ x ∈ cs, FineP 1000 x) (hy : 0 < y.1.2 ∧ 0 < y.2.2) : inB cs y = true ↔ ∀ m ∈ Hu.normsQ (cs.map qP), ∃ v ∈ cs.map qP, Hu.dot m (qP y) ≤ Hu.dot m v := by
  have hp : ∀ x ∈ cs, 0 < x.1.2 ∧ 0 < x.2.2 := fun x hx => ⟨(h x hx).1.1, (h x hx).2.1⟩
  have np := norms_pos ne h
  rw [← norms_q ne hp]
  unfold inB
  rw [Bool.not_eq_true', List.any_eq_false]
  have key : ∀ n ∈ normsF cs, ∀ x ∈ cs, wlt n x y = true ↔ Hu.dot (qP n) (qP x) < Hu.dot (qP n) (qP y) := fun n hn x hx => by
    unfold wlt
    rw [decide_eq_true_iff, wor_q (np n hn) (hp x hx), wor_q (np n hn) hy]
  constructor
  · intro g m hm
    obtain ⟨n, hn, rfl⟩ := List.mem_map.mp hm
    have z := g n hn
    rw [List.all_eq_true] at z
    by_cases q : ∃ x ∈ cs, ¬ wlt n x y = true
    · obtain ⟨x, hx, nx⟩ := q
      refine ⟨qP x, List.mem_map.mpr ⟨x, hx, rfl⟩, ?_⟩
      rw [key n hn x hx] at nx
      grind
    · exact (z fun x hx => by
        by_cases w : wlt n x y = true
        · exact w
        · exact absurd ⟨x, hx, w⟩ q).elim
  · intro g n hn z
    rw [List.all_eq_true] at z
    obtain ⟨v, hv, le⟩ := g (qP n) (List.mem_map.mpr ⟨n, hn, rfl⟩)
    obtain ⟨x, hx, rfl⟩ := List.mem_map.mp hv
    have := (key n hn x hx).mp (z x hx)
    grind
/-! ### sums -/
theorem rs_first (n : Nat) (f : Nat → Rat) : rs (n + 1) f = f 0 + rs n fun i => f (i + 1) := by
  induction n with
  | zero =>
    show rs 0 f + f 0 = f 0 + rs 0 _
    show (0 : Rat) + f 0 = f 0 + 0
    grind
  | succ n ih =>
    show rs (n + 1) f + f (n + 1) = f 0 + (rs n (fun i => f (i + 1)) + f (n + 1))
    rw [ih]
    grind
theorem rs_list {α : Type} (F : α → Rat) (d : α) : ∀ zs : List α, rs zs.length (fun i => F (zs.getD i d)) = (zs.map F).sum
  | [] => rfl
  | z :: zs => by
    rw [List.length_cons, rs_first, List.map_cons, List.sum_cons, ← rs_list F d zs]
    rfl
theorem sum_div {S : Int} (S0 : 0 < S) : ∀ ds : List Int, (ds.map fun d => qv (lowI d S)).sum = (ds.sum : Rat) / (S : Rat)
  | [] => by
    show (0 : Rat) = ((0 : Int) : Rat) / _
    rw [show ((0 : Int) : Rat) = 0 from rfl]
    grind
  | d :: ds => by
    rw [List.map_cons, List.sum_cons, sum_div S0 ds, List.sum_cons, qv_low S0, Rat.intCast_add]
    have := cast_ne S0
    grind
end Fk

set_option Elab.async false
set_option maxRecDepth 100000
set_option maxHeartbeats 4000000
set_option exponentiation.threshold 20000
/-! What a drawn mixture is. -/
namespace Fk
open PySem L2
theorem rs_int {n : Nat} {f : Nat → Rat} {K : Rat} (h : ∀ i, i < n → ∃ N : Int, f i * K = (N : Rat)) : ∃ N : Int, rs n f * K = (N : Rat) := by
  induction n with
  | zero =>
    refine ⟨0, ?_⟩
    show (0 : Rat) * K = ((0 : Int) : Rat)
    rw [show ((0 : Int) : Rat) = 0 from rfl]
    grind
  | succ n ih =>
    obtain ⟨a, ha⟩ := ih fun i hi => h i (by omega)
    obtain ⟨b, hb⟩ := h n (by omega)
    refine ⟨a + b, ?_⟩
    show (rs n f + f n) * K = _
    rw [Rat.intCast_add, ← ha, ← hb]
    grind
section
variable {M : Int} {pts : List Po} {ds : List Int} {ss : List (Int × Int)}
def mixP (ss : List (Int × Int)) (pts : List Po) : Po := (dotT ss (fs1 pts) pts.length, dotT ss (fs2 pts) pts.length)
theorem MixOk.at_ (m : MixOk pts.length ds ss) {i : Nat} (hi : i < pts.length) : ∃ d, d ∈ ds ∧ 0 ≤ d ∧ d ≤ 30 ∧ gp ss i = lowI d ds.sum ∧ 0 < (gp ss i).2 ∧ qv (gp ss i) * (ds.sum : Rat) = (d : Rat) := by
  have hl : i < ds.length := by rw [m.ln]; exact hi
  have e : ds[i]? = some ds[i] := List.getElem?_eq_getElem hl
  have hm := List.getElem_mem hl
  have g : gp ss i = lowI ds[i] ds.sum := by
    rw [m.e]
    exact gp_map e
  refine ⟨ds[i], hm, (m.nn _ hm).1, (m.nn _ hm).2, g, by rw [g]; exact (low_red m.pos).p, ?_⟩
  rw [g, qv_low m.pos]
  have := cast_ne m.pos
  grind
theorem MixOk.one (m : MixOk pts.length ds ss) : rs pts.length (fun i => qv (gp ss i)) = 1 := by
  have e : rs pts.length (fun i => qv (gp ss i)) = rs ds.length (fun i => qv (lowI (ds.getD i 0) ds.sum)) := by
    rw [m.ln]
    refine rs_congr fun i hi => ?_
    have hl : i < ds.length := by rw [m.ln]; exact hi
    have e : ds[i]? = some ds[i] := List.getElem?_eq_getElem hl
    have g : gp ss i = lowI ds[i] ds.sum := by
      rw [m.e]
      exact gp_map e
    rw [g, List.getD_eq_getElem?_getD, e]
    rfl
  rw [e, rs_list (fun d => qv (lowI d ds.sum)) 0 ds, sum_div m.pos]
  have := cast_ne m.pos
  grind
theorem MixOk.nonneg (m : MixOk pts.length ds ss) {i : Nat} (hi : i < pts.length) : 0 ≤ qv (gp ss i) := by
  obtain ⟨d, _, d0, _, _, _, e⟩ := m.at_ hi
  have s := cast_pos m.pos
  have q0 : (0 : Rat) ≤ (d : Rat) := by exact_mod_cast d0
  by_cases q : 0 ≤ qv (gp ss i)
  · exact q
  · exfalso
    have := Hu.mulq_pp (by grind : 0 < -qv (gp ss i)) s
    grind
/-- a weighted mean is not above all -/
theorem MixOk.le (m : MixOk pts.length ds ss) {g : Po → Rat} {B : Rat} (h : ∀ p ∈ pts, g p ≤ B) : rs pts.length (fun i => qv (gp ss i) * g (ptN pts i)) ≤ B := by
  have z := rs_nonneg (n := pts.length) (f := fun i => qv (gp ss i) * B + (-1) * (qv (gp ss i) * g (ptN pts i))) fun i hi => by
    have a := h _ (List.mem_of_getElem? (ptN_at hi))
    have := Hu.mulq_nn (m.nonneg hi) (by grind : 0 ≤ B - g (ptN pts i))
    grind
  rw [rs_add, rs_mul] at z
  have e : rs pts.length (fun i => qv (gp ss i) * B) = B := by
    have : rs pts.length (fun i => qv (gp ss i) * B) = rs pts.length (fun i => B * qv (gp ss i)) := rs_congr fun i _ => Rat.mul_comm _ _
    rw [this, rs_mul, m.one]
    grind
  rw [e] at z
  grind
theorem MixOk.ge (m : MixOk pts.length ds ss) {g : Po → Rat} {B : Rat} (h : ∀ p ∈ pts, B ≤ g p) : B ≤ rs pts.length (fun i => qv (gp ss i) * g (ptN pts i)) := by
  have z := m.le (g := fun p => -g p) (B := -B) fun p hp => by
    have := h p hp
    grind
  have e : rs pts.length (fun i => qv (gp ss i) * -g (ptN pts i)) = -1 * rs pts.length (fun i => qv (gp ss i) * g (ptN pts i)) := by
    rw [← rs_mul]
    exact rs_congr fun i _ => by grind
  rw [e] at z
  grind
theorem fs_at {f : Po → Int × Int} {i : Nat} (hi : i < pts.length) : gp (pts.map f) i = f (ptN pts i) := gp_map (ptN_at hi)
theorem mix_co {f : Po → Int × Int} (V : PtsV M pts) (m : MixOk pts.length ds ss) (r : ∀ p ∈ pts, Red (f p)) (d : ∀ p ∈ pts, (f p).2 ∣ M) (b : ∀ p ∈ pts, Lo Bq (qv (f p))) :
    DotOk ss (pts.map f) pts.length ∧ qv (dotT ss (pts.map f) pts.length) = rs pts.length (fun i => qv (gp ss i) * qv (f (ptN pts i))) ∧ Red (dotT ss (pts.map f) pts.length) ∧ (dotT ss (pts.map f) pts.length).2 ∣ ds.sum * M ∧ Lo Bq (qv (dotT ss (pts.map f) pts.length)) := by
  have mem : ∀ {i : Nat}, i < pts.length → ptN pts i ∈ pts := fun {i} hi => List.mem_of_getElem? (ptN_at hi)
  have pos : ∀ i, i < pts.length → 0 < (gp ss i).2 ∧ 0 < (gp (pts.map f) i).2 := fun i hi => by
    obtain ⟨d, _, _, _, _, p, _⟩ := m.at_ hi
    rw [fs_at hi]
    exact ⟨p, (r _ (mem hi)).p⟩
  have hs := sum_bd m.nn
  have ln := m.ln
  have l11 := V.ln
  have bs : Bd 20 ds.sum := by
    unfold Bd
    have : (2 : Nat) ^ 20 = 1048576 := by decide
    have := m.pos
    omega
  have SM : 0 < ds.sum * M := Int.mul_pos m.pos V.M0
  have eq : qv (dotT ss (pts.map f) pts.length) = rs pts.length (fun i => qv (gp ss i) * qv (f (ptN pts i))) := by
    rw [dot_qv pos]
    exact rs_congr fun i hi => by rw [fs_at hi]
  have rd := dot_red pos
  have each : ∀ i, i < pts.length → ∃ d N : Int, 0 ≤ d ∧ d ≤ 30 ∧ Bd 905 N ∧ qv (gp ss i) * qv (f (ptN pts i)) * ((ds.sum * M : Int) : Rat) = ((d * N : Int) : Rat) := fun i hi => by
    obtain ⟨d', _, d0, d3, _, _, e⟩ := m.at_ hi
    have hm := mem hi
    obtain ⟨u, hu⟩ := d _ hm
    have x0 := (r _ hm).p
    have c1 := dvd_bd V.M0 (d _ hm) x0 V.M1
    have t1 := bd_of_lo x0 c1 (b _ hm)
    have u0 : u ∣ M := ⟨(f (ptN pts i)).2, by rw [hu]; exact Int.mul_comm _ _⟩
    have up : 0 < u := by
      by_cases q : 0 < u
      · exact q
      · exfalso
        have := V.M0
        have z := Int.mul_nonneg (Int.le_of_lt x0) (show 0 ≤ -u by omega)
        rw [Int.mul_neg] at z
        omega
    have bu := dvd_bd V.M0 u0 up V.M1
    refine ⟨d', (f (ptN pts i)).1 * u, d0, d3, (t1.mulB bu).mono (by decide), ?_⟩
    have e2 := qv_mul x0
    rw [Rat.intCast_mul, Rat.intCast_mul, Rat.intCast_mul, ← e, ← e2]
    have e3 : (M : Rat) = ((f (ptN pts i)).2 : Rat) * (u : Rat) := by rw [hu, Rat.intCast_mul]
    rw [e3]
    grind
  have ex : ∀ i, ∃ N : Int, i < pts.length → Bd 910 N ∧ qv (gp ss i) * qv (f (ptN pts i)) * ((ds.sum * M : Int) : Rat) = (N : Rat) := fun i => by
    by_cases hi : i < pts.length
    · obtain ⟨d', N, d0, d3, bN, e⟩ := each i hi
      have bd : Bd 5 d' := by
        unfold Bd
        have : (2 : Nat) ^ 5 = 32 := by decide
        omega
      exact ⟨d' * N, fun _ => ⟨(bd.mulB bN).mono (by decide), e⟩⟩
    · exact ⟨0, fun h => absurd h hi⟩
  obtain ⟨P, hP⟩ : ∃ P : Nat → Int, ∀ i, i < pts.length → Bd 910 (P i) ∧ qv (gp ss i) * qv (f (ptN pts i)) * ((ds.sum * M : Int) : Rat) = (P i : Rat) := ⟨fun i => Classical.choose (ex i), fun i => Classical.choose_spec (ex i)⟩
  refine ⟨?_, eq, rd, ?_, ?_⟩
  · refine dot_ok (M := ds.sum * M) (μ := 420) (γ := 1) (α := 910) (c := fun _ => 1) (P := P) (fun i hi => ?_) (fun i hi => ?_) SM ((bs.mulB V.M1).mono (by decide)) (fun i hi => ⟨by decide, one_bd⟩) (fun i hi => (hP i hi).1) (fun i hi => ?_) (by omega) (by omega)
    · obtain ⟨d', _, d0, d3, g, p, _⟩ := m.at_ hi
      rw [g]
      refine fine_low m.pos ?_ (bs.mono (by decide))
      have bd : Bd 20 d' := by
        unfold Bd
        have : (2 : Nat) ^ 20 = 1048576 := by decide
        omega
      exact bd.mono (by decide)
    · rw [fs_at hi]
      have hm := mem hi
      have x0 := (r _ hm).p
      have c1 := dvd_bd V.M0 (d _ hm) x0 V.M1
      exact ⟨x0, (bd_of_lo x0 c1 (b _ hm)).mono (by decide), c1.mono (by decide)⟩
    · rw [fs_at hi, Int.mul_one]
      exact (hP i hi).2
  · obtain ⟨N, hN⟩ := rs_int (n := pts.length) (f := fun i => qv (gp ss i) * qv (f (ptN pts i))) (K := ((ds.sum * M : Int) : Rat)) fun i hi => by
      obtain ⟨d', N, _, _, _, e⟩ := each i hi
      exact ⟨d' * N, e⟩
    exact dvd_of_whole rd SM (by rw [eq]; exact hN)
  · rw [eq]
    exact ⟨m.ge (g := fun p => qv (f p)) fun p hp => (b p hp).1, m.le (g := fun p => qv (f p)) fun p hp => (b p hp).2⟩
theorem mix_pv (V : PtsV M pts) (m : MixOk pts.length ds ss) : DotOk ss (fs1 pts) pts.length ∧ DotOk ss (fs2 pts) pts.length ∧ PV (ds.sum * M) (mixP ss pts) ∧ 0 < ds.sum * M ∧ Bd 420 (ds.sum * M) ∧ ∀ c B, (∀ p ∈ pts, Hu.dot c (qP p) ≤ B) → Hu.dot c (qP (mixP ss pts)) ≤ B := by
  obtain ⟨a1, a2, a3, a4, a5⟩ := mix_co (f := Prod.fst) V m (fun p hp => (V.pv p hp).red.a) (fun p hp => (V.pv p hp).d1) fun p hp => (V.pv p hp).b1
  obtain ⟨b1, b2, b3, b4, b5⟩ := mix_co (f := Prod.snd) V m (fun p hp => (V.pv p hp).red.b) (fun p hp => (V.pv p hp).d2) fun p hp => (V.pv p hp).b2
  have hs := sum_bd m.nn
  have ln := m.ln
  have l11 := V.ln
  have bs : Bd 20 ds.sum := by
    unfold Bd
    have : (2 : Nat) ^ 20 = 1048576 := by decide
    have := m.pos
    omega
  refine ⟨a1, b1, ⟨⟨a3, b3⟩, a4, b4, a5, b5⟩, Int.mul_pos m.pos V.M0, (bs.mulB V.M1).mono (by decide), fun c B h => ?_⟩
  have z := m.le (g := fun p => Hu.dot c (qP p)) h
  have e : Hu.dot c (qP (mixP ss pts)) = rs pts.length (fun i => qv (gp ss i) * Hu.dot c (qP (ptN pts i))) := by
    show c.1 * qv (dotT ss (pts.map Prod.fst) pts.length) + c.2 * qv (dotT ss (pts.map Prod.snd) pts.length) = _
    rw [a2, b2, ← rs_mul, ← rs_mul, ← rs_add]
    refine rs_congr fun i _ => ?_
    unfold Hu.dot qP
    dsimp only
    grind
  rw [e]
  exact z
end
end Fk

set_option Elab.async false
set_option maxRecDepth 100000
set_option maxHeartbeats 2000000
set_option exponentiation.threshold 20000
/-! The law: points inside, points beyond. -/
namespace Fk
open PySem L2
abbrev sLIn : Stmt := top 60
abbrev psLIn : List Str := ["_law_pen_here", "_law_zone", "_law_points_here"]
abbrev nsLIn : List Str := ["_law_pen_here", "_law_zone", "_law_points_here", "_law_c", "_law_shares", "_law_point", "_law_far", "_law_one", "_law_by", "_law_k"]
/-- a zone of drawn points -/
structure Zn (M : Int) (pts cs : List Po) : Prop where
  V : PtsV M pts
  sub : ∀ x ∈ cs, x ∈ pts
  z : Hu.ZoneQ (pts.map qP) (cs.map qP)
theorem Zn.ne {M : Int} {pts cs : List Po} (h : Zn M pts cs) : cs ≠ [] := fun e => h.z.ne (by rw [e]; rfl)
theorem Zn.f {M : Int} {pts cs : List Po} (h : Zn M pts cs) : ∀ x ∈ pts, FineP 600 x ∧ Fit 600 600 x.1 ∧ Fit 600 600 x.2 := fun x hx => (h.V.pv x hx).fine h.V.M0 h.V.M1 (by decide)
theorem FineP.up {a b : Nat} {x : Po} (h : FineP a x) (l : a ≤ b) : FineP b x := ⟨h.1.mono l, h.2.mono l⟩
theorem Zn.ok {M : Int} {pts cs : List Po} (h : Zn M pts cs) (l : cs.length ≤ 1000) : CsOk cs := ⟨h.ne, fun x hx => (h.f x (h.sub x hx)).1.up (by decide), l⟩
/-- a mixture lies within -/
theorem Zn.in_ {M : Int} {pts cs : List Po} (h : Zn M pts cs) (l : cs.length ≤ 1000) {y : Po} (y0 : 0 < y.1.2 ∧ 0 < y.2.2) (hy : ∀ c B, (∀ p ∈ pts, Hu.dot c (qP p) ≤ B) → Hu.dot c (qP y) ≤ B) : inB cs y = true := by
  refine (inB_iff h.ne (h.ok l).2.1 y0).mpr fun m _ => ?_
  obtain ⟨k, v, hv, hm⟩ := Hu.max_at (Hu.dot m) (C := cs.map qP) h.z.ne
  refine ⟨v, List.mem_of_getElem? hv, hy m _ fun p hp => ?_⟩
  obtain ⟨u, hu, le⟩ := h.z.cov m (qP p) (List.mem_map.mpr ⟨p, hp, rfl⟩)
  have := hm u hu
  grind
theorem dir_pos {c : Po} (d : DirOk c) : 0 < (qP c).1 * (qP c).1 + (qP c).2 * (qP c).2 := by
  have a := Hu.sq_nn (qP c).1
  have b := Hu.sq_nn (qP c).2
  by_cases q1 : (qP c).1 = 0
  · by_cases q2 : (qP c).2 = 0
    · exfalso
      refine d.n (qP_inj ⟨d.a.red, d.b.red⟩ ⟨red_zero, red_zero⟩ (Prod.ext ?_ ?_))
      · rw [q1]
        exact qv_zero.symm
      · rw [q2]
        exact qv_zero.symm
    · have := Hu.sq_pos q2
      grind
  · have := Hu.sq_pos q1
    grind
/-- beyond the farthest point is out -/
theorem Zn.out_ {M : Int} {pts cs : List Po} (h : Zn M pts cs) (l : cs.length ≤ 1000) {c f y : Po} {g : Int × Int} (dc : DirOk c) (hf : ∀ p ∈ pts, Hu.dot (qP c) (qP p) ≤ Hu.dot (qP c) (qP f)) (g0 : 0 < qv g) (y0 : 0 < y.1.2 ∧ 0 < y.2.2)
    (e1 : qv y.1 = qv f.1 + qv g * qv c.1) (e2 : qv y.2 = qv f.2 + qv g * qv c.2) : inB cs y = false := by
  rw [Bool.eq_false_iff]
  intro q
  have z := (inB_iff h.ne (h.ok l).2.1 y0).mp q
  obtain ⟨v, hv, le⟩ := h.z.norms z (qP c)
  obtain ⟨x, hx, rfl⟩ := List.mem_map.mp hv
  have a := hf x (h.sub x hx)
  have b := Hu.mulq_pp g0 (dir_pos dc)
  have e : Hu.dot (qP c) (qP y) = Hu.dot (qP c) (qP f) + qv g * ((qP c).1 * (qP c).1 + (qP c).2 * (qP c).2) := by
    unfold Hu.dot qP
    dsimp only
    rw [e1, e2]
    grind
  grind
def spLIn (C : Addr) : Sp := fun vs H Q _ => ∃ (p l z pl : Addr) (c : Int) (ps : List Addr) (pts cs : List Po) (M : Int), vs = [.ref p, .ref z, .ref pl] ∧ PenAt H p l c ∧ c < 500000000 ∧ ZnAt C H z cs ∧ H pl = some (.lst (rv ps)) ∧ PtsAt H ps pts ∧ Zn M pts cs ∧ cs.length ≤ 1000 ∧ ∀ c' H', Keep p H H' → PenAt H' p l c' → c ≤ c' → c' ≤ c + 300 → Q (.bl true) H'
section
variable {P : Program} {w : World} {K : PySem.W.Frag} {mg : Str → Option Value} {base : Heap}
theorem scLIn : FnScope nsLIn psLIn (defScope sLIn) := ⟨rfl, rfl, rfl, by decide +kernel, rfl, by decide +kernel, by decide +kernel⟩
/-- the facts of Zone that in needs -/
structure ZIn (P : Program) (w : World) (K : PySem.W.Frag) (mg : Str → Option Value) (base : Heap) (C f : Addr) (fd : FuncData) : Prop where
  G : FnOk P w K mg base CX0 5 f fd psZC (spZIn K C)
  s : PySem.W.findIn K (.ref C) "__contains__" = some (some (.ref f))
  fn : PySem.W.isFn K (.ref f) = true
  b : Binds K fd psZC []
theorem ok_lin {f C fG fX fS fD fO fL fW fC fP fT fI : Addr} {fd dG dX dS dD dO dL dW dC dP dT dI : FuncData} (F : Fun K "_law_inside_right" "_law_inside_right" sLIn f fd) (ml : mg "len" = none) (mr : mg "range" = none) (mT : mg "tuple" = none) (I : ZIn P w K mg base C fI dI)
    (G : Cl P w K mg base "_law_direction" psLDir 5 spLDir fG dG) (X : Cl P w K mg base "_law_drawn_mixture" psLMix 3 spLMix fX dX) (D : Cl P w K mg base "_law_dot" psLDot 4 (spLDot K) fD dD) (S : Cl P w K mg base "_law_passed_point" psLPP 3 spLPP fS dS)
    (L : Cl P w K mg base "_law_less" psOT 1 spLLess fL dL) (W : Cl P w K mg base "_law_worth" psLW 4 spLWorth fW dW) (Ck : Cl P w K mg base "_law_pick" psPick 2 spPick fC dC) (Pl : Cl P w K mg base "_law_plus" psOT 3 (spTwo pluF) fP dP) (Ti : Cl P w K mg base "_law_times" psOT 3 (spTwo timF) fT dT) : FnOk P w K mg base CX0 6 f fd psLIn (spLIn C) := by
  refine F.ok scLIn (fun vs H Q E h => ?_) (fun cdv A outer s H vs Q E hr h => ?_)
  · obtain ⟨p, l, z, pl, c, ps, pts, cs, M, rfl, _⟩ := h
    rfl
  · obtain ⟨p, l, z, pl, c, ps, pts, cs, M, rfl, hp, c1, hz, hl, hX, Z, lc, k⟩ := h
    have hr1 := hr.mono (show 1 ≤ 5 by decide)
    have hr2 := hr.mono (show 2 ≤ 5 by decide)
    have hr3 := hr.mono (show 3 ≤ 5 by decide)
    have hr4 := hr.mono (show 4 ≤ 5 by decide)
    refine ⟨_, C8.pss_cut (ps_set (i := 3) scLIn.nd rfl (Or.inl rfl) (pe_call G.G hr (by rfl) G.g G.kp G.b .nil pass0 (pa_cons (pv 0) pa_nil)))
      (C8.pss_cut (ps_set (i := 4) scLIn.nd rfl (Or.inr rfl) (pe_call X.G hr3 (by rfl) X.g X.kp X.b .nil pass0 (pa_cons (pv 0) (pa_cons (pe_callB call_len_seq (by rfl) ml PySem.boot_len (pa_cons (pv 2) pa_nil)) pa_nil))))
      (C8.pss_cut (ps_set (i := 5) scLIn.nd rfl (Or.inl rfl) (pe_callTy call_tuple_of (by rfl) mT (by decide +kernel) (pa_cons (pe_lc (own := [("_law_k", 9)]) (g := gName 9) (tt := tYes) rfl scLIn.nd (pi_range1 (by rfl) mr (pa_cons pe_int pa_nil)) (blkOk_by (N := nsLIn) (sc := defScope sLIn) (by decide +kernel)) (fun _ _ _ _ _ => pg_name (i := 9) scLIn.nd rfl (Or.inr rfl)) (fun _ _ _ _ _ => pts_nil)
          (fun _ _ _ _ _ => pe_call D.G hr4 (by rfl) D.g D.kp D.b .nil pass0 (pa_cons (pv 4) (pa_cons (pe_lc (own := [("_law_one", 7)]) (g := gName 7) (tt := tYes) rfl scLIn.nd (pi_listK (K := K) rfl (pv 2)) (blkOk_by (N := nsLIn) (by kernel_rfl)) (fun _ _ _ _ _ => pg_name (i := 7) scLIn.nd rfl (Or.inl rfl)) (fun _ _ _ _ _ => pts_nil)
            (fun _ _ _ _ _ => pe_ix (ix_tupK (K := K) rfl) (pv 7) (pv 9) (fun _ _ => rfl))) pa_nil)))) pa_nil)))
      (C8.pss_cut (ps_if (pt_not (pt_cmpR (op_ownIn I.G I.s I.fn I.b hr) (pe_call S.G hr3 (by rfl) S.g S.kp S.b .nil pass0 (pa_cons (pv 0) (pa_cons (pv 5) pa_nil))) (pv 1) (by rfl))) (pss_one (ps_ret pe_bl)) pss_nil)
      (pss_cons (ps_set (i := 6) scLIn.nd rfl (Or.inl rfl) (pe_ix ix_list (pv 2) pe_int (fun _ _ => rfl)))
      (C8.pss_cut (ps_for PassesOwn.never rfl (pi_list (pv 2)) (pg_name (i := 7) scLIn.nd rfl (Or.inl rfl))
        (pss_one (ps_if (pt_val (pe_call L.G hr1 (by rfl) L.g L.kp L.b .nil pass0 (pa_cons (pe_call W.G hr4 (by rfl) W.g W.kp W.b .nil pass0 (pa_cons (pv 3) (pa_cons (pv 6) pa_nil))) (pa_cons (pe_call W.G hr4 (by rfl) W.g W.kp W.b .nil pass0 (pa_cons (pv 3) (pa_cons (pv 7) pa_nil))) pa_nil)))) (pss_one (ps_set (i := 6) scLIn.nd rfl (Or.inl rfl) (pv 7))) pss_nil)))
      (C8.pss_cut (ps_set (i := 8) scLIn.nd rfl (Or.inl rfl) (pe_call Ck.G hr2 (by rfl) Ck.g Ck.kp Ck.b .nil pass0 (pa_cons (pv 0) (pa_cons (pe_lst (pa_cons (pe_tup (pa_cons pe_int (pa_cons pe_int pa_nil))) (pa_cons (pe_tup (pa_cons pe_int (pa_cons (pe_op op_pow pe_int pe_int) pa_nil))) pa_nil))) pa_nil))))
      (C8.pss_cut (ps_set (i := 6) scLIn.nd rfl (Or.inl rfl) (pe_tup (pa_cons (pe_call Pl.G hr3 (by rfl) Pl.g Pl.kp Pl.b .nil pass0 (pa_cons (pe_ix ix_tup (pv 6) pe_int (fun _ _ => rfl)) (pa_cons (pe_call Ti.G hr3 (by rfl) Ti.g Ti.kp Ti.b .nil pass0 (pa_cons (pv 8) (pa_cons (pe_ix ix_tup (pv 3) pe_int (fun _ _ => rfl)) pa_nil))) pa_nil)))
          (pa_cons (pe_call Pl.G hr3 (by rfl) Pl.g Pl.kp Pl.b .nil pass0 (pa_cons (pe_ix ix_tup (pv 6) pe_int (fun _ _ => rfl)) (pa_cons (pe_call Ti.G hr3 (by rfl) Ti.g Ti.kp Ti.b .nil pass0 (pa_cons (pv 8) (pa_cons (pe_ix ix_tup (pv 3) pe_int (fun _ _ => rfl)) pa_nil))) pa_nil))) pa_nil))))
      (pss_one (ps_ret (pe_not (pe_cmpR (op_ownIn I.G I.s I.fn I.b hr) (pv 6) (pv 1) (by rfl)))))))))))), ?_⟩
    have VV := Z.V
    have l11 := VV.ln
    have l0 : 0 < pts.length := List.length_pos_iff.mpr VV.ne
    have lps : (rv ps).length = pts.length := by rw [rv_len, hX.1]
    have ok := Z.ok lc
    -- a direction
    refine ⟨fun σ' H' => ∃ dr cv c', σ' = [some (.ref p), some (.ref z), some (.ref pl), some (.ref dr), none, none, none, none, none, none] ∧ Keep p H H' ∧ PenAt H' p l c' ∧ c ≤ c' ∧ c' ≤ c + 100 ∧ PtAt H' dr cv ∧ DirOk cv, ?_, ?_⟩
    · exact ⟨_, rfl, p, l, c, rfl, hp, by omega, fun dr cv c' H1 k1 P1 a1 a2 hd dd => ⟨dr, cv, c', rfl, k1, P1, a1, a2, hd, dd⟩⟩
    rintro σ1 H1 ⟨dr, cv, c2, rfl, k1, P1, a1, a2, hd1, dd⟩
    have hz1 := k1.zn hp hz
    have hl1 := k1.lst hp hl
    have hX1 := k1.pts hp hX
    -- shares
    refine ⟨fun σ' H' => ∃ sr qs ds ss c', σ' = [some (.ref p), some (.ref z), some (.ref pl), some (.ref dr), some (.ref sr), none, none, none, none, none] ∧ Keep p H1 H' ∧ PenAt H' p l c' ∧ c ≤ c' ∧ c' ≤ c + 200 ∧ H' sr = some (.lst (rv qs)) ∧ PairsAt H' qs ss ∧ MixOk pts.length ds ss, ?_, ?_⟩
    · refine ⟨_, rfl, _, rfl, pl, _, rfl, .inl (SqL.of hl1), p, l, c2, pts.length, congrArg (fun n : Nat => [V.ref p, V.int (n : Int)]) lps, P1, by omega, l0, by omega, fun r qs ds ss c' H2 k2 P2 b1 b2 hr' hq m => ?_⟩
      exact ⟨r, qs, ds, ss, c', rfl, k2, P2, by omega, by omega, hr', hq, m⟩
    rintro σ2 H2 ⟨sr, qs, ds, ss, c3, rfl, k2, P2, b1, b2, hsr, hqs, m⟩
    have hz2 := k2.zn P1 hz1
    have hl2 := k2.lst P1 hl1
    have hX2 := k2.pts P1 hX1
    have hd2 := k2.pt P1 hd1
    have K2 := k1.trans k2
    obtain ⟨D1, D2, pv, SM0, SMb, conv⟩ := mix_pv VV m
    have lss : ss.length = pts.length := by rw [m.e, List.length_map, m.ln]
    -- the mixture
    refine ⟨fun σ' H' => ∃ tp, σ' = [some (.ref p), some (.ref z), some (.ref pl), some (.ref dr), some (.ref sr), some (.ref tp), none, none, none, none] ∧ Same H2 H' ∧ PtAt H' tp (mixP ss pts), ?_, ?_⟩
    · refine ⟨_, rfl, by decide, by decide, fun Dn hDn => ?_⟩
      refine lc_range (lo := 0) (n := 2) (fun i H' => Same H2 H' ∧ ∃ us, H' Dn = some (.lst (rv us)) ∧ PairsAt H' us ([(mixP ss pts).1, (mixP ss pts).2].take i)) ⟨same_new hDn, [], upd_same, pairs_nil⟩ ?_ ?_
      · rintro i H3 hi ⟨s3, us, hus, hU⟩
        obtain ⟨sel, hsel, hdot, ee, li⟩ : ∃ sel : Po → Int × Int, (∀ (x : Po) (a b : Addr) (H : Hp), RatAt H a x.1 → RatAt H b x.2 → ∃ q, atI [V.ref a, V.ref b] (0 + (i : Int)) = some (.ref q) ∧ RatAt H q (sel x)) ∧ DotOk ss (pts.map sel) pts.length ∧ [(mixP ss pts).1, (mixP ss pts).2].take (i + 1) = [(mixP ss pts).1, (mixP ss pts).2].take i ++ [dotT ss (pts.map sel) pts.length] ∧ i ≤ 1 := by
          match i, hi with
          | 0, _ => exact ⟨Prod.fst, fun x a b H h1 h2 => ⟨a, rfl, h1⟩, D1, rfl, by decide⟩
          | 1, _ => exact ⟨Prod.snd, fun x a b H h1 h2 => ⟨b, rfl, h2⟩, D2, rfl, by decide⟩
        refine ⟨rfl, yesT ?_⟩
        refine ⟨_, rfl, _, rfl, pl, rfl, ⟨_, SqL.of (s3 _ _ hl2)⟩, fun D5 hD5 => ?_⟩
        refine lc_list (K := K) (a := pl) (xs := rv ps) (fun j H' => Same H3 H' ∧ ∃ vs, H' D5 = some (.lst (rv vs)) ∧ PairsAt H' vs ((pts.take j).map sel)) ⟨same_new hD5, [], upd_same, pairs_nil⟩ (fun j H' _ q => SqL.of ((s3.trans q.1) _ _ hl2)) ?_ ?_
        · rintro j y H4 hj ⟨s4, vs, hvs, hV⟩
          obtain ⟨q, x, rfl, _, hx3, a, b, q1, q2, q3⟩ := (hX2.same (s3.trans s4)).get hj
          obtain ⟨u, hu1, hu2⟩ := hsel x a b H4 q2 q3
          refine ⟨rfl, yesT ?_⟩
          refine ⟨_, rfl, _, rfl, q, _, _, _, rfl, rfl, .inl (.inl q1), hu1, ?_⟩
          have e : (pts.take (j + 1)).map sel = (pts.take j).map sel ++ [sel x] := by
            rw [List.take_add_one, hx3]
            simp
          rw [e]
          exact grow hD5 s4 hvs hV (Same.refl _) hu2 (by rw [List.length_map, List.length_take]; omega)
        · rintro H4 ⟨s4, vs, hvs, hV⟩
          rw [lps, List.take_length] at hV
          have s34 := s3.trans s4
          refine ⟨sr, D5, qs, vs, ss, pts.map sel, rfl, .inl (SqL.of (s34 _ _ hsr)), .inl (SqL.of hvs), hqs.same s34, hV, by rw [lss, List.length_map], by rw [lss]; exact hdot, fun r H5 s5 hr5 => ?_⟩
          rw [lss] at hr5
          rw [ee]
          exact grow hDn s3 hus hU (s4.trans s5) hr5 (by
            have : [(mixP ss pts).1, (mixP ss pts).2].length = 2 := rfl
            rw [List.length_take]
            omega)
      · rintro H3 ⟨s3, us, hus, hU⟩
        have lu : us.length = 2 := hU.1
        match us, lu, hus, hU with
        | [u, v], _, hus, hU =>
          have ru := hU.2 0 u _ rfl rfl
          have rv' := hU.2 1 v _ rfl rfl
          refine ⟨Dn, _, rfl, .inl ⟨SqL.of hus, fun tt htt => ?_⟩⟩
          have s4 := same_new (o := .tup (rv [u, v])) htt
          exact ⟨tt, rfl, s3.trans s4, u, v, upd_same, s4 _ _ ru, s4 _ _ rv'⟩
    rintro σ3 H3 ⟨tp, rfl, s3, htp⟩
    have hz3 := hz2.same s3
    have P3 := P2.same s3
    obtain ⟨f600, ft1, ft2⟩ := pv.fine SM0 SMb (by decide)
    -- it lies within
    refine ⟨fun σ' H' => ∃ c', σ' = [some (.ref p), some (.ref z), some (.ref pl), some (.ref dr), some (.ref sr), some (.ref tp), none, none, none, none] ∧ Keep p H3 H' ∧ PenAt H' p l c' ∧ c ≤ c' ∧ c' ≤ c + 210, ?_, ?_⟩
    · refine ⟨_, rfl, _, rfl, p, l, tp, c3, _, rfl, P3, by omega, htp, ft1, ft2, fun v c4 H4 k4 P4 g1 g2 hv => ?_⟩
      have hz4 := k4.zn P3 hz3
      obtain ⟨dx, r0, rs0, y1, y2, y3⟩ := id hz4
      refine ⟨_, rfl, z, dx, _, rfl, y1, z, cs, v, rfl, hz4, ok, .inr ⟨_, hv, f600.up (by decide), fun H5 s5 => ?_⟩⟩
      rw [Z.in_ lc ⟨f600.1.1, f600.2.1⟩ conv]
      exact ⟨true, rfl, true, rfl, iteF ⟨c4, rfl, k4.trans (Same.keep s5), P4.same s5, by omega, by omega⟩⟩
    rintro σ4 H4 ⟨c4, rfl, k4, P4, g1, g2⟩
    have k34 : Keep p H2 H4 := (Same.keep s3).trans k4
    have hz4 := k34.zn P2 hz2
    have hl4 := k34.lst P2 hl2
    have hX4 := k34.pts P2 hX2
    have hd4 := k34.pt P2 hd2
    have K4 := K2.trans k34
    obtain ⟨p0, a0, q0⟩ := hX4.at_ l0
    have m0 : ptN pts 0 ∈ pts := List.mem_of_getElem? (ptN_at l0)
    have dF : FineP 100 cv := ⟨⟨dd.a.p, dd.a.b1, dd.a.b2.mono (by decide)⟩, ⟨dd.b.p, dd.b.b1, dd.b.b2.mono (by decide)⟩⟩
    have dpos : 0 < cv.1.2 ∧ 0 < cv.2.2 := ⟨dd.a.p, dd.b.p⟩
    refine ⟨_, rfl, pl, _, 0, _, rfl, rfl, SqL.of hl4, a0, ?_⟩
    -- the farthest point
    refine ⟨fun σ' H' => ∃ fr f v7, σ' = [some (.ref p), some (.ref z), some (.ref pl), some (.ref dr), some (.ref sr), some (.ref tp), some (.ref fr), v7, none, none] ∧ Same H4 H' ∧ PtAt H' fr f ∧ f ∈ pts ∧ ∀ x ∈ pts, Hu.dot (qP cv) (qP x) ≤ Hu.dot (qP cv) (qP f), ?_, ?_⟩
    · refine ⟨_, rfl, pl, rfl, ⟨_, SqL.of hl4⟩, ?_⟩
      refine for_list (K := K) (a := pl) (xs := rv ps) (fun i σ' H' => ∃ fr f v7, σ' = [some (.ref p), some (.ref z), some (.ref pl), some (.ref dr), some (.ref sr), some (.ref tp), some (.ref fr), v7, none, none] ∧ Same H4 H' ∧ PtAt H' fr f ∧ f ∈ pts ∧ ∀ x ∈ pts.take i, Hu.dot (qP cv) (qP x) ≤ Hu.dot (qP cv) (qP f)) ⟨p0, _, none, rfl, Same.refl _, q0, m0, fun x hx => nomatch hx⟩ (fun i σ' H' _ w => ?_) (fun i y σ' H5 hi w => ?_) (fun σ' H5 w => ?_)
      · obtain ⟨fr, f, v7, rfl, s5, _⟩ := w
        exact SqL.of (s5 _ _ hl4)
      · obtain ⟨fr, f, v7, rfl, s5, hfr, hf, hm⟩ := w
        obtain ⟨q, x, rfl, _, hx3, hq⟩ := (hX4.same s5).get hi
        have hxm := List.mem_of_getElem? hx3
        have fx := (Z.f x hxm).1
        have ff := (Z.f f hf).1
        have et : pts.take (i + 1) = pts.take i ++ [x] := by
          rw [List.take_add_one, hx3]
          rfl
        refine ⟨_, rfl, _, rfl, dr, fr, cv, f, rfl, hd4.same s5, hfr, dF.up (by decide), ff.up (by decide), fun u1 H6 s6 hu1 => ?_⟩
        refine ⟨_, rfl, _, rfl, dr, q, cv, x, rfl, hd4.same (s5.trans s6), hq.same s6, dF.up (by decide), fx.up (by decide), fun u2 H7 s7 hu2 => ?_⟩
        refine ⟨u1, u2, _, _, rfl, hu1.same s7, hu2, (fine_wor dF ff).mono (by decide), (fine_wor dF fx).mono (by decide), ?_⟩
        rw [wor_q dpos ⟨ff.1.1, ff.2.1⟩, wor_q dpos ⟨fx.1.1, fx.2.1⟩]
        have s67 := s6.trans s7
        refine ⟨_, rfl, ite2 (fun h => ?_) (fun h => ?_)⟩
        · have lt := of_decide_eq_true h
          refine ⟨_, rfl, q, x, _, rfl, s5.trans s67, hq.same s67, hxm, fun y hy => ?_⟩
          rw [et] at hy
          rcases List.mem_append.mp hy with hy | hy
          · have := hm y hy
            grind
          · rw [List.mem_singleton.mp hy]
            exact Rat.le_refl
        · have ge : ¬ Hu.dot (qP cv) (qP f) < Hu.dot (qP cv) (qP x) := fun w => h (decide_eq_true w)
          refine ⟨fr, f, _, rfl, s5.trans s67, hfr.same s67, hf, fun y hy => ?_⟩
          rw [et] at hy
          rcases List.mem_append.mp hy with hy | hy
          · exact hm y hy
          · rw [List.mem_singleton.mp hy]
            grind
      · obtain ⟨fr, f, v7, rfl, s5, hfr, hf, hm⟩ := w
        rw [lps, List.take_length] at hm
        exact ⟨fr, f, v7, rfl, s5, hfr, hf, hm⟩
    rintro σ5 H5 ⟨fr, f, v7, rfl, s5, hfr, hf, hm⟩
    have P5 := P4.same s5
    have hz5 := hz4.same s5
    have hd5 := hd4.same s5
    -- how far beyond
    refine ⟨fun σ' H' => ∃ br g c', σ' = [some (.ref p), some (.ref z), some (.ref pl), some (.ref dr), some (.ref sr), some (.ref tp), some (.ref fr), v7, some (.ref br), none] ∧ Keep p H5 H' ∧ PenAt H' p l c' ∧ c ≤ c' ∧ c' ≤ c + 220 ∧ RatAt H' br g ∧ Fine 70 g ∧ 0 < qv g, ?_, ?_⟩
    · refine ⟨_, rfl, le2, fun w1 hw1 => ⟨10, 20, rfl, rfl, ⟨by decide, by decide, by decide⟩, le2, fun w2 hw2 => ⟨le2, fun lz hlz => ?_⟩⟩⟩
      have t1 := same_new (o := .tup [.int 1, .int 1]) hw1
      have t2 := same_new (o := .tup [.int 1, .int (10 ^ (20 : Int).toNat)]) hw2
      have t3 := same_new (o := .lst [.ref w1, .ref w2]) hlz
      have tA := t1.trans (t2.trans t3)
      have P6 := P5.same tA
      refine ⟨p, l, lz, c4, _, rfl, P6, by omega, upd_same, by show 0 < 2; decide, by show 2 ≤ 1000; decide, fun i y H7 hy P7 k7 => ?_⟩
      have hmm := List.mem_of_getElem? hy
      simp only [List.mem_cons, List.not_mem_nil, or_false] at hmm
      rcases hmm with rfl | rfl
      · refine ⟨w1, (1, 1), c4 + 1, rfl, (Same.keep tA).trans k7, P7, by omega, by omega, k7.rat P6 ((t2.trans t3) _ _ upd_same), ⟨by decide, by unfold Bd; decide, by unfold Bd; decide⟩, ?_⟩
        rw [qv_one]
        decide
      · refine ⟨w2, (1, 10 ^ (20 : Int).toNat), c4 + 1, rfl, (Same.keep tA).trans k7, P7, by omega, by omega, k7.rat P6 (t3 _ _ upd_same), ⟨by decide, by unfold Bd; decide, by unfold Bd; decide⟩, ?_⟩
        have q1 := qv_mul (x := (1, 10 ^ (20 : Int).toNat)) (by decide)
        have q2 := cast_pos (b := 10 ^ (20 : Int).toNat) (by decide)
        by_cases q : 0 < qv (1, 10 ^ (20 : Int).toNat)
        · exact q
        · exfalso
          have := Hu.mulq_nn (by grind : 0 ≤ -qv (1, 10 ^ (20 : Int).toNat)) (by grind : (0 : Rat) ≤ ((10 ^ (20 : Int).toNat : Int) : Rat))
          have e1 : ((1 : Int) : Rat) = 1 := rfl
          dsimp only at q1
          rw [e1] at q1
          grind
    rintro σ6 H6 ⟨br, g, c6, rfl, k6, P6, g3, g4, hbr, gF, g0⟩
    obtain ⟨fa, fb, h60, h61, h62⟩ := k6.pt P5 hfr
    obtain ⟨da, db, d60, d61, d62⟩ := k6.pt P5 hd5
    have hz6 := k6.zn P5 hz5
    have ff := (Z.f f hf).1
    have t1 := fine_tim gF dF.1
    have t2 := fine_tim gF dF.2
    -- the point beyond
    refine ⟨fun σ' H' => ∃ yr, (∃ v7, σ' = [some (.ref p), some (.ref z), some (.ref pl), some (.ref dr), some (.ref sr), some (.ref tp), some (.ref yr), v7, some (.ref br), none]) ∧ Same H6 H' ∧ PtAt H' yr (pluF f.1 (timF g cv.1), pluF f.2 (timF g cv.2)), ?_, ?_⟩
    · refine ⟨_, rfl, fr, _, 0, _, rfl, rfl, .inl (.inl h60), rfl, _, rfl, _, rfl, dr, _, 0, _, rfl, rfl, .inl (.inl d60), rfl, br, da, _, _, rfl, hbr, d61, gF.mono (by decide), dF.1.mono (by decide), fun u1 H7 s7 hu1 => ?_⟩
      refine ⟨fa, u1, _, _, rfl, s7 _ _ h61, hu1, ff.1.mono (by decide), t1.mono (by decide), fun r1 H8 s8 hr1' => ?_⟩
      have s78 := s7.trans s8
      refine ⟨_, rfl, fr, _, 1, _, rfl, rfl, .inl (.inl (s78 _ _ h60)), rfl, _, rfl, _, rfl, dr, _, 1, _, rfl, rfl, .inl (.inl (s78 _ _ d60)), rfl, br, db, _, _, rfl, s78 _ _ hbr, s78 _ _ d62, gF.mono (by decide), dF.2.mono (by decide), fun u2 H9 s9 hu2 => ?_⟩
      refine ⟨fb, u2, _, _, rfl, (s78.trans s9) _ _ h62, hu2, ff.2.mono (by decide), t2.mono (by decide), fun r2 H10 s10 hr2' => ⟨le2, fun t ht => ?_⟩⟩
      have s11 := same_new (o := .tup [.ref r1, .ref r2]) ht
      exact ⟨t, ⟨_, rfl⟩, s78.trans (s9.trans (s10.trans s11)), r1, r2, upd_same, (s9.trans (s10.trans s11)) _ _ hr1', s11 _ _ hr2'⟩
    rintro σ7 H7 ⟨yr, ⟨v7', rfl⟩, s7, hyr⟩
    have hz7 := hz6.same s7
    obtain ⟨dx, r0, rs0, y1, y2, y3⟩ := id hz7
    have yF : FineP 1000 (pluF f.1 (timF g cv.1), pluF f.2 (timF g cv.2)) := ⟨(fine_plu ff.1 t1).mono (by decide), (fine_plu ff.2 t2).mono (by decide)⟩
    have yR : RedP (pluF f.1 (timF g cv.1), pluF f.2 (timF g cv.2)) := ⟨plu_red ff.1.1 t1.1, plu_red ff.2.1 t2.1⟩
    refine ⟨_, rfl, _, rfl, z, dx, _, rfl, y1, z, cs, _, rfl, hz7, ok, .inr ⟨_, low_ptR hyr yR yF, yF, fun H8 s8 => ?_⟩⟩
    rw [Z.out_ lc dd hm g0 ⟨yF.1.1, yF.2.1⟩ (by rw [qv_plu ff.1.1 t1.1, qv_tim gF.1 dF.1.1]) (by rw [qv_plu ff.2.1 t2.1, qv_tim gF.1 dF.2.1])]
    exact ⟨false, rfl, false, rfl, k c6 H8 ((K4.trans (Same.keep s5)).trans (k6.trans (Same.keep (s7.trans s8)))) ((P6.same s7).same s8) (by omega) (by omega)⟩
end
end Fk

set_option Elab.async false
set_option maxRecDepth 100000
set_option maxHeartbeats 2000000
set_option exponentiation.threshold 20000
/-! What the law's own looks rest on. -/
namespace Fk
open PySem PySem.Spec L2 PyProof.Rows
theorem HullP.len {xs C : List Po} (h : HullP xs C) (ne : xs ≠ []) : C.length ≤ 2 * xs.length := by
  obtain ⟨S, D, s1, s2, s3, rfl⟩ := h.ex
  have nd : S.Nodup := s1.imp fun {p q} h e => by
    subst e
    exact Hu.lt_irr h
  have l1 : S.length ≤ xs.length := by
    have z := nodup_len nd fun x hx => (s2 x).mp hx
    rw [List.length_map] at z
    exact z
  rw [List.length_map]
  by_cases q : S.length = 1
  · rw [s3.one q]
    omega
  · by_cases q0 : S.length = 0
    · exfalso
      obtain ⟨x, hx⟩ := List.exists_mem_of_ne_nil _ ne
      have := (s2 _).mpr (List.mem_map.mpr ⟨x, hx, rfl⟩)
      rw [List.length_eq_zero_iff.mp q0] at this
      cases this
    · obtain ⟨L, U, a1, a2, a3, a4, rfl⟩ := s3.more (by omega)
      have n1 : L.Nodup := a1.srt.imp fun {p q} h e => by
        subst e
        exact Hu.lt_irr h
      have n2 : (U.map Hu.neg).Nodup := a3.srt.imp fun {p q} h e => by
        subst e
        exact Hu.lt_irr h
      have b1 := nodup_len n1 a1.sub
      have b2 := nodup_len n2 a3.sub
      rw [List.length_map, List.length_map, List.length_reverse] at b2
      rw [List.length_append, List.length_dropLast, List.length_dropLast]
      omega
theorem PV.ptOk {M : Int} {m : Nat} {x : Po} (h : PV M x) (M0 : 0 < M) (hM : Bd m M) (hm : m ≤ 450) : PtOk M x := ⟨((h.fine M0 hM hm).1).up (by decide), h.d1, h.d2⟩
theorem HullP.zn {M : Int} {pts cs : List Po} (h : HullP pts cs) (VV : PtsV M pts) : Zn M pts cs := by
  have r : ∀ x ∈ pts, RedP x := fun x hx => (VV.pv x hx).red
  exact ⟨VV, h.sub r VV.ne, h.zone (fun x hx => ⟨(r x hx).a.p, (r x hx).b.p⟩) VV.ne⟩
theorem Zn.right {M : Int} {pts cs : List Po} (h : Zn M pts cs) : Right pts cs := ⟨h.sub, fun x hx => (h.V.pv x hx).red, fun x hx => (h.f x hx).1.up (by decide), by have := h.V.ln; omega, h.z⟩
/-! ### the point that is far away -/
def farP : Po := ((10 ^ 35, 1), (0, 1))
theorem far_fine : FineP 1000 farP := ⟨⟨by decide, by unfold Bd; decide, by unfold Bd; decide⟩, ⟨by decide, by unfold Bd; decide, by unfold Bd; decide⟩⟩
theorem far_ok (M : Int) : PtOk M farP := ⟨far_fine, Int.one_dvd M, Int.one_dvd M⟩
theorem far_red : RedP farP := ⟨red_one _, red_one _⟩
theorem Zn.far {M : Int} {pts cs ds : List Po} (h : Zn M pts cs) (hd : HullP (pts ++ [farP]) ds) : cs ≠ ds := fun e => by
  subst e
  have r : ∀ x ∈ pts ++ [farP], 0 < x.1.2 ∧ 0 < x.2.2 := fun x hx => by
    rcases List.mem_append.mp hx with z | z
    · exact ⟨(h.V.pv x z).red.a.p, (h.V.pv x z).red.b.p⟩
    · rw [List.mem_singleton.mp z]
      exact ⟨far_red.a.p, far_red.b.p⟩
  obtain ⟨v, hv, le⟩ := (hd.zone r (fun z => by simp at z)).cov (1, 0) (qP farP) (List.mem_map.mpr ⟨farP, by simp, rfl⟩)
  obtain ⟨x, hx, rfl⟩ := List.mem_map.mp hv
  have b := (h.V.pv x (h.sub x hx)).b1.2
  rw [Hu.dot2, Hu.dot2] at le
  have e1 : (qP farP).1 = ((10 ^ 35 : Int) : Rat) := by
    show qv (10 ^ 35, 1) = _
    exact qv_one
  have lt : Bq < ((10 ^ 35 : Int) : Rat) := by
    unfold Bq
    exact Rat.intCast_lt_intCast.mpr (by decide)
  rw [e1] at le
  have e2 : (qP x).1 = qv x.1 := rfl
  rw [e2] at le
  generalize ((10 ^ 35 : Int) : Rat) = u at *
  generalize Bq = v at *
  grind
/-! ### the least worth -/
theorem lowP_le (c : Po) : ∀ (xs : List Po) (b : Po), ∀ y ∈ b :: xs, qv (wor c (lowP c b xs)) ≤ qv (wor c y)
  | [], b, y, hy => by
    rw [List.mem_singleton.mp hy]
    exact Rat.le_refl
  | x :: xs, b, y, hy => by
    have z := lowP_le c xs (if wlt c x b = true then x else b)
    have e : lowP c b (x :: xs) = lowP c (if wlt c x b = true then x else b) xs := rfl
    rw [e]
    have z0 := z _ List.mem_cons_self
    rcases List.mem_cons.mp hy with rfl | hy
    · by_cases q : wlt c x y = true
      · rw [if_pos q] at z0 ⊢
        have := of_decide_eq_true (show decide (qv (wor c x) < qv (wor c y)) = true from q)
        grind
      · rw [if_neg q] at z0 ⊢
        exact z0
    · rcases List.mem_cons.mp hy with rfl | hy
      · by_cases q : wlt c y b = true
        · rw [if_pos q] at z0 ⊢
          exact z0
        · rw [if_neg q] at z0 ⊢
          have : ¬ qv (wor c y) < qv (wor c b) := fun w => q (decide_eq_true w)
          grind
      · exact z y (List.mem_cons_of_mem _ hy)
theorem Zn.lowest {M : Int} {pts xs : List Po} {x c x0 : Po} (h : Zn M pts (x :: xs)) (c0 : 0 < c.1.2 ∧ 0 < c.2.2) (h0 : x0 ∈ pts) (hm : ∀ z ∈ pts, qv (wor c x0) ≤ qv (wor c z)) : wor c (lowP c x xs) = wor c x0 := by
  have pos : ∀ z ∈ pts, 0 < z.1.2 ∧ 0 < z.2.2 := fun z hz => ⟨(h.V.pv z hz).red.a.p, (h.V.pv z hz).red.b.p⟩
  have lm := lowP_mem c xs x
  have lp := h.sub _ lm
  have red : ∀ {z : Po}, z ∈ pts → Red (wor c z) := fun {z} hz => plu_red (tim_red c0.1 (pos z hz).1).p (tim_red c0.2 (pos z hz).2).p
  refine qv_inj (red lp) (red h0) ?_
  have a := hm _ lp
  obtain ⟨v, hv, le⟩ := h.z.cov (Hu.opp (qP c)) (qP x0) (List.mem_map.mpr ⟨x0, h0, rfl⟩)
  obtain ⟨y, hy, rfl⟩ := List.mem_map.mp hv
  have b := lowP_le c xs x y hy
  rw [wor_q c0 (pos _ lp)] at a b ⊢
  rw [wor_q c0 (pos _ h0)] at a ⊢
  rw [wor_q c0 (pos _ (h.sub y hy))] at b
  unfold Hu.opp Hu.dot at le
  unfold Hu.dot at a b ⊢
  dsimp only at le
  grind
/-! ### grown -/
structure ByOk (f : Int × Int) : Prop where
  red : Red f
  nn : 0 ≤ f.1
  b1 : Bd 100 f.1
  b2 : Bd 7 f.2
theorem gr_pt {f : Int × Int} {M : Int} {x : Po} (b : ByOk f) (M0 : 0 < M) (fx : FineP 600 x) (rx : RedP x) (d1 : x.1.2 ∣ M) (d2 : x.2.2 ∣ M) : ∀ y ∈ gr4 f x, PtOk (M * f.2) y ∧ FineP 800 y := by
  have fF : Fine 100 f := ⟨b.red.p, b.b1, b.b2.mono (by decide)⟩
  have e3 := qv_mul b.red.p
  have go : ∀ {u : Int × Int}, Fine 600 u → Red u → u.2 ∣ M → (Fine 800 (minF u f) ∧ (minF u f).2 ∣ M * f.2) ∧ Fine 800 (pluF u f) ∧ (pluF u f).2 ∣ M * f.2 := fun {u} fu ru du => by
    obtain ⟨N, hN⟩ := whole_of ru.p du
    refine ⟨⟨(fine_min fu fF).mono (by decide), ?_⟩, (fine_plu fu fF).mono (by decide), ?_⟩
    · refine dvd_of_whole (N := N * f.2 - f.1 * M) (min_red ru.p b.red.p) (Int.mul_pos M0 b.red.p) ?_
      rw [qv_min ru.p b.red.p, Rat.intCast_sub, Rat.intCast_mul, Rat.intCast_mul, Rat.intCast_mul, ← hN, ← e3]
      grind
    · refine dvd_of_whole (N := N * f.2 + f.1 * M) (plu_red ru.p b.red.p) (Int.mul_pos M0 b.red.p) ?_
      rw [qv_plu ru.p b.red.p, Rat.intCast_add, Rat.intCast_mul, Rat.intCast_mul, Rat.intCast_mul, ← hN, ← e3]
      grind
  obtain ⟨⟨a1, a2⟩, a3, a4⟩ := go fx.1 rx.a d1
  obtain ⟨⟨b1, b2⟩, b3, b4⟩ := go fx.2 rx.b d2
  intro y hy
  simp only [gr4, List.mem_cons, List.not_mem_nil, or_false] at hy
  rcases hy with rfl | rfl | rfl | rfl
  · exact ⟨⟨⟨a1.mono (by decide), b1.mono (by decide)⟩, a2, b2⟩, a1, b1⟩
  · exact ⟨⟨⟨a1.mono (by decide), b3.mono (by decide)⟩, a2, b4⟩, a1, b3⟩
  · exact ⟨⟨⟨a3.mono (by decide), b1.mono (by decide)⟩, a4, b2⟩, a3, b1⟩
  · exact ⟨⟨⟨a3.mono (by decide), b3.mono (by decide)⟩, a4, b4⟩, a3, b3⟩
theorem Zn.grOk {M : Int} {pts cs : List Po} {f : Int × Int} (h : Zn M pts cs) (b : ByOk f) {xs : List Po} (hs : ∀ x ∈ xs, x ∈ pts) : ∀ y ∈ grF f xs, PtOk (M * f.2) y ∧ FineP 800 y := fun y hy => by
  obtain ⟨x, hx, hy⟩ := gr_mem hy
  have v := h.V.pv x (hs x hx)
  exact gr_pt b h.V.M0 (h.f x (hs x hx)).1 v.red v.d1 v.d2 y hy
/-- the same of the four points, around another point -/
theorem gr_move {f : Int × Int} {x v y : Po} (f0 : 0 < f.2) (hx : 0 < x.1.2 ∧ 0 < x.2.2) (hv : 0 < v.1.2 ∧ 0 < v.2.2) (hy : y ∈ gr4 f x) {n : Hu.Qt} (le : Hu.dot n (qP x) ≤ Hu.dot n (qP v)) : ∃ y' ∈ gr4 f v, Hu.dot n (qP y) ≤ Hu.dot n (qP y') := by
  unfold Hu.dot qP at le
  dsimp only at le
  simp only [gr4, List.mem_cons, List.not_mem_nil, or_false] at hy
  rcases hy with rfl | rfl | rfl | rfl
  · refine ⟨(minF v.1 f, minF v.2 f), by simp [gr4], ?_⟩
    unfold Hu.dot qP
    dsimp only
    rw [qv_min hx.1 f0, qv_min hx.2 f0, qv_min hv.1 f0, qv_min hv.2 f0]
    grind
  · refine ⟨(minF v.1 f, pluF v.2 f), by simp [gr4], ?_⟩
    unfold Hu.dot qP
    dsimp only
    rw [qv_min hx.1 f0, qv_plu hx.2 f0, qv_min hv.1 f0, qv_plu hv.2 f0]
    grind
  · refine ⟨(pluF v.1 f, minF v.2 f), by simp [gr4], ?_⟩
    unfold Hu.dot qP
    dsimp only
    rw [qv_plu hx.1 f0, qv_min hx.2 f0, qv_plu hv.1 f0, qv_min hv.2 f0]
    grind
  · refine ⟨(pluF v.1 f, pluF v.2 f), by simp [gr4], ?_⟩
    unfold Hu.dot qP
    dsimp only
    rw [qv_plu hx.1 f0, qv_plu hx.2 f0, qv_plu hv.1 f0, qv_plu hv.2 f0]
    grind
theorem Zn.grown {M : Int} {pts cs ds : List Po} {f : Int × Int} (h : Zn M pts cs) (b : ByOk f) (hd : HullP (grF f cs) ds) : Right (lgF f pts) ds := by
  have pos : ∀ z ∈ pts, 0 < z.1.2 ∧ 0 < z.2.2 := fun z hz => ⟨(h.V.pv z hz).red.a.p, (h.V.pv z hz).red.b.p⟩
  have pc : ∀ z ∈ cs, 0 < z.1.2 ∧ 0 < z.2.2 := fun z hz => pos z (h.sub z hz)
  have ne : grF f cs ≠ [] := fun e => by
    have := gr_len f cs
    rw [e] at this
    have := List.length_pos_iff.mpr h.ne
    simp at *
    omega
  have rc := gr_red b.red.p pc
  have rp : ∀ x ∈ lgF f pts, RedP x := fun x hx => gr_red b.red.p pos x (lg_mem.mp hx)
  have sub : ∀ x ∈ ds, x ∈ lgF f pts := fun x hx => by
    obtain ⟨q, hq, hx⟩ := gr_mem (hd.sub rc ne x hx)
    exact lg_mem.mpr (List.mem_flatMap.mpr ⟨q, h.sub q hq, hx⟩)
  have z := hd.zone (fun x hx => ⟨(rc x hx).a.p, (rc x hx).b.p⟩) ne
  refine ⟨sub, rp, fun x hx => ((h.grOk b (fun _ q => q) x (lg_mem.mp hx)).2).up (by decide), ?_, z.more (fun q hq => ?_) fun n p hp => ?_⟩
  · rw [lg_len]
    have := h.V.ln
    omega
  · obtain ⟨x, hx, rfl⟩ := List.mem_map.mp hq
    exact List.mem_map.mpr ⟨x, sub x hx, rfl⟩
  · obtain ⟨y, hy, rfl⟩ := List.mem_map.mp hp
    obtain ⟨x, hx, hy⟩ := gr_mem (lg_mem.mp hy)
    obtain ⟨v, hv, le⟩ := h.z.cov n (qP x) (List.mem_map.mpr ⟨x, hx, rfl⟩)
    obtain ⟨u, hu, rfl⟩ := List.mem_map.mp hv
    obtain ⟨y', hy', le'⟩ := gr_move b.red.p (pos x hx) (pc u hu) hy le
    obtain ⟨t, ht, le2⟩ := z.cov n (qP y') (List.mem_map.mpr ⟨y', List.mem_flatMap.mpr ⟨u, hu, hy'⟩, rfl⟩)
    exact ⟨t, ht, by grind⟩
end Fk

set_option Elab.async false
set_option maxRecDepth 100000
set_option maxHeartbeats 2000000
set_option exponentiation.threshold 20000
/-! What stands in a turn of the law; values that are refused. -/
namespace Fk
open PySem PySem.Spec L2 PyProof.Rows
theorem Low.upd {H : Hp} {D : Addr} {vs : List V} (hD : H D = some (.lst vs)) {v : V} {a b : Int} {o : HO} (h : Low H v a b) : Low (L2.upd H D o) v a b := by
  rcases h with h | ⟨q, c, d, e, hq, r⟩
  · exact .inl h
  · refine .inr ⟨q, c, d, e, ?_, r⟩
    rw [upd_ne (ne_of hq hD (fun z => nomatch z))]
    exact hq
theorem LowP.upd {H : Hp} {D : Addr} {vs : List V} (hD : H D = some (.lst vs)) {v : V} {x : Po} {o : HO} (h : LowP H v x) : LowP (L2.upd H D o) v x := by
  obtain ⟨t, a, b, h1, h2, h3, h4⟩ := h
  refine ⟨t, a, b, h1, ?_, h3.upd hD, h4.upd hD⟩
  rw [upd_ne (ne_of h2 hD (fun z => nomatch z))]
  exact h2
theorem LowsAt.upd {H : Hp} {D : Addr} {vs us : List V} {xs : List Po} {o : HO} (hD : H D = some (.lst vs)) (h : LowsAt H us xs) : LowsAt (L2.upd H D o) us xs := ⟨h.1, fun i v x a b => (h.2 i v x a b).upd hD⟩
theorem LowsAt.add {H : Hp} {us : List V} {xs : List Po} {v : V} {x : Po} (h : LowsAt H us xs) (hv : LowP H v x) : LowsAt H (us ++ [v]) (xs ++ [x]) := by
  have hl := h.1
  refine ⟨by rw [List.length_append, List.length_append, hl]; rfl, fun i y z a b => ?_⟩
  by_cases hi : i < us.length
  · rw [List.getElem?_append_left hi] at a
    rw [List.getElem?_append_left (by omega)] at b
    exact h.2 i y z a b
  · have e : i = us.length := by
      have := (List.getElem?_eq_some_iff.mp a).1
      rw [List.length_append, List.length_singleton] at this
      omega
    subst e
    rw [List.getElem?_append_right (Nat.le_refl _), Nat.sub_self] at a
    rw [List.getElem?_append_right (by omega), hl, Nat.sub_self] at b
    cases a
    cases b
    exact hv
theorem LowsAt.rev {H : Hp} {us : List V} {xs : List Po} (h : LowsAt H us xs) : LowsAt H us.reverse xs.reverse := by
  refine ⟨by rw [List.length_reverse, List.length_reverse, h.1], fun i v x a b => ?_⟩
  have hi := (List.getElem?_eq_some_iff.mp a).1
  rw [List.length_reverse] at hi
  rw [List.getElem?_reverse hi] at a
  rw [List.getElem?_reverse (by rw [← h.1]; exact hi), ← h.1] at b
  exact h.2 _ v x a b
theorem Keep.lows {H H' : Hp} {p l : Addr} {c : Int} {us : List V} {xs : List Po} (k : Keep p H H') (P : PenAt H p l c) (h : LowsAt H us xs) : LowsAt H' us xs := ⟨h.1, fun i v x a b => k.lowP P (h.2 i v x a b)⟩
theorem ZnAt.upd {C : Addr} {H : Hp} {D z : Addr} {vs : List V} {cs : List Po} {o : HO} (hD : H D = some (.lst vs)) (h : ZnAt C H z cs) : ZnAt C (L2.upd H D o) z cs := by
  obtain ⟨dx, r, qs, h1, h2, h3⟩ := h
  refine ⟨dx, r, qs, ?_, ?_, h3.1, fun i p x a b => PtAt.upd hD (h3.2 i p x a b)⟩
  · rw [upd_ne (ne_of h1 hD (fun z => nomatch z))]
    exact h1
  · rw [upd_ne (ne_of h2 hD (fun z => nomatch z))]
    exact h2
/-- a zone is made of values that tell points -/
theorem make_z {K : PySem.W.Frag} {C CN q : Addr} {H : Hp} {vs : List V} {xs : List Po} {M : Int} {R : VK} (hq : H q = some (.lst vs) ∨ H q = some (.tup vs)) (hl : LowsAt H vs xs) (ne : xs ≠ []) (l5 : xs.length ≤ 500) (ok : ∀ x ∈ xs, PtOk M x) (M0 : 0 < M) (M1 : Bd 1000 M) (k : ∀ z cs H', Same H H' → ZnAt C H' z cs → HullP xs cs → R (.ref z) H') :
    ∀ z dz, H z = none → H dz = none → dz ≠ z → spZInit K C CN (.ref z :: ([.ref q] ++ [])) (upd (upd H dz (.own z)) z (.ins C dz [])) (fun v H2 => v = .non ∧ R (.ref z) H2) (fun _ _ _ => False) := by
  intro z dz hz hdz nz
  have sz : Same H (upd (upd H dz (.own z)) z (.ins C dz [])) := fun b o hb => by
    rw [upd_ne (ne_of_none hb hz), upd_ne (ne_of_none hb hdz)]
    exact hb
  have back : ∀ {H' : Hp}, Keep z (upd (upd H dz (.own z)) z (.ins C dz [])) H' → Same H H' := fun {H'} kk b o hb => kk b o (ne_of_none hb hz) (sz _ _ hb)
  exact ⟨z, dz, .ref q, rfl, upd_same, .inl ⟨q, vs, xs, M, rfl, hq.imp (sz _ _) (sz _ _), hl.same sz, ne, l5, ok, M0, M1, fun cs H' kk hz' hull => ⟨rfl, k z cs H' (back kk) hz' hull⟩⟩⟩
/-- what stands in a turn once the zone is made -/
structure ZSt (C : Addr) (p l pl z kl : Addr) (c0 c n : Int) (ps : List Addr) (us : List V) (pts cs : List Po) (M : Int) (H : Hp) : Prop where
  P : PenAt H p l c
  c1 : c0 ≤ c
  c2 : c ≤ c0 + n
  hl : H pl = some (.lst (rv ps))
  hX : PtsAt H ps pts
  hz : ZnAt C H z cs
  hk : H kl = some (.lst us)
  hu : LowsAt H us pts
  Z : Zn M pts cs
  hu2 : HullP pts cs
  lc : cs.length ≤ 22
theorem ZSt.keep {C p l pl z kl : Addr} {c0 c c' n m M : Int} {ps : List Addr} {us : List V} {pts cs : List Po} {H H' : Hp} (h : ZSt C p l pl z kl c0 c n ps us pts cs M H) (k : Keep p H H') (P' : PenAt H' p l c') (g1 : c ≤ c') (g2 : c' ≤ c0 + m) : ZSt C p l pl z kl c0 c' m ps us pts cs M H' :=
  ⟨P', Int.le_trans h.c1 g1, g2, k.lst h.P h.hl, k.pts h.P h.hX, k.zn h.P h.hz, k.lst h.P h.hk, k.lows h.P h.hu, h.Z, h.hu2, h.lc⟩
theorem ZSt.same {C p l pl z kl : Addr} {c0 c n M : Int} {ps : List Addr} {us : List V} {pts cs : List Po} {H H' : Hp} (h : ZSt C p l pl z kl c0 c n ps us pts cs M H) (s : Same H H') : ZSt C p l pl z kl c0 c n ps us pts cs M H' := h.keep (Same.keep s) (h.P.same s) (Int.le_refl _) h.c2
theorem ZSt.ok {C p l pl z kl : Addr} {c0 c n M : Int} {ps : List Addr} {us : List V} {pts cs : List Po} {H : Hp} (h : ZSt C p l pl z kl c0 c n ps us pts cs M H) : CsOk cs := h.Z.ok (Nat.le_trans h.lc (by decide))
/-! ### values that are refused -/
theorem Wrong.same {K : PySem.W.Frag} {H H' : Hp} {kd : Int} {wh : Str} {v : V} (h : Wrong K H kd wh v) (s : Same H H') : Wrong K H' kd wh v := by
  rcases h with ⟨a, b, h⟩ | ⟨a, b, h⟩ | ⟨a, b, h⟩
  · exact .inl ⟨a, b, h.same s⟩
  · exact .inr (.inl ⟨a, b, h.imp (fun h => h.same s) fun h => h.same s⟩)
  · exact .inr (.inr ⟨a, b, h.imp (fun h => h.same s) fun ⟨x, h1, h2⟩ => ⟨x, h1.same s, h2⟩⟩)
theorem Shows.same {K : PySem.W.Frag} {H H' : Hp} {v : V} {d : PyData} (h : Shows K H v d) (s : Same H H') : Shows K H' v d := ⟨fun H2 s2 => h.1 H2 (s.trans s2), h.2⟩
/-- a value that is refused, and how it is shown -/
structure WrongAt (K : PySem.W.Frag) (H : Hp) (kd : Int) (wh : Str) (v : V) : Prop where
  w : Wrong K H kd wh v
  s : ∃ d, Shows K H v d ∧ PyData.strOk d.shown = true
theorem WrongAt.same {K : PySem.W.Frag} {H H' : Hp} {kd : Int} {wh : Str} {v : V} (h : WrongAt K H kd wh v) (s : Same H H') : WrongAt K H' kd wh v := by
  obtain ⟨w, d, s1, s2⟩ := h
  exact ⟨w.same s, d, s1.same s, s2⟩
theorem shows_of {K : PySem.W.Frag} {H : Hp} {v : V} (d : PyData) (h : ∀ H', Same H H' → Dp K H' v d) (e1 : d.showable = true) (e2 : d.hasDict = false) (e3 : d.depth ≤ 10) (e4 : d.shown.length ≤ sizeLine) (e5 : PyData.strOk d.shown = true) : ∃ d, Shows K H v d ∧ PyData.strOk d.shown = true := ⟨d, ⟨h, e1, e2, e3, e4⟩, e5⟩
section
variable {K : PySem.W.Frag} {H : Hp} {a b c : Addr}
theorem dp_tup {vs : List V} {ds : List PyData} (h : H a = some (.tup vs)) (g : ∀ H', Same H H' → DpAll K H' vs ds) : ∀ H', Same H H' → Dp K H' (.ref a) (.tuple ds) := fun H' s => .tup (.inl (.inl (s _ _ h))) (g H' s)
theorem dp_lst {vs : List V} {ds : List PyData} (h : H a = some (.lst vs)) (g : ∀ H', Same H H' → DpAll K H' vs ds) : ∀ H', Same H H' → Dp K H' (.ref a) (.list ds) := fun H' s => .lst (SqL.of (s _ _ h)) (g H' s)
theorem no_val {v : V} (h : v = .non) : Val K H v false := by
  subst h
  exact .other (.non K H) (.base .non) (kit_ty (by decide))
theorem lst_val {vs : List V} (h : H a = some (.lst vs)) : Val K H (.ref a) false := .other (.lst h) (.base (.lst h)) (kit_ty (by decide))
theorem lst_pt {vs : List V} (h : H a = some (.lst vs)) : ValP K H (.ref a) false := .other (.base (.lst h)) (kit_ty (by decide))
theorem non_pt : ValP K H .non false := .other (.base .non) (kit_ty (by decide))
theorem bad_other {v : V} {n : String} (t : TyX K H v (.type n)) (h1 : PySem.W.kitOne K (.type n) (.type "list") = some false) (h2 : PySem.W.kitOne K (.type n) (.type "tuple") = some false) : BadPts K H v := .other t (kitAny_cons (b := false) h1 (fun _ => kitAny_cons (b := false) h2 (fun _ => rfl) (fun z => nomatch z)) (fun z => nomatch z))
-- the seven of Zone
theorem w0_non : WrongAt K H 0 "points" .non := ⟨.inl ⟨rfl, rfl, bad_other (n := "NoneType") (.base .non) (kit_ty (by decide)) (kit_ty (by decide))⟩, shows_of .none (fun _ _ => .non) (by decide +kernel) (by decide +kernel) (by decide +kernel) (by decide +kernel) (by decide +kernel)⟩
theorem w0_nil (h : H a = some (.lst [])) : WrongAt K H 0 "points" (.ref a) := ⟨.inl ⟨rfl, rfl, .none (SqA.lst h) (SqA.ty (.inl h))⟩, shows_of (.list []) (dp_lst h fun _ _ => .nil) (by decide +kernel) (by decide +kernel) (by decide +kernel) (by decide +kernel) (by decide +kernel)⟩
theorem w0_tnil (h : H a = some (.tup [])) : WrongAt K H 0 "points" (.ref a) := ⟨.inl ⟨rfl, rfl, .none (SqA.tup h) (SqA.ty (.inr h))⟩, shows_of (.tuple []) (dp_tup h fun _ _ => .nil) (by decide +kernel) (by decide +kernel) (by decide +kernel) (by decide +kernel) (by decide +kernel)⟩
theorem w0_int : WrongAt K H 0 "points" (.int 5) := ⟨.inl ⟨rfl, rfl, bad_other (n := "int") (.base (.int _)) (kit_ty (by decide)) (kit_ty (by decide))⟩, shows_of (.int 5) (fun _ _ => .int _) (by decide +kernel) (by decide +kernel) (by decide +kernel) (by decide +kernel) (by decide +kernel)⟩
theorem good_pt {i j : Int} (h : H a = some (.tup [.int i, .int j])) : ValP K H (.ref a) true := .two h (.int i) (.int j)
theorem two_flags {p q : Bool} {u v : V} (hu : ValP K H u p) (hv : ValP K H v q) : ∀ (i : Nat) (x : V) (f : Bool), [u, v][i]? = some x → [p, q][i]? = some f → ValP K H x f := fun i x f e1 e2 => by
  match i, e1, e2 with
  | 0, e1, e2 =>
    cases e1
    cases e2
    exact hu
  | 1, e1, e2 =>
    cases e1
    cases e2
    exact hv
theorem w0_mix (ha : H a = some (.tup [.int 1, .int 2])) (hb : H b = some (.lst [.int 1, .int 2])) (hc : H c = some (.lst [.ref a, .ref b])) : WrongAt K H 0 "points" (.ref c) :=
  ⟨.inl ⟨rfl, rfl, .some (bs := [true, false]) (SqA.lst hc) (SqA.ty (.inl hc)) (fun z => nomatch z) (by show 2 ≤ 500; decide) rfl (two_flags (good_pt ha) (lst_pt hb)) (by simp)⟩,
    shows_of (.list [.tuple [.int 1, .int 2], .list [.int 1, .int 2]]) (dp_lst hc fun H' s => .cons (.tup (.inl (.inl (s _ _ ha))) (.cons (.int _) (.cons (.int _) .nil))) (.cons (.lst (SqL.of (s _ _ hb)) (.cons (.int _) (.cons (.int _) .nil))) .nil)) (by decide +kernel) (by decide +kernel) (by decide +kernel) (by decide +kernel) (by decide +kernel)⟩
theorem w0_three (ha : H a = some (.tup [.int 1, .int 2, .int 3])) (hc : H c = some (.lst [.ref a])) : WrongAt K H 0 "points" (.ref c) :=
  ⟨.inl ⟨rfl, rfl, .some (bs := [false]) (SqA.lst hc) (SqA.ty (.inl hc)) (fun z => nomatch z) (by show 1 ≤ 500; decide) rfl (fun i x f e1 e2 => by
    match i, e1, e2 with
    | 0, e1, e2 =>
      cases e1
      cases e2
      exact .len ha (by decide)) (by simp)⟩,
    shows_of (.list [.tuple [.int 1, .int 2, .int 3]]) (dp_lst hc fun H' s => .cons (.tup (.inl (.inl (s _ _ ha))) (.cons (.int _) (.cons (.int _) (.cons (.int _) .nil)))) .nil) (by decide +kernel) (by decide +kernel) (by decide +kernel) (by decide +kernel) (by decide +kernel)⟩
theorem w0_true (ha : H a = some (.tup [.int 1, .int 2])) (hb : H b = some (.tup [.bl true, .int 1])) (hc : H c = some (.lst [.ref a, .ref b])) : WrongAt K H 0 "points" (.ref c) :=
  ⟨.inl ⟨rfl, rfl, .some (bs := [true, false]) (SqA.lst hc) (SqA.ty (.inl hc)) (fun z => nomatch z) (by show 2 ≤ 500; decide) rfl (two_flags (good_pt ha) (.one hb (.other (.bl K H _) (.base (.bl _)) (kit_ty (by decide))))) (by simp)⟩,
    shows_of (.list [.tuple [.int 1, .int 2], .tuple [.bool true, .int 1]]) (dp_lst hc fun H' s => .cons (.tup (.inl (.inl (s _ _ ha))) (.cons (.int _) (.cons (.int _) .nil))) (.cons (.tup (.inl (.inl (s _ _ hb))) (.cons (.bl _) (.cons (.int _) .nil))) .nil)) (by decide +kernel) (by decide +kernel) (by decide +kernel) (by decide +kernel) (by decide +kernel)⟩
-- the four of lowest
theorem w1_non : WrongAt K H 1 "direction" .non := ⟨.inr (.inl ⟨rfl, rfl, .inl non_pt⟩), shows_of .none (fun _ _ => .non) (by decide +kernel) (by decide +kernel) (by decide +kernel) (by decide +kernel) (by decide +kernel)⟩
theorem w1_zero (h : H a = some (.tup [.int 0, .int 0])) : WrongAt K H 1 "direction" (.ref a) := ⟨.inr (.inl ⟨rfl, rfl, .inr ⟨a, .int 0, .int 0, rfl, h, .inl ⟨rfl, rfl⟩, .inl ⟨rfl, rfl⟩⟩⟩), shows_of (.tuple [.int 0, .int 0]) (dp_tup h fun _ _ => .cons (.int _) (.cons (.int _) .nil)) (by decide +kernel) (by decide +kernel) (by decide +kernel) (by decide +kernel) (by decide +kernel)⟩
theorem w1_lst (h : H a = some (.lst [.int 1, .int 0])) : WrongAt K H 1 "direction" (.ref a) := ⟨.inr (.inl ⟨rfl, rfl, .inl (lst_pt h)⟩), shows_of (.list [.int 1, .int 0]) (dp_lst h fun _ _ => .cons (.int _) (.cons (.int _) .nil)) (by decide +kernel) (by decide +kernel) (by decide +kernel) (by decide +kernel) (by decide +kernel)⟩
theorem w1_half (h : H a = some (.tup [.int 1, .non])) : WrongAt K H 1 "direction" (.ref a) := ⟨.inr (.inl ⟨rfl, rfl, .inl (.two h (.int 1) (no_val rfl))⟩), shows_of (.tuple [.int 1, .none]) (dp_tup h fun _ _ => .cons (.int _) (.cons .non .nil)) (by decide +kernel) (by decide +kernel) (by decide +kernel) (by decide +kernel) (by decide +kernel)⟩
-- the five of grown
theorem w2_non : WrongAt K H 2 "grown" .non := ⟨.inr (.inr ⟨rfl, rfl, .inl (no_val rfl)⟩), shows_of .none (fun _ _ => .non) (by decide +kernel) (by decide +kernel) (by decide +kernel) (by decide +kernel) (by decide +kernel)⟩
theorem w2_neg : WrongAt K H 2 "grown" (.int (-1)) := ⟨.inr (.inr ⟨rfl, rfl, .inr ⟨(-1, 1), .inl ⟨rfl, rfl⟩, by decide⟩⟩), shows_of (.int (-1)) (fun _ _ => .int _) (by decide +kernel) (by decide +kernel) (by decide +kernel) (by decide +kernel) (by decide +kernel)⟩
theorem w2_ratio (h : H a = some (.tup [.int (-1), .int 7])) : WrongAt K H 2 "grown" (.ref a) := ⟨.inr (.inr ⟨rfl, rfl, .inr ⟨(-1, 7), .inr ⟨a, -1, 7, rfl, h, by decide, by decide +kernel, by decide +kernel, by decide, by decide⟩, by decide⟩⟩), shows_of (.tuple [.int (-1), .int 7]) (dp_tup h fun _ _ => .cons (.int _) (.cons (.int _) .nil)) (by decide +kernel) (by decide +kernel) (by decide +kernel) (by decide +kernel) (by decide +kernel)⟩
theorem w2_str : WrongAt K H 2 "grown" (.str "1") := ⟨.inr (.inr ⟨rfl, rfl, .inl (.other (.str K H _) (.base (.str _)) (kit_ty (by decide)))⟩), shows_of (.str "1") (fun _ _ => .str _) (by decide +kernel) (by decide +kernel) (by decide +kernel) (by decide +kernel) (by decide +kernel)⟩
theorem w2_true : WrongAt K H 2 "grown" (.bl true) := ⟨.inr (.inr ⟨rfl, rfl, .inl (.other (.bl K H _) (.base (.bl _)) (kit_ty (by decide)))⟩), shows_of (.bool true) (fun _ _ => .bl _) (by decide +kernel) (by decide +kernel) (by decide +kernel) (by decide +kernel) (by decide +kernel)⟩
end
/-! ### what is told of a refusal -/
def datW (wh z : Str) : PyData := .tuple [.str wh, .str z]
theorem dp_wh {K : PySem.W.Frag} {H : Hp} {p : Addr} {wh z : Str} (h : H p = some (.tup [.str wh, .str z])) : Dp K H (.ref p) (datW wh z) := .tup (.inl (.inl h)) (.cons (.str _) (.cons (.str _) .nil))
theorem datW_shaped {wh z : Str} (h1 : PyData.strOk wh = true) (h : PyData.strOk z = true) : SeqAt.shaped (datW wh z) = true := by simp [datW, SeqAt.shaped, PyData.canLay0, PyData.canLayAll0, h1, h, PyData.depth, PyData.depthAll]
theorem datW_refl {wh z : Str} (h1 : PyData.strOk wh = true) (h : PyData.strOk z = true) : PyData.eqv (datW wh z) (datW wh z) = true := SeqAt.eqv_refl _ (SeqAt.canLay_of_shaped (datW_shaped h1 h))
end Fk

set_option Elab.async false
set_option maxRecDepth 100000
set_option maxHeartbeats 2000000
set_option exponentiation.threshold 20000
/-! The law. -/
namespace Fk
open PySem PySem.Spec L2 PyProof.Rows
theorem dry {P : Program} {w : World} {K : PySem.W.Frag} {mg : Str → Option Value} {base : Heap} {k : Nat} {f : Addr} {fd : FuncData} {ps : List Str} {sp : Sp} (F : FnOk P w K mg base (L2.CX P w) k f fd ps sp) : FnOk P w K mg base CX0 k f fd ps (fun vs H Q _ => sp vs H Q fun _ _ _ => False) :=
  ⟨fun vs H Q _ h => F.len vs H Q _ h, fun A outer s H args us vs Q E hr he hb hv hs => codeAny_mono (F.run A outer s H args us vs Q _ hr he hb hv hs) fun r s' hh => by
    cases r with
    | error e =>
      obtain ⟨_, _, _, _, _, _, _, _, _, _, _, _, h⟩ := hh
      exact h.elim
    | ok fl => cases fl <;> exact hh⟩
theorem call_tuple_ofK {X : Cx} {K : PySem.W.Frag} (hK : X.K = K) : CallR X (.type "tuple") (fun xs H Q => ∃ p ys, xs = [.ref p] ∧ ((SqL K H p ys ∧ ∀ l, H l = none → Q (.ref l) (upd H l (.tup ys))) ∨ (SqT K H p ys ∧ Q (.ref p) H))) := hK ▸ call_tuple_of
abbrev sLaw : Stmt := top 61
abbrev nsLaw : List Str := ["_law_script", "_law_pen_here", "_law_turn", "_law_points_here", "_law_passed_here", "_law_kept", "_law_zone", "_law_c", "_law_by", "_law_odd", "_law_wrong", "_law_less_here", "_law_point"]
def spLaw (K : PySem.W.Frag) : Sp := fun vs H Q _ => ∃ (a : Addr) (ns : List Int), vs = [.ref a] ∧ SqL K H a (ns.map V.int) ∧ ns.length ≤ 63 ∧ ∀ H', Q (.bl true) H'
theorem make_y {K : PySem.W.Frag} {C CN q : Addr} {H : Hp} {vs : List V} {xs : List Po} {M : Int} {R : Hp → Prop} (hq : H q = some (.lst vs) ∨ H q = some (.tup vs)) (hl : LowsAt H vs xs) (ne : xs ≠ []) (l5 : xs.length ≤ 500) (ok : ∀ x ∈ xs, PtOk M x) (M0 : 0 < M) (M1 : Bd 1000 M) {z dz : Addr} (hz : H z = none) (hdz : H dz = none) (nz : dz ≠ z) (k : ∀ cs H', Same H H' → ZnAt C H' z cs → HullP xs cs → R H') :
    spZInit K C CN [.ref z, .ref q] (upd (upd H dz (.own z)) z (.ins C dz [])) (fun v H2 => v = .non ∧ R H2) (fun _ _ _ => False) :=
  make_z (R := fun v H' => v = .ref z → R H') hq hl ne l5 ok M0 M1 (fun z' cs H' s hz' hh e => by
    cases e
    exact k cs H' s hz' hh) z dz hz hdz nz |> fun h => by
    obtain ⟨a, b, c, d, e, f⟩ := h
    refine ⟨a, b, c, d, e, ?_⟩
    rcases f with ⟨p1, p2, p3, p4, p5, p6, p7, p8, p9, p10, p11, p12, f⟩ | f
    · exact .inl ⟨p1, p2, p3, p4, p5, p6, p7, p8, p9, p10, p11, p12, fun cs H' kk hz' hull => (f cs H' kk hz' hull).imp id fun g => g rfl⟩
    · exact .inr f
/-- the four that are no direction -/
def DirV (H : Hp) (v : V) : Prop := v = .non ∨ (∃ a, v = .ref a ∧ H a = some (.tup [.int 0, .int 0])) ∨ (∃ a, v = .ref a ∧ H a = some (.lst [.int 1, .int 0])) ∨ (∃ a, v = .ref a ∧ H a = some (.tup [.int 1, .non]))
theorem DirV.same {H H' : Hp} {v : V} (h : DirV H v) (s : Same H H') : DirV H' v := h.imp id (fun h => h.imp (fun ⟨a, e, h⟩ => ⟨a, e, s _ _ h⟩) fun h => h.imp (fun ⟨a, e, h⟩ => ⟨a, e, s _ _ h⟩) fun ⟨a, e, h⟩ => ⟨a, e, s _ _ h⟩)
theorem DirV.keep {H H' : Hp} {p l : Addr} {c : Int} {v : V} (h : DirV H v) (P : PenAt H p l c) (k : Keep p H H') : DirV H' v := h.imp id (fun h => h.imp (fun ⟨a, e, h⟩ => ⟨a, e, k.tup P h⟩) fun h => h.imp (fun ⟨a, e, h⟩ => ⟨a, e, k.lst P h⟩) fun ⟨a, e, h⟩ => ⟨a, e, k.tup P h⟩)
theorem DirV.wrong {K : PySem.W.Frag} {H : Hp} {v : V} (h : DirV H v) : WrongAt K H 1 "direction" v := by
  rcases h with rfl | ⟨a, rfl, h⟩ | ⟨a, rfl, h⟩ | ⟨a, rfl, h⟩
  · exact w1_non
  · exact w1_zero h
  · exact w1_lst h
  · exact w1_half h
structure LC (P : Program) (w : World) (K : PySem.W.Frag) (mg : Str → Option Value) (base : Heap) (C CN fN fD fC fQ fR fS fG fPt fPP fCR fIn fLo fGr fZ fE fL fGw fI fRf : Addr) (dN dD dC dQ dR dS dG dPt dPP dCR dIn dLo dGr dZ dE dL dGw dI dRf : FuncData) : Prop where
  N : Cl P w K mg base "_law_pen" ["_law_script"] 1 (spPen K) fN dN
  D : Cl P w K mg base "_law_draw" psDraw 1 spDraw fD dD
  Ck : Cl P w K mg base "_law_pick" psPick 2 spPick fC dC
  Qc : Cl P w K mg base "_law_q" psQ 2 spQ fQ dQ
  R : Cl P w K mg base "_law_ratio" psBig 4 spLRatio fR dR
  S : Cl P w K mg base "_law_passed" psLPassed 2 spLPassed fS dS
  G : Cl P w K mg base "_law_direction" psLDir 5 spLDir fG dG
  Pt : Cl P w K mg base "_law_points" psLDir 6 spLPts fPt dPt
  PP : Cl P w K mg base "_law_passed_point" psLPP 3 spLPP fPP dPP
  CR : Cl P w K mg base "_law_corners_right" psLCR 5 spLCR fCR dCR
  In : Cl P w K mg base "_law_inside_right" psLIn 6 (spLIn C) fIn dIn
  Lo : Cl P w K mg base "_law_lowest" psLLo 5 spLLowest fLo dLo
  Gr : Cl P w K mg base "_law_grown" psLGr 4 spLGrown fGr dGr
  V : VCls K C znK
  ZM : Mk K C fZ
  ZG : FnOk P w K mg base (L2.CX P w) 4 fZ dZ psZI (spZInit K C CN)
  Zg : mg "Zone" = some (.ref C)
  Zb : Binds K dZ psZI []
  EG : FnOk P w K mg base CX0 1 fE dE psZE (spZEq C)
  Es : PySem.W.findIn K (.ref C) "__eq__" = some (some (.ref fE))
  Ef : PySem.W.isFn K (.ref fE) = true
  Eb : Binds K dE psZE []
  En : PySem.W.notFirst K C (.type "tuple") = true
  Lm : Meth K C "lowest" fL
  LG : FnOk P w K mg base (L2.CX P w) 5 fL dL psZL (spZLow K C CN)
  Lb : Binds K dL psZL []
  Gm : Meth K C "grown" fGw
  GG : FnOk P w K mg base (L2.CX P w) 6 fGw dGw psZG (spZGr K C CN)
  Gb : Binds K dGw psZG []
  I : ZIn P w K mg base C fI dI
  rG : FnG P w K mg base 7 fRf dRf psRefused (spLRef K C)
  rg : mg "_law_refused" = some (.ref fRf)
  rk : PySem.W.keepIn K (.ref fRf) = true
  rb : Binds K dRf psRefused []
  mr : mg "range" = none
  ml : mg "list" = none
  mt : mg "tuple" = none
  ma : mg "abs" = none
  mp : mg "repr" = none
section
variable {P : Program} {w : World} {K : PySem.W.Frag} {mg : Str → Option Value} {base : Heap}
theorem scLaw : FnScope nsLaw ["_law_script"] (defScope sLaw) := ⟨rfl, rfl, rfl, by decide +kernel, rfl, by decide +kernel, by decide +kernel⟩
theorem ok_law {f C CN fN fD fC fQ fR fS fG fPt fPP fCR fIn fLo fGr fZ fE fL fGw fI fRf : Addr} {fd dN dD dC dQ dR dS dG dPt dPP dCR dIn dLo dGr dZ dE dL dGw dI dRf : FuncData} (F : Fun K "law" "law" sLaw f fd) (L : LC P w K mg base C CN fN fD fC fQ fR fS fG fPt fPP fCR fIn fLo fGr fZ fE fL fGw fI fRf dN dD dC dQ dR dS dG dPt dPP dCR dIn dLo dGr dZ dE dL dGw dI dRf) : FnG P w K mg base 8 f fd ["_law_script"] (spLaw K) := by
  refine fun_okG F scLaw (fun vs H Q E h => ?_) (fun cdv A outer s H vs Q E hG hr h => ?_)
  · obtain ⟨a, ns, rfl, _⟩ := h
    rfl
  obtain ⟨a, ns, rfl, hS, hl, k⟩ := h
  have hr1 := hr.mono (show 1 ≤ 7 by decide)
  have hr2 := hr.mono (show 2 ≤ 7 by decide)
  have hr3 := hr.mono (show 3 ≤ 7 by decide)
  have hr4 := hr.mono (show 4 ≤ 7 by decide)
  have hr5 := hr.mono (show 5 ≤ 7 by decide)
  have hr6 := hr.mono (show 6 ≤ 7 by decide)
  have dZi := dry L.ZG
  have dLw := dry L.LG
  have dGn := dry L.GG
  refine ⟨_, pss_cons (ps_set (i := 1) scLaw.nd rfl (Or.inr rfl) (pe_call L.N.G hr1 (by rfl) L.N.g L.N.kp L.N.b .nil pass0 (pa_cons (pv 0) pa_nil)))
    (C8.pss_cut (ps_for PassesOwn.never rfl (pi_range1 (by rfl) L.mr (pa_cons pe_int pa_nil)) (pg_name (i := 2) scLaw.nd rfl (Or.inl rfl))
      (C8.pss_cut (ps_set (i := 3) scLaw.nd rfl (Or.inl rfl) (pe_call L.Pt.G hr6 (by rfl) L.Pt.g L.Pt.kp L.Pt.b .nil pass0 (pa_cons (pv 1) pa_nil)))
      (C8.pss_cut (ps_setLc (i := 4) (own := [("_law_point", 12)]) (g := gName 12) (tt := tYes) rfl scLaw.nd rfl rfl (sw_true rfl rfl rfl (by decide +kernel)) (pi_listK (K := K) rfl (pv 3)) (blkOk_by (N := nsLaw) (sc := defScope sLaw) (by decide +kernel)) (fun _ _ _ _ _ => pg_name (i := 12) scLaw.nd rfl (Or.inl rfl)) (fun _ _ _ _ _ => pts_nil)
          (fun _ _ _ _ _ => pe_call L.PP.G hr3 (by rfl) L.PP.g L.PP.kp L.PP.b .nil pass0 (pa_cons (pv 1) (pa_cons (pv 12) pa_nil))))
      (C8.pss_cut (ps_set (i := 5) scLaw.nd rfl (Or.inl rfl) (pe_callTy call_list_of (by rfl) L.ml (by decide +kernel) (pa_cons (pv 4) pa_nil)))
      (C8.pss_cut (ps_set (i := 6) scLaw.nd rfl (Or.inl rfl) (pe_ifExp (pt_cmpR op_eq (pe_call L.D.G hr1 (by rfl) L.D.g L.D.kp L.D.b .nil pass0 (pa_cons (pv 1) (pa_cons pe_int pa_nil))) pe_int (nomark _)) (pe_make L.ZM dZi hr5 (by rfl) L.Zg L.Zb .nil pass0 (pa_cons (pv 4) pa_nil))
          (pe_make L.ZM dZi hr5 (by rfl) L.Zg L.Zb .nil pass0 (pa_cons (pe_callTy call_tuple_of (by rfl) L.mt (by decide +kernel) (pa_cons (pv 4) pa_nil)) pa_nil))))
      (C8.pss_cut (ps_expr (pe_bm PySem.F.plainAttrs_list PySem.F.slot_list_append PySem.F.type_list_append mt_append (pv 4) (pa_cons (pe_tup (pa_cons (pe_op op_pow pe_int pe_int) (pa_cons pe_int pa_nil))) pa_nil)))
      (C8.pss_cut (ps_if (PW.pt (pw_or (pt_not (pt_val (pe_call L.CR.G hr5 (by rfl) L.CR.g L.CR.kp L.CR.b .nil pass0 (pa_cons (pe_fld (pv 6) rfl) (pa_cons (pv 3) pa_nil))))) (pw_or1 (pt_not (pt_val (pe_call L.In.G hr6 (by rfl) L.In.g L.In.kp L.In.b .nil pass0 (pa_cons (pv 1) (pa_cons (pv 6) (pa_cons (pv 3) pa_nil)))))))))
          (pss_one (ps_ret pe_bl)) pss_nil)
      (C8.pss_cut (ps_set (i := 7) scLaw.nd rfl (Or.inl rfl) (pe_call L.G.G hr5 (by rfl) L.G.g L.G.kp L.G.b .nil pass0 (pa_cons (pv 1) pa_nil)))
      (C8.pss_cut (ps_if (pt_cmpR (op_neDK (K := K) rfl hr.units) (pe_meth (pv 6) L.V.cl L.Lm dLw hr5 L.Lb .nil pass0 (pa_cons (pe_call L.PP.G hr3 (by rfl) L.PP.g L.PP.kp L.PP.b .nil pass0 (pa_cons (pv 1) (pa_cons (pv 7) pa_nil))) pa_nil)) (pe_call L.Lo.G hr5 (by rfl) L.Lo.g L.Lo.kp L.Lo.b .nil pass0 (pa_cons (pv 3) (pa_cons (pv 7) pa_nil))) (nomark _))
          (pss_one (ps_ret pe_bl)) pss_nil)
      (C8.pss_cut (ps_set (i := 8) scLaw.nd rfl (Or.inl rfl) (pe_call L.Ck.G hr2 (by rfl) L.Ck.g L.Ck.kp L.Ck.b .nil pass0 (pa_cons (pv 1) (pa_cons (pe_lst (pa_cons (pe_tup (pa_cons pe_int (pa_cons pe_int pa_nil))) (pa_cons (pe_tup (pa_cons pe_int (pa_cons pe_int pa_nil)))
          (pa_cons (pe_tup (pa_cons (pe_callB call_abs (by rfl) L.ma (by decide +kernel) (pa_cons (pe_ix ix_tup (pe_call L.R.G hr4 (by rfl) L.R.g L.R.kp L.R.b .nil pass0 (pa_cons (pv 1) (pa_cons pe_int pa_nil))) pe_int (fun _ _ => rfl)) pa_nil)) (pa_cons pe_int pa_nil))) pa_nil)))) pa_nil))))
      (C8.pss_cut (ps_set (i := 8) scLaw.nd rfl (Or.inl rfl) (pe_call L.Qc.G hr2 (by rfl) L.Qc.g L.Qc.kp L.Qc.b .nil pass0 (pa_cons (pe_ix ix_tup (pv 8) pe_int (fun _ _ => rfl)) (pa_cons (pe_ix ix_tup (pv 8) pe_int (fun _ _ => rfl)) pa_nil))))
      (C8.pss_cut (ps_if (pt_not (pt_val (pe_call L.CR.G hr5 (by rfl) L.CR.g L.CR.kp L.CR.b .nil pass0 (pa_cons (pe_fld (pe_meth (pv 6) L.V.cl L.Gm dGn hr6 L.Gb .nil pass0 (pa_cons (pe_call L.S.G hr2 (by rfl) L.S.g L.S.kp L.S.b .nil pass0 (pa_cons (pv 1) (pa_cons (pv 8) pa_nil))) pa_nil)) rfl)
            (pa_cons (pe_call L.Gr.G hr4 (by rfl) L.Gr.g L.Gr.kp L.Gr.b .nil pass0 (pa_cons (pv 3) (pa_cons (pv 8) pa_nil))) pa_nil))))) (pss_one (ps_ret pe_bl)) pss_nil)
      (C8.pss_cut (ps_if (PW.pt (pw_or (pt_not (pt_cmpR (op_ownEq L.EG L.Es L.Ef L.Eb hr1 L.En) (pv 6) (pe_make L.ZM dZi hr5 (by rfl) L.Zg L.Zb .nil pass0 (pa_cons (pe_revL (pv 5)) pa_nil)) (nomark _)))
          (pw_or (pt_cmpR (op_ownEq L.EG L.Es L.Ef L.Eb hr1 L.En) (pv 6) (pe_make L.ZM dZi hr5 (by rfl) L.Zg L.Zb .nil pass0 (pa_cons (pe_op op_cat (pv 5) (pe_lst (pa_cons (pe_tup (pa_cons (pe_op op_pow pe_int pe_int) (pa_cons pe_int pa_nil))) pa_nil))) pa_nil)) (nomark _))
          (pw_or1 (pt_cmpR (op_ownEq L.EG L.Es L.Ef L.Eb hr1 L.En) (pv 6) (pe_fld (pv 6) rfl) (nomark _)))))) (pss_one (ps_ret pe_bl)) pss_nil)
      (C8.pss_cut (ps_for PassesOwn.never rfl (pi_list (pe_lst (pa_cons pe_non (pa_cons (pe_lst (pa_cons pe_int (pa_cons pe_int pa_nil))) (pa_cons (pe_tup (pa_cons pe_int pa_nil)) (pa_cons (pe_tup (pa_cons pe_int (pa_cons pe_non pa_nil))) (pa_cons (pe_tup (pa_cons pe_int (pa_cons pe_int (pa_cons pe_int pa_nil))))
            (pa_cons (pe_tup (pa_cons (pe_tup (pa_cons pe_int (pa_cons pe_int pa_nil))) (pa_cons pe_int pa_nil))) (pa_cons pe_str (pa_cons pe_int pa_nil)))))))))) (pg_name (i := 9) scLaw.nd rfl (Or.inl rfl))
          (pss_one (ps_if (pt_cmpR (op_ownIn L.I.G L.I.s L.I.fn L.I.b hr5) (pv 9) (pv 6) (by rfl)) (pss_one (ps_ret pe_bl)) pss_nil)))
      (C8.pss_cut (ps_set (i := 10) scLaw.nd rfl (Or.inl rfl) (pe_ix ix_list (pe_lst (pa_cons pe_non (pa_cons (pe_lst pa_nil) (pa_cons (pe_tup pa_nil) (pa_cons pe_int (pa_cons (pe_lst (pa_cons (pe_tup (pa_cons pe_int (pa_cons pe_int pa_nil))) (pa_cons (pe_lst (pa_cons pe_int (pa_cons pe_int pa_nil))) pa_nil)))
            (pa_cons (pe_lst (pa_cons (pe_tup (pa_cons pe_int (pa_cons pe_int (pa_cons pe_int pa_nil)))) pa_nil)) (pa_cons (pe_lst (pa_cons (pe_tup (pa_cons pe_int (pa_cons pe_int pa_nil))) (pa_cons (pe_tup (pa_cons pe_bl (pa_cons pe_int pa_nil))) pa_nil))) pa_nil))))))))
          (pe_call L.D.G hr1 (by rfl) L.D.g L.D.kp L.D.b .nil pass0 (pa_cons (pv 1) (pa_cons pe_int pa_nil))) (fun _ _ => rfl)))
      (C8.pss_cut (ps_if (pt_cmpR (op_neDK (K := K) rfl hr.units) (pe_callGd L.rG hG hr (by rfl) L.rg L.rk L.rb (pa_cons pe_int (pa_cons (pv 6) (pa_cons (pv 10) pa_nil)))) (pe_tup (pa_cons pe_str (pa_cons (pe_callB (call_reprVK (K := K) rfl hG hr.units) (by rfl) L.mp (by decide +kernel) (pa_cons (pv 10) pa_nil)) pa_nil))) (nomark _)) (pss_one (ps_ret pe_bl)) pss_nil)
      (C8.pss_cut (ps_set (i := 10) scLaw.nd rfl (Or.inl rfl) (pe_ix ix_list (pe_lst (pa_cons pe_non (pa_cons (pe_tup (pa_cons pe_int (pa_cons pe_int pa_nil))) (pa_cons (pe_lst (pa_cons pe_int (pa_cons pe_int pa_nil))) (pa_cons (pe_tup (pa_cons pe_int (pa_cons pe_non pa_nil))) pa_nil)))))
          (pe_call L.D.G hr1 (by rfl) L.D.g L.D.kp L.D.b .nil pass0 (pa_cons (pv 1) (pa_cons pe_int pa_nil))) (fun _ _ => rfl)))
      (C8.pss_cut (ps_set (i := 11) scLaw.nd rfl (Or.inl rfl) (pe_ix ix_list (pe_lst (pa_cons pe_non (pa_cons (pe_un un_neg pe_int) (pa_cons (pe_tup (pa_cons (pe_un un_neg pe_int) (pa_cons pe_int pa_nil))) (pa_cons pe_str (pa_cons pe_bl pa_nil))))))
          (pe_call L.D.G hr1 (by rfl) L.D.g L.D.kp L.D.b .nil pass0 (pa_cons (pv 1) (pa_cons pe_int pa_nil))) (fun _ _ => rfl)))
      (C8.pss_cut (ps_if (pt_cmpR (op_neDK (K := K) rfl hr.units) (pe_callGd L.rG hG hr (by rfl) L.rg L.rk L.rb (pa_cons pe_int (pa_cons (pv 6) (pa_cons (pv 10) pa_nil)))) (pe_tup (pa_cons pe_str (pa_cons (pe_callB (call_reprVK (K := K) rfl hG hr.units) (by rfl) L.mp (by decide +kernel) (pa_cons (pv 10) pa_nil)) pa_nil))) (nomark _)) (pss_one (ps_ret pe_bl)) pss_nil)
      (pss_one (ps_if (pt_cmpR (op_neDK (K := K) rfl hr.units) (pe_callGd L.rG hG hr (by rfl) L.rg L.rk L.rb (pa_cons pe_int (pa_cons (pv 6) (pa_cons (pv 11) pa_nil)))) (pe_tup (pa_cons pe_str (pa_cons (pe_callB (call_reprVK (K := K) rfl hG hr.units) (by rfl) L.mp (by decide +kernel) (pa_cons (pv 11) pa_nil)) pa_nil))) (nomark _)) (pss_one (ps_ret pe_bl)) pss_nil)))))))))))))))))))))
    (pss_one (ps_ret pe_bl))), ?_⟩
  refine ⟨_, rfl, a, ns, rfl, hS, hl, fun p l H1 s1 n1 n2 P1 => ?_⟩
  refine ⟨fun σ' H' => True, ?_, fun _ H' _ => k H'⟩
  refine ⟨_, rfl, by decide, by decide, ?_⟩
  refine for_range (lo := 0) (n := 3) (fun i σ H2 => ∃ (c' : Int) (v2 v3 v4 v5 v6 v7 v8 v9 v10 v11 : Option V), σ = [some (.ref a), some (.ref p), v2, v3, v4, v5, v6, v7, v8, v9, v10, v11, none] ∧ PenAt H2 p l c' ∧ 0 ≤ c' ∧ c' ≤ 6000 * (i : Int)) ⟨0, none, none, none, none, none, none, none, none, none, none, rfl, P1, by decide, by decide⟩ ?_ (fun _ _ _ => trivial)
  rintro i σ H2 hi ⟨c2, v2, v3, v4, v5, v6, v7, v8, v9, v10, v11, rfl, P2, c0, hc⟩
  have i3 : (i : Int) ≤ 2 := by omega
  -- the points
  refine ⟨fun σ' H' => ∃ pl ps pts M c', σ' = [some (.ref a), some (.ref p), some (.int (0 + (i : Int))), some (.ref pl), v4, v5, v6, v7, v8, v9, v10, v11, none] ∧ PenAt H' p l c' ∧ c2 ≤ c' ∧ c' ≤ c2 + 3000 ∧ H' pl = some (.lst (rv ps)) ∧ PtsAt H' ps pts ∧ PtsV M pts, ?_, ?_⟩
  · exact ⟨_, rfl, p, l, c2, rfl, P2, by omega, fun r ps xs M c' H3 k3 P3 b1 b2 hr' hx V _ => ⟨r, ps, xs, M, c', rfl, P3, b1, b2, hr', hx, V⟩⟩
  rintro σ3 H3 ⟨pl, ps, pts, M, c3, rfl, P3, b1, b2, hl3, hX3, VV⟩
  have lps : (rv ps).length = pts.length := by rw [rv_len, hX3.1]
  have l11 := VV.ln
  have l0 : 0 < pts.length := List.length_pos_iff.mpr VV.ne
  have fp : ∀ x ∈ pts, FineP 600 x ∧ Fit 600 600 x.1 ∧ Fit 600 600 x.2 := fun x hx => (VV.pv x hx).fine VV.M0 VV.M1 (by decide)
  -- passed
  refine ⟨fun σ' H' => ∃ D us c', σ' = [some (.ref a), some (.ref p), some (.int (0 + (i : Int))), some (.ref pl), some (.ref D), v5, v6, v7, v8, v9, v10, v11, none] ∧ PenAt H' p l c' ∧ c2 ≤ c' ∧ c' ≤ c2 + 3050 ∧ H' pl = some (.lst (rv ps)) ∧ PtsAt H' ps pts ∧ H' D = some (.lst us) ∧ LowsAt H' us pts ∧ D ≠ pl ∧ D ≠ l, ?_, ?_⟩
  · refine ⟨_, rfl, pl, rfl, ⟨_, SqL.of hl3⟩, fun D hD => ?_⟩
    have nDl := new_ne P3 hD
    have nDp : D ≠ pl := fun e => by
      rw [e, hl3] at hD
      cases hD
    refine lc_list (K := K) (a := pl) (xs := rv ps) (fun j H' => ∃ us c', Keep p H3 H' ∧ PenAt H' p l c' ∧ c3 ≤ c' ∧ c' ≤ c3 + 4 * (j : Int) ∧ H' D = some (.lst us) ∧ LowsAt H' us (pts.take j)) ⟨[], c3, Keep.new hD, P3.upd hD, by omega, by omega, upd_same, rfl, fun i v x hx => nomatch hx⟩ (fun j H' _ ⟨_, _, q, _⟩ => SqL.of (q.lst P3 hl3)) ?_ ?_
    · rintro j y H4 hj ⟨us, c4, k4, P4, d1, d2, hD4, hu4⟩
      obtain ⟨q, x, rfl, _, hx3, hq⟩ := (k4.pts P3 hX3).get hj
      have hjl : j < pts.length := (List.getElem?_eq_some_iff.mp hx3).1
      obtain ⟨_, ft1, ft2⟩ := fp x (List.mem_of_getElem? hx3)
      refine ⟨rfl, yesT ?_⟩
      refine ⟨_, rfl, _, rfl, p, l, q, c4, x, rfl, P4, by omega, hq, ft1, ft2, fun v c5 H5 k5 P5 d3 d4 hv => ?_⟩
      have hD5 := k5.lst P4 hD4
      have hu5 := k5.lows P4 hu4
      have lu := hu4.1
      rw [List.length_take] at lu
      refine ⟨us, hD5, small1000 (by omega), us ++ [v], c5, fun b o nb hb => ?_, P5.set hD5 nDl, by omega, by omega, upd_same, ?_⟩
      · rw [upd_ne (ne_of_none hb hD)]
        exact (k4.trans k5) _ _ nb hb
      · have e : pts.take (j + 1) = pts.take j ++ [x] := by
          rw [List.take_add_one, hx3]
          rfl
        rw [e]
        exact (hu5.add hv).upd hD5
    · rintro H4 ⟨us, c4, k4, P4, d1, d2, hD4, hu4⟩
      rw [lps] at d2
      rw [lps, List.take_length] at hu4
      exact ⟨D, us, c4, rfl, P4, by omega, by omega, k4.lst P3 hl3, k4.pts P3 hX3, hD4, hu4, nDp, nDl⟩
  rintro σ4 H4 ⟨D, us, c4, rfl, P4, b3, b4, hl4, hX4, hD4, hu4, nDp, nDl⟩
  have lus := hu4.1
  -- kept
  refine ⟨fun σ' H' => ∃ kl, σ' = [some (.ref a), some (.ref p), some (.int (0 + (i : Int))), some (.ref pl), some (.ref D), some (.ref kl), v6, v7, v8, v9, v10, v11, none] ∧ Same H4 H' ∧ H' kl = some (.lst us) ∧ D ≠ kl, ?_, ?_⟩
  · refine ⟨_, rfl, D, us, rfl, .inl (SqL.of hD4), fun kl hkl => ⟨kl, rfl, same_new hkl, upd_same, fun e => ?_⟩⟩
    rw [← e, hD4] at hkl
    cases hkl
  rintro σ5 H5 ⟨kl, rfl, s5, hk5, nDk⟩
  have P5 := P4.same s5
  -- the zone
  have pok : ∀ x ∈ pts, PtOk M x := fun x hx => (VV.pv x hx).ptOk VV.M0 VV.M1 (by decide)
  have M1k : Bd 1000 M := VV.M1.mono (by decide)
  refine ⟨fun σ' H' => ∃ z cs c', σ' = [some (.ref a), some (.ref p), some (.int (0 + (i : Int))), some (.ref pl), some (.ref D), some (.ref kl), some (.ref z), v7, v8, v9, v10, v11, none] ∧ ZSt C p l pl z kl c2 c' 3051 ps us pts cs M H' ∧ H' D = some (.lst us), ?_, ?_⟩
  · have fin : ∀ {H6 : Hp} {z : Addr} {cs : List Po} {c' : Int}, Same H5 H6 → PenAt H6 p l c' → c4 ≤ c' → c' ≤ c4 + 1 → ZnAt C H6 z cs → HullP pts cs → ZSt C p l pl z kl c2 c' 3051 ps us pts cs M H6 := fun {H6 z cs c'} s6 P6 d1 d2 hz hh => ⟨P6, by omega, by omega, (s5.trans s6) _ _ hl4, hX4.same (s5.trans s6), hz, s6 _ _ hk5, hu4.same (s5.trans s6), hh.zn VV, hh, by
      have := hh.len VV.ne
      omega⟩
    have keepS : ∀ {H6 : Hp}, Keep p H5 H6 → H6 pl = some (.lst (rv ps)) ∧ PtsAt H6 ps pts ∧ H6 kl = some (.lst us) ∧ LowsAt H6 us pts ∧ H6 D = some (.lst us) := fun {H6} k6 => ⟨k6.lst P5 (s5 _ _ hl4), k6.pts P5 (hX4.same s5), k6.lst P5 hk5, k6.lows P5 (hu4.same s5), k6.lst P5 (s5 _ _ hD4)⟩
    refine ⟨_, rfl, p, l, c4, 2, rfl, P5, by omega, by decide, by decide, fun r H6 r0 r1 P6 k6 => ⟨rfl, _, rfl, ?_⟩⟩
    obtain ⟨g1, g2, g3, g4, g5⟩ := keepS k6
    have done : ∀ (z : Addr) (cs : List Po) (H' : Hp), Same H6 H' → ZnAt C H' z cs → HullP pts cs → ZSt C p l pl z kl c2 (c4 + 1) 3051 ps us pts cs M H' ∧ H' D = some (.lst us) := fun z cs H' s hz hh => ⟨⟨P6.same s, by omega, by omega, s _ _ g1, g2.same s, hz, s _ _ g3, g4.same s, hh.zn VV, hh, by
      have := hh.len VV.ne
      omega⟩, s _ _ g5⟩
    refine ite2 (fun _ => ?_) (fun _ => ?_)
    · refine ⟨_, rfl, fun z dz hz hdz nz => ?_⟩
      refine make_y (K := K) (M := M) (.inl g5) g4 VV.ne (by omega) pok VV.M0 M1k hz hdz nz fun cs H' s hz hh => ?_
      obtain ⟨e1, e2⟩ := done z cs H' s hz hh
      exact ⟨z, cs, _, rfl, e1, e2⟩
    · refine ⟨_, rfl, D, us, rfl, .inl ⟨SqL.of g5, fun tt htt => ?_⟩⟩
      have s7 := same_new (o := .tup us) htt
      intro z dz hz hdz nz
      refine make_y (K := K) (M := M) (.inr upd_same) (g4.same s7) VV.ne (by omega) pok VV.M0 M1k hz hdz nz fun cs H' s hz hh => ?_
      obtain ⟨e1, e2⟩ := done z cs H' (s7.trans s) hz hh
      exact ⟨z, cs, _, rfl, e1, e2⟩
  rintro σ6 H6 ⟨z, cs, c6, rfl, St6, hD6⟩
  -- one more passed, behind the zone's back
  refine ⟨fun σ' H' => σ' = [some (.ref a), some (.ref p), some (.int (0 + (i : Int))), some (.ref pl), some (.ref D), some (.ref kl), some (.ref z), v7, v8, v9, v10, v11, none] ∧ ZSt C p l pl z kl c2 c6 3051 ps us pts cs M H', ?_, ?_⟩
  · refine ⟨_, rfl, .inl ⟨rfl, _, SqL.of hD6⟩, 10, 35, rfl, rfl, ⟨by decide, by decide, by decide⟩, le2, fun t ht => ?_⟩
    have s7 := same_new (o := .tup [.int (10 ^ (35 : Int).toNat), .int 0]) ht
    have hD7 := s7 _ _ hD6
    have St7 := St6.same s7
    refine ⟨D, _, _, rfl, rfl, hD7, small1000 (by omega), rfl, ?_⟩
    exact ⟨St7.P.set hD7 nDl, St7.c1, St7.c2, by rw [upd_ne nDp.symm]; exact St7.hl, ⟨St7.hX.1, fun i q y e1 e2 => PtAt.upd hD7 (St7.hX.2 i q y e1 e2)⟩, St7.hz.upd hD7, by rw [upd_ne nDk.symm]; exact St7.hk, St7.hu.upd hD7, St7.Z, St7.hu2, St7.lc⟩
  rintro σ7 H7 ⟨rfl, St7⟩
  have Z := St7.Z
  have ok := St7.ok
  have lc := St7.lc
  have hull := St7.hu2
  -- corners, inside
  refine ⟨fun σ' H' => ∃ c', σ' = [some (.ref a), some (.ref p), some (.int (0 + (i : Int))), some (.ref pl), some (.ref D), some (.ref kl), some (.ref z), v7, v8, v9, v10, v11, none] ∧ ZSt C p l pl z kl c2 c' 3351 ps us pts cs M H', ?_, ?_⟩
  · obtain ⟨dx, r, qs, h1, h2, h3⟩ := id St7.hz
    refine ⟨_, rfl, z, C, dx, _, _, rfl, h1, L.V.cl, L.V.no _ (by decide +kernel), look_c r, _, rfl, r, pl, qs, ps, cs, pts, rfl, h2, h3, St7.hl, St7.hX, Z.right, by omega, fun H8 s8 => ⟨true, rfl, iteF ?_⟩⟩
    have St8 := St7.same s8
    have e8 := St8.c2
    refine ⟨_, rfl, _, rfl, _, rfl, p, l, z, pl, c6, ps, pts, cs, M, rfl, St8.P, by omega, St8.hz, St8.hl, St8.hX, Z, by omega, fun c' H9 k9 P9 d1 d2 => ⟨true, rfl, iteF ⟨c', rfl, St8.keep k9 P9 d1 (by omega)⟩⟩⟩
  rintro σ8 H8 ⟨c8, rfl, St8⟩
  have e8 := St8.c2
  -- a direction
  refine ⟨fun σ' H' => ∃ dr cv c', σ' = [some (.ref a), some (.ref p), some (.int (0 + (i : Int))), some (.ref pl), some (.ref D), some (.ref kl), some (.ref z), some (.ref dr), v8, v9, v10, v11, none] ∧ ZSt C p l pl z kl c2 c' 3451 ps us pts cs M H' ∧ PtAt H' dr cv ∧ DirOk cv, ?_, ?_⟩
  · exact ⟨_, rfl, p, l, c8, rfl, St8.P, by omega, fun dr cv c' H9 k9 P9 d1 d2 hd dd => ⟨dr, cv, c', rfl, St8.keep k9 P9 d1 (by omega), hd, dd⟩⟩
  rintro σ9 H9 ⟨dr, cv, c9, rfl, St9, hd9, dd⟩
  have e9 := St9.c2
  have dF : FineP 100 cv := ⟨⟨dd.a.p, dd.a.b1, dd.a.b2.mono (by decide)⟩, ⟨dd.b.p, dd.b.b1, dd.b.b2.mono (by decide)⟩⟩
  have dpos : 0 < cv.1.2 ∧ 0 < cv.2.2 := ⟨dd.a.p, dd.b.p⟩
  -- the least worth
  refine ⟨fun σ' H' => ∃ c', σ' = [some (.ref a), some (.ref p), some (.int (0 + (i : Int))), some (.ref pl), some (.ref D), some (.ref kl), some (.ref z), some (.ref dr), v8, v9, v10, v11, none] ∧ ZSt C p l pl z kl c2 c' 3455 ps us pts cs M H', ?_, ?_⟩
  · obtain ⟨dx, r, qs, h1, h2, h3⟩ := id St9.hz
    refine ⟨_, rfl, z, dx, _, rfl, h1, rfl, _, rfl, _, rfl, p, l, dr, c9, cv, rfl, St9.P, by omega, hd9, dd.a.mono (by decide) (by decide), dd.b.mono (by decide) (by decide), fun v c' H10 k10 P10 d1 d2 hv => ?_⟩
    have St10 := St9.keep (m := 3455) k10 P10 d1 (by omega)
    have hz10 := St10.hz
    obtain ⟨x, xs, rfl⟩ := List.exists_cons_of_ne_nil Z.ne
    refine ⟨z, x, xs, v, rfl, hz10, ok, .inl ⟨cv, hv, dd.n, dF.up (by decide), fun r2 H11 s11 hr2 => ?_⟩⟩
    have St11 := St10.same s11
    refine ⟨_, rfl, _, rfl, pl, dr, ps, pts, cv, rfl, St11.hl, St11.hX, (k10.pt St9.P hd9).same s11, VV.ne, by omega, dF.up (by decide), fun y hy => ⟨(fp y hy).1.up (by decide), (fine_wor dF (fp y hy).1).mono (by decide)⟩, fun r3 H12 s12 ⟨x0, hx0, hr3, hmin⟩ => ?_⟩
    refine ⟨datP _, datP _, dp_rat (hr2.same s12), dp_rat hr3, rat_shaped _, rat_shaped _, ?_⟩
    rw [eqv_rat, decide_eq_true (Z.lowest dpos hx0 hmin)]
    exact ⟨_, rfl, iteF ⟨c', rfl, St11.same s12⟩⟩
  rintro σ10 H10 ⟨c10, rfl, St10⟩
  have e10 := St10.c2
  -- how far to grow
  refine ⟨fun σ' H' => ∃ br u v c', σ' = [some (.ref a), some (.ref p), some (.int (0 + (i : Int))), some (.ref pl), some (.ref D), some (.ref kl), some (.ref z), some (.ref dr), some (.ref br), v9, v10, v11, none] ∧ ZSt C p l pl z kl c2 c' 3497 ps us pts cs M H' ∧ RatAt H' br (u, v) ∧ 0 ≤ u ∧ Bd 100 u ∧ 0 < v ∧ Bd 7 v, ?_, ?_⟩
  · refine ⟨_, rfl, le2, fun w1 hw1 => ⟨le2, fun w2 hw2 => ?_⟩⟩
    have t1 := same_new (o := .tup [.int 0, .int 1]) hw1
    have t2 := same_new (o := .tup [.int 1, .int 3]) hw2
    have St11 := St10.same (t1.trans t2)
    have g1 := t2 w1 _ (upd_same (H := H10) (a := w1) (o := .tup [.int 0, .int 1]))
    have g2 := upd_same (H := upd H10 w1 (.tup [.int 0, .int 1])) (a := w2) (o := .tup [.int 1, .int 3])
    generalize upd (upd H10 w1 (.tup [.int 0, .int 1])) w2 (.tup [.int 1, .int 3]) = H11 at St11 g1 g2 ⊢
    refine ⟨_, rfl, p, l, c10, 3, rfl, St11.P, by omega, by decide, by decide, fun q x c' H12 k12 P12 d1 d2 hq fx _ => ?_⟩
    have St12 := St11.keep (m := 3495) k12 P12 d1 (by omega)
    refine ⟨q, _, 0, _, rfl, rfl, .inl (.inl hq), rfl, _, rfl, ?_⟩
    rw [abs_if]
    refine ⟨le2, fun w3 hw3 => ⟨by show 3 ≤ sizeLine; decide, fun lz hlz => ?_⟩⟩
    have t3 := same_new (o := .tup [.int ((x.1.natAbs : Nat) : Int), .int 7]) hw3
    have t4 := same_new (o := .lst [.ref w1, .ref w2, .ref w3]) hlz
    have St13 := St12.same (t3.trans t4)
    refine ⟨p, l, lz, c', _, rfl, St13.P, by omega, upd_same, by show 0 < 3; decide, by show 3 ≤ 1000; decide, fun j y H14 hy P14 k14 => ?_⟩
    have St14 := St13.keep (m := 3497) k14 P14 (by omega) (by omega)
    have hm := List.mem_of_getElem? hy
    simp only [List.mem_cons, List.not_mem_nil, or_false] at hm
    have g12 := (t3.trans t4) _ _ (k12.tup St11.P g1)
    have g22 := (t3.trans t4) _ _ (k12.tup St11.P g2)
    rcases hm with rfl | rfl | rfl
    · exact ⟨w1, 0, 1, _, rfl, St14, k14.tup St13.P g12, by decide, zero_bd _, by decide, by unfold Bd; decide⟩
    · exact ⟨w2, 1, 3, _, rfl, St14, k14.tup St13.P g22, by decide, by unfold Bd; decide, by decide, by unfold Bd; decide⟩
    · refine ⟨w3, ((x.1.natAbs : Nat) : Int), 7, _, rfl, St14, k14.tup St13.P (t4 _ _ upd_same), by omega, ?_, by decide, by unfold Bd; decide⟩
      have := fx.b1
      unfold Bd at this ⊢
      rw [Int.natAbs_natCast]
      exact this
  rintro σ11 H11 ⟨b0, u, v, c11, rfl, St11, hb0, u0, ub, v0, vb⟩
  have e11 := St11.c2
  refine ⟨fun σ' H' => ∃ br f, σ' = [some (.ref a), some (.ref p), some (.int (0 + (i : Int))), some (.ref pl), some (.ref D), some (.ref kl), some (.ref z), some (.ref dr), some (.ref br), v9, v10, v11, none] ∧ ZSt C p l pl z kl c2 c11 3497 ps us pts cs M H' ∧ RatAt H' br f ∧ ByOk f, ?_, ?_⟩
  · refine ⟨_, rfl, b0, _, 0, _, rfl, rfl, .inl (.inl hb0), rfl, _, rfl, b0, _, 1, _, rfl, rfl, .inl (.inl hb0), rfl, u, v, rfl, v0, ub.big (by decide), vb.big (by decide), fun br H12 s12 hbr => ?_⟩
    have lo := low_fit v0 ub vb
    refine ⟨br, lowI u v, rfl, St11.same s12, hbr, lo.red, ?_, lo.b1, lo.b2⟩
    unfold lowI
    exact Int.ediv_nonneg u0 (by omega)
  rintro σ12 H12 ⟨br, f, rfl, St12, hbr, by_⟩
  have e12 := St12.c2
  have fF : Fit 100 7 f := ⟨by_.red.p, by_.red.g, by_.b1, by_.b2⟩
  -- grown
  refine ⟨fun σ' H' => ∃ c', σ' = [some (.ref a), some (.ref p), some (.int (0 + (i : Int))), some (.ref pl), some (.ref D), some (.ref kl), some (.ref z), some (.ref dr), some (.ref br), v9, v10, v11, none] ∧ ZSt C p l pl z kl c2 c' 3499 ps us pts cs M H', ?_, ?_⟩
  · obtain ⟨dx, r, qs, h1, h2, h3⟩ := id St12.hz
    refine ⟨_, rfl, z, dx, _, rfl, h1, rfl, _, rfl, _, rfl, p, l, br, c11, f, rfl, St12.P, by omega, hbr, fF.mono (by decide) (by decide), fun v' c' H13 k13 P13 d1 d2 hv => ?_⟩
    have St13 := St12.keep (m := 3499) k13 P13 d1 (by omega)
    have gok := Z.grOk by_ Z.sub
    refine ⟨z, cs, v', rfl, St13.hz, ok, .inl ⟨f, M * f.2, hv, by_.nn, ⟨fF.p, fF.b1.mono (by decide), fF.b2.mono (by decide)⟩, by omega, fun y hy => (gok y hy).1, Int.mul_pos VV.M0 fF.p, (VV.M1.mulB fF.b2).mono (by decide), fun z2 ds H14 s14 hz2 hull2 => ?_⟩⟩
    have St14 := St13.same s14
    obtain ⟨dx2, r2, qs2, i1, i2, i3'⟩ := id hz2
    refine ⟨z2, C, dx2, _, _, rfl, i1, L.V.cl, L.V.no _ (by decide +kernel), look_c r2, ?_⟩
    refine ⟨_, rfl, _, rfl, pl, br, ps, pts, f, rfl, St14.hl, St14.hX, (k13.rat St12.P hbr).same s14, ⟨fF.p, fF.b1.mono (by decide), fF.b2.mono (by decide)⟩, fun x hx => (fp x hx).1.up (by decide), by omega, fun g gs H15 s15 hg hgs => ?_⟩
    have lds : ds.length ≤ 1000 := by
      have ne : grF f cs ≠ [] := fun e => by
        have q := gr_len f cs
        rw [e] at q
        have := List.length_pos_iff.mpr Z.ne
        simp at q
        omega
      have := hull2.len ne
      rw [gr_len] at this
      omega
    exact ⟨r2, g, qs2, gs, ds, _, rfl, s15 _ _ i2, i3'.same s15, hg, hgs, Z.grown by_ hull2, lds, fun H16 s16 => ⟨true, rfl, iteF ⟨c', rfl, (St14.same s15).same s16⟩⟩⟩
  rintro σ13 H13 ⟨c13, rfl, St13⟩
  have e13 := St13.c2
  have pos : ∀ x ∈ pts, 0 < x.1.2 ∧ 0 < x.2.2 := fun x hx => ⟨(VV.pv x hx).red.a.p, (VV.pv x hx).red.b.p⟩
  -- equal, and not
  refine ⟨fun σ' H' => σ' = [some (.ref a), some (.ref p), some (.int (0 + (i : Int))), some (.ref pl), some (.ref D), some (.ref kl), some (.ref z), some (.ref dr), some (.ref br), v9, v10, v11, none] ∧ ZSt C p l pl z kl c2 c13 3499 ps us pts cs M H', ?_, ?_⟩
  · refine ⟨_, rfl, _, rfl, kl, us, rfl, SqL.of St13.hk, fun rl hrl => ?_⟩
    have s14 := same_new (o := .lst us.reverse) hrl
    have St14 := St13.same s14
    intro z2 dz hz hdz nz
    refine make_y (K := K) (M := M) (.inl upd_same) (St14.hu.rev) (fun e => VV.ne (List.reverse_eq_nil_iff.mp e)) (by rw [List.length_reverse]; omega) (fun x hx => pok x (List.mem_reverse.mp hx)) VV.M0 M1k hz hdz nz fun ds H15 s15 hz2 hull2 => ?_
    have St15 := St14.same s15
    have eq : cs = ds := hull.uniq pos VV.ne (fun x => List.mem_reverse.symm) hull2
    obtain ⟨dx, r, qs, h1, h2, h3⟩ := id St15.hz
    obtain ⟨dx2, r2, qs2, i1, i2, i3'⟩ := id hz2
    refine ⟨z, dx, _, rfl, h1, .inl ⟨z2, dx2, _, rfl, i1⟩, z, cs, .ref z2, rfl, St15.hz, .inl ⟨z2, ds, rfl, hz2, ?_⟩⟩
    rw [decide_eq_true eq]
    refine ⟨true, rfl, true, rfl, iteF ?_⟩
    refine ⟨_, rfl, _, rfl, 10, 35, rfl, rfl, ⟨by decide, by decide, by decide⟩, le2, fun ft hft => ⟨by show 1 ≤ sizeLine; decide, fun fl hfl => ?_⟩⟩
    have s16 := same_new (o := .tup [.int (10 ^ (35 : Int).toNat), .int 0]) hft
    have s17 := same_new (o := .lst [.ref ft]) hfl
    have St17 := St15.same (s16.trans s17)
    refine ⟨kl, fl, us, _, rfl, rfl, St17.hk, upd_same, by
      rw [lus]
      exact Nat.le_trans (show _ ≤ 1000 by show pts.length + 1 ≤ 1000; omega) (show 1000 ≤ sizeLine by decide), fun cl hcl => ?_⟩
    have s18 := same_new (o := .lst (us ++ [.ref ft])) hcl
    have St18 := St17.same s18
    have hft18 : LowP (upd (upd (upd H15 ft (.tup [.int (10 ^ (35 : Int).toNat), .int 0])) fl (.lst [.ref ft])) cl (.lst (us ++ [.ref ft]))) (.ref ft) farP := ⟨ft, _, _, rfl, (s17.trans s18) _ _ upd_same, .inl ⟨rfl, rfl⟩, .inl ⟨rfl, rfl⟩⟩
    intro z3 dz3 hz hdz nz
    refine make_y (K := K) (M := M) (.inl upd_same) (St18.hu.add hft18) (fun e => by simp at e) (by rw [List.length_append]; show pts.length + 1 ≤ 500; omega) (fun x hx => ?_) VV.M0 M1k hz hdz nz fun es H19 s19 hz3 hull3 => ?_
    · rcases List.mem_append.mp hx with w | w
      · exact pok x w
      · rw [List.mem_singleton.mp w]
        exact far_ok M
    have St19 := St18.same s19
    obtain ⟨dx, r, qs, h1, h2, h3⟩ := id St19.hz
    obtain ⟨dx3, r3, qs3, j1, j2, j3⟩ := id hz3
    refine ⟨z, dx, _, rfl, h1, .inl ⟨z3, dx3, _, rfl, j1⟩, z, cs, .ref z3, rfl, St19.hz, .inl ⟨z3, es, rfl, hz3, ?_⟩⟩
    rw [decide_eq_false (Z.far hull3)]
    refine ⟨false, rfl, false, rfl, iteF ?_⟩
    refine ⟨_, rfl, _, rfl, z, C, dx, _, _, rfl, h1, L.V.cl, L.V.no _ (by decide +kernel), look_c r, ?_⟩
    exact ⟨z, dx, _, rfl, h1, .inr ⟨r, _, rfl, h2⟩, z, cs, .ref r, rfl, St19.hz, .inr ⟨r, _, rfl, h2, false, rfl, false, rfl, iteF ⟨rfl, St19⟩⟩⟩
  rintro σ14 H14 ⟨rfl, St14⟩
  -- what is no point is not within
  refine ⟨fun σ' H' => ∃ v9, σ' = [some (.ref a), some (.ref p), some (.int (0 + (i : Int))), some (.ref pl), some (.ref D), some (.ref kl), some (.ref z), some (.ref dr), some (.ref br), v9, v10, v11, none] ∧ ZSt C p l pl z kl c2 c13 3499 ps us pts cs M H', ?_, ?_⟩
  · refine ⟨le2, fun w1 hw1 => ⟨by show 1 ≤ sizeLine; decide, fun w2 hw2 => ⟨le2, fun w3 hw3 => ⟨by show 3 ≤ sizeLine; decide, fun w4 hw4 => ⟨le2, fun w5 hw5 => ⟨le2, fun w6 hw6 => ⟨by show 8 ≤ sizeLine; decide, fun lz hlz => ?_⟩⟩⟩⟩⟩⟩⟩
    have t1 := same_new (o := .lst [.int 1, .int 2]) hw1
    have t2 := same_new (o := .tup [.int 1]) hw2
    have t3 := same_new (o := .tup [.int 1, .non]) hw3
    have t4 := same_new (o := .tup [.int 1, .int 0, .int 0]) hw4
    have t5 := same_new (o := .tup [.int 1, .int 0]) hw5
    have t6 := same_new (o := .tup [.ref w5, .int 2]) hw6
    have t7 := same_new (o := .lst [.non, .ref w1, .ref w2, .ref w3, .ref w4, .ref w6, .str "12", .int 5]) hlz
    have u6 := t6.trans t7
    have u5 := t5.trans u6
    have u4 := t4.trans u5
    have u3 := t3.trans u4
    have u2 := t2.trans u3
    have g1 := u2 w1 _ (upd_same (H := H14) (a := w1) (o := .lst [.int 1, .int 2]))
    have g2 := u3 w2 (.tup [.int 1]) upd_same
    have g3 := u4 w3 (.tup [.int 1, .non]) upd_same
    have g4 := u5 w4 (.tup [.int 1, .int 0, .int 0]) upd_same
    have g5 := u6 w5 (.tup [.int 1, .int 0]) upd_same
    have g6 := t7 w6 (.tup [.ref w5, .int 2]) upd_same
    have St15 := St14.same (t1.trans u2)
    have g7 := upd_same (H := upd (upd (upd (upd (upd (upd H14 w1 (.lst [.int 1, .int 2])) w2 (.tup [.int 1])) w3 (.tup [.int 1, .non])) w4 (.tup [.int 1, .int 0, .int 0])) w5 (.tup [.int 1, .int 0])) w6 (.tup [.ref w5, .int 2])) (a := lz) (o := .lst [.non, .ref w1, .ref w2, .ref w3, .ref w4, .ref w6, .str "12", .int 5])
    generalize upd (upd (upd (upd (upd (upd (upd H14 w1 (.lst [.int 1, .int 2])) w2 (.tup [.int 1])) w3 (.tup [.int 1, .non])) w4 (.tup [.int 1, .int 0, .int 0])) w5 (.tup [.int 1, .int 0])) w6 (.tup [.ref w5, .int 2])) lz (.lst [.non, .ref w1, .ref w2, .ref w3, .ref w4, .ref w6, .str "12", .int 5]) = H15 at g1 g2 g3 g4 g5 g6 g7 St15 ⊢
    refine ⟨lz, rfl, ⟨_, SqL.of g7⟩, ?_⟩
    refine for_list (K := K) (a := lz) (xs := [.non, .ref w1, .ref w2, .ref w3, .ref w4, .ref w6, .str "12", .int 5]) (fun j σ' H' => (∃ v9, σ' = [some (.ref a), some (.ref p), some (.int (0 + (i : Int))), some (.ref pl), some (.ref D), some (.ref kl), some (.ref z), some (.ref dr), some (.ref br), v9, v10, v11, none]) ∧ H' = H15) ⟨⟨_, rfl⟩, rfl⟩ (fun j σ' H' _ w => w.2 ▸ SqL.of g7) (fun j y σ' H16 hj w => ?_) (fun σ' H16 w => ?_)
    · obtain ⟨⟨v9', rfl⟩, rfl⟩ := w
      have bad : ValP K H16 y false := by
        match j, hj with
        | 0, hj =>
          cases hj
          exact non_pt
        | 1, hj =>
          cases hj
          exact lst_pt g1
        | 2, hj =>
          cases hj
          exact .len g2 (by decide)
        | 3, hj =>
          cases hj
          exact .two g3 (.int 1) (no_val rfl)
        | 4, hj =>
          cases hj
          exact .len g4 (by decide)
        | 5, hj =>
          cases hj
          exact .one g6 (show Val K H16 (.ref w5) (decide ((0 : Int) < 0)) from .rat g5)
        | 6, hj =>
          cases hj
          exact .other (.base (.str _)) (kit_ty (by decide))
        | 7, hj =>
          cases hj
          exact .other (.base (.int _)) (kit_ty (by decide))
      obtain ⟨dx, r, qs, h1, h2, h3⟩ := id St15.hz
      exact ⟨_, rfl, _, rfl, z, dx, _, rfl, h1, z, cs, y, rfl, St15.hz, ok, .inl ⟨bad, false, rfl, false, rfl, iteF ⟨⟨_, rfl⟩, rfl⟩⟩⟩
    · obtain ⟨⟨v9', rfl⟩, rfl⟩ := w
      exact ⟨v9', rfl, St15⟩
  rintro σ15 H15 ⟨v9', rfl, St15⟩
  -- refused by Zone
  refine ⟨fun σ' H' => ∃ wv c', σ' = [some (.ref a), some (.ref p), some (.int (0 + (i : Int))), some (.ref pl), some (.ref D), some (.ref kl), some (.ref z), some (.ref dr), some (.ref br), v9', some wv, v11, none] ∧ ZSt C p l pl z kl c2 c' 3500 ps us pts cs M H' ∧ WrongAt K H' 0 "points" wv, ?_, ?_⟩
  · refine ⟨by show 0 ≤ sizeLine; decide, fun w1 hw1 => ⟨by show 0 ≤ sizeLine; decide, fun w2 hw2 => ⟨le2, fun w3 hw3 => ⟨le2, fun w4 hw4 => ⟨le2, fun w5 hw5 => ⟨by show 3 ≤ sizeLine; decide, fun w6 hw6 => ⟨by show 1 ≤ sizeLine; decide, fun w7 hw7 => ⟨le2, fun w8 hw8 => ⟨le2, fun w9 hw9 => ⟨le2, fun w10 hw10 => ⟨by show 7 ≤ sizeLine; decide, fun lz hlz => ?_⟩⟩⟩⟩⟩⟩⟩⟩⟩⟩⟩
    have t1 := same_new (o := .lst []) hw1
    have t2 := same_new (o := .tup []) hw2
    have t3 := same_new (o := .tup [.int 1, .int 2]) hw3
    have t4 := same_new (o := .lst [.int 1, .int 2]) hw4
    have t5 := same_new (o := .lst [.ref w3, .ref w4]) hw5
    have t6 := same_new (o := .tup [.int 1, .int 2, .int 3]) hw6
    have t7 := same_new (o := .lst [.ref w6]) hw7
    have t8 := same_new (o := .tup [.int 1, .int 2]) hw8
    have t9 := same_new (o := .tup [.bl true, .int 1]) hw9
    have t10 := same_new (o := .lst [.ref w8, .ref w9]) hw10
    have t11 := same_new (o := .lst [.non, .ref w1, .ref w2, .int 5, .ref w5, .ref w7, .ref w10]) hlz
    have u10 := t10.trans t11
    have u9 := t9.trans u10
    have u8 := t8.trans u9
    have u7 := t7.trans u8
    have u6 := t6.trans u7
    have u5 := t5.trans u6
    have u4 := t4.trans u5
    have u3 := t3.trans u4
    have u2 := t2.trans u3
    have St16 := St15.same (t1.trans u2)
    refine ⟨_, rfl, p, l, c13, 7, rfl, St16.P, by omega, by decide, by decide, fun rr H17 r0 r1 P17 k17 => ?_⟩
    have St17 := St16.keep (m := 3500) k17 P17 (by omega) (by omega)
    have KL : ∀ {q : Addr} {vs : List V}, _ = some (HO.lst vs) → H17 q = some (.lst vs) := fun {q vs} h => k17.lst St16.P h
    have KT : ∀ {q : Addr} {vs : List V}, _ = some (HO.tup vs) → H17 q = some (.tup vs) := fun {q vs} h => k17.tup St16.P h
    have g0 := KL (q := lz) upd_same
    have g1 := KL (q := w1) (u2 _ _ upd_same)
    have g2 := KT (q := w2) (u3 _ _ upd_same)
    have g3 := KT (q := w3) (u4 _ _ upd_same)
    have g4 := KL (q := w4) (u5 _ _ upd_same)
    have g5 := KL (q := w5) (u6 _ _ upd_same)
    have g6 := KT (q := w6) (u7 _ _ upd_same)
    have g7 := KL (q := w7) (u8 _ _ upd_same)
    have g8 := KT (q := w8) (u9 _ _ upd_same)
    have g9 := KT (q := w9) (u10 _ _ upd_same)
    have g10 := KL (q := w10) (t11 _ _ upd_same)
    have rs : rr = 0 ∨ rr = 1 ∨ rr = 2 ∨ rr = 3 ∨ rr = 4 ∨ rr = 5 ∨ rr = 6 := by omega
    rcases rs with rfl | rfl | rfl | rfl | rfl | rfl | rfl
    · exact ⟨lz, _, 0, .non, rfl, rfl, SqL.of g0, rfl, .non, _, rfl, St17, w0_non⟩
    · exact ⟨lz, _, 1, .ref w1, rfl, rfl, SqL.of g0, rfl, .ref w1, _, rfl, St17, w0_nil g1⟩
    · exact ⟨lz, _, 2, .ref w2, rfl, rfl, SqL.of g0, rfl, .ref w2, _, rfl, St17, w0_tnil g2⟩
    · exact ⟨lz, _, 3, .int 5, rfl, rfl, SqL.of g0, rfl, .int 5, _, rfl, St17, w0_int⟩
    · exact ⟨lz, _, 4, .ref w5, rfl, rfl, SqL.of g0, rfl, .ref w5, _, rfl, St17, w0_mix g3 g4 g5⟩
    · exact ⟨lz, _, 5, .ref w7, rfl, rfl, SqL.of g0, rfl, .ref w7, _, rfl, St17, w0_three g6 g7⟩
    · exact ⟨lz, _, 6, .ref w10, rfl, rfl, SqL.of g0, rfl, .ref w10, _, rfl, St17, w0_true g8 g9 g10⟩
  rintro σ16 H16 ⟨wv, c16, rfl, St16, hw16⟩
  have e16 := St16.c2
  refine ⟨fun σ' H' => σ' = [some (.ref a), some (.ref p), some (.int (0 + (i : Int))), some (.ref pl), some (.ref D), some (.ref kl), some (.ref z), some (.ref dr), some (.ref br), v9', some wv, v11, none] ∧ ZSt C p l pl z kl c2 c16 3500 ps us pts cs M H', ?_, ?_⟩
  · obtain ⟨hw, d, hd, hdo⟩ := hw16
    refine ⟨_, rfl, _, rfl, 0, z, cs, wv, "points", d, rfl, St16.hz, ok, hw, hd, fun pa H17 s17 hpa => ?_⟩
    have hd17 := hd.same s17
    refine ⟨_, rfl, wv, d, rfl, hd17.1 _ (fun _ _ e => e), hd17.2.1, hd17.2.2.1, hd17.2.2.2.1, hd17.2.2.2.2, le2, fun pb hpb => ?_⟩
    have s18 := same_new (o := .tup [.str "points", .str d.shown]) hpb
    have hs := datW_shaped (wh := "points") (by decide +kernel) hdo
    refine ⟨_, _, dp_wh (s18 _ _ hpa), dp_wh upd_same, hs, hs, ?_⟩
    rw [datW_refl (by decide +kernel) hdo]
    exact ⟨_, rfl, iteF ⟨rfl, St16.same (s17.trans s18)⟩⟩
  rintro σ17 H17 ⟨rfl, St17⟩
  -- refused by lowest and by grown
  refine ⟨fun σ' H' => ∃ wv1 c', σ' = [some (.ref a), some (.ref p), some (.int (0 + (i : Int))), some (.ref pl), some (.ref D), some (.ref kl), some (.ref z), some (.ref dr), some (.ref br), v9', some wv1, v11, none] ∧ ZSt C p l pl z kl c2 c' 3501 ps us pts cs M H' ∧ DirV H' wv1, ?_, ?_⟩
  · refine ⟨le2, fun w1 hw1 => ⟨le2, fun w2 hw2 => ⟨le2, fun w3 hw3 => ⟨by show 4 ≤ sizeLine; decide, fun lz hlz => ?_⟩⟩⟩⟩
    have t1 := same_new (o := .tup [.int 0, .int 0]) hw1
    have t2 := same_new (o := .lst [.int 1, .int 0]) hw2
    have t3 := same_new (o := .tup [.int 1, .non]) hw3
    have t4 := same_new (o := .lst [.non, .ref w1, .ref w2, .ref w3]) hlz
    have u3 := t3.trans t4
    have u2 := t2.trans u3
    have St18 := St17.same (t1.trans u2)
    refine ⟨_, rfl, p, l, c16, 4, rfl, St18.P, by omega, by decide, by decide, fun rr H19 r0 r1 P19 k19 => ?_⟩
    have St19 := St18.keep (m := 3501) k19 P19 (by omega) (by omega)
    have g0 := k19.lst (q := lz) St18.P upd_same
    have g1 := k19.tup (q := w1) St18.P (u2 _ _ upd_same)
    have g2 := k19.lst (q := w2) St18.P (u3 _ _ upd_same)
    have g3 := k19.tup (q := w3) St18.P (t4 _ _ upd_same)
    have rs : rr = 0 ∨ rr = 1 ∨ rr = 2 ∨ rr = 3 := by omega
    rcases rs with rfl | rfl | rfl | rfl
    · exact ⟨lz, _, 0, .non, rfl, rfl, SqL.of g0, rfl, .non, _, rfl, St19, .inl rfl⟩
    · exact ⟨lz, _, 1, .ref w1, rfl, rfl, SqL.of g0, rfl, .ref w1, _, rfl, St19, .inr (.inl ⟨_, rfl, g1⟩)⟩
    · exact ⟨lz, _, 2, .ref w2, rfl, rfl, SqL.of g0, rfl, .ref w2, _, rfl, St19, .inr (.inr (.inl ⟨_, rfl, g2⟩))⟩
    · exact ⟨lz, _, 3, .ref w3, rfl, rfl, SqL.of g0, rfl, .ref w3, _, rfl, St19, .inr (.inr (.inr ⟨_, rfl, g3⟩))⟩
  rintro σ18 H18 ⟨wv1, c18, rfl, St18, hw18⟩
  have e18 := St18.c2
  refine ⟨fun σ' H' => ∃ lv c', σ' = [some (.ref a), some (.ref p), some (.int (0 + (i : Int))), some (.ref pl), some (.ref D), some (.ref kl), some (.ref z), some (.ref dr), some (.ref br), v9', some wv1, some lv, none] ∧ ZSt C p l pl z kl c2 c' 3502 ps us pts cs M H' ∧ WrongAt K H' 1 "direction" wv1 ∧ WrongAt K H' 2 "grown" lv, ?_, ?_⟩
  · refine ⟨1, rfl, 1, rfl, le2, fun w1 hw1 => ⟨by show 5 ≤ sizeLine; decide, fun lz hlz => ?_⟩⟩
    have t1 := same_new (o := .tup [.int (-1), .int 7]) hw1
    have t2 := same_new (o := .lst [.non, .int (-1), .ref w1, .str "1", .bl true]) hlz
    have St19 := St18.same (t1.trans t2)
    refine ⟨_, rfl, p, l, c18, 5, rfl, St19.P, by omega, by decide, by decide, fun rr H20 r0 r1 P20 k20 => ?_⟩
    have St20 := St19.keep (m := 3502) k20 P20 (by omega) (by omega)
    have hw20 := ((hw18.same (t1.trans t2)).keep St19.P k20).wrong (K := K)
    have g0 := k20.lst (q := lz) St19.P upd_same
    have g1 := k20.tup (q := w1) St19.P (t2 _ _ upd_same)
    have rs : rr = 0 ∨ rr = 1 ∨ rr = 2 ∨ rr = 3 ∨ rr = 4 := by omega
    rcases rs with rfl | rfl | rfl | rfl | rfl
    · exact ⟨lz, _, 0, .non, rfl, rfl, SqL.of g0, rfl, .non, _, rfl, St20, hw20, w2_non⟩
    · exact ⟨lz, _, 1, .int (-1), rfl, rfl, SqL.of g0, rfl, .int (-1), _, rfl, St20, hw20, w2_neg⟩
    · exact ⟨lz, _, 2, .ref w1, rfl, rfl, SqL.of g0, rfl, .ref w1, _, rfl, St20, hw20, w2_ratio g1⟩
    · exact ⟨lz, _, 3, .str "1", rfl, rfl, SqL.of g0, rfl, .str "1", _, rfl, St20, hw20, w2_str⟩
    · exact ⟨lz, _, 4, .bl true, rfl, rfl, SqL.of g0, rfl, .bl true, _, rfl, St20, hw20, w2_true⟩
  rintro σ19 H19 ⟨lv, c19, rfl, St19, hw19, hg19⟩
  have e19 := St19.c2
  refine ⟨fun σ' H' => σ' = [some (.ref a), some (.ref p), some (.int (0 + (i : Int))), some (.ref pl), some (.ref D), some (.ref kl), some (.ref z), some (.ref dr), some (.ref br), v9', some wv1, some lv, none] ∧ ZSt C p l pl z kl c2 c19 3502 ps us pts cs M H' ∧ WrongAt K H' 2 "grown" lv, ?_, ?_⟩
  · obtain ⟨hw, d, hd, hdo⟩ := hw19
    refine ⟨_, rfl, _, rfl, 1, z, cs, wv1, "direction", d, rfl, St19.hz, ok, hw, hd, fun pa H20 s20 hpa => ?_⟩
    have hd20 := hd.same s20
    refine ⟨_, rfl, wv1, d, rfl, hd20.1 _ (fun _ _ e => e), hd20.2.1, hd20.2.2.1, hd20.2.2.2.1, hd20.2.2.2.2, le2, fun pb hpb => ?_⟩
    have s21 := same_new (o := .tup [.str "direction", .str d.shown]) hpb
    have hs := datW_shaped (wh := "direction") (by decide +kernel) hdo
    refine ⟨_, _, dp_wh (s21 _ _ hpa), dp_wh upd_same, hs, hs, ?_⟩
    rw [datW_refl (by decide +kernel) hdo]
    exact ⟨_, rfl, iteF ⟨rfl, St19.same (s20.trans s21), hg19.same (s20.trans s21)⟩⟩
  rintro σ20 H20 ⟨rfl, St20, hg20⟩
  obtain ⟨hw, d, hd, hdo⟩ := hg20
  refine ⟨_, rfl, _, rfl, 2, z, cs, lv, "grown", d, rfl, St20.hz, ok, hw, hd, fun pa H21 s21 hpa => ?_⟩
  have hd21 := hd.same s21
  refine ⟨_, rfl, lv, d, rfl, hd21.1 _ (fun _ _ e => e), hd21.2.1, hd21.2.2.1, hd21.2.2.2.1, hd21.2.2.2.2, le2, fun pb hpb => ?_⟩
  have s22 := same_new (o := .tup [.str "grown", .str d.shown]) hpb
  have hs := datW_shaped (wh := "grown") (by decide +kernel) hdo
  refine ⟨_, _, dp_wh (s22 _ _ hpa), dp_wh upd_same, hs, hs, ?_⟩
  rw [datW_refl (by decide +kernel) hdo]
  have St22 := St20.same (s21.trans s22)
  exact ⟨_, rfl, iteF ⟨c19, _, _, _, _, _, _, _, _, _, _, rfl, St22.P, by have := St22.c1; omega, by push_cast; omega⟩⟩
end
end Fk

set_option Elab.async false
set_option maxRecDepth 100000
set_option maxHeartbeats 4000000
namespace Fk
open PySem PySem.Spec L2 PyProof.Rows
/-- the walk of a law that knows the guards, its table given by what it says -/
theorem walkGE {l : PySem.W.OpenLaw} {n k : Nat} {q : Program} {loose : List Str} {XP : (Str → Option Value) → Heap → Prop} {YP : World → Heap → Prop} {d : DefRec} {x : Str}
    (hn : l.most = some n) (hn2 : n ≤ sizeLine) (hdf : d.params.defaults = []) (hr : Room k callerA)
    (F : ∀ (w : World) (mg : Str → Option Value) (fa : Addr) (h : Heap), YP w h → h.Ns mainGlobals mg → mg d.name = some (.ref fa) →
      ∃ (K : PySem.W.Frag) (fd : FuncData) (sp : Sp), K.In h ∧ (∀ (s : Shared) (u : Value), BindsTo s fd ⟨[u], []⟩ [(x, u)]) ∧
        (∀ (H : Hp) (a : Addr) (ns : List Int), ns.length ≤ n → Only H → SqL K H a (ns.map V.int) → sp [.ref a] H (fun v _ => v = .bl true) fun _ _ _ => False) ∧
        ∀ base : Heap, K.In base → base.Ns mainGlobals mg → FnG l.prog w K mg base k fa fd [x] sp) :
    PySem.W.WalkO q loose XP YP l.row.toRowW d [] (fun f vs => PySem.call f vs) := by
  refine Att.attach_call hn hdf fun w s₀ s₁ mg mb fa o pm cd doc a vs ns G Y ho hd hcd hmg hobj hints hlen hg => ?_
  obtain ⟨K, fd, sp, KX, hb, hsp, hF⟩ := F w mg fa _ Y G.T.g hmg
  exact law_callG KX G.T.g G.T.b G.T.builtins G.T.nolimit hg hobj hints (Nat.le_trans hlen hn2) hr hF hb fun H hO hS => hsp H a ns hlen hO hS
end Fk

set_option Elab.async false
set_option maxRecDepth 100000
set_option maxHeartbeats 4000000
namespace Fk
open PySem L2
theorem oexB2_ok {K : PySem.W.Frag} {C : Addr} (h : oexB2 K C = true) : OexC K C := by
  unfold oexB2 at h
  simp only [Bool.and_eq_true, decide_eq_true_eq] at h
  obtain ⟨h1, h2, h3, h4, h5⟩ := h
  exact ⟨oexB_ok h1, h2, h3, h4, h5⟩
theorem ptKB_ok {K : PySem.W.Frag} {t : Addr} {i j k l : Int} (h : ptKB K t i j k l = true) (H : Hp) : PtK K H t ((i, j), (k, l)) := by
  unfold ptKB at h
  split at h
  · rename_i a b e
    simp only [Bool.and_eq_true] at h
    exact ⟨a, b, Sh.tupAtB_ok h.1 H, Sh.tupAtB_ok h.2.1 H, Sh.tupAtB_ok h.2.2 H⟩
  · cases h
def AxesK (K : PySem.W.Frag) (ax : Addr) : Prop := ∀ H, ∃ qs, SqT K H ax (rv qs) ∧ PtsK K H qs axesL
theorem axesB_ok {K : PySem.W.Frag} {x : Addr} (h : axesB K x = true) : AxesK K x := fun H => by
  unfold axesB at h
  split at h
  · rename_i a b c d e
    simp only [Bool.and_eq_true] at h
    obtain ⟨h0, h1, h2, h3, h4⟩ := h
    refine ⟨[a, b, c, d], Sh.tupAtB_ok h0 H, rfl, fun i p y e1 e2 => ?_⟩
    match i, e1, e2 with
    | 0, e1, e2 =>
      cases e1
      cases e2
      exact ptKB_ok h1 H
    | 1, e1, e2 =>
      cases e1
      cases e2
      exact ptKB_ok h2 H
    | 2, e1, e2 =>
      cases e1
      cases e2
      exact ptKB_ok h3 H
    | 3, e1, e2 =>
      cases e1
      cases e2
      exact ptKB_ok h4 H
  · cases h
set_option maxHeartbeats 0 in
theorem all_mk {l : PySem.W.OpenLaw} {w : World} {K : PySem.W.Frag} {h : Heap} {mg : Str → Option Value} {fa CN CZ gN zr ax f_law f_isint f_israt f_lowest f_asr f_pplus f_pminus f_signof f_order f_shared f_ispt f_aspt f_dir f_worth f_excl f_turned f_opp f_wayb f_norm f_lowp f_corn f_chain f_turns f_pen f_draw f_pick f_big f_gcd f_q f_plus f_minus f_times f_lsign f_less f_dot f_ratio f_passed f_ldir f_lworth f_least f_lmix f_cross f_lpb f_lcr f_llow f_lgrown f_points f_lpp f_refused f_lin f_zinit f_zeq f_zin f_zlow f_zgr : Addr} {eN d_isint d_israt d_lowest d_asr d_pplus d_pminus d_signof d_order d_shared d_ispt d_aspt d_dir d_worth d_excl d_turned d_opp d_wayb d_norm d_lowp d_corn d_chain d_turns d_pen d_draw d_pick d_big d_gcd d_q d_plus d_minus d_times d_lsign d_less d_dot d_ratio d_passed d_ldir d_lworth d_least d_lmix d_cross d_lpb d_lcr d_llow d_lgrown d_points d_lpp d_refused d_lin d_zinit d_zeq d_zin d_zlow d_zgr : FuncData} {od an : Option Addr} {sl : Array (Option Value)} {oc kV dc pm cd ct : Value}
    (X : K.In h) (G : h.Ns mainGlobals mg) (hfa : mg "law" = some (.ref fa))
    (a_isint : PySem.W.nsIn K mainGlobals "is_integer" = some (some (.ref f_isint)))
    (F_isint : Fun K "is_integer" "is_integer" sIsInt f_isint d_isint)
    (a_israt : PySem.W.nsIn K mainGlobals "is_ratio" = some (some (.ref f_israt)))
    (F_israt : Fun K "is_ratio" "is_ratio" sIsRat f_israt d_israt)
    (a_lowest : PySem.W.nsIn K mainGlobals "lowest" = some (some (.ref f_lowest)))
    (F_lowest : Fun K "lowest" "lowest" sLowest f_lowest d_lowest)
    (a_asr : PySem.W.nsIn K mainGlobals "as_ratio" = some (some (.ref f_asr)))
    (F_asr : Fun K "as_ratio" "as_ratio" sAsRat f_asr d_asr)
    (a_pplus : PySem.W.nsIn K mainGlobals "plus" = some (some (.ref f_pplus)))
    (F_pplus : Fun K "plus" "plus" sPPlus f_pplus d_pplus)
    (a_pminus : PySem.W.nsIn K mainGlobals "minus" = some (some (.ref f_pminus)))
    (F_pminus : Fun K "minus" "minus" sPMinus f_pminus d_pminus)
    (a_signof : PySem.W.nsIn K mainGlobals "sign_of" = some (some (.ref f_signof)))
    (F_signof : Fun K "sign_of" "sign_of" sSignOf f_signof d_signof)
    (a_order : PySem.W.nsIn K mainGlobals "order" = some (some (.ref f_order)))
    (F_order : Fun K "order" "order" sOrder f_order d_order)
    (a_shared : PySem.W.nsIn K mainGlobals "shared_bottom" = some (some (.ref f_shared)))
    (F_shared : Fun K "shared_bottom" "shared_bottom" sShared f_shared d_shared)
    (a_ispt : PySem.W.nsIn K mainGlobals "is_point" = some (some (.ref f_ispt)))
    (F_ispt : Fun K "is_point" "is_point" sIsPt f_ispt d_ispt)
    (a_aspt : PySem.W.nsIn K mainGlobals "as_point" = some (some (.ref f_aspt)))
    (F_aspt : Fun K "as_point" "as_point" sAsPt f_aspt d_aspt)
    (a_dir : PySem.W.nsIn K mainGlobals "checked_direction" = some (some (.ref f_dir)))
    (F_dir : Fun K "checked_direction" "checked_direction" sDir f_dir d_dir)
    (a_worth : PySem.W.nsIn K mainGlobals "worth" = some (some (.ref f_worth)))
    (F_worth : Fun K "worth" "worth" sWorth f_worth d_worth)
    (a_excl : PySem.W.nsIn K mainGlobals "excludes" = some (some (.ref f_excl)))
    (F_excl : Fun K "excludes" "excludes" sExcl f_excl d_excl)
    (a_turned : PySem.W.nsIn K mainGlobals "turned" = some (some (.ref f_turned)))
    (F_turned : Fun K "turned" "turned" sTurned f_turned d_turned)
    (a_opp : PySem.W.nsIn K mainGlobals "opposite" = some (some (.ref f_opp)))
    (F_opp : Fun K "opposite" "opposite" sOpposite f_opp d_opp)
    (a_wayb : PySem.W.nsIn K mainGlobals "way_between" = some (some (.ref f_wayb)))
    (F_wayb : Fun K "way_between" "way_between" sWayB f_wayb d_wayb)
    (a_norm : PySem.W.nsIn K mainGlobals "normals_of" = some (some (.ref f_norm)))
    (F_norm : Fun K "normals_of" "normals_of" sNorm f_norm d_norm)
    (a_lowp : PySem.W.nsIn K mainGlobals "lowest_point" = some (some (.ref f_lowp)))
    (F_lowp : Fun K "lowest_point" "lowest_point" sLowP f_lowp d_lowp)
    (a_corn : PySem.W.nsIn K mainGlobals "corners_of" = some (some (.ref f_corn)))
    (F_corn : Fun K "corners_of" "corners_of" sCorn f_corn d_corn)
    (a_chain : PySem.W.nsIn K mainGlobals "lower_chain" = some (some (.ref f_chain)))
    (F_chain : Fun K "lower_chain" "lower_chain" sChain f_chain d_chain)
    (a_turns : PySem.W.nsIn K mainGlobals "turns_left" = some (some (.ref f_turns)))
    (F_turns : Fun K "turns_left" "turns_left" sTurns f_turns d_turns)
    (a_pen : PySem.W.nsIn K mainGlobals "_law_pen" = some (some (.ref f_pen)))
    (F_pen : Fun K "_law_pen" "_law_pen" sPen f_pen d_pen)
    (a_draw : PySem.W.nsIn K mainGlobals "_law_draw" = some (some (.ref f_draw)))
    (F_draw : Fun K "_law_draw" "_law_draw" sDraw f_draw d_draw)
    (a_pick : PySem.W.nsIn K mainGlobals "_law_pick" = some (some (.ref f_pick)))
    (F_pick : Fun K "_law_pick" "_law_pick" sPick f_pick d_pick)
    (a_big : PySem.W.nsIn K mainGlobals "_law_big" = some (some (.ref f_big)))
    (F_big : Fun K "_law_big" "_law_big" sBig f_big d_big)
    (a_gcd : PySem.W.nsIn K mainGlobals "_law_gcd" = some (some (.ref f_gcd)))
    (F_gcd : Fun K "_law_gcd" "_law_gcd" sGcd f_gcd d_gcd)
    (a_q : PySem.W.nsIn K mainGlobals "_law_q" = some (some (.ref f_q)))
    (F_q : Fun K "_law_q" "_law_q" sQ f_q d_q)
    (a_plus : PySem.W.nsIn K mainGlobals "_law_plus" = some (some (.ref f_plus)))
    (F_plus : Fun K "_law_plus" "_law_plus" sPlus f_plus d_plus)
    (a_minus : PySem.W.nsIn K mainGlobals "_law_minus" = some (some (.ref f_minus)))
    (F_minus : Fun K "_law_minus" "_law_minus" sLMinus f_minus d_minus)
    (a_times : PySem.W.nsIn K mainGlobals "_law_times" = some (some (.ref f_times)))
    (F_times : Fun K "_law_times" "_law_times" sTimes f_times d_times)
    (a_lsign : PySem.W.nsIn K mainGlobals "_law_sign" = some (some (.ref f_lsign)))
    (F_lsign : Fun K "_law_sign" "_law_sign" sLSign f_lsign d_lsign)
    (a_less : PySem.W.nsIn K mainGlobals "_law_less" = some (some (.ref f_less)))
    (F_less : Fun K "_law_less" "_law_less" sLLess f_less d_less)
    (a_dot : PySem.W.nsIn K mainGlobals "_law_dot" = some (some (.ref f_dot)))
    (F_dot : Fun K "_law_dot" "_law_dot" sLDot f_dot d_dot)
    (a_ratio : PySem.W.nsIn K mainGlobals "_law_ratio" = some (some (.ref f_ratio)))
    (F_ratio : Fun K "_law_ratio" "_law_ratio" sLRatio f_ratio d_ratio)
    (a_passed : PySem.W.nsIn K mainGlobals "_law_passed" = some (some (.ref f_passed)))
    (F_passed : Fun K "_law_passed" "_law_passed" sLPassed f_passed d_passed)
    (a_ldir : PySem.W.nsIn K mainGlobals "_law_direction" = some (some (.ref f_ldir)))
    (F_ldir : Fun K "_law_direction" "_law_direction" sLDir f_ldir d_ldir)
    (a_lworth : PySem.W.nsIn K mainGlobals "_law_worth" = some (some (.ref f_lworth)))
    (F_lworth : Fun K "_law_worth" "_law_worth" sLWorth f_lworth d_lworth)
    (a_least : PySem.W.nsIn K mainGlobals "_law_least" = some (some (.ref f_least)))
    (F_least : Fun K "_law_least" "_law_least" sLLeast f_least d_least)
    (a_lmix : PySem.W.nsIn K mainGlobals "_law_drawn_mixture" = some (some (.ref f_lmix)))
    (F_lmix : Fun K "_law_drawn_mixture" "_law_drawn_mixture" sLMix f_lmix d_lmix)
    (a_cross : PySem.W.nsIn K mainGlobals "_law_cross" = some (some (.ref f_cross)))
    (F_cross : Fun K "_law_cross" "_law_cross" sLCross f_cross d_cross)
    (a_lpb : PySem.W.nsIn K mainGlobals "_law_point_before" = some (some (.ref f_lpb)))
    (F_lpb : Fun K "_law_point_before" "_law_point_before" sLPB f_lpb d_lpb)
    (a_lcr : PySem.W.nsIn K mainGlobals "_law_corners_right" = some (some (.ref f_lcr)))
    (F_lcr : Fun K "_law_corners_right" "_law_corners_right" sLCR f_lcr d_lcr)
    (a_llow : PySem.W.nsIn K mainGlobals "_law_lowest" = some (some (.ref f_llow)))
    (F_llow : Fun K "_law_lowest" "_law_lowest" sLLowest f_llow d_llow)
    (a_lgrown : PySem.W.nsIn K mainGlobals "_law_grown" = some (some (.ref f_lgrown)))
    (F_lgrown : Fun K "_law_grown" "_law_grown" sLGrown f_lgrown d_lgrown)
    (a_points : PySem.W.nsIn K mainGlobals "_law_points" = some (some (.ref f_points)))
    (F_points : Fun K "_law_points" "_law_points" sLPts f_points d_points)
    (a_lpp : PySem.W.nsIn K mainGlobals "_law_passed_point" = some (some (.ref f_lpp)))
    (F_lpp : Fun K "_law_passed_point" "_law_passed_point" sLPP f_lpp d_lpp)
    (a_refused : PySem.W.nsIn K mainGlobals "_law_refused" = some (some (.ref f_refused)))
    (F_refused : Fun K "_law_refused" "_law_refused" sRefused f_refused d_refused)
    (a_lin : PySem.W.nsIn K mainGlobals "_law_inside_right" = some (some (.ref f_lin)))
    (F_lin : Fun K "_law_inside_right" "_law_inside_right" sLIn f_lin d_lin)
    (a_law : PySem.W.nsIn K mainGlobals "law" = some (some (.ref f_law)))
    (g_gcd : PySem.W.nsIn K mainGlobals "gcd" = some (some (.builtin "math.gcd")))
    (g_N : PySem.W.nsIn K mainGlobals "BadNumber" = some (some (.ref CN)))
    (i_N : PySem.W.findIn K (.ref CN) "__init__" = some (some (.ref gN)))
    (t_N : PySem.W.typeIn K (.ref gN) = some (.type "function"))
    (IN : Fun K "__init__" "BadNumber.__init__" sIBadNumber gN eN)
    (nN_what : PySem.W.findIn K (.ref CN) "what" = some none)
    (nN_number : PySem.W.findIn K (.ref CN) "number" = some none)
    (z_int : PySem.W.nsIn K mainGlobals "int" = some none)
    (z_list : PySem.W.nsIn K mainGlobals "list" = some none)
    (z_len : PySem.W.nsIn K mainGlobals "len" = some none)
    (z_range : PySem.W.nsIn K mainGlobals "range" = some none)
    (z_str : PySem.W.nsIn K mainGlobals "str" = some none)
    (z_isinstance : PySem.W.nsIn K mainGlobals "isinstance" = some none)
    (z_tuple : PySem.W.nsIn K mainGlobals "tuple" = some none)
    (z_bool : PySem.W.nsIn K mainGlobals "bool" = some none)
    (z_abs : PySem.W.nsIn K mainGlobals "abs" = some none)
    (z_zip : PySem.W.nsIn K mainGlobals "zip" = some none)
    (z_sum : PySem.W.nsIn K mainGlobals "sum" = some none)
    (z_repr : PySem.W.nsIn K mainGlobals "repr" = some none)
    (z_all : PySem.W.nsIn K mainGlobals "all" = some none)
    (z_any : PySem.W.nsIn K mainGlobals "any" = some none)
    (z_sorted : PySem.W.nsIn K mainGlobals "sorted" = some none)
    (sp : PySem.W.specialIn K (.builtin "object.__class__") "__get__" = some (some (.builtin "getset_descriptor.__get__")))
    (tk : PySem.W.takesIn K (.builtin "object.__class__") = some true)
    (g_Z : PySem.W.nsIn K mainGlobals "Zone" = some (some (.ref CZ)))
    (m_zinit : PySem.W.findIn K (.ref CZ) "__init__" = some (some (.ref f_zinit)))
    (F_zinit : Fun K "__init__" "Zone.__init__" sZInit f_zinit d_zinit)
    (m_zeq : PySem.W.findIn K (.ref CZ) "__eq__" = some (some (.ref f_zeq)))
    (F_zeq : Fun K "__eq__" "Zone.__eq__" sZEq f_zeq d_zeq)
    (m_zin : PySem.W.findIn K (.ref CZ) "__contains__" = some (some (.ref f_zin)))
    (F_zin : Fun K "__contains__" "Zone.__contains__" sZIn f_zin d_zin)
    (m_zlow : PySem.W.findIn K (.ref CZ) "lowest" = some (some (.ref f_zlow)))
    (F_zlow : Fun K "lowest" "Zone.lowest" sZLow f_zlow d_zlow)
    (m_zgr : PySem.W.findIn K (.ref CZ) "grown" = some (some (.ref f_zgr)))
    (F_zgr : Fun K "grown" "Zone.grown" sZGr f_zgr d_zgr)
    (a_ZERO : PySem.W.nsIn K mainGlobals "ZERO" = some (some (.ref zr)))
    (a_AXES : PySem.W.nsIn K mainGlobals "AXES" = some (some (.ref ax)))
    (c_ZERO : ∀ H, SqT K H zr [.int 0, .int 1])
    (c_AXES : AxesK K ax)
    (kb : looks71 K CN CZ f_zinit f_zeq f_zin f_zlow f_zgr = true)
    (l_law : K.lookup f_law = some ⟨oc, od, .func (PySem.W.fnOf "law" "law" (defArgs sLaw) (defBody sLaw) (defScope sLaw) .none kV dc pm an cd ct), sl⟩)
    (c_law : PySem.W.codeIn K cd "law" = true)
    (k_law : PySem.W.keepIn K (.ref f_law) = true)
    : ∃ (fd : FuncData) (sp : Sp), (∀ (s : Shared) (u : Value), BindsTo s fd ⟨[u], []⟩ [("_law_script", u)]) ∧ (∀ (H : Hp) (a : Addr) (ns : List Int), ns.length ≤ 63 → Only H → SqL K H a (ns.map V.int) → sp [.ref a] H (fun v _ => v = .bl true) fun _ _ _ => False) ∧ ∀ base : Heap, K.In base → base.Ns mainGlobals mg → FnG l.prog w K mg base 8 fa fd ["_law_script"] sp := by
  have e := hfa.symm.trans (PySem.W.mg_of X G a_law)
  cases e
  have F_law := fun_mk (st := sLaw) l_law c_law k_law
  unfold looks71 at kb
  simp only [Bool.and_eq_true, decide_eq_true_eq] at kb
  obtain ⟨k_oxN, k_ebN, k_xfN, k_mNN, k_nF, k_kt, k_z0, k_z1, k_z2, k_z3, k_z4, k_z5, k_z6, k_z7, k_z8, k_z9, k_z10, k_z11, k_is_zeq, k_is_zin, k_is_zlow, k_is_zgr⟩ := kb
  unfold excBl at k_ebN
  simp only [Bool.and_eq_true, decide_eq_true_eq] at k_ebN
  obtain ⟨xN1, xN2, xN3, xN4, xN5, xN6⟩ := k_ebN
  have bd_isint := F_isint.binds (ps := psv) fun _ _ _ _ _ _ us hl => match us, hl with | [_], _ => rfl
  have bd_israt := F_israt.binds (ps := psv) fun _ _ _ _ _ _ us hl => match us, hl with | [_], _ => rfl
  have bd_lowest := F_lowest.binds (ps := ["top", "bottom"]) fun _ _ _ _ _ _ us hl => match us, hl with | [_, _], _ => rfl
  have bd_asr := F_asr.binds (ps := psv) fun _ _ _ _ _ _ us hl => match us, hl with | [_], _ => rfl
  have bd_pplus := F_pplus.binds (ps := psOO) fun _ _ _ _ _ _ us hl => match us, hl with | [_, _], _ => rfl
  have bd_pminus := F_pminus.binds (ps := psOO) fun _ _ _ _ _ _ us hl => match us, hl with | [_, _], _ => rfl
  have bd_signof := F_signof.binds (ps := ["number"]) fun _ _ _ _ _ _ us hl => match us, hl with | [_], _ => rfl
  have bd_order := F_order.binds (ps := psOO) fun _ _ _ _ _ _ us hl => match us, hl with | [_, _], _ => rfl
  have bd_shared := F_shared.binds (ps := ["ratios"]) fun _ _ _ _ _ _ us hl => match us, hl with | [_], _ => rfl
  have bd_ispt := F_ispt.binds (ps := psv) fun _ _ _ _ _ _ us hl => match us, hl with | [_], _ => rfl
  have bd_aspt := F_aspt.binds (ps := psv) fun _ _ _ _ _ _ us hl => match us, hl with | [_], _ => rfl
  have bd_dir := F_dir.binds (ps := psv) fun _ _ _ _ _ _ us hl => match us, hl with | [_], _ => rfl
  have bd_worth := F_worth.binds (ps := psDP) fun _ _ _ _ _ _ us hl => match us, hl with | [_, _], _ => rfl
  have bd_excl := F_excl.binds (ps := psEx) fun _ _ _ _ _ _ us hl => match us, hl with | [_, _, _], _ => rfl
  have bd_turned := F_turned.binds (ps := ["way"]) fun _ _ _ _ _ _ us hl => match us, hl with | [_], _ => rfl
  have bd_opp := F_opp.binds (ps := ["way"]) fun _ _ _ _ _ _ us hl => match us, hl with | [_], _ => rfl
  have bd_wayb := F_wayb.binds (ps := ["start", "end"]) fun _ _ _ _ _ _ us hl => match us, hl with | [_, _], _ => rfl
  have bd_norm := F_norm.binds (ps := ["corners"]) fun _ _ _ _ _ _ us hl => match us, hl with | [_], _ => rfl
  have bd_lowp := F_lowp.binds (ps := psLP) fun _ _ _ _ _ _ us hl => match us, hl with | [_, _], _ => rfl
  have bd_corn := F_corn.binds (ps := ["points"]) fun _ _ _ _ _ _ us hl => match us, hl with | [_], _ => rfl
  have bd_chain := F_chain.binds (ps := ["spots"]) fun _ _ _ _ _ _ us hl => match us, hl with | [_], _ => rfl
  have bd_turns := F_turns.binds (ps := psTu) fun _ _ _ _ _ _ us hl => match us, hl with | [_, _, _], _ => rfl
  have bd_pen := F_pen.binds (ps := ["_law_script"]) fun _ _ _ _ _ _ us hl => match us, hl with | [_], _ => rfl
  have bd_draw := F_draw.binds (ps := psDraw) fun _ _ _ _ _ _ us hl => match us, hl with | [_, _], _ => rfl
  have bd_pick := F_pick.binds (ps := psPick) fun _ _ _ _ _ _ us hl => match us, hl with | [_, _], _ => rfl
  have bd_big := F_big.binds (ps := psBig) fun _ _ _ _ _ _ us hl => match us, hl with | [_, _], _ => rfl
  have bd_gcd := F_gcd.binds (ps := psGcd) fun _ _ _ _ _ _ us hl => match us, hl with | [_, _], _ => rfl
  have bd_q := F_q.binds (ps := psQ) fun _ _ _ _ _ _ us hl => match us, hl with | [_, _], _ => rfl
  have bd_plus := F_plus.binds (ps := psOT) fun _ _ _ _ _ _ us hl => match us, hl with | [_, _], _ => rfl
  have bd_minus := F_minus.binds (ps := psOT) fun _ _ _ _ _ _ us hl => match us, hl with | [_, _], _ => rfl
  have bd_times := F_times.binds (ps := psOT) fun _ _ _ _ _ _ us hl => match us, hl with | [_, _], _ => rfl
  have bd_lsign := F_lsign.binds (ps := ["_law_one"]) fun _ _ _ _ _ _ us hl => match us, hl with | [_], _ => rfl
  have bd_less := F_less.binds (ps := psOT) fun _ _ _ _ _ _ us hl => match us, hl with | [_, _], _ => rfl
  have bd_dot := F_dot.binds (ps := psLDot) fun _ _ _ _ _ _ us hl => match us, hl with | [_, _], _ => rfl
  have bd_ratio := F_ratio.binds (ps := psBig) fun _ _ _ _ _ _ us hl => match us, hl with | [_, _], _ => rfl
  have bd_passed := F_passed.binds (ps := psLPassed) fun _ _ _ _ _ _ us hl => match us, hl with | [_, _], _ => rfl
  have bd_ldir := F_ldir.binds (ps := psLDir) fun _ _ _ _ _ _ us hl => match us, hl with | [_], _ => rfl
  have bd_lworth := F_lworth.binds (ps := psLW) fun _ _ _ _ _ _ us hl => match us, hl with | [_, _], _ => rfl
  have bd_least := F_least.binds (ps := psLLe) fun _ _ _ _ _ _ us hl => match us, hl with | [_], _ => rfl
  have bd_lmix := F_lmix.binds (ps := psLMix) fun _ _ _ _ _ _ us hl => match us, hl with | [_, _], _ => rfl
  have bd_cross := F_cross.binds (ps := psLCr) fun _ _ _ _ _ _ us hl => match us, hl with | [_, _, _], _ => rfl
  have bd_lpb := F_lpb.binds (ps := psOT) fun _ _ _ _ _ _ us hl => match us, hl with | [_, _], _ => rfl
  have bd_lcr := F_lcr.binds (ps := psLCR) fun _ _ _ _ _ _ us hl => match us, hl with | [_, _], _ => rfl
  have bd_llow := F_llow.binds (ps := psLLo) fun _ _ _ _ _ _ us hl => match us, hl with | [_, _], _ => rfl
  have bd_lgrown := F_lgrown.binds (ps := psLGr) fun _ _ _ _ _ _ us hl => match us, hl with | [_, _], _ => rfl
  have bd_points := F_points.binds (ps := psLDir) fun _ _ _ _ _ _ us hl => match us, hl with | [_], _ => rfl
  have bd_lpp := F_lpp.binds (ps := psLPP) fun _ _ _ _ _ _ us hl => match us, hl with | [_, _], _ => rfl
  have bd_refused := F_refused.binds (ps := psRefused) fun _ _ _ _ _ _ us hl => match us, hl with | [_, _, _], _ => rfl
  have bd_lin := F_lin.binds (ps := psLIn) fun _ _ _ _ _ _ us hl => match us, hl with | [_, _, _], _ => rfl
  have bd_zinit := F_zinit.binds (ps := psZI) fun _ _ _ _ _ _ us hl => match us, hl with | [_, _], _ => rfl
  have bd_zeq := F_zeq.binds (ps := psZE) fun _ _ _ _ _ _ us hl => match us, hl with | [_, _], _ => rfl
  have bd_zin := F_zin.binds (ps := psZC) fun _ _ _ _ _ _ us hl => match us, hl with | [_, _], _ => rfl
  have bd_zlow := F_zlow.binds (ps := psZL) fun _ _ _ _ _ _ us hl => match us, hl with | [_, _], _ => rfl
  have bd_zgr := F_zgr.binds (ps := psZG) fun _ _ _ _ _ _ us hl => match us, hl with | [_, _], _ => rfl
  have beN := IN.binds (ps := ["self", "what", "number"]) fun _ _ _ _ _ _ us hl => match us, hl with | [_, _, _], _ => rfl
  have y_int := PySem.W.mg_none_of X G z_int
  have y_list := PySem.W.mg_none_of X G z_list
  have y_len := PySem.W.mg_none_of X G z_len
  have y_range := PySem.W.mg_none_of X G z_range
  have y_str := PySem.W.mg_none_of X G z_str
  have y_isinstance := PySem.W.mg_none_of X G z_isinstance
  have y_tuple := PySem.W.mg_none_of X G z_tuple
  have y_bool := PySem.W.mg_none_of X G z_bool
  have y_abs := PySem.W.mg_none_of X G z_abs
  have y_zip := PySem.W.mg_none_of X G z_zip
  have y_sum := PySem.W.mg_none_of X G z_sum
  have y_repr := PySem.W.mg_none_of X G z_repr
  have y_all := PySem.W.mg_none_of X G z_all
  have y_any := PySem.W.mg_none_of X G z_any
  have y_sorted := PySem.W.mg_none_of X G z_sorted
  refine ⟨PySem.W.fnOf "law" "law" (defArgs sLaw) (defBody sLaw) (defScope sLaw) .none kV dc pm an cd ct, spLaw K, fun s v => .of_eq rfl, fun H a ns hl hO hS => ⟨a, ns, rfl, hS, hl, fun _ => rfl⟩, fun base _ _ => ?_⟩
  have nnN : ∀ f ∈ (["what", "number"] : List Str), PySem.W.findIn K (.ref CN) f = some none := fun f hf => by
    simp only [List.mem_cons, List.not_mem_nil, or_false] at hf
    rcases hf with rfl | rfl
    · exact nN_what
    · exact nN_number
  have EN : Err l.prog w K mg base "BadNumber" numFs CN gN eN := ⟨oexB2_ok k_oxN, i_N, t_N, ini_BadNumber IN ⟨oexB2_ok k_oxN, nnN⟩, beN, PySem.W.mg_of X G g_N⟩
  have noZ : ∀ f ∈ znK, NoAttr K CZ f := fun f hf => by
    simp only [znK, List.mem_cons, List.not_mem_nil, or_false] at hf
    rcases hf with rfl
    · exact k_z4
  have VZ : VCls K CZ znK := ⟨⟨k_z0, k_z1, k_z2, k_z3⟩, noZ⟩
  have IC : C8.InsC K CZ := ⟨VZ.cl, k_z9, sp, tk, k_z10, k_z11⟩
  have MZ : Mk K CZ f_zinit := ⟨k_z5, k_z6, k_z7, k_z8⟩
  have mZ := PySem.W.mg_of X G g_Z
  have mzr := PySem.W.mg_of X G a_ZERO
  have max_ := PySem.W.mg_of X G a_AXES
  have y_gcd := PySem.W.mg_of X G g_gcd
  have hisint : Cl l.prog w K mg base "is_integer" psv 1 (spIsInt K) f_isint d_isint := ⟨ok_isint F_isint y_isinstance y_int y_bool, PySem.W.mg_of X G a_isint, F_isint.kp, bd_isint⟩
  have hisrat : Cl l.prog w K mg base "is_ratio" psv 2 (spIsRat K) f_israt d_israt := ⟨ok_israt F_israt y_isinstance y_tuple y_len hisint, PySem.W.mg_of X G a_israt, F_israt.kp, bd_israt⟩
  have hlowest : Cl l.prog w K mg base "lowest" ["top", "bottom"] 1 spLowest f_lowest d_lowest := ⟨ok_lowest F_lowest y_gcd, PySem.W.mg_of X G a_lowest, F_lowest.kp, bd_lowest⟩
  have hasr : Cl l.prog w K mg base "as_ratio" psv 2 spAs f_asr d_asr := ⟨ok_as F_asr y_isinstance y_int hlowest, PySem.W.mg_of X G a_asr, F_asr.kp, bd_asr⟩
  have hpplus : Cl l.prog w K mg base "plus" psOO 2 (spTwo pluF) f_pplus d_pplus := ⟨ok_pplus F_pplus hlowest, PySem.W.mg_of X G a_pplus, F_pplus.kp, bd_pplus⟩
  have hpminus : Cl l.prog w K mg base "minus" psOO 2 (spTwo minF) f_pminus d_pminus := ⟨ok_pminus F_pminus hlowest, PySem.W.mg_of X G a_pminus, F_pminus.kp, bd_pminus⟩
  have hsignof : Cl l.prog w K mg base "sign_of" ["number"] 1 spSignOf f_signof d_signof := ⟨ok_signOf F_signof, PySem.W.mg_of X G a_signof, F_signof.kp, bd_signof⟩
  have horder : Cl l.prog w K mg base "order" psOO 2 spOrder f_order d_order := ⟨ok_order F_order hsignof, PySem.W.mg_of X G a_order, F_order.kp, bd_order⟩
  have hshared : Cl l.prog w K mg base "shared_bottom" ["ratios"] 1 spSharedM f_shared d_shared := ⟨ok_sharedM F_shared y_gcd, PySem.W.mg_of X G a_shared, F_shared.kp, bd_shared⟩
  have hispt : Cl l.prog w K mg base "is_point" psv 3 (spIsPt K) f_ispt d_ispt := ⟨ok_isPt F_ispt y_isinstance y_tuple y_len hisrat, PySem.W.mg_of X G a_ispt, F_ispt.kp, bd_ispt⟩
  have haspt : Cl l.prog w K mg base "as_point" psv 3 spAsPt f_aspt d_aspt := ⟨ok_asPt F_aspt hasr, PySem.W.mg_of X G a_aspt, F_aspt.kp, bd_aspt⟩
  have hworth : Cl l.prog w K mg base "worth" psDP 3 (spWorth K) f_worth d_worth := ⟨ok_worth F_worth y_zip hlowest hpplus, PySem.W.mg_of X G a_worth, F_worth.kp, bd_worth⟩
  have hexcl : Cl l.prog w K mg base "excludes" psEx 4 (spExcl K) f_excl d_excl := ⟨ok_excl F_excl y_all hworth horder, PySem.W.mg_of X G a_excl, F_excl.kp, bd_excl⟩
  have hturned : Cl l.prog w K mg base "turned" ["way"] 1 (spOneP trnF) f_turned d_turned := ⟨ok_turned F_turned, PySem.W.mg_of X G a_turned, F_turned.kp, bd_turned⟩
  have hopp : Cl l.prog w K mg base "opposite" ["way"] 1 (spOneP oppF) f_opp d_opp := ⟨ok_opposite F_opp, PySem.W.mg_of X G a_opp, F_opp.kp, bd_opp⟩
  have hwayb : Cl l.prog w K mg base "way_between" ["start", "end"] 3 (spTwoP wayF) f_wayb d_wayb := ⟨ok_wayB F_wayb hpminus, PySem.W.mg_of X G a_wayb, F_wayb.kp, bd_wayb⟩
  have hnorm : Cl l.prog w K mg base "normals_of" ["corners"] 4 (spNorm K) f_norm d_norm := ⟨ok_norm F_norm y_len y_range y_tuple max_ c_AXES hwayb hturned hopp, PySem.W.mg_of X G a_norm, F_norm.kp, bd_norm⟩
  have hlowp : Cl l.prog w K mg base "lowest_point" psLP 4 spLowP f_lowp d_lowp := ⟨ok_lowP F_lowp hworth horder, PySem.W.mg_of X G a_lowp, F_lowp.kp, bd_lowp⟩
  have hturns : Cl l.prog w K mg base "turns_left" psTu 1 spTurns f_turns d_turns := ⟨ok_turns F_turns, PySem.W.mg_of X G a_turns, F_turns.kp, bd_turns⟩
  have hchain : Cl l.prog w K mg base "lower_chain" ["spots"] 2 spChain f_chain d_chain := ⟨ok_chain F_chain y_len hturns, PySem.W.mg_of X G a_chain, F_chain.kp, bd_chain⟩
  have hcorn : Cl l.prog w K mg base "corners_of" ["points"] 3 spCorn f_corn d_corn := ⟨ok_corn F_corn y_zip y_tuple y_len y_list y_sorted hshared hchain hlowest, PySem.W.mg_of X G a_corn, F_corn.kp, bd_corn⟩
  have DG := ok_dir (P := l.prog) (w := w) (base := base) F_dir EN mzr c_ZERO hispt haspt
  have ZG := ok_zinit (C := CZ) (P := l.prog) (w := w) (base := base) F_zinit VZ EN y_isinstance y_list y_tuple y_len y_all hispt haspt hcorn
  have ZE := ok_zeq (P := l.prog) (w := w) (base := base) F_zeq VZ IC y_isinstance mZ k_kt
  have ZI := ok_zin (P := l.prog) (w := w) (base := base) F_zin VZ y_any hispt haspt hnorm hexcl
  have ZL := ok_zlow (P := l.prog) (w := w) (base := base) F_zlow VZ DG (PySem.W.mg_of X G a_dir) F_dir.kp bd_dir hlowp hworth
  have ZR := ok_zgr (P := l.prog) (w := w) (base := base) F_zgr VZ EN hisrat hasr hpminus hpplus MZ ZG mZ bd_zinit
  have hpen : Cl l.prog w K mg base "_law_pen" ["_law_script"] 1 (spPen K) f_pen d_pen := ⟨ok_pen F_pen y_int y_list, PySem.W.mg_of X G a_pen, F_pen.kp, bd_pen⟩
  have hdraw : Cl l.prog w K mg base "_law_draw" psDraw 1 spDraw f_draw d_draw := ⟨ok_draw F_draw y_int y_len, PySem.W.mg_of X G a_draw, F_draw.kp, bd_draw⟩
  have hpick : Cl l.prog w K mg base "_law_pick" psPick 2 spPick f_pick d_pick := ⟨ok_pick F_pick y_len hdraw, PySem.W.mg_of X G a_pick, F_pick.kp, bd_pick⟩
  have hbig : Cl l.prog w K mg base "_law_big" psBig 3 spBig f_big d_big := ⟨ok_big F_big y_range y_int y_str hdraw hpick, PySem.W.mg_of X G a_big, F_big.kp, bd_big⟩
  have hgcd : Cl l.prog w K mg base "_law_gcd" psGcd 1 spGcd f_gcd d_gcd := ⟨ok_gcd F_gcd y_abs y_range y_int, PySem.W.mg_of X G a_gcd, F_gcd.kp, bd_gcd⟩
  have hq : Cl l.prog w K mg base "_law_q" psQ 2 spQ f_q d_q := ⟨ok_q F_q hgcd, PySem.W.mg_of X G a_q, F_q.kp, bd_q⟩
  have hplus : Cl l.prog w K mg base "_law_plus" psOT 3 (spTwo pluF) f_plus d_plus := ⟨ok_plus F_plus hq, PySem.W.mg_of X G a_plus, F_plus.kp, bd_plus⟩
  have hminus : Cl l.prog w K mg base "_law_minus" psOT 3 (spTwo minF) f_minus d_minus := ⟨ok_lminus F_minus hq, PySem.W.mg_of X G a_minus, F_minus.kp, bd_minus⟩
  have htimes : Cl l.prog w K mg base "_law_times" psOT 3 (spTwo timF) f_times d_times := ⟨ok_times F_times hq, PySem.W.mg_of X G a_times, F_times.kp, bd_times⟩
  have hlsign : Cl l.prog w K mg base "_law_sign" ["_law_one"] 1 spLSign f_lsign d_lsign := ⟨ok_lsign F_lsign y_int, PySem.W.mg_of X G a_lsign, F_lsign.kp, bd_lsign⟩
  have hless : Cl l.prog w K mg base "_law_less" psOT 1 spLLess f_less d_less := ⟨ok_lless F_less, PySem.W.mg_of X G a_less, F_less.kp, bd_less⟩
  have hdot : Cl l.prog w K mg base "_law_dot" psLDot 4 (spLDot K) f_dot d_dot := ⟨ok_ldot F_dot y_zip hplus htimes, PySem.W.mg_of X G a_dot, F_dot.kp, bd_dot⟩
  have hratio : Cl l.prog w K mg base "_law_ratio" psBig 4 spLRatio f_ratio d_ratio := ⟨ok_lratio F_ratio hdraw hpick hbig hq, PySem.W.mg_of X G a_ratio, F_ratio.kp, bd_ratio⟩
  have hpassed : Cl l.prog w K mg base "_law_passed" psLPassed 2 spLPassed f_passed d_passed := ⟨ok_lpassed F_passed hdraw, PySem.W.mg_of X G a_passed, F_passed.kp, bd_passed⟩
  have hldir : Cl l.prog w K mg base "_law_direction" psLDir 5 spLDir f_ldir d_ldir := ⟨ok_ldir F_ldir hratio hpick, PySem.W.mg_of X G a_ldir, F_ldir.kp, bd_ldir⟩
  have hlworth : Cl l.prog w K mg base "_law_worth" psLW 4 spLWorth f_lworth d_lworth := ⟨ok_lworth F_lworth hplus htimes, PySem.W.mg_of X G a_lworth, F_lworth.kp, bd_lworth⟩
  have hleast : Cl l.prog w K mg base "_law_least" psLLe 2 spLLeast f_least d_least := ⟨ok_lleast F_least hless, PySem.W.mg_of X G a_least, F_least.kp, bd_least⟩
  have hlmix : Cl l.prog w K mg base "_law_drawn_mixture" psLMix 3 spLMix f_lmix d_lmix := ⟨ok_lmix F_lmix y_range y_sum hdraw hpick hq, PySem.W.mg_of X G a_lmix, F_lmix.kp, bd_lmix⟩
  have hcross : Cl l.prog w K mg base "_law_cross" psLCr 4 spLCross f_cross d_cross := ⟨ok_lcross F_cross hminus htimes hlsign, PySem.W.mg_of X G a_cross, F_cross.kp, bd_cross⟩
  have hlpb : Cl l.prog w K mg base "_law_point_before" psOT 2 spLPB f_lpb d_lpb := ⟨ok_lpb F_lpb hless, PySem.W.mg_of X G a_lpb, F_lpb.kp, bd_lpb⟩
  have hlcr : Cl l.prog w K mg base "_law_corners_right" psLCR 5 spLCR f_lcr d_lcr := ⟨ok_lcr F_lcr y_isinstance y_tuple y_len y_range hlpb hcross, PySem.W.mg_of X G a_lcr, F_lcr.kp, bd_lcr⟩
  have hllow : Cl l.prog w K mg base "_law_lowest" psLLo 5 spLLowest f_llow d_llow := ⟨ok_llowest F_llow hleast hlworth, PySem.W.mg_of X G a_llow, F_llow.kp, bd_llow⟩
  have hlgrown : Cl l.prog w K mg base "_law_grown" psLGr 4 spLGrown f_lgrown d_lgrown := ⟨ok_lgrown F_lgrown hplus, PySem.W.mg_of X G a_lgrown, F_lgrown.kp, bd_lgrown⟩
  have hpoints : Cl l.prog w K mg base "_law_points" psLDir 6 spLPts f_points d_points := ⟨ok_lpts F_points y_range y_zip y_tuple hdraw hpick hratio hldir hq hplus hminus htimes, PySem.W.mg_of X G a_points, F_points.kp, bd_points⟩
  have hlpp : Cl l.prog w K mg base "_law_passed_point" psLPP 3 spLPP f_lpp d_lpp := ⟨ok_lpp F_lpp hpassed, PySem.W.mg_of X G a_lpp, F_lpp.kp, bd_lpp⟩
  have LZ : ZIn l.prog w K mg base CZ f_zin d_zin := ⟨ZI, m_zin, k_is_zin, bd_zin⟩
  have hlin : Cl l.prog w K mg base "_law_inside_right" psLIn 6 (spLIn CZ) f_lin d_lin := ⟨ok_lin (fO := f_draw) (dO := d_draw) F_lin y_len y_range y_tuple LZ hldir hlmix hdot hlpp hless hlworth hpick hplus htimes, PySem.W.mg_of X G a_lin, F_lin.kp, bd_lin⟩
  have ML : Meth K CZ "lowest" f_zlow := ⟨m_zlow, k_is_zlow, F_zlow.kp⟩
  have MG : Meth K CZ "grown" f_zgr := ⟨m_zgr, k_is_zgr, F_zgr.kp⟩
  have KI : Kin K mg CN := ⟨y_repr, ⟨xN1, xN2, xN3, xN4, xN5, sp, tk, xN6⟩, xfB_ok k_xfN, nN_what, nN_number, k_mNN⟩
  have RF := ok_lref (P := l.prog) (w := w) (base := base) F_refused KI EN VZ MZ ZG mZ bd_zinit ML ZL bd_zlow MG ZR bd_zgr
  exact ok_law F_law ⟨hpen, hdraw, hpick, hq, hratio, hpassed, hldir, hpoints, hlpp, hlcr, hlin, hllow, hlgrown, VZ, MZ, ZG, mZ, bd_zinit, ZE, m_zeq, k_is_zeq, bd_zeq, k_nF, ML, ZL, bd_zlow, MG, ZR, bd_zgr, LZ, RF, PySem.W.mg_of X G a_refused, F_refused.kp, bd_refused, y_range, y_list, y_tuple, y_abs, y_repr⟩
end Fk

set_option Elab.async false
set_option maxRecDepth 100000
set_option maxHeartbeats 0
namespace Fk
open PySem L2
theorem lawS {l : PySem.W.OpenLaw} {w : World} {K : PySem.W.Frag} {h : Heap} {mg : Str → Option Value} {fa : Addr} (X : K.In h) (G : h.Ns mainGlobals mg) (hfa : mg "law" = some (.ref fa)) (c : Sh.Says fnS tfS exS h K) : ∃ (fd : FuncData) (sp : Sp), (∀ (s : Shared) (u : Value), BindsTo s fd ⟨[u], []⟩ [("_law_script", u)]) ∧ (∀ (H : Hp) (a : Addr) (ns : List Int), ns.length ≤ 63 → Only H → SqL K H a (ns.map V.int) → sp [.ref a] H (fun v _ => v = .bl true) fun _ _ _ => False) ∧ ∀ base : Heap, K.In base → base.Ns mainGlobals mg → FnG l.prog w K mg base 8 fa fd ["_law_script"] sp := by
  have e0 : some (Value.ref fa) = some (.ref (He.ga K "law")) := hfa.symm.trans (PySem.W.mg_of X G (of_decide_eq_true (c.fact 49 (f := ex49) rfl)))
  obtain rfl : fa = He.ga K "law" := by cases e0; rfl
  obtain ⟨d_F_isint, z_F_isint⟩ := c.def_ 0 (d := Sh.dg "is_integer" (top 6)) rfl
  obtain ⟨d_F_israt, z_F_israt⟩ := c.def_ 1 (d := Sh.dg "is_ratio" (top 7)) rfl
  obtain ⟨d_F_lowest, z_F_lowest⟩ := c.def_ 2 (d := Sh.dg "lowest" (top 8)) rfl
  obtain ⟨d_F_asr, z_F_asr⟩ := c.def_ 3 (d := Sh.dg "as_ratio" (top 9)) rfl
  obtain ⟨d_F_pplus, z_F_pplus⟩ := c.def_ 4 (d := Sh.dg "plus" (top 10)) rfl
  obtain ⟨d_F_pminus, z_F_pminus⟩ := c.def_ 5 (d := Sh.dg "minus" (top 11)) rfl
  obtain ⟨d_F_signof, z_F_signof⟩ := c.def_ 6 (d := Sh.dg "sign_of" (top 12)) rfl
  obtain ⟨d_F_order, z_F_order⟩ := c.def_ 7 (d := Sh.dg "order" (top 13)) rfl
  obtain ⟨d_F_shared, z_F_shared⟩ := c.def_ 8 (d := Sh.dg "shared_bottom" (top 14)) rfl
  obtain ⟨d_F_ispt, z_F_ispt⟩ := c.def_ 9 (d := Sh.dg "is_point" (top 16)) rfl
  obtain ⟨d_F_aspt, z_F_aspt⟩ := c.def_ 10 (d := Sh.dg "as_point" (top 17)) rfl
  obtain ⟨d_F_dir, z_F_dir⟩ := c.def_ 11 (d := Sh.dg "checked_direction" (top 18)) rfl
  obtain ⟨d_F_worth, z_F_worth⟩ := c.def_ 12 (d := Sh.dg "worth" (top 19)) rfl
  obtain ⟨d_F_excl, z_F_excl⟩ := c.def_ 13 (d := Sh.dg "excludes" (top 22)) rfl
  obtain ⟨d_F_turned, z_F_turned⟩ := c.def_ 14 (d := Sh.dg "turned" (top 23)) rfl
  obtain ⟨d_F_opp, z_F_opp⟩ := c.def_ 15 (d := Sh.dg "opposite" (top 24)) rfl
  obtain ⟨d_F_wayb, z_F_wayb⟩ := c.def_ 16 (d := Sh.dg "way_between" (top 25)) rfl
  obtain ⟨d_F_norm, z_F_norm⟩ := c.def_ 17 (d := Sh.dg "normals_of" (top 26)) rfl
  obtain ⟨d_F_lowp, z_F_lowp⟩ := c.def_ 18 (d := Sh.dg "lowest_point" (top 27)) rfl
  obtain ⟨d_F_corn, z_F_corn⟩ := c.def_ 19 (d := Sh.dg "corners_of" (top 30)) rfl
  obtain ⟨d_F_chain, z_F_chain⟩ := c.def_ 20 (d := Sh.dg "lower_chain" (top 31)) rfl
  obtain ⟨d_F_turns, z_F_turns⟩ := c.def_ 21 (d := Sh.dg "turns_left" (top 32)) rfl
  obtain ⟨d_F_pen, z_F_pen⟩ := c.def_ 22 (d := Sh.dg "_law_pen" (top 34)) rfl
  obtain ⟨d_F_draw, z_F_draw⟩ := c.def_ 23 (d := Sh.dg "_law_draw" (top 35)) rfl
  obtain ⟨d_F_pick, z_F_pick⟩ := c.def_ 24 (d := Sh.dg "_law_pick" (top 36)) rfl
  obtain ⟨d_F_big, z_F_big⟩ := c.def_ 25 (d := Sh.dg "_law_big" (top 37)) rfl
  obtain ⟨d_F_gcd, z_F_gcd⟩ := c.def_ 26 (d := Sh.dg "_law_gcd" (top 38)) rfl
  obtain ⟨d_F_q, z_F_q⟩ := c.def_ 27 (d := Sh.dg "_law_q" (top 39)) rfl
  obtain ⟨d_F_plus, z_F_plus⟩ := c.def_ 28 (d := Sh.dg "_law_plus" (top 40)) rfl
  obtain ⟨d_F_minus, z_F_minus⟩ := c.def_ 29 (d := Sh.dg "_law_minus" (top 41)) rfl
  obtain ⟨d_F_times, z_F_times⟩ := c.def_ 30 (d := Sh.dg "_law_times" (top 42)) rfl
  obtain ⟨d_F_lsign, z_F_lsign⟩ := c.def_ 31 (d := Sh.dg "_law_sign" (top 43)) rfl
  obtain ⟨d_F_less, z_F_less⟩ := c.def_ 32 (d := Sh.dg "_law_less" (top 44)) rfl
  obtain ⟨d_F_dot, z_F_dot⟩ := c.def_ 33 (d := Sh.dg "_law_dot" (top 45)) rfl
  obtain ⟨d_F_ratio, z_F_ratio⟩ := c.def_ 34 (d := Sh.dg "_law_ratio" (top 46)) rfl
  obtain ⟨d_F_passed, z_F_passed⟩ := c.def_ 35 (d := Sh.dg "_law_passed" (top 47)) rfl
  obtain ⟨d_F_ldir, z_F_ldir⟩ := c.def_ 36 (d := Sh.dg "_law_direction" (top 48)) rfl
  obtain ⟨d_F_lworth, z_F_lworth⟩ := c.def_ 37 (d := Sh.dg "_law_worth" (top 49)) rfl
  obtain ⟨d_F_least, z_F_least⟩ := c.def_ 38 (d := Sh.dg "_law_least" (top 50)) rfl
  obtain ⟨d_F_lmix, z_F_lmix⟩ := c.def_ 39 (d := Sh.dg "_law_drawn_mixture" (top 51)) rfl
  obtain ⟨d_F_cross, z_F_cross⟩ := c.def_ 40 (d := Sh.dg "_law_cross" (top 52)) rfl
  obtain ⟨d_F_lpb, z_F_lpb⟩ := c.def_ 41 (d := Sh.dg "_law_point_before" (top 53)) rfl
  obtain ⟨d_F_lcr, z_F_lcr⟩ := c.def_ 42 (d := Sh.dg "_law_corners_right" (top 54)) rfl
  obtain ⟨d_F_llow, z_F_llow⟩ := c.def_ 43 (d := Sh.dg "_law_lowest" (top 55)) rfl
  obtain ⟨d_F_lgrown, z_F_lgrown⟩ := c.def_ 44 (d := Sh.dg "_law_grown" (top 56)) rfl
  obtain ⟨d_F_points, z_F_points⟩ := c.def_ 45 (d := Sh.dg "_law_points" (top 57)) rfl
  obtain ⟨d_F_lpp, z_F_lpp⟩ := c.def_ 46 (d := Sh.dg "_law_passed_point" (top 58)) rfl
  obtain ⟨d_F_refused, z_F_refused⟩ := c.def_ 47 (d := Sh.dg "_law_refused" (top 59)) rfl
  obtain ⟨d_F_lin, z_F_lin⟩ := c.def_ 48 (d := Sh.dg "_law_inside_right" (top 60)) rfl
  obtain ⟨d_IN, z_IN⟩ := c.def_ 49 (d := Sh.dm "BadNumber" "__init__" "BadNumber.__init__" (inClass (top 3) 0)) rfl
  obtain ⟨d_F_zinit, z_F_zinit⟩ := c.def_ 50 (d := Sh.dm "Zone" "__init__" "Zone.__init__" (inClass (top 29) 0)) rfl
  obtain ⟨d_F_zeq, z_F_zeq⟩ := c.def_ 51 (d := Sh.dm "Zone" "__eq__" "Zone.__eq__" (inClass (top 29) 1)) rfl
  obtain ⟨d_F_zin, z_F_zin⟩ := c.def_ 52 (d := Sh.dm "Zone" "__contains__" "Zone.__contains__" (inClass (top 29) 2)) rfl
  obtain ⟨d_F_zlow, z_F_zlow⟩ := c.def_ 53 (d := Sh.dm "Zone" "lowest" "Zone.lowest" (inClass (top 29) 3)) rfl
  obtain ⟨d_F_zgr, z_F_zgr⟩ := c.def_ 54 (d := Sh.dm "Zone" "grown" "Zone.grown" (inClass (top 29) 4)) rfl
  obtain ⟨d_law, z_law⟩ := c.def_ 55 (d := Sh.dg "law" (top 61)) rfl
  obtain ⟨oc, od, kV, dc, pm, an, cdv, ct, osl, p_f, p_l, p_c⟩ := (He5.fun_of (x := "law") (qual := "law") (st := sLaw) (f := He.ga K "law") (kws := []) z_law).ex
  subst p_f
  exact all_mk X G hfa (of_decide_eq_true (c.fact 0 (f := ex0) rfl)) (He5.fun_of z_F_isint) (of_decide_eq_true (c.fact 1 (f := ex1) rfl)) (He5.fun_of z_F_israt) (of_decide_eq_true (c.fact 2 (f := ex2) rfl)) (He5.fun_of z_F_lowest) (of_decide_eq_true (c.fact 3 (f := ex3) rfl)) (He5.fun_of z_F_asr) (of_decide_eq_true (c.fact 4 (f := ex4) rfl)) (He5.fun_of z_F_pplus) (of_decide_eq_true (c.fact 5 (f := ex5) rfl)) (He5.fun_of z_F_pminus) (of_decide_eq_true (c.fact 6 (f := ex6) rfl)) (He5.fun_of z_F_signof) (of_decide_eq_true (c.fact 7 (f := ex7) rfl)) (He5.fun_of z_F_order) (of_decide_eq_true (c.fact 8 (f := ex8) rfl)) (He5.fun_of z_F_shared) (of_decide_eq_true (c.fact 9 (f := ex9) rfl)) (He5.fun_of z_F_ispt) (of_decide_eq_true (c.fact 10 (f := ex10) rfl)) (He5.fun_of z_F_aspt) (of_decide_eq_true (c.fact 11 (f := ex11) rfl)) (He5.fun_of z_F_dir) (of_decide_eq_true (c.fact 12 (f := ex12) rfl)) (He5.fun_of z_F_worth) (of_decide_eq_true (c.fact 13 (f := ex13) rfl)) (He5.fun_of z_F_excl) (of_decide_eq_true (c.fact 14 (f := ex14) rfl)) (He5.fun_of z_F_turned) (of_decide_eq_true (c.fact 15 (f := ex15) rfl)) (He5.fun_of z_F_opp) (of_decide_eq_true (c.fact 16 (f := ex16) rfl)) (He5.fun_of z_F_wayb) (of_decide_eq_true (c.fact 17 (f := ex17) rfl)) (He5.fun_of z_F_norm) (of_decide_eq_true (c.fact 18 (f := ex18) rfl)) (He5.fun_of z_F_lowp) (of_decide_eq_true (c.fact 19 (f := ex19) rfl)) (He5.fun_of z_F_corn) (of_decide_eq_true (c.fact 20 (f := ex20) rfl)) (He5.fun_of z_F_chain) (of_decide_eq_true (c.fact 21 (f := ex21) rfl)) (He5.fun_of z_F_turns) (of_decide_eq_true (c.fact 22 (f := ex22) rfl)) (He5.fun_of z_F_pen) (of_decide_eq_true (c.fact 23 (f := ex23) rfl)) (He5.fun_of z_F_draw) (of_decide_eq_true (c.fact 24 (f := ex24) rfl)) (He5.fun_of z_F_pick) (of_decide_eq_true (c.fact 25 (f := ex25) rfl)) (He5.fun_of z_F_big) (of_decide_eq_true (c.fact 26 (f := ex26) rfl)) (He5.fun_of z_F_gcd) (of_decide_eq_true (c.fact 27 (f := ex27) rfl)) (He5.fun_of z_F_q) (of_decide_eq_true (c.fact 28 (f := ex28) rfl)) (He5.fun_of z_F_plus) (of_decide_eq_true (c.fact 29 (f := ex29) rfl)) (He5.fun_of z_F_minus) (of_decide_eq_true (c.fact 30 (f := ex30) rfl)) (He5.fun_of z_F_times) (of_decide_eq_true (c.fact 31 (f := ex31) rfl)) (He5.fun_of z_F_lsign) (of_decide_eq_true (c.fact 32 (f := ex32) rfl)) (He5.fun_of z_F_less) (of_decide_eq_true (c.fact 33 (f := ex33) rfl)) (He5.fun_of z_F_dot) (of_decide_eq_true (c.fact 34 (f := ex34) rfl)) (He5.fun_of z_F_ratio) (of_decide_eq_true (c.fact 35 (f := ex35) rfl)) (He5.fun_of z_F_passed) (of_decide_eq_true (c.fact 36 (f := ex36) rfl)) (He5.fun_of z_F_ldir) (of_decide_eq_true (c.fact 37 (f := ex37) rfl)) (He5.fun_of z_F_lworth) (of_decide_eq_true (c.fact 38 (f := ex38) rfl)) (He5.fun_of z_F_least) (of_decide_eq_true (c.fact 39 (f := ex39) rfl)) (He5.fun_of z_F_lmix) (of_decide_eq_true (c.fact 40 (f := ex40) rfl)) (He5.fun_of z_F_cross) (of_decide_eq_true (c.fact 41 (f := ex41) rfl)) (He5.fun_of z_F_lpb) (of_decide_eq_true (c.fact 42 (f := ex42) rfl)) (He5.fun_of z_F_lcr) (of_decide_eq_true (c.fact 43 (f := ex43) rfl)) (He5.fun_of z_F_llow) (of_decide_eq_true (c.fact 44 (f := ex44) rfl)) (He5.fun_of z_F_lgrown) (of_decide_eq_true (c.fact 45 (f := ex45) rfl)) (He5.fun_of z_F_points) (of_decide_eq_true (c.fact 46 (f := ex46) rfl)) (He5.fun_of z_F_lpp) (of_decide_eq_true (c.fact 47 (f := ex47) rfl)) (He5.fun_of z_F_refused) (of_decide_eq_true (c.fact 48 (f := ex48) rfl)) (He5.fun_of z_F_lin) (of_decide_eq_true (c.fact 49 (f := ex49) rfl)) (of_decide_eq_true (c.fact 50 (f := ex50) rfl)) (of_decide_eq_true (c.fact 51 (f := ex51) rfl)) (of_decide_eq_true (c.fact 52 (f := ex52) rfl)) (of_decide_eq_true (c.fact 53 (f := ex53) rfl)) (He5.fun_of z_IN) (of_decide_eq_true (c.fact 54 (f := ex54) rfl)) (of_decide_eq_true (c.fact 55 (f := ex55) rfl)) (of_decide_eq_true (c.fact 56 (f := ex56) rfl)) (of_decide_eq_true (c.fact 57 (f := ex57) rfl)) (of_decide_eq_true (c.fact 58 (f := ex58) rfl)) (of_decide_eq_true (c.fact 59 (f := ex59) rfl)) (of_decide_eq_true (c.fact 60 (f := ex60) rfl)) (of_decide_eq_true (c.fact 61 (f := ex61) rfl)) (of_decide_eq_true (c.fact 62 (f := ex62) rfl)) (of_decide_eq_true (c.fact 63 (f := ex63) rfl)) (of_decide_eq_true (c.fact 64 (f := ex64) rfl)) (of_decide_eq_true (c.fact 65 (f := ex65) rfl)) (of_decide_eq_true (c.fact 66 (f := ex66) rfl)) (of_decide_eq_true (c.fact 67 (f := ex67) rfl)) (of_decide_eq_true (c.fact 68 (f := ex68) rfl)) (of_decide_eq_true (c.fact 69 (f := ex69) rfl)) (of_decide_eq_true (c.fact 70 (f := ex70) rfl)) (of_decide_eq_true (c.fact 71 (f := ex71) rfl)) (of_decide_eq_true (c.fact 72 (f := ex72) rfl)) (of_decide_eq_true (c.fact 73 (f := ex73) rfl)) (of_decide_eq_true (c.fact 74 (f := ex74) rfl)) (He5.fun_of z_F_zinit) (of_decide_eq_true (c.fact 75 (f := ex75) rfl)) (He5.fun_of z_F_zeq) (of_decide_eq_true (c.fact 76 (f := ex76) rfl)) (He5.fun_of z_F_zin) (of_decide_eq_true (c.fact 77 (f := ex77) rfl)) (He5.fun_of z_F_zlow) (of_decide_eq_true (c.fact 78 (f := ex78) rfl)) (He5.fun_of z_F_zgr) (of_decide_eq_true (c.fact 79 (f := ex79) rfl)) (of_decide_eq_true (c.fact 80 (f := ex80) rfl)) (fun H => Sh.tupAtB_ok (c.fact 81 (f := ex81) rfl) H) (axesB_ok (c.fact 82 (f := ex82) rfl)) (c.fact 83 (f := ex83) rfl) p_l p_c z_law.kp
end Fk
open PySem PySem.W PyProof.Rows
set_option maxRecDepth 100000 in
set_option maxHeartbeats 0 in
theorem PySem.Challenge.cw_everyfoe_k71_whole_zones_holds : PySem.Challenge.rw_everyfoe_k71_whole_zones.Holds := by
  w_on; o_law
  refine HandSHeadRun.head_imp (r := Fk.RowS) (q := view Fk.RowS.prog [61]) (H := Fk.hkS) (ob := Fk.obS) (M := 20000) (loose := Fk.looseS) (d := HandSHeadRun.topDef Fk.RowS.prog 61) (kwd := []) Fk.obS_eq
    Fk.runS (by kernel_rfl) (by kernel_rfl) (by kernel_rfl) (by rfl) (by first | assumption | decide +kernel) (by decide +kernel) ⟨rfl, rfl, rfl, rfl, rfl, by decide +kernel⟩ ?hw ?hc
  case hw => w_witness2
  case hc =>
    refine Fk.walkGE (l := PySem.Challenge.rw_everyfoe_k71_whole_zones) (n := 63) (k := 8) (x := "_law_script") rfl (by decide) (by kernel_rfl) ⟨rfl, by decide, by decide⟩ ?F
    intro w mg fa h Y G hmg0
    obtain ⟨K, KX, c⟩ := Y
    have hmg : mg ("law" : PySem.Str) = some (.ref fa) := by
      have e : (HandSHeadRun.topDef Fk.RowS.prog 61).name = ("law" : PySem.Str) := by kernel_rfl
      rw [← e]
      exact hmg0
    obtain ⟨fd, sp, hb, hsp, hF⟩ := Fk.lawS (l := PySem.Challenge.rw_everyfoe_k71_whole_zones) (w := w) KX G hmg c
    exact ⟨K, fd, sp, KX, hb, hsp, hF⟩
