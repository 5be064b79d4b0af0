import PyProof.Rows.All
import Wide.All
import OpenK.AllK
import Wide.FinOn
import HandS.ForMost
import HandS.Codes
import HandS.IsInst
import HandS.Exc
import HandS.ExcIs
import HandS.Gcd
import HandS.TryMany
import HandS.WordsExc
import KE.KIntText
import PyProof.TupleOfStr
import PyProof.StrBlock2
import HandS.ExcInit
import HandS.ExcField
import HandS.ExcValue
import KE.KExcIs
import HandS.DictComp
import HandS.Lambda
import HandS.FStr
import HandS.Conv
import HandS.DictTup
import HandS.EndTab
import HandS.Style
import HandS.Small
import HandS.TupAny
import PySem.Challenge.RW_everyfoe_k02_whole_solved
import HandS.EndOwn
import HandS.Head3
import HandS.HeadEnd
import HandS.HeadHook4
import HandS.HeadNt
import HandS.HeadWalk
import HandS.Wide
import HandS.WideBits
import HandS.Zip
import HandS.Flow
import HandS.Defaults
import HandS.ExcOwn
import KE.GoesMore
import KE.GoesZip
import HandS.Star
set_option Elab.async false
set_option maxRecDepth 100000
namespace Fk
open PySem L2
def top (i : Nat) : Stmt := PySem.Challenge.pw_everyfoe_k02_whole_solved.main.body.getD i (.Pass ⟨0, 0, 0, 0⟩)
end Fk

set_option Elab.async false
set_option maxRecDepth 100000
set_option maxHeartbeats 4000000
namespace Fk
open PySem L2
def oexB (K : PySem.W.Frag) (C : Addr) : Bool := match K.lookup C with
  | some ⟨.type "type", _, .cls cd, sl⟩ => (match cd.mro, sl.toList with
    | .ref C' :: bm, [_, _, _, _, some (.builtin n), _] => C' == C && (n == "ValueError.__new__" && (!cd.hasDel && (cd.hasDict && PySem.HandSPX.refsVE bm)))
    | _, _ => false)
  | _ => false
def oexB2 (K : PySem.W.Frag) (C : Addr) : Bool := oexB K C && (decide (PySem.W.findIn K (.ref C) "__setattr__" = some (some (.builtin "object.__setattr__"))) && (decide (PySem.W.subIn K (.ref C) (.type "BaseException") = some true) && (decide (PySem.W.typeIn K (.ref C) = some (.type "type")) && PySem.W.keepIn K (.ref C))))
theorem oexB_ok {K : PySem.W.Frag} {C : Addr} (q : oexB K C = true) : ∃ nm q N bs bm sn sub ab col dd k0 k1 k2 k3 k5, K.lookup C = some (excClassObj nm q C N bs bm true sn sub ab col dd k0 k1 k2 k3 k5 "ValueError.__new__") ∧ PySem.HandSPX.refsVE bm = true := by
  unfold oexB at q
  split at q
  · rename_i dd cd sl ho
    split at q
    · rename_i D bm s0 s1 s2 s3 n s5 hm hs
      simp only [Bool.and_eq_true, beq_iff_eq, Bool.not_eq_true'] at q
      obtain ⟨rfl, rfl, g1, g2, g3⟩ := q
      obtain ⟨w1, w2, w3, w4, w5, w6, w7, w8, w9, w10, w11⟩ := cd
      dsimp only at hm g1 g2
      subst hm g1 g2
      obtain ⟨ls⟩ := sl
      dsimp only at hs
      subst hs
      exact ⟨_, _, _, _, _, _, _, _, _, _, _, _, _, _, _, ho, g3⟩
    · cases q
  · cases q
def excBl (K : PySem.W.Frag) (C : Addr) : Bool :=
  decide (PySem.W.findIn K (.ref C) "__getattribute__" = some (some (.builtin "BaseException.__getattribute__"))) && (decide (PySem.W.findIn K (.ref C) "__getattr__" = some none) && (decide (PySem.W.subIn K (.ref C) (.type "BaseException") = some true) &&
  (PySem.W.hasDictIn K C && (decide (PySem.W.findIn K (.ref C) "__class__" = some (some (.builtin "object.__class__"))) && decide (PySem.W.mroIn K C (.type "object") = some true)))))
def looks2 (K : PySem.W.Frag) (CF CN CS : Addr) : Bool :=
  oexB2 K CN && (excBl K CN && (xfB K CN && (decide (PySem.W.exmOne K (.ref CN) (.ref CN) = some true) && (decide (PySem.W.kitOne K (.ref CN) (.ref CF) = some true) && (decide (PySem.W.kitOne K (.ref CN) (.ref CS) = some false) && (decide (PySem.W.kitOne K (.ref CS) (.ref CF) = some true) && (excBl K CS && (decide (PySem.W.exmOne K (.ref CS) (.ref CS) = some true) && (PySem.W.excIn K CS [.type "ValueError", .type "Exception", .type "BaseException", .type "object"] "ValueError.__new__" && (decide (PySem.W.keepIn K (.ref CS) = true) && (decide (PySem.W.subIn K (.ref CS) (.type "BaseException") = some true) && (decide (PySem.W.typeIn K (.ref CS) = some (.type "type"))))))))))))))
end Fk

set_option Elab.async false
set_option maxRecDepth 100000
set_option maxHeartbeats 4000000
/-! a head by one run, its facts by names: only what is asked is looked at -/
namespace Sh
open PySem PySem.Spec PyProof.Rows L2 He
def frL {α : Type} (l : List Nat) (k : List Nat → α) : α := match l with
  | [] => k []
  | a :: r => HandSHeadRun.frNat a fun a => frL r fun r => k (a :: r)
theorem frL_eq {α : Type} : ∀ (l : List Nat) (k : List Nat → α), frL l k = k l
  | [], _ => rfl
  | a :: r, k => by
    show HandSHeadRun.frNat a (fun a => frL r fun r => k (a :: r)) = _
    rw [HandSHeadRun.frNat_eq, frL_eq r]
/-- the objects at these places, tables without a word left out -/
def pick (g : Addr → Option Obj) : List Addr → PySem.W.Frag
  | [] => []
  | a :: r => match g a with
    | none => pick g r
    | some o => match emptyTab o with
      | true => pick g r
      | false => (a, o) :: pick g r
def frK {α : Type} (K : PySem.W.Frag) (k : PySem.W.Frag → α) : α := match K with
  | [] => k []
  | (a, o) :: r => frK r fun r => k ((a, o) :: r)
theorem frK_eq {α : Type} : ∀ (K : PySem.W.Frag) (k : PySem.W.Frag → α), frK K k = k K
  | [], _ => rfl
  | (a, o) :: r, k => by
    show frK r (fun r => k ((a, o) :: r)) = _
    rw [frK_eq r]
theorem pick_mem {g : Addr → Option Obj} {a : Addr} {o : Obj} : ∀ as : List Addr, (a, o) ∈ pick g as → g a = some o ∧ emptyTab o = false
  | [], h => by cases h
  | b :: r, h => by
    unfold pick at h
    cases hb : g b with
    | none =>
      rw [hb] at h
      exact pick_mem r h
    | some u =>
      rw [hb] at h
      cases he : emptyTab u with
      | true =>
        have h2 : (a, o) ∈ (match emptyTab u with
          | true => pick g r
          | false => (b, u) :: pick g r) := h
        rw [he] at h2
        exact pick_mem r h2
      | false =>
        have h2 : (a, o) ∈ (match emptyTab u with
          | true => pick g r
          | false => (b, u) :: pick g r) := h
        rw [he] at h2
        rcases List.mem_cons.mp h2 with z | z
        · obtain ⟨rfl, rfl⟩ := Prod.mk.inj z
          exact ⟨hb, he⟩
        · exact pick_mem r z
theorem pick_in {as : List Addr} {h : Heap} : (pick h.get? as).In h := fun _ _ e => (pick_mem as (lookup_mem e)).1
theorem pick_none {g : Addr → Option Obj} {as : List Addr} {a : Addr} {o : Obj} (h : g a = some o) (ht : emptyTab o = true) : (pick g as).lookup a = none := by
  cases e : (pick g as).lookup a with
  | none => rfl
  | some u =>
    obtain ⟨h1, h2⟩ := pick_mem as (lookup_mem e)
    rw [h] at h1
    rw [← Option.some.inj h1, ht] at h2
    cases h2
/-- what an object of the top names, as far as it is asked -/
def refs1 (o : Option Obj) : List Addr := match o with
  | none => []
  | some o => match o.data with
    | .func fd => refV fd.code ++ (refV fd.defaults ++ refV fd.kwdefaults)
    | .cls cd => cd.ns :: cd.mro.flatMap refV
    | .seq its _ => its.toList.flatMap refV
    | _ => []
def grow1 {α : Type} (g : Addr → Option Obj) (as : List Addr) (k : List Addr → α) : α := frL (as.flatMap fun a => refs1 (g a)) k
/-- names of the module, of methods: the places that are looked at -/
def asP (gs : List Str) (ms : List (Str × Str)) (g : Addr → Option Obj) : List Addr :=
  frK (pick g [mainGlobals]) fun K0 => frL (gs.map (ga K0)) fun a1 => grow1 g a1 fun a2 => grow1 g a2 fun a3 =>
  frK (pick g (mainGlobals :: (a1 ++ a2))) fun K1 => frL (ms.map fun q => ma K1 (ga K1 q.1) q.2) fun b1 => grow1 g b1 fun b2 => grow1 g b2 fun b3 =>
  mainGlobals :: cStatics :: (a1 ++ (a2 ++ (a3 ++ (b1 ++ (b2 ++ b3)))))
/-- what is told -/
structure Says (fn : List DefD) (tf : List Defn) (ex : List (PySem.W.Frag → Bool)) (h : Heap) (K : PySem.W.Frag) : Prop where
  fns : (fn.all fun d => d.ok K) = true
  eqs : (fn.map fun d => fnW K d.at_) = fn.map DefD.val
  more : (ex.all fun p => p K) = true
  hd : ∀ p ∈ tf, PySem.W.codeHdIn K (cT K p).1 (cT K p).2 = true
  out : ∀ p ∈ tf, K.lookup (cT K p).2 = none
  empty : ∀ p ∈ tf, h.get? (cT K p).2 = some { cls := .none, data := .fields #[] }
abbrev Al : Type := Bool × List FnW
def obsK (fn : List DefD) (tf : List Defn) (ex : List (PySem.W.Frag → Bool)) (g : Addr → Option Obj) (K : PySem.W.Frag) : Al := ((fn.all fun d => d.ok K) && ((ex.all fun p => p K) && tabsB g tf K), fn.map fun d => fnW K d.at_)
def obs (asf : (Addr → Option Obj) → List Addr) (fn : List DefD) (tf : List Defn) (ex : List (PySem.W.Frag → Bool)) (g : Addr → Option Obj) : Al := frK (pick g (asf g)) fun K => obsK fn tf ex g K
def val (fn : List DefD) : Al := (true, fn.map DefD.val)
theorem says_of {asf : (Addr → Option Obj) → List Addr} {fn : List DefD} {tf : List Defn} {ex : List (PySem.W.Frag → Bool)} {h : Heap} (e : obs asf fn tf ex h.get? = val fn) : Says fn tf ex h (pick h.get? (asf h.get?)) := by
  unfold obs at e
  rw [frK_eq] at e
  generalize hK : pick h.get? (asf h.get?) = K at e
  have e1 : ((fn.all fun d => d.ok K) && ((ex.all fun p => p K) && tabsB h.get? tf K)) = true := congrArg (fun z : Al => z.1) e
  have e2 : (fn.map fun d => fnW K d.at_) = fn.map DefD.val := congrArg (fun z : Al => z.2) e
  obtain ⟨h1, h2⟩ := ba e1
  obtain ⟨h3, h4⟩ := ba h2
  have key : ∀ p ∈ tf, PySem.W.codeHdIn K (cT K p).1 (cT K p).2 = true ∧ ∃ o, h.get? (cT K p).2 = some o ∧ emptyTab o = true := fun p hp => by
    obtain ⟨h3, h4⟩ := ba (List.all_eq_true.mp h4 p hp)
    refine ⟨h3, ?_⟩
    cases q : h.get? (cT K p).2 with
    | none =>
      rw [q] at h4
      cases h4
    | some o =>
      rw [q] at h4
      exact ⟨o, rfl, h4⟩
  exact ⟨h1, e2, h3, fun p hp => (key p hp).1, fun p hp => by
    obtain ⟨_, o, q, z⟩ := key p hp
    rw [← hK]
    exact hK ▸ pick_none q z, fun p hp => by
    obtain ⟨_, o, q, z⟩ := key p hp
    rw [q, emptyTab_eq z]⟩
def hook (asf : (Addr → Option Obj) → List Addr) (fn : List DefD) (tf : List Defn) (ex : List (PySem.W.Frag → Bool)) : PySem.W.Hook where
  α := Al
  obs := fun s => obs asf fn tf ex s.heap.get?
  val := fun _ => val fn
  says := fun _ h => ∃ K : PySem.W.Frag, K.In h ∧ Says fn tf ex h K
  of := fun _ _ e => ⟨_, pick_in, says_of e⟩
  keeps := fun _ _ _ ⟨K, hK, c⟩ k => ⟨K, PySem.W.Frag.In.keeps hK k, ⟨c.fns, c.eqs, c.more, c.hd, c.out, fun p hp => k _ _ (c.empty p hp)⟩⟩
theorem obs_eq {asf : (Addr → Option Obj) → List Addr} {fn : List DefD} {tf : List Defn} {ex : List (PySem.W.Frag → Bool)} {g : Addr → Option Obj} {s : Shared} (h : ∀ a, g a = s.heap.get? a) : obs asf fn tf ex g = (hook asf fn tf ex).obs s := by
  have e : g = s.heap.get? := funext h
  rw [e] <;> rfl
section
variable {fn : List DefD} {tf : List Defn} {ex : List (PySem.W.Frag → Bool)} {h : Heap} {K : PySem.W.Frag}
theorem Says.fact (c : Says fn tf ex h K) (i : Nat) {f : PySem.W.Frag → Bool} (hf : ex[i]? = some f) : f K = true := List.all_eq_true.mp c.more f (List.mem_of_getElem? hf)
theorem Says.def_ (c : Says fn tf ex h K) (i : Nat) {d : DefD} (hd : fn[i]? = some d) : ∃ fd, FunD K d.name d.qual d.params d.body d.scope (d.dvs K) (d.kws K) (fAd K d.at_) fd := by
  have e2 : (fn.map fun d => fnW K d.at_)[i]? = (fn.map DefD.val)[i]? := by rw [c.eqs]
  rw [List.getElem?_map, List.getElem?_map, hd] at e2
  exact DefD.funD (Option.some.inj e2) (List.all_eq_true.mp c.fns d (List.mem_of_getElem? hd))
end
/-- a def of the top by its statement -/
def dg (x : Str) (st : Stmt) : DefD := ⟨(x, none), x, x, defArgs st, defBody st, defScope st, [], []⟩
def dm (C m q : Str) (st : Stmt) : DefD := ⟨(C, some m), m, q, defArgs st, defBody st, defScope st, [], []⟩
/-- a tuple at a place -/
def tupAtB (K : PySem.W.Frag) (a : Addr) (vs : List V) : Bool := match K.lookup a with
  | some ⟨.type c, _, .seq its _, _⟩ => decide (c = "tuple") && (decide (its.size ≤ sizeLine) && relAll vs its.toList)
  | _ => false
theorem tupAtB_ok {K : PySem.W.Frag} {a : Addr} {vs : List V} (h : tupAtB K a vs = true) (H : Hp) : SqT K H a vs := by
  unfold tupAtB at h
  cases q : K.lookup a with
  | none =>
    rw [q] at h
    cases h
  | some o =>
    obtain ⟨oc, od, dt, osl⟩ := o
    rw [q] at h
    cases oc with
    | type c =>
      cases dt with
      | seq its n =>
        obtain ⟨h1, h2⟩ := ba (show (decide (c = "tuple") && (decide (its.size ≤ sizeLine) && relAll vs its.toList)) = true from h)
        obtain ⟨h3, h4⟩ := ba h2
        exact .inr ⟨_, its, n, q, congrArg Value.type (of_decide_eq_true h1), rfl, of_decide_eq_true h3, relAll_ok h4⟩
      | _ => cases h
    | _ => cases dt <;> cases h
/-- a text, a number of the module -/
def strB (K : PySem.W.Frag) (x z : Str) : Bool := match PySem.W.nsIn K mainGlobals x with
  | some (some (.str y _)) => decide (y = z)
  | _ => false
def intB (K : PySem.W.Frag) (x : Str) (i : Int) : Bool := match PySem.W.nsIn K mainGlobals x with
  | some (some (.int j _)) => decide (j = i)
  | _ => false
theorem strB_ok {K : PySem.W.Frag} {x z : Str} (c2 : strB K x z = true) : ∃ t, PySem.W.nsIn K mainGlobals x = some (some (.str z t)) := by
  unfold strB at c2
  cases e : PySem.W.nsIn K mainGlobals x with
  | none =>
    rw [e] at c2
    cases c2
  | some o =>
    rw [e] at c2
    cases o with
    | none => cases c2
    | some v =>
      cases v with
      | str y t =>
        have ej : y = z := of_decide_eq_true c2
        rw [ej]
        exact ⟨t, rfl⟩
      | _ => cases c2
theorem intB_ok {K : PySem.W.Frag} {x : Str} {i : Int} (c2 : intB K x i = true) : ∃ t, PySem.W.nsIn K mainGlobals x = some (some (.int i t)) := by
  unfold intB at c2
  cases e : PySem.W.nsIn K mainGlobals x with
  | none =>
    rw [e] at c2
    cases c2
  | some o =>
    rw [e] at c2
    cases o with
    | none => cases c2
    | some v =>
      cases v with
      | int j t =>
        have ej : j = i := of_decide_eq_true c2
        rw [ej]
        exact ⟨t, rfl⟩
      | _ => cases c2
/-- the law's own def, its code, its table -/
theorem law_parts {fn : List DefD} {tf : List Defn} {ex : List (PySem.W.Frag → Bool)} {h : Heap} {K : PySem.W.Frag} (c : Says fn tf ex h K) {x q : Str} {st : Stmt} {fd : FuncData} (F : FunD K x q (defArgs st) (defBody st) (defScope st) [] [] (fAd K (x, none)) fd) (hm : ((x, none) : Defn) ∈ tf) :
    ∃ (oc kV dc pm ct yoc : Value) (od an yod : Option Addr) (osl ysl : Array (Option Value)) (cc Pt : Addr) (yvs : Array Value), fd = PySem.W.fnOf x q (defArgs st) (defBody st) (defScope st) .none kV dc pm an (.ref cc) ct ∧
      K.lookup (fAd K (x, none)) = some ⟨oc, od, .func fd, osl⟩ ∧ PySem.W.codeIn K (.ref cc) q = true ∧ K.lookup cc = some ⟨yoc, yod, .fields yvs, ysl⟩ ∧ (yvs[11]? : Option Value) = some (.ref Pt) ∧ PySem.W.codeHdIn K cc Pt = true ∧ K.lookup Pt = none ∧
      h.get? Pt = some { cls := .none, data := .fields #[] } := by
  obtain ⟨oc, od, dV, kV, doc, pm, an, cdv, ct, osl, e, l, ci, hd, _⟩ := F.ex
  rcases hd with ⟨_, e2⟩ | ⟨e2, _⟩
  · subst e2
    obtain ⟨cc, rfl⟩ := codeIn_ref ci
    have ec : codeOf K (x, none) = cc := codeOf_eq l (by rw [e])
    have h1 := c.hd _ hm
    have h2 := c.out _ hm
    have h3 := c.empty _ hm
    have e1 : (cT K (x, none)).1 = cc := ec
    rw [e1] at h1
    have e3 : (cT K (x, none)).2 = tabOf K cc := by
      show tabOf K (codeOf K (x, none)) = _
      rw [ec]
    rw [e3] at h1 h2 h3
    generalize tabOf K cc = Pt at h1 h2 h3
    have h1' := h1
    unfold PySem.W.codeHdIn at h1
    split at h1
    · rename_i od2 vs sl2 hk
      simp only [Bool.and_eq_true] at h1
      obtain ⟨⟨⟨⟨⟨e1, _⟩, _⟩, _⟩, _⟩, _⟩ := h1
      split at e1
      · rename_i P' h11
        have hP : P' = Pt := beq_iff_eq.mp e1
        subst hP
        exact ⟨oc, kV, doc, pm, ct, _, od, an, od2, osl, sl2, cc, P', vs, e, l, ci, hk, h11, h1', h2, h3⟩
      · cases e1
    · cases h1
  · exact absurd rfl e2
/-- the law's table is its own -/
theorem own_of {K : PySem.W.Frag} {h : Heap} {f cc Pt : Addr} {oc yoc : Value} {od yod : Option Addr} {fd : FuncData} {osl ysl : Array (Option Value)} {yvs : Array Value} (l : K.lookup f = some ⟨oc, od, .func fd, osl⟩) (ec : fd.code = .ref cc) (hk : K.lookup cc = some ⟨yoc, yod, .fields yvs, ysl⟩)
    (h11 : (yvs[11]? : Option Value) = some (.ref Pt)) (he : h.get? Pt = some { cls := .none, data := .fields #[] }) : LamX.OwnTab K f h := fun c P o fd1 e dd vs1 sl k1 k2 k3 k4 k5 => by
  rw [l] at k1
  cases k1
  cases k2
  rw [ec] at k3
  cases k3
  rw [hk] at k4
  cases k4
  rw [h11] at k5
  cases k5
  exact he
/-! the run looked at three times: less is held at once -/
open HandSHeadRun in
theorem three {α β γ δ : Type} {x : Option α} {f : α → β} {g : α → γ} {h : α → δ} {b : β} {c : γ} {d : δ} (h1 : x.map f = some b) (h2 : x.map g = some c) (h3 : x.map h = some d) : x.map (fun a => (f a, g a, h a)) = some (b, c, d) := by
  cases x with
  | none => cases h1
  | some a =>
    have e1 : f a = b := Option.some.inj h1
    have e2 : g a = c := Option.some.inj h2
    have e3 : h a = d := Option.some.inj h3
    show some (f a, g a, h a) = _
    rw [e1, e2, e3]
noncomputable abbrev whole (p : Program) (M : Nat) (w : World) := HandSHeadRun.wholeF (fun p => HandSHeadRun.stepQ (HandSHeadRun.denQ HandSHeadRun.tabQ) p w) HandSHeadRun.fenceQ M p
theorem runEqI_of {r : PySem.W.OpenRow} {q : Program} {H : PySem.W.Hook} {ob : PySem.W.SharedT → H.α} {M : Nat} {loose : List Str} {w : World}
    (h1 : (whole r.prog M w).map (fun x => HandSHeadRun.looksF r.prog x.1.heap x.2.abs) = some true)
    (h2 : (whole r.prog M w).map (fun x => HandSHeadRun.seenQ q loose (importedModules r.prog.main.body) (fun s => PySem.W.xlAt q [] s && PySem.W.recOk r.toRowW.records s) x.2.abs) = some (PySem.W.openGood q loose))
    (h3 : (whole r.prog M w).map (fun x => ob x.2) = some (H.val w)) : HandSHeadRun.RunEqI r q H ob M loose w := three h1 h2 h3
end Sh

set_option Elab.async false
set_option maxRecDepth 100000
set_option maxHeartbeats 0
namespace Fk
open PySem L2
def fnS : List He.DefD := ([Sh.dg "is_integer" (top 6), Sh.dg "is_ratio" (top 7), Sh.dg "lowest" (top 8), Sh.dg "as_ratio" (top 9), Sh.dg "shared_bottom" (top 10), Sh.dg "check_entries" (top 12), Sh.dg "whole_row" (top 13), Sh.dg "pivoted" (top 14), Sh.dg "first_entry" (top 15), Sh.dg "eliminated" (top 16), Sh.dg "solved" (top 17), Sh.dg "rank" (top 18), Sh.dg "_law_pen" (top 20), Sh.dg "_law_draw" (top 21), Sh.dg "_law_pick" (top 22), Sh.dg "_law_big" (top 23), Sh.dg "_law_gcd" (top 24), Sh.dg "_law_q" (top 25), Sh.dg "_law_plus" (top 26), Sh.dg "_law_minus" (top 27)] : List He.DefD) ++ ([Sh.dg "_law_times" (top 28), Sh.dg "_law_over" (top 29), Sh.dg "_law_dot" (top 30), Sh.dg "_law_is_whole" (top 31), Sh.dg "_law_is_ratio" (top 32), Sh.dg "_law_are_ratios" (top 33), Sh.dg "_law_ratio" (top 34), Sh.dg "_law_passed" (top 35), Sh.dg "_law_rank" (top 36), Sh.dg "_law_rows" (top 37), Sh.dg "_law_answer" (top 38), Sh.dg "_law_refused" (top 39), Sh.dg "_law_refusals_right" (top 40), Sh.dm "BadNumber" "__init__" "BadNumber.__init__" (inClass (top 3) 0), Sh.dg "law" (top 41)] : List He.DefD)
def ex0 : PySem.W.Frag → Bool := fun K => decide (PySem.W.nsIn K mainGlobals "is_integer" = some (some (.ref (He.ga K "is_integer"))))
def ex1 : PySem.W.Frag → Bool := fun K => decide (PySem.W.nsIn K mainGlobals "is_ratio" = some (some (.ref (He.ga K "is_ratio"))))
def ex2 : PySem.W.Frag → Bool := fun K => decide (PySem.W.nsIn K mainGlobals "lowest" = some (some (.ref (He.ga K "lowest"))))
def ex3 : PySem.W.Frag → Bool := fun K => decide (PySem.W.nsIn K mainGlobals "as_ratio" = some (some (.ref (He.ga K "as_ratio"))))
def ex4 : PySem.W.Frag → Bool := fun K => decide (PySem.W.nsIn K mainGlobals "shared_bottom" = some (some (.ref (He.ga K "shared_bottom"))))
def ex5 : PySem.W.Frag → Bool := fun K => decide (PySem.W.nsIn K mainGlobals "check_entries" = some (some (.ref (He.ga K "check_entries"))))
def ex6 : PySem.W.Frag → Bool := fun K => decide (PySem.W.nsIn K mainGlobals "whole_row" = some (some (.ref (He.ga K "whole_row"))))
def ex7 : PySem.W.Frag → Bool := fun K => decide (PySem.W.nsIn K mainGlobals "pivoted" = some (some (.ref (He.ga K "pivoted"))))
def ex8 : PySem.W.Frag → Bool := fun K => decide (PySem.W.nsIn K mainGlobals "first_entry" = some (some (.ref (He.ga K "first_entry"))))
def ex9 : PySem.W.Frag → Bool := fun K => decide (PySem.W.nsIn K mainGlobals "eliminated" = some (some (.ref (He.ga K "eliminated"))))
def ex10 : PySem.W.Frag → Bool := fun K => decide (PySem.W.nsIn K mainGlobals "solved" = some (some (.ref (He.ga K "solved"))))
def ex11 : PySem.W.Frag → Bool := fun K => decide (PySem.W.nsIn K mainGlobals "rank" = some (some (.ref (He.ga K "rank"))))
def ex12 : PySem.W.Frag → Bool := fun K => decide (PySem.W.nsIn K mainGlobals "_law_pen" = some (some (.ref (He.ga K "_law_pen"))))
def ex13 : PySem.W.Frag → Bool := fun K => decide (PySem.W.nsIn K mainGlobals "_law_draw" = some (some (.ref (He.ga K "_law_draw"))))
def ex14 : PySem.W.Frag → Bool := fun K => decide (PySem.W.nsIn K mainGlobals "_law_pick" = some (some (.ref (He.ga K "_law_pick"))))
def ex15 : PySem.W.Frag → Bool := fun K => decide (PySem.W.nsIn K mainGlobals "_law_big" = some (some (.ref (He.ga K "_law_big"))))
def ex16 : PySem.W.Frag → Bool := fun K => decide (PySem.W.nsIn K mainGlobals "_law_gcd" = some (some (.ref (He.ga K "_law_gcd"))))
def ex17 : PySem.W.Frag → Bool := fun K => decide (PySem.W.nsIn K mainGlobals "_law_q" = some (some (.ref (He.ga K "_law_q"))))
def ex18 : PySem.W.Frag → Bool := fun K => decide (PySem.W.nsIn K mainGlobals "_law_plus" = some (some (.ref (He.ga K "_law_plus"))))
def ex19 : PySem.W.Frag → Bool := fun K => decide (PySem.W.nsIn K mainGlobals "_law_minus" = some (some (.ref (He.ga K "_law_minus"))))
def ex20 : PySem.W.Frag → Bool := fun K => decide (PySem.W.nsIn K mainGlobals "_law_times" = some (some (.ref (He.ga K "_law_times"))))
def ex21 : PySem.W.Frag → Bool := fun K => decide (PySem.W.nsIn K mainGlobals "_law_over" = some (some (.ref (He.ga K "_law_over"))))
def ex22 : PySem.W.Frag → Bool := fun K => decide (PySem.W.nsIn K mainGlobals "_law_dot" = some (some (.ref (He.ga K "_law_dot"))))
def ex23 : PySem.W.Frag → Bool := fun K => decide (PySem.W.nsIn K mainGlobals "_law_is_whole" = some (some (.ref (He.ga K "_law_is_whole"))))
def ex24 : PySem.W.Frag → Bool := fun K => decide (PySem.W.nsIn K mainGlobals "_law_is_ratio" = some (some (.ref (He.ga K "_law_is_ratio"))))
def ex25 : PySem.W.Frag → Bool := fun K => decide (PySem.W.nsIn K mainGlobals "_law_are_ratios" = some (some (.ref (He.ga K "_law_are_ratios"))))
def ex26 : PySem.W.Frag → Bool := fun K => decide (PySem.W.nsIn K mainGlobals "_law_ratio" = some (some (.ref (He.ga K "_law_ratio"))))
def ex27 : PySem.W.Frag → Bool := fun K => decide (PySem.W.nsIn K mainGlobals "_law_passed" = some (some (.ref (He.ga K "_law_passed"))))
def ex28 : PySem.W.Frag → Bool := fun K => decide (PySem.W.nsIn K mainGlobals "_law_rank" = some (some (.ref (He.ga K "_law_rank"))))
def ex29 : PySem.W.Frag → Bool := fun K => decide (PySem.W.nsIn K mainGlobals "_law_rows" = some (some (.ref (He.ga K "_law_rows"))))
def ex30 : PySem.W.Frag → Bool := fun K => decide (PySem.W.nsIn K mainGlobals "_law_answer" = some (some (.ref (He.ga K "_law_answer"))))
def ex31 : PySem.W.Frag → Bool := fun K => decide (PySem.W.nsIn K mainGlobals "_law_refused" = some (some (.ref (He.ga K "_law_refused"))))
def ex32 : PySem.W.Frag → Bool := fun K => decide (PySem.W.nsIn K mainGlobals "_law_refusals_right" = some (some (.ref (He.ga K "_law_refusals_right"))))
def ex33 : PySem.W.Frag → Bool := fun K => decide (PySem.W.nsIn K mainGlobals "law" = some (some (.ref (He.ga K "law"))))
def ex34 : PySem.W.Frag → Bool := fun K => decide (PySem.W.nsIn K mainGlobals "gcd" = some (some (.builtin "math.gcd")))
def ex35 : PySem.W.Frag → Bool := fun K => decide (PySem.W.nsIn K mainGlobals "BadNumber" = some (some (.ref (He.ga K "BadNumber"))))
def ex36 : PySem.W.Frag → Bool := fun K => decide (PySem.W.findIn K (.ref (He.ga K "BadNumber")) "__init__" = some (some (.ref (He.ma K (He.ga K "BadNumber") "__init__"))))
def ex37 : PySem.W.Frag → Bool := fun K => decide (PySem.W.typeIn K (.ref (He.ma K (He.ga K "BadNumber") "__init__")) = some (.type "function"))
def ex38 : PySem.W.Frag → Bool := fun K => decide (PySem.W.findIn K (.ref (He.ga K "BadNumber")) "what" = some none)
def ex39 : PySem.W.Frag → Bool := fun K => decide (PySem.W.findIn K (.ref (He.ga K "BadNumber")) "number" = some none)
def ex40 : PySem.W.Frag → Bool := fun K => decide (PySem.W.nsIn K mainGlobals "FoeError" = some (some (.ref (He.ga K "FoeError"))))
def ex41 : PySem.W.Frag → Bool := fun K => decide (PySem.W.nsIn K mainGlobals "NoSolution" = some (some (.ref (He.ga K "NoSolution"))))
def ex42 : PySem.W.Frag → Bool := fun K => decide (PySem.W.nsIn K mainGlobals "int" = some none)
def ex43 : PySem.W.Frag → Bool := fun K => decide (PySem.W.nsIn K mainGlobals "list" = some none)
def ex44 : PySem.W.Frag → Bool := fun K => decide (PySem.W.nsIn K mainGlobals "len" = some none)
def ex45 : PySem.W.Frag → Bool := fun K => decide (PySem.W.nsIn K mainGlobals "range" = some none)
def ex46 : PySem.W.Frag → Bool := fun K => decide (PySem.W.nsIn K mainGlobals "str" = some none)
def ex47 : PySem.W.Frag → Bool := fun K => decide (PySem.W.nsIn K mainGlobals "isinstance" = some none)
def ex48 : PySem.W.Frag → Bool := fun K => decide (PySem.W.nsIn K mainGlobals "tuple" = some none)
def ex49 : PySem.W.Frag → Bool := fun K => decide (PySem.W.nsIn K mainGlobals "bool" = some none)
def ex50 : PySem.W.Frag → Bool := fun K => decide (PySem.W.nsIn K mainGlobals "abs" = some none)
def ex51 : PySem.W.Frag → Bool := fun K => decide (PySem.W.nsIn K mainGlobals "zip" = some none)
def ex52 : PySem.W.Frag → Bool := fun K => decide (PySem.W.nsIn K mainGlobals "max" = some none)
def ex53 : PySem.W.Frag → Bool := fun K => decide (PySem.W.nsIn K mainGlobals "repr" = some none)
def ex54 : PySem.W.Frag → Bool := fun K => decide (PySem.W.specialIn K (.builtin "object.__class__") "__get__" = some (some (.builtin "getset_descriptor.__get__")))
def ex55 : PySem.W.Frag → Bool := fun K => decide (PySem.W.takesIn K (.builtin "object.__class__") = some true)
def ex56 : PySem.W.Frag → Bool := fun K => looks2 K (He.ga K "FoeError") (He.ga K "BadNumber") (He.ga K "NoSolution")
def exS : List (PySem.W.Frag → Bool) := ([ex0, ex1, ex2, ex3, ex4, ex5, ex6, ex7, ex8, ex9, ex10, ex11, ex12, ex13, ex14, ex15, ex16, ex17, ex18, ex19, ex20, ex21, ex22, ex23, ex24, ex25, ex26, ex27, ex28, ex29] : List (PySem.W.Frag → Bool)) ++ ([ex30, ex31, ex32, ex33, ex34, ex35, ex36, ex37, ex38, ex39, ex40, ex41, ex42, ex43, ex44, ex45, ex46, ex47, ex48, ex49, ex50, ex51, ex52, ex53, ex54, ex55, ex56] : List (PySem.W.Frag → Bool))
def gsS : List Str := (["is_integer", "is_ratio", "lowest", "as_ratio", "shared_bottom", "check_entries", "whole_row", "pivoted", "first_entry", "eliminated", "solved", "rank", "_law_pen", "_law_draw", "_law_pick", "_law_big", "_law_gcd", "_law_q", "_law_plus", "_law_minus", "_law_times", "_law_over", "_law_dot", "_law_is_whole", "_law_is_ratio", "_law_are_ratios", "_law_ratio", "_law_passed", "_law_rank", "_law_rows"] : List Str) ++ (["_law_answer", "_law_refused", "_law_refusals_right", "BadNumber", "law", "FoeError", "NoSolution"] : List Str)
def msS : List (Str × Str) := ([("BadNumber", "__init__")] : List (Str × Str))
def tfS : List He.Defn := []
def looseS : List Str := (["gcd", "FoeError", "BadNumber", "NoSolution", "is_integer", "is_ratio", "lowest", "as_ratio", "shared_bottom", "check_entries", "whole_row", "pivoted", "first_entry", "eliminated", "solved", "rank", "_law_pen", "_law_draw", "_law_pick", "_law_big", "_law_gcd", "_law_q", "_law_plus", "_law_minus", "_law_times", "_law_over", "_law_dot", "_law_is_whole", "_law_is_ratio", "_law_are_ratios"] : List Str) ++ (["_law_ratio", "_law_passed", "_law_rank", "_law_rows", "_law_answer", "_law_refused", "_law_refusals_right"] : List Str)
abbrev RowS : PySem.W.OpenRow := PySem.W.OpenLaw.row PySem.Challenge.rw_everyfoe_k02_whole_solved
abbrev hkS : PySem.W.Hook := Sh.hook (Sh.asP gsS msS) fnS tfS exS
def obS (s : PySem.W.SharedT) : Sh.Al := Sh.obs (Sh.asP gsS msS) fnS tfS exS (HandSHeadRun.getT s)
theorem obS_eq (s : PySem.W.SharedT) : obS s = hkS.obs s.abs := Sh.obs_eq (HandSHeadRun.getT_eq s)
theorem run1 (w : World) : (Sh.whole RowS.prog 20000 w).map (fun x => HandSHeadRun.looksF RowS.prog x.1.heap x.2.abs) = some true := by
  kernel_rfl
theorem run2 (w : World) : (Sh.whole RowS.prog 20000 w).map (fun x => HandSHeadRun.seenQ (PySem.W.view RowS.prog [41]) looseS (importedModules RowS.prog.main.body) (fun s => PySem.W.xlAt (PySem.W.view RowS.prog [41]) [] s && PySem.W.recOk RowS.toRowW.records s) x.2.abs) = some (PySem.W.openGood (PySem.W.view RowS.prog [41]) looseS) := by
  kernel_rfl
theorem run3 (w : World) : (Sh.whole RowS.prog 20000 w).map (fun x => obS x.2) = some (hkS.val w) := by
  kernel_rfl
theorem runS (w : World) : HandSHeadRun.RunEqI RowS (PySem.W.view RowS.prog [41]) hkS obS 20000 looseS w := Sh.runEqI_of (run1 w) (run2 w) (run3 w)
end Fk

set_option Elab.async false
set_option maxRecDepth 100000
set_option maxHeartbeats 4000000
/-! Comprehensions of any number of clauses, whatever they gather. -/
namespace Gc
open PySem PySem.Spec PyProof.Rows L2
/-- a turn of the clause t in i if .., whose body is bd -/
def turnOf (c : Expr) (d : Nat) (it acc : Value) (env : Env) (t i : Expr) (ifs : List Expr) (bd : Sem Fin → Sem Fin) : Sem Fin := do
  standAt i.pos
  match ← pyNext it with
  | none => pure (.done .next)
  | some v =>
    letOwnedTupleGo t it v
    assign t env v
    let mut ok := true
    for x in ifs do
      if ok then ok ← isTrue x env (eval x env)
    if ok then bd (again (.compLoop c d it acc env)) else again (.compLoop c d it acc env)
/-- the body of a clause that another one follows -/
def deeper (c : Expr) (d : Nat) (acc : Value) (env : Env) (i : Expr) (k : Sem Fin) : Sem Fin := do
  let x ← eval i env
  standAt i.pos
  let x ← foldedSetIterable i env x
  let _ ← runOwn (.compStart c d (← holding [x] (pyIter x)) acc env) env
  k
section
variable {prog : Program} {w : World} {A : Around} {R : Result → Shared → Prop} {s : Shared} {c t i : Expr} {ifs : List Expr} {d : Nat} {it acc : Value} {env : Env} {bd : Sem Fin → Sem Fin}
abbrev testsOf (ifs : List Expr) (env : Env) : Sem Bool := forIn ifs true fun c r => if r = true then do let ok ← isTrue c env (eval c env); pure (ForInStep.yield ok) else pure (ForInStep.yield r)
/-- a comprehension's code runs where it stands, as its turns say -/
structure Plain (c : Expr) : Prop where
  ul : ∀ (A : Around) (d : Nat) (it acc : Value) (env : Env), A.under (.compLoop c d it acc env) = A
  us : ∀ (A : Around) (d : Nat) (it acc : Value) (env : Env), A.under (.compStart c d it acc env) = A
  dl : ∀ (P : Program) (w : World) (d : Nat) (it acc : Value) (env : Env), (model P w).den (.compLoop c d it acc env) = (compTurn c d it acc env).onRaise (fun x => do noteFrame x env; theTreesLotGoes x)
  ds : ∀ (P : Program) (w : World) (d : Nat) (it acc : Value) (env : Env), (model P w).den (.compStart c d it acc env) = (compStart c d it acc env).onRaise (fun x => do noteFrame x env; standAt theWindowsPlace)
  ql : ∀ (d : Nat) (it acc : Value) (env : Env), (Code.compLoop c d it acc env).quiet = true
theorem plain_list (elt : Expr) (gs : List Comprehension) (scope : Scope) (pos : Pos) : Plain (.ListComp elt gs scope pos) := ⟨fun _ _ _ _ _ => rfl, fun _ _ _ _ _ => rfl, fun _ _ _ _ _ _ => rfl, fun _ _ _ _ _ _ => rfl, fun _ _ _ _ => rfl⟩
theorem plain_dict (k v : Expr) (gs : List Comprehension) (scope : Scope) (pos : Pos) : Plain (.DictComp k v gs scope pos) := ⟨fun _ _ _ _ _ => rfl, fun _ _ _ _ _ => rfl, fun _ _ _ _ _ _ => rfl, fun _ _ _ _ _ _ => rfl, fun _ _ _ _ => rfl⟩
theorem loop_any (hp : Plain c) (ht : compTurn c d it acc env = turnOf c d it acc env t i ifs bd) (I : Nat → Shared → Prop)
    (turn : ∀ n s, I n s → wpAny (model prog w) A (pyNext it) (fun r s1 => match r with
      | none => R (.ok .next) s1
      | some v => wpAny (model prog w) A (letOwnedTupleGo t it v) (fun _ s2 => wpAny (model prog w) A (assign t env v) (fun _ s3 => wpAny (model prog w) A (testsOf ifs env) (fun ok s4 =>
          if ok = true then ∀ (k : Sem Fin) (Q : Fin → Shared → Prop) (E : Value → Shared → Prop), (∀ s5, (∃ m, m < n ∧ I m s5) → wpAny (model prog w) A k Q E s5) → wpAny (model prog w) A (bd k) Q E s4 else ∃ m, m < n ∧ I m s4) (fun _ _ => False) s3) (fun _ _ => False) s2) (fun _ _ => False) s1) (fun _ _ => False) s)
    (n : Nat) (h : I n s) : codeAny (model prog w) A (.compLoop c d it acc env) R s := by
  refine codeAny_loop (hp.ql d it acc env) I (fun n s hI => ?_) n h
  rw [hp.ul, hp.dl]
  refine wpAny_noted ?_
  rw [ht]
  unfold turnOf
  refine wpAny_bind (wpAny_standAt (wpAny_bind (wpAny_mono (turn n s hI) (fun r s1 h1 => ?_) fun _ _ z => z.elim)))
  cases r with
  | none => exact wpAny_pure h1
  | some v =>
    refine wpAny_bind (wpAny_mono h1 (fun _ s2 h2 => ?_) fun _ _ z => z.elim)
    refine wpAny_bind (wpAny_mono h2 (fun _ s3 h3 => wpAny_bind (wpAny_mono h3 (fun ok s4 h4 => ?_) fun _ _ z => z.elim)) fun _ _ z => z.elim)
    cases ok with
    | false =>
      first
        | exact wpAny_pure ⟨rfl, h4⟩
        | exact wpAny_bind (wpAny_pure (wpAny_pure ⟨rfl, h4⟩))
    | true => exact h4 _ _ _ fun s5 h5 => wpAny_pure ⟨rfl, h5⟩
theorem start_any {g : Comprehension} (hp : Plain c) (hg : (clausesOf c)[d]? = some g) (ha : g.is_async = 0) (h0 : codeAny (model prog w) A (.compLoop c d it acc env) R s)
    (h : wpAny (model prog w) A (pyIter it) (fun it' s' => codeAny (model prog w) A (.compLoop c d it' acc env) R s') (notedBy (model prog w) A env fun x s' => R (.error x) s') s) : codeAny (model prog w) A (.compStart c d it acc env) R s := by
  refine codeAny_of_tree ?_
  rw [hp.us, hp.ds]
  refine wpAny_notedAt ?_
  unfold compStart
  rw [hg]
  have e : ((some g : Option Comprehension).elim false fun x => x.is_async != 0) = false := by
    show (g.is_async != 0) = false
    rw [ha]
    rfl
  rw [e]
  show wpAny _ _ (ask >>= _) _ _ s
  refine wpAny_bind (wpAny_askSetting (wpAny_ite ?_))
  split
  · first
      | exact wpAny_bind (wpAny_pure (wpAny_pure (And.intro (hp.ql _ _ _ _) h0)))
      | exact wpAny_pure (And.intro (hp.ql _ _ _ _) h0)
  · refine wpAny_bind (wpAny_rule ?_)
    show wpAny _ _ (standAt g.iter.pos >>= _) _ _ s
    exact wpAny_bind (wpAny_standAt (wpAny_bind (wpAny_mono h (fun it' s' h' => wpAny_pure (And.intro (hp.ql _ _ _ _) h')) fun _ _ x => x)))
end
/-- what a body does, in the block -/
def Body (X : Cx) (bd : Sem Fin → Sem Fin) (vs : List Nat) (tb : (Hp → Prop) → L2.St → Hp → Prop) : Prop := ∀ (pins : List (Addr × Obj)) (s : Shared) (σ : L2.St) (H : Hp) (Nx : Hp → Prop), Inv X pins σ H s → tb Nx σ H →
  ∀ (k : Sem Fin) (Q : Fin → Shared → Prop) (E : Value → Shared → Prop), (∀ s', (∃ H', Inv X pins (wipe σ vs) H' s' ∧ Nx H') → wpAny (model X.prog X.w) X.A k Q E s') → wpAny (model X.prog X.w) X.A (bd k) Q E s
def tIn (wi : TI) (g : TG) (tt : TT) (vs : List Nat) (tb : (Hp → Prop) → L2.St → Hp → Prop) : (Hp → Prop) → L2.St → Hp → Prop := fun Nx σ H => wi σ H fun J H1 => ∃ W : Nat → Nat → Hp → Prop, (∃ m, W 0 m H1) ∧ ∀ j k H, W j k H →
  (J.stop j H ∧ Nx H) ∨ (J.go j H ∧ ∃ Nx1 : Hp → Prop, (∀ H', Nx1 H' → ∃ k', k' < k ∧ W (j + 1) k' H') ∧ ∀ x H', J.yld j H x H' → g x (wipe σ vs) H' fun σ2 H2 => wipe σ2 vs = wipe σ vs ∧ tt σ2 H2 fun b H3 => if b = true then tb Nx1 σ2 H3 else Nx1 H3)
theorem wipe_app (σ : L2.St) (a b : List Nat) : wipe σ (a ++ b) = wipe (wipe σ b) a := by
  induction a with
  | nil => rfl
  | cons v a ih =>
    show (wipe σ (a ++ b)).set v none = (wipe (wipe σ b) a).set v none
    rw [ih]
theorem wipe_keep {σ τ : L2.St} {vs ws : List Nat} (e : wipe τ vs = wipe σ vs) (h : ∀ i ∈ ws, i ∈ vs) (j : Nat) (v : V) (q : (wipe σ vs)[j]? = some (some v)) : (wipe τ ws)[j]? = some (some v) := by
  rw [← e] at q
  obtain ⟨q1, q2⟩ := wipe_some q
  rw [wipe_out fun z => q2 (h j z)]
  exact q1
section
variable {X : Cx} {s0 : Shared} {H0 : Hp} {scope : Scope} {ce : Env} {fp : List Addr}
/-- a clause within a clause -/
theorem body_in {c t i : Expr} {ifs : List Expr} {d : Nat} {acc : Value} {bd : Sem Fin → Sem Fin} {wi : TI} {g : TG} {tt : TT} {vs ws : List Nat} {tb : (Hp → Prop) → L2.St → Hp → Prop} (hc : X.calm = true) (hp : Plain c)
    (ht : ∀ it, compTurn c d it acc ce = turnOf c d it acc ce t i ifs bd) (hcl : (clausesOf c)[d]? = some ⟨t, i, ifs, 0⟩) (hs : ∀ x, foldedSetIterable i ce x = pure x)
    (hi : PI (X.blk s0 H0 scope ce fp) t i wi) (hg : PG (X.blk s0 H0 scope ce fp) t g) (hts : PTs (X.blk s0 H0 scope ce fp) ifs tt) (hb : Body (X.blk s0 H0 scope ce fp) bd ws tb) (hw : ∀ j ∈ ws, j ∈ vs) :
    Body (X.blk s0 H0 scope ce fp) (deeper c d acc ce i) vs (tIn wi g tt vs tb) := by
  intro pins s σ H Nx I h kk QQ EE hkk
  unfold deeper
  refine wpAny_bind (thnF (hi.run pins s σ H _ I h) fun xv s1 hx => wpAny_bind (wpAny_standAt (wpAny_bind (wpAny_of_eq (hs xv) (wpAny_bind (wpAny_holding (thnF hx fun itv s2 h2 => ?_)))))))
  obtain ⟨it, fp1, tn, J, H2, e, I2, T, st2, f2, W, ⟨m0, w0⟩, turn⟩ := h2
  subst e
  have stat : ∀ {H' : Hp}, (∀ b ∈ fp1, H' b = none) → ∀ b ∈ fp1, FpOk (X.blk s0 H0 scope ce fp) pins H' b := fun hn b hb => ⟨hn b hb, (f2 b hb).2⟩
  have loop : codeAny (model X.prog X.w) X.A (.compLoop c d (.ref it) acc ce) (fun r s' => match r with
      | .ok _ => ∃ H', Inv (X.blk s0 H0 scope ce fp) pins (wipe σ vs) H' s' ∧ Nx H'
      | .error _ => False) s2 := by
    refine loop_any hp (ht _) (fun k s' => ∃ j H', Inv (X.blk s0 H0 scope ce fp) pins (wipe σ vs) H' s' ∧ tn j s'.heap ∧ (∀ b ∈ fp1, H' b = none) ∧ W j k H') ?_ m0 ⟨0, H2, I2.weak (wipe_length _ _) (fun j v e => (wipe_some e).1), st2, fun b hb => (f2 b hb).1, w0⟩
    rintro k s3 ⟨j, H3, I3, st3, n3, w3⟩
    rcases turn j k H3 w3 with ⟨stop, nx⟩ | ⟨go, Nx1, hNx, step⟩
    · refine thnF (T.done (X.blk s0 H0 scope ce fp) rfl rfl rfl hc j _ s3 (wipe σ vs) H3 (fun _ _ => False) I3 (stat n3) st3 stop) fun r s4 ⟨hr, I4⟩ => ?_
      subst hr
      exact ⟨H3, I4, nx⟩
    · refine thnF (T.item (X.blk s0 H0 scope ce fp) rfl rfl rfl hc j _ s3 (wipe σ vs) H3 (fun _ _ => False) I3 (stat n3) st3 go) fun r s4 ⟨u, hr, h4⟩ => ?_
      subst hr
      refine thnF h4 fun _ s5 ⟨x, H5, I5, r5, y5, st5, n5⟩ => ?_
      have I5' := I5.pinned (stat n5) (T.obj _ _ st5)
      refine thnF (hg.run _ s5 (wipe σ vs) H5 x u _ I5' r5 (step x H5 y5)) fun _ s6 ⟨σ6, H6, I6, hw6, q6⟩ => ?_
      refine thnF (hts.run _ s6 σ6 H6 _ I6 q6) fun b s7 ⟨H7, I7, q7⟩ => ?_
      have fin : ∀ {s' : Shared} {H' : Hp} {τ : L2.St}, Inv (X.blk s0 H0 scope ce fp) (pins ++ pinsAt fp1 s5.heap) τ H' s' → (wipe σ vs).length = τ.length → (∀ (j : Nat) v, (wipe σ vs)[j]? = some (some v) → τ[j]? = some (some v)) → Nx1 H' →
          ∃ m, m < k ∧ ∃ j H', Inv (X.blk s0 H0 scope ce fp) pins (wipe σ vs) H' s' ∧ tn j s'.heap ∧ (∀ b ∈ fp1, H' b = none) ∧ W j m H' := fun {s' H' τ} I' hl hk nx => by
        obtain ⟨m', hm, w'⟩ := hNx H' nx
        have pin' : ∀ b ∈ fp1, ∀ o, s5.heap.get? b = some o → s'.heap.get? b = some o ∧ H' b = none := fun b hb o e =>
          let z := I'.pin (b, o) (List.mem_append_right _ (List.mem_append_right _ (mem_pinsAt hb e)))
          ⟨z.1, z.2.1⟩
        refine ⟨m', hm, j + 1, H', I'.unpinned.weak hl hk, T.keep _ _ _ st5 fun b hb o e => (pin' b hb o e).1, fun b hb => ?_, w'⟩
        obtain ⟨o, e, _⟩ := T.obj _ _ st5 b hb
        exact (pin' b hb o e).2
      have hl6 : (wipe σ vs).length = σ6.length := by rw [← hw6, wipe_length]
      cases b with
      | false =>
        simp only [Bool.false_eq_true, if_false] at q7 ⊢
        exact fin I7 hl6 (fun j v e => (wipe_some (hw6 ▸ e : (wipe σ6 vs)[j]? = some (some v))).1) q7
      | true =>
        simp only [if_true] at q7 ⊢
        refine fun k2 Q2 E2 h2 => hb _ s7 σ6 H7 Nx1 I7 q7 k2 Q2 E2 fun s8 ⟨H8, I8, q8⟩ => h2 s8 ?_
        exact fin I8 (hl6.trans (wipe_length σ6 ws).symm) (fun j v e => wipe_keep hw6 hw j v e) q8
  have st := start_any hp hcl rfl loop (T.self X.A 0 _ _ _ st2 loop)
  refine wpAny_bind (wpAny_runOwn ?_)
  rw [Around.mark_none]
  refine codeAny_mono st fun r s' hr => ?_
  cases r with
  | ok f =>
    first
      | exact hkk s' hr
      | exact wpAny_pure (hkk s' hr)
      | exact wpAny_bind (wpAny_pure (hkk s' hr))
  | error e => exact hr.elim
end
end Gc

set_option Elab.async false
set_option maxRecDepth 100000
set_option maxHeartbeats 4000000
namespace Gc
open PySem PySem.Spec PyProof.Rows L2
section
variable {X : Cx}
/-- the reading: D the new object, which is o0 at first -/
def tGc (o0 : HO) (wi : TI) (g : TG) (tt : TT) (vs : List Nat) (tb : Addr → (Hp → Prop) → L2.St → Hp → Prop) : TE := fun σ H Q => wi σ H fun J H1 => ∀ D, H1 D = none → ∃ W : Nat → Nat → Hp → Prop, (∃ m, W 0 m (upd H1 D o0)) ∧ ∀ i m H, W i m H →
  (J.stop i H ∧ Q (.ref D) H) ∨ (J.go i H ∧ ∃ Nx : Hp → Prop, (∀ H', Nx H' → ∃ m', m' < m ∧ W (i + 1) m' H') ∧ ∀ x H', J.yld i H x H' → g x (wipe σ vs) H' fun σ2 H2 => wipe σ2 vs = wipe σ vs ∧ tt σ2 H2 fun b H3 => if b = true then tb D Nx σ2 H3 else Nx H3)
/-- what is gathered into: how it is made, what it is at first -/
structure Into (X : Cx) (newAcc : Sem Value) (o0 : HO) (ob : Obj) : Prop where
  make : ∀ (s : Shared) (Q : Value → Shared → Prop), Q (.ref s.heap.objs.size) { s with heap := s.heap.push ob } → wpAny (model X.prog X.w) X.A newAcc Q X.xe s
  ok : ∀ (pins : List (Addr × Obj)) (s : Shared) (σ : L2.St) (H : Hp), Inv X pins σ H s → ObjOk X.prog X.w (upd H s.heap.objs.size o0) (s.heap.push ob) s.heap.objs.size o0
theorem into_list : Into X (newList []) (.lst []) { cls := .type "list", data := .seq ([] : List Value).toArray } := by
  refine ⟨fun s Q h => wpAny_newObj_type h (by show 0 ≤ sizeLine; decide), fun pins s σ H I => ⟨Nat.zero_le _, [], 0, .nil, Heap.get?_push_size _ rfl⟩⟩
theorem into_dictT : Into X newDict (.dT []) { cls := .type "dict", data := .dict #[] } := ⟨fun s Q h => wpAny_newObj_type h, fun pins s σ H I => dt_empty s.heap I.big⟩
theorem into_dictK : Into X newDict (.dK []) { cls := .type "dict", data := .dict #[] } := ⟨fun s Q h => wpAny_newObj_type h, fun pins s σ H I => dk_empty s.heap I.big⟩
theorem gc_core {c : Expr} {pins : List (Addr × Obj)} {s : Shared} {σ : L2.St} {H : Hp} {Q : VK} {tg iter : Expr} {ifs : List Expr} {gs : List Comprehension} {scope : Scope} {own : List (Str × Nat)} {ws : List Nat} {pos' : Pos} {newAcc : Sem Value} {o0 : HO} {ob : Obj} {bd : Addr → Env → Sem Fin → Sem Fin} {wi : TI} {g : TG} {tt : TT}
    {tb : Addr → (Hp → Prop) → L2.St → Hp → Prop} {use : Option (Value → Sem Unit)} {Qf : Value → Shared → Prop}
    (hp : Plain c) (hcl : clausesOf c = ⟨tg, iter, ifs, 0⟩ :: gs) (hto : Into X newAcc o0 ob) (hturn : ∀ D it ce, compTurn c 0 it (.ref D) ce = turnOf c 0 it (.ref D) ce tg iter ifs (bd D ce))
    (hc : X.calm = true) (hN : X.N.Nodup) (I : Inv X pins σ H s) (hi : PI X tg iter wi) (ok : BlkOk X.N X.env.scope scope own) (hw : ∀ j ∈ ws, j ∈ own.map (·.2))
    (hg : ∀ (s : Shared) (H : Hp) (C : Addr) (cl : List (Str × Addr)) (fp : List Addr), PG (X.blk s H scope (compEnvC scope cl C X.env) fp) tg g) (ht : ∀ (s : Shared) (H : Hp) (C : Addr) (cl : List (Str × Addr)) (fp : List Addr), PTs (X.blk s H scope (compEnvC scope cl C X.env) fp) ifs tt)
    (hb : ∀ (D : Addr) (s : Shared) (H : Hp) (C : Addr) (cl : List (Str × Addr)) (fp : List Addr), Body (X.blk s H scope (compEnvC scope cl C X.env) fp) (bd D (compEnvC scope cl C X.env)) ws (tb D))
    (hs : ∀ x, foldedSetIterable iter X.env x = pure x) (h : tGc o0 wi g tt (own.map (·.2)) tb σ H Q)
    (hRR : ∀ D C s' m H', Inv X pins σ H' s' → Q (.ref D) H' → s'.heap.Ns C m → FpOk X pins H' C → compPost (model X.prog X.w) X.A X.xe use Qf (.ref D) C (.ok .next) s') :
    wpAny (model X.prog X.w) X.A (comprehension c scope X.env pos' newAcc false (eval iter X.env) use) Qf X.xe s := by
  have hfree : ∀ y ∈ scope.names, y.2 = .free → ∃ c, X.env.cells.lookup y.1 = some c := fun y hy e => by
    rcases ok.free y hy e with k | k
    · exact I.ok.has _ (.inl k)
    · exact I.ok.has _ (.inr k)
  refine wpAny_comprehension_free (use := use) hcl hs (closure_ok hfree) ok.kind (fun y hy e => by rw [ok.uniq y hy, e]) (thn (hi.run pins s σ H _ I h) fun xv s1 hx => thn hx fun itv s2 h2 => ?_)
  obtain ⟨it, fp, tn, J, H2, e, I2, T, st2, f2, q⟩ := h2
  subst e
  refine hto.make s2 _ (newEnv_comp ?_)
  generalize hD : s2.heap.objs.size = D
  have hDn : H2 D = none := I2.hok.fresh (Nat.le_of_eq hD)
  obtain ⟨W, ⟨m0, w0⟩, turn⟩ := q D hDn
  generalize hs3 : ({ s2 with heap := s2.heap.push ob } : Shared) = s3
  have I3 : Inv X pins σ (upd H2 D o0) s3 := by
    rw [← hs3]
    refine I2.laid (t' := s2.toks) (fun b o e => Heap.get?_push_of_some _ e) (Nat.le_of_eq hD) ?_
    rw [← hD]
    exact hto.ok pins s2 σ H2 I2
  have h3 : s3.heap = s2.heap.push ob := by rw [← hs3]
  have sz : ∀ b ∈ fp, b < s2.heap.objs.size := fun b hb => by
    obtain ⟨o, e, _⟩ := T.obj _ _ st2 b hb
    exact Heap.lt_size e
  have f3 : ∀ b ∈ fp, FpOk X pins (upd H2 D o0) b ∧ b < s3.heap.objs.size := fun b hb => by
    have hlt := sz b hb
    refine ⟨⟨?_, (f2 b hb).2⟩, by rw [h3, Heap.size_push]; exact Nat.lt_succ_of_lt hlt⟩
    rw [upd_ne (by rw [← hD]; exact Nat.ne_of_lt hlt)]
    exact (f2 b hb).1
  have st3 : tn 0 s3.heap := T.keep _ _ _ st2 fun b _ o e => by
    rw [h3]
    exact Heap.get?_push_of_some _ e
  have I4 := block_start I3 ok hN f3
  have pg := hg s3 (upd H2 D o0) s3.heap.objs.size (cellsFrom (s3.heap.objs.size + 1) scope.names (cloFrom X.env.cells scope.names [])) fp
  have pt := ht s3 (upd H2 D o0) s3.heap.objs.size (cellsFrom (s3.heap.objs.size + 1) scope.names (cloFrom X.env.cells scope.names [])) fp
  have pb := hb D s3 (upd H2 D o0) s3.heap.objs.size (cellsFrom (s3.heap.objs.size + 1) scope.names (cloFrom X.env.cells scope.names [])) fp
  show codeAny _ _ (.compStart c 0 (.ref it) (.ref D) (compEnvC scope (cellsFrom (s3.heap.objs.size + 1) scope.names (cloFrom X.env.cells scope.names [])) s3.heap.objs.size X.env)) (compPost (model X.prog X.w) X.A X.xe use Qf (.ref D) s3.heap.objs.size) { s3 with heap := pushCells (s3.heap.push { cls := .type "dict", data := .dict #[] }) scope.names }
  have nfp : ∀ b ∈ fp, (upd H2 D o0) b = none := fun b hb => (f3 b hb).1.1
  generalize hce : compEnvC scope (cellsFrom (s3.heap.objs.size + 1) scope.names (cloFrom X.env.cells scope.names [])) s3.heap.objs.size X.env = ce at I4 pg pt pb ⊢
  have cL : ce.locals = s3.heap.objs.size := by
    subst hce
    rfl
  generalize hH3 : upd H2 D o0 = H3 at I3 I4 pg pt pb w0 nfp f3
  generalize hs4 : ({ s3 with heap := pushCells (s3.heap.push { cls := .type "dict", data := .dict #[] }) scope.names } : Shared) = s4 at I4 ⊢
  have st4 : tn 0 s4.heap := T.keep _ _ _ st3 fun b _ o e => by
    rw [← hs4]
    exact pushCells_keeps _ _ _ _ (Heap.get?_push_of_some _ e)
  have stat : ∀ {σ' : L2.St} {H' : Hp} {s' : Shared}, Inv (X.blk s3 H3 scope ce fp) [] σ' H' s' → (∀ b ∈ fp, H' b = none) → ∀ b ∈ fp, FpOk (X.blk s3 H3 scope ce fp) [] H' b := fun {σ' H' s'} I' hn b hb =>
    ⟨hn b hb, (I'.ok.exf b hb).1, I'.ok.exfs b hb, .inl hb, fun x c e => (I'.ok.exf b hb).2 x c e, fun p hp => absurd (show p ∈ ([] : List (Addr × Obj)) ++ [] from hp) (by simp)⟩
  have loop : codeAny (model X.prog X.w) X.A (.compLoop c 0 (.ref it) (.ref D) ce) (compPost (model X.prog X.w) X.A X.xe use Qf (.ref D) s3.heap.objs.size) s4 := by
    refine loop_any hp (hturn D (.ref it) ce) (fun n s' => ∃ i H', Inv (X.blk s3 H3 scope ce fp) [] (wipe σ (own.map (·.2))) H' s' ∧ tn i s'.heap ∧ (∀ b ∈ fp, H' b = none) ∧ W i n H') ?_ m0 ⟨0, H3, I4, st4, nfp, w0⟩
    rintro n s5 ⟨i, H5, I5, st5, n5, w5⟩
    rcases turn i n H5 w5 with ⟨stop, qq⟩ | ⟨go, Nx, hNx, step⟩
    · refine thnF (T.done (X.blk s3 H3 scope ce fp) rfl rfl rfl hc i [] s5 _ H5 (fun _ _ => False) I5 (stat I5 n5) st5 stop) fun r s6 ⟨hr, I6⟩ => ?_
      subst hr
      have I7 : Inv X pins σ H5 s6 := I3.call' (ch := fp) I6.os I6.base I6.hok I6.bare fun b hb => ⟨(f3 b hb).1.2.2.2.1, (f3 b hb).1.2.1, (f3 b hb).1.2.2.2.2.1, (f3 b hb).1.2.2.2.2.2⟩
      have nC : H5 s3.heap.objs.size = none := by
        have z : H5 ce.locals = none := I6.free
        rw [cL] at z
        exact z
      obtain ⟨m, hn, _⟩ := I6.loc
      have hn : s6.heap.Ns ce.locals m := hn
      rw [cL] at hn
      exact hRR D s3.heap.objs.size s6 m H5 I7 qq hn (I3.fpOk (Nat.le_refl _) nC)
    · refine thnF (T.item (X.blk s3 H3 scope ce fp) rfl rfl rfl hc i [] s5 _ H5 (fun _ _ => False) I5 (stat I5 n5) st5 go) fun r s6 ⟨u, hr, h6⟩ => ?_
      subst hr
      refine thnF h6 fun _ s7 ⟨x, H7, I7, r7, y7, st7, n7⟩ => ?_
      have I7' := I7.pinned (stat I7 n7) (T.obj _ _ st7)
      refine thnF (pg.run _ s7 _ H7 x u _ I7' r7 (step x H7 y7)) fun _ s8 ⟨σ8, H8, I8, hw8, q8⟩ => ?_
      refine thnF (pt.run _ s8 σ8 H8 _ I8 q8) fun b s9 ⟨H9, I9, q9⟩ => ?_
      have fin : ∀ {τ : L2.St} {s' : Shared} {H' : Hp}, Inv (X.blk s3 H3 scope ce fp) ([] ++ pinsAt fp s7.heap) τ H' s' → (wipe σ (own.map (·.2))).length = τ.length → (∀ (j : Nat) v, (wipe σ (own.map (·.2)))[j]? = some (some v) → τ[j]? = some (some v)) → Nx H' →
          ∃ m, m < n ∧ ∃ i H', Inv (X.blk s3 H3 scope ce fp) [] (wipe σ (own.map (·.2))) H' s' ∧ tn i s'.heap ∧ (∀ b ∈ fp, H' b = none) ∧ W i m H' := fun {τ s' H'} I' hl hk nx => by
        obtain ⟨m', hm, w'⟩ := hNx H' nx
        have pin' : ∀ b ∈ fp, ∀ o, s7.heap.get? b = some o → s'.heap.get? b = some o ∧ H' b = none := fun b hb o e =>
          let z := I'.pin (b, o) (List.mem_append_right _ (List.mem_append_right _ (mem_pinsAt hb e)))
          ⟨z.1, z.2.1⟩
        refine ⟨m', hm, i + 1, H', (I'.unpinned (pins := [])).weak hl hk, T.keep _ _ _ st7 fun b hb o e => (pin' b hb o e).1, fun b hb => ?_, w'⟩
        obtain ⟨o, e, _⟩ := T.obj _ _ st7 b hb
        exact (pin' b hb o e).2
      have hl8 : (wipe σ (own.map (·.2))).length = σ8.length := by rw [← hw8, wipe_length]
      cases b with
      | false =>
        simp only [Bool.false_eq_true, if_false] at q9 ⊢
        exact fin I9 hl8 (fun j v e => (wipe_some (hw8 ▸ e : (wipe σ8 (own.map (·.2)))[j]? = some (some v))).1) q9
      | true =>
        simp only [if_true] at q9 ⊢
        refine fun k2 Q2 E2 h2 => pb _ s9 σ8 H9 Nx I9 q9 k2 Q2 E2 fun s10 ⟨H10, I10, q10⟩ => h2 s10 ?_
        exact fin I10 (hl8.trans (wipe_length σ8 ws).symm) (fun j v e => wipe_keep hw8 hw j v e) q10
  exact start_any hp (by rw [hcl]; rfl) rfl loop (T.self X.A 0 _ _ _ st4 loop)
/-- a value that is gathered -/
theorem pe_gc {c : Expr} {tg iter : Expr} {ifs : List Expr} {gs : List Comprehension} {scope : Scope} {own : List (Str × Nat)} {ws : List Nat} {pos' : Pos} {newAcc : Sem Value} {o0 : HO} {ob : Obj} {bd : Addr → Env → Sem Fin → Sem Fin} {wi : TI} {g : TG} {tt : TT} {tb : Addr → (Hp → Prop) → L2.St → Hp → Prop}
    (hev : eval c X.env = comprehension c scope X.env pos' newAcc false (eval iter X.env)) (hp : Plain c) (hcl : clausesOf c = ⟨tg, iter, ifs, 0⟩ :: gs) (hto : Into X newAcc o0 ob) (hturn : ∀ D it ce, compTurn c 0 it (.ref D) ce = turnOf c 0 it (.ref D) ce tg iter ifs (bd D ce))
    (hc : X.calm = true) (hN : X.N.Nodup) (hi : PI X tg iter wi) (ok : BlkOk X.N X.env.scope scope own) (hw : ∀ j ∈ ws, j ∈ own.map (·.2))
    (hg : ∀ (s : Shared) (H : Hp) (C : Addr) (cl : List (Str × Addr)) (fp : List Addr), PG (X.blk s H scope (compEnvC scope cl C X.env) fp) tg g) (ht : ∀ (s : Shared) (H : Hp) (C : Addr) (cl : List (Str × Addr)) (fp : List Addr), PTs (X.blk s H scope (compEnvC scope cl C X.env) fp) ifs tt)
    (hb : ∀ (D : Addr) (s : Shared) (H : Hp) (C : Addr) (cl : List (Str × Addr)) (fp : List Addr), Body (X.blk s H scope (compEnvC scope cl C X.env) fp) (bd D (compEnvC scope cl C X.env)) ws (tb D))
    (hs : ∀ x, foldedSetIterable iter X.env x = pure x := by intro _; rfl) : PE X c (tGc o0 wi g tt (own.map (·.2)) tb) := by
  refine ⟨fun pins s σ H Q I h => ?_⟩
  rw [hev]
  refine gc_core hp hcl hto hturn hc hN I hi ok hw hg ht hb hs h fun D C s' m H' I' q hn f => ⟨m, hn, fun h'' sb => ?_⟩
  obtain ⟨f0, f1, f2, f3, f4, f5⟩ := f
  exact ⟨.ref D, H', I'.turned (t' := s'.toks) (fun b o hb e => (sb.2 b hb).trans e) f0 f1 f3 f4 f5, rfl, q⟩
/-- name = what is gathered, on one line -/
theorem ps_setGc {i : Nat} {y : Str} {py : Pos} {c : Expr} {tg iter : Expr} {ifs : List Expr} {gs : List Comprehension} {scope : Scope} {own : List (Str × Nat)} {ws : List Nat} {pos' spos : Pos} {newAcc : Sem Value} {o0 : HO} {ob : Obj} {bd : Addr → Env → Sem Fin → Sem Fin} {wi : TI} {g : TG} {tt : TT} {tb : Addr → (Hp → Prop) → L2.St → Hp → Prop}
    (hy : X.N[i]? = some y) (hyl : X.env.scope.names.lookup y = some .local) (hsw : swapsWith c (some (.Name y py)) spos.line X.env = pure true)
    (hex : ∀ use, evalThenUse c X.env use = (do let _ ← comprehension c scope X.env pos' newAcc false (eval iter X.env) (some use)))
    (hp : Plain c) (hcl : clausesOf c = ⟨tg, iter, ifs, 0⟩ :: gs) (hto : Into X newAcc o0 ob) (hturn : ∀ D it ce, compTurn c 0 it (.ref D) ce = turnOf c 0 it (.ref D) ce tg iter ifs (bd D ce))
    (hc : X.calm = true) (hN : X.N.Nodup) (hi : PI X tg iter wi) (ok : BlkOk X.N X.env.scope scope own) (hw : ∀ j ∈ ws, j ∈ own.map (·.2))
    (hg : ∀ (s : Shared) (H : Hp) (C : Addr) (cl : List (Str × Addr)) (fp : List Addr), PG (X.blk s H scope (compEnvC scope cl C X.env) fp) tg g) (ht : ∀ (s : Shared) (H : Hp) (C : Addr) (cl : List (Str × Addr)) (fp : List Addr), PTs (X.blk s H scope (compEnvC scope cl C X.env) fp) ifs tt)
    (hb : ∀ (D : Addr) (s : Shared) (H : Hp) (C : Addr) (cl : List (Str × Addr)) (fp : List Addr), Body (X.blk s H scope (compEnvC scope cl C X.env) fp) (bd D (compEnvC scope cl C X.env)) ws (tb D))
    (hs : ∀ x, foldedSetIterable iter X.env x = pure x := by intro _; rfl) : PS X (.Assign [.Name y py] c spos) (tAsg (tGc o0 wi g tt (own.map (·.2)) tb) (gName i)) := by
  refine ⟨fun pins s σ H D I h => ?_⟩
  rw [exec_Assign_Name_used _ _ _ _ hsw, hex]
  refine wpAny_bind (wpAny_standAt (wpAny_bind (wpAny_bind ?_)))
  have h : tGc o0 wi g tt (own.map (·.2)) tb σ H (fun x H1 => gName i x σ H1 D.nx) := h
  refine thn (gc_core (Qf := fun _ s' => SP X pins D .next s') hp hcl hto hturn hc hN I hi ok hw hg ht hb hs h fun L C s' m H' I' q hn f => ?_) fun _ s' hq => wpAny_pure (wpAny_pure hq)
  show wpAny _ _ (assign (.Name y py) X.env (.ref L)) _ _ _
  refine wpAny_assign_Name (store_ok2 (v := V.ref L) I' hN hy (.inl hyl) rfl (fun s2 I2 ⟨a, sb, ha⟩ => ?_) (.inr hyl))
  obtain ⟨f0, f1, f2, f3, f4, f5⟩ := f
  have haC : C ≠ a := by
    rcases ha with z | z
    · rw [z]
      exact f1
    · exact fun e => f4 y a z e.symm
  refine ⟨m, hn.sameBut sb haC, fun h3 sb3 => ?_⟩
  exact ⟨_, H', I2.turned (t' := s2.toks) (fun b o hb e => (sb3.2 b hb).trans e) f0 f1 f3 f4 f5, q⟩
/-- an item for a list -/
def tbL (te : TE) : Addr → (Hp → Prop) → L2.St → Hp → Prop := fun D Nx σ H => te σ H fun y H4 => ∃ acc, H4 D = some (.lst acc) ∧ acc.length < sizeLine ∧ Nx (upd H4 D (.lst (acc ++ [y])))
def bdL (elt : Expr) : Addr → Env → Sem Fin → Sem Fin := fun D env k => do
  (do
    let _ ← call (.builtin "list.append") [.ref D, ← eval elt env]
    pure PUnit.unit : Sem PUnit)
  k
theorem body_list {s0 : Shared} {H0 : Hp} {scope : Scope} {ce : Env} {fp : List Addr} {elt : Expr} {te : TE} {D : Addr} (he : PE (X.blk s0 H0 scope ce fp) elt te) : Body (X.blk s0 H0 scope ce fp) (bdL elt D ce) [] (tbL te D) := by
  intro pins s σ H Nx I h kk QQ EE hkk
  unfold bdL
  refine wpAny_bind (wpAny_bind (thnF (he.run pins s σ H _ I h) fun z s1 ⟨yv, H1, I1, r1, acc, hD, hz, nx⟩ => ?_))
  exact wpAny_bind (app_ok (X := X.blk s0 H0 scope ce fp) I1 hD hz r1 fun s2 I2 => wpAny_pure (hkk s2 ⟨_, I2, nx⟩))
/-- a key and a value for a dict -/
def tbD (tk tv : TE) : Addr → (Hp → Prop) → L2.St → Hp → Prop := fun D Nx σ H => tk σ H fun y H1 => tv σ H1 fun z H2 => ∃ H3, DPut H2 D y z H3 ∧ Nx H3
def bdD (k v : Expr) : Addr → Env → Sem Fin → Sem Fin := fun D env kk => do
  (do
    let kv ← eval k env
    let vv ← holding [kv] (eval v env)
    standAt { k.pos with endLine := v.pos.endLine, endCol := v.pos.endCol }
    holding [kv, vv] (dictSet D kv vv) : Sem Unit)
  kk
theorem d_putAny {pins : List (Addr × Obj)} {σ : L2.St} {H H' : Hp} {s : Shared} {E : Value → Shared → Prop} {a : Addr} {y v : V} {u r : Value} {Q : Unit → Shared → Prop} (hu : X.A.units + 1 < cLine) (I : Inv X pins σ H s) (g : DPut H a y v H') (ry : RelV y u) (rv : RelV v r)
    (h : ∀ s', Inv X pins σ H' s' → Q () s') : wpAny (model X.prog X.w) X.A (dictSet a u r) Q E s := by
  rcases g with ⟨kvs, k, e, ey, l, eH⟩ | ⟨kvs, k, b, e, ey, eb, l, eH⟩
  · subst ey eH
    exact d_dictSet I e l ry rv h
  · subst ey eH
    cases (show u = Value.ref b from ry)
    obtain ⟨z, hd, xs, rel, dd⟩ := dt_of I.hok e
    have hz : xs.length ≤ sizeLine := by
      rw [← Paired.length rel]
      exact z
    have hl : (putK kvs k v).length ≤ sizeLine := by
      have := length_putK kvs k v
      omega
    refine wpAny_dictSet_heap (hsz := hz) (show X.A.units < cLine by omega) (key_of I.hok eb) dd fun h' dd' hs => h _ ?_
    obtain ⟨q, es, ep, hq, h2, h3, h4, _, h5⟩ := dd'
    refine d_write I (by rw [e]; exact True.intro) hs ⟨q, hq⟩ ⟨hl, hd, _, (rel.put k eb rv).keeps fun c ys ec => ?_, q, es, ep, hq, h2, h3, h4, h5⟩
    rw [upd_ne (ne_of ec e (fun z => nomatch z))]
    exact ec
theorem body_dict {s0 : Shared} {H0 : Hp} {scope : Scope} {ce : Env} {fp : List Addr} {k v : Expr} {tk tv : TE} {D : Addr} (hu : X.A.units + 1 < cLine) (hk : PE (X.blk s0 H0 scope ce fp) k tk) (hv : PE (X.blk s0 H0 scope ce fp) v tv) :
    Body (X.blk s0 H0 scope ce fp) (bdD k v D ce) [] (tbD tk tv D) := by
  intro pins s σ H Nx I h kk QQ EE hkk
  unfold bdD
  refine wpAny_bind (wpAny_bind (thnF (hk.run pins s σ H _ I h) fun z s1 ⟨y, H1, I1, r1, q1⟩ => ?_))
  refine wpAny_bind (wpAny_holding (thnF (hv.run pins s1 σ H1 _ I1 q1) fun z2 s2 ⟨y2, H2, I2, r2, H3, p3, nx⟩ => ?_))
  exact wpAny_bind (wpAny_standAt (wpAny_holding (d_putAny (X := X.blk s0 H0 scope ce fp) hu I2 p3 r1 r2 fun s3 I3 => hkk s3 ⟨_, I3, nx⟩)))
end
end Gc

set_option Elab.async false
set_option maxRecDepth 100000
set_option maxHeartbeats 4000000
namespace Gc
open PySem PySem.Spec PyProof.Rows L2
theorem sw_dict {k v : Expr} {gs : List Comprehension} {scope : Scope} {pos py : Pos} {y : Str} {l : Nat} {env : Env} (hk : env.scope.kind = .function) (hy : env.scope.names.lookup y = some .local) (hl : (py.line == pos.line) = true)
    (ha : (scope.names.any fun (n, k) => n == y && (k == .local || k == .cell)) = false) : swapsWith (.DictComp k v gs scope pos) (some (.Name y py)) l env = pure true := by
  have ky : env.kindOf y = some .local := hy
  have hb : env.blockKind = .function := by
    unfold Env.blockKind
    rw [hk]
    rfl
  unfold swapsWith
  simp only [hb, ky, ha, Expr.pos, hl]
  rfl
section
variable {X : Cx}
/-- name = {k: v for tg in iter if ..} -/
theorem ps_setD {i : Nat} {y : Str} {py : Pos} {kx vx tg iter : Expr} {ifs : List Expr} {scope : Scope} {own : List (Str × Nat)} {pos spos : Pos} {o0 : HO} {wi : TI} {g : TG} {tt : TT} {tk tv : TE} (hto : Into X newDict o0 { cls := .type "dict", data := .dict #[] })
    (hu : X.A.units + 1 < cLine) (hc : X.calm = true) (hN : X.N.Nodup) (hy : X.N[i]? = some y) (hyl : X.env.scope.names.lookup y = some .local) (hsw : swapsWith (.DictComp kx vx [⟨tg, iter, ifs, 0⟩] scope pos) (some (.Name y py)) spos.line X.env = pure true)
    (hi : PI X tg iter wi) (ok : BlkOk X.N X.env.scope scope own)
    (hg : ∀ (s : Shared) (H : Hp) (C : Addr) (cl : List (Str × Addr)) (fp : List Addr), PG (X.blk s H scope (compEnvC scope cl C X.env) fp) tg g) (ht : ∀ (s : Shared) (H : Hp) (C : Addr) (cl : List (Str × Addr)) (fp : List Addr), PTs (X.blk s H scope (compEnvC scope cl C X.env) fp) ifs tt)
    (hk : ∀ (s : Shared) (H : Hp) (C : Addr) (cl : List (Str × Addr)) (fp : List Addr), PE (X.blk s H scope (compEnvC scope cl C X.env) fp) kx tk) (hv : ∀ (s : Shared) (H : Hp) (C : Addr) (cl : List (Str × Addr)) (fp : List Addr), PE (X.blk s H scope (compEnvC scope cl C X.env) fp) vx tv)
    (hs : ∀ x, foldedSetIterable iter X.env x = pure x := by intro _; rfl) : PS X (.Assign [.Name y py] (.DictComp kx vx [⟨tg, iter, ifs, 0⟩] scope pos) spos) (tAsg (tGc o0 wi g tt (own.map (·.2)) (tbD tk tv)) (gName i)) :=
  ps_setGc (ws := []) (bd := bdD kx vx) hy hyl hsw (fun _ => rfl) (plain_dict _ _ _ _ _) rfl hto (fun _ _ _ => rfl) hc hN hi ok (fun _ z => nomatch z) hg ht (fun D s H C cl fp => body_dict hu (hk s H C cl fp) (hv s H C cl fp)) hs
/-- {k: v for tg in iter if ..} -/
theorem pe_D {kx vx tg iter : Expr} {ifs : List Expr} {scope : Scope} {own : List (Str × Nat)} {pos : Pos} {o0 : HO} {wi : TI} {g : TG} {tt : TT} {tk tv : TE} (hto : Into X newDict o0 { cls := .type "dict", data := .dict #[] })
    (hu : X.A.units + 1 < cLine) (hc : X.calm = true) (hN : X.N.Nodup) (hi : PI X tg iter wi) (ok : BlkOk X.N X.env.scope scope own)
    (hg : ∀ (s : Shared) (H : Hp) (C : Addr) (cl : List (Str × Addr)) (fp : List Addr), PG (X.blk s H scope (compEnvC scope cl C X.env) fp) tg g) (ht : ∀ (s : Shared) (H : Hp) (C : Addr) (cl : List (Str × Addr)) (fp : List Addr), PTs (X.blk s H scope (compEnvC scope cl C X.env) fp) ifs tt)
    (hk : ∀ (s : Shared) (H : Hp) (C : Addr) (cl : List (Str × Addr)) (fp : List Addr), PE (X.blk s H scope (compEnvC scope cl C X.env) fp) kx tk) (hv : ∀ (s : Shared) (H : Hp) (C : Addr) (cl : List (Str × Addr)) (fp : List Addr), PE (X.blk s H scope (compEnvC scope cl C X.env) fp) vx tv)
    (hs : ∀ x, foldedSetIterable iter X.env x = pure x := by intro _; rfl) : PE X (.DictComp kx vx [⟨tg, iter, ifs, 0⟩] scope pos) (tGc o0 wi g tt (own.map (·.2)) (tbD tk tv)) :=
  pe_gc (ws := []) (bd := bdD kx vx) (arm_eval_DictComp _ _ _ _ _ _) (plain_dict _ _ _ _ _) rfl hto (fun _ _ _ => rfl) hc hN hi ok (fun _ z => nomatch z) hg ht (fun D s H C cl fp => body_dict hu (hk s H C cl fp) (hv s H C cl fp)) hs
/-- [e for a in x for b in y for c in z] -/
theorem pe_L3 {elt t0 i0 t1 i1 t2 i2 : Expr} {scope : Scope} {own : List (Str × Nat)} {v1 v2 : List Nat} {pos : Pos} {w0 w1 w2 : TI} {g0 g1 g2 : TG} {te : TE} (hc : X.calm = true) (hN : X.N.Nodup) (hi : PI X t0 i0 w0) (ok : BlkOk X.N X.env.scope scope own) (h1 : ∀ j ∈ v1, j ∈ own.map (·.2)) (h2 : ∀ j ∈ v2, j ∈ v1)
    (hg0 : ∀ (s : Shared) (H : Hp) (C : Addr) (cl : List (Str × Addr)) (fp : List Addr), PG (X.blk s H scope (compEnvC scope cl C X.env) fp) t0 g0)
    (hi1 : ∀ (s : Shared) (H : Hp) (C : Addr) (cl : List (Str × Addr)) (fp : List Addr), PI (X.blk s H scope (compEnvC scope cl C X.env) fp) t1 i1 w1) (hg1 : ∀ (s : Shared) (H : Hp) (C : Addr) (cl : List (Str × Addr)) (fp : List Addr), PG (X.blk s H scope (compEnvC scope cl C X.env) fp) t1 g1)
    (hi2 : ∀ (s : Shared) (H : Hp) (C : Addr) (cl : List (Str × Addr)) (fp : List Addr), PI (X.blk s H scope (compEnvC scope cl C X.env) fp) t2 i2 w2) (hg2 : ∀ (s : Shared) (H : Hp) (C : Addr) (cl : List (Str × Addr)) (fp : List Addr), PG (X.blk s H scope (compEnvC scope cl C X.env) fp) t2 g2)
    (he : ∀ (s : Shared) (H : Hp) (C : Addr) (cl : List (Str × Addr)) (fp : List Addr), PE (X.blk s H scope (compEnvC scope cl C X.env) fp) elt te)
    (hs : ∀ x, foldedSetIterable i0 X.env x = pure x := by intro _; rfl) (hs1 : ∀ env x, foldedSetIterable i1 env x = pure x := by intro _ _; rfl) (hs2 : ∀ env x, foldedSetIterable i2 env x = pure x := by intro _ _; rfl) :
    PE X (.ListComp elt [⟨t0, i0, [], 0⟩, ⟨t1, i1, [], 0⟩, ⟨t2, i2, [], 0⟩] scope pos) (tGc (.lst []) w0 g0 tYes (own.map (·.2)) (fun D => tIn w1 g1 tYes v1 (tIn w2 g2 tYes v2 (tbL te D)))) :=
  pe_gc (ws := v1) (bd := fun D env => deeper (.ListComp elt [⟨t0, i0, [], 0⟩, ⟨t1, i1, [], 0⟩, ⟨t2, i2, [], 0⟩] scope pos) 1 (.ref D) env i1) (eval_ListComp _ _ _ _) (plain_list _ _ _ _) rfl into_list (fun _ _ _ => rfl) hc hN hi ok h1 hg0 (fun _ _ _ _ _ => pts_nil)
    (fun D s H C cl fp => body_in hc (plain_list _ _ _ _) (bd := deeper (.ListComp elt [⟨t0, i0, [], 0⟩, ⟨t1, i1, [], 0⟩, ⟨t2, i2, [], 0⟩] scope pos) 2 (.ref D) (compEnvC scope cl C X.env) i2) (fun _ => rfl) rfl (hs1 _) (hi1 s H C cl fp) (hg1 s H C cl fp) pts_nil
      (body_in hc (plain_list _ _ _ _) (bd := bdL elt D (compEnvC scope cl C X.env)) (ws := []) (fun _ => rfl) rfl (hs2 _) (hi2 s H C cl fp) (hg2 s H C cl fp) pts_nil (body_list (he s H C cl fp)) (fun _ z => nomatch z)) h2) hs
end
end Gc

set_option Elab.async false
set_option maxRecDepth 100000
/-! The pen: a dict that every law draws from. -/
namespace Fk
open PySem L2
abbrev sPen : Stmt := top 20
abbrev sDraw : Stmt := top 21
abbrev sPick : Stmt := top 22
/-! ### the dict of a pen -/
theorem n_ca : ¬ (("cells" : Str) = "at") := by decide +kernel
theorem n_cd : ¬ (("cells" : Str) = "digits") := by decide +kernel
theorem n_cc : ¬ (("cells" : Str) = "count") := by decide +kernel
theorem n_cf : ¬ (("cells" : Str) = "fold") := by decide +kernel
theorem n_ac : ¬ (("at" : Str) = "cells") := by decide +kernel
theorem n_ad : ¬ (("at" : Str) = "digits") := by decide +kernel
theorem n_an : ¬ (("at" : Str) = "count") := by decide +kernel
theorem n_af : ¬ (("at" : Str) = "fold") := by decide +kernel
theorem n_dc : ¬ (("digits" : Str) = "cells") := by decide +kernel
theorem n_da : ¬ (("digits" : Str) = "at") := by decide +kernel
theorem n_dn : ¬ (("digits" : Str) = "count") := by decide +kernel
theorem n_df : ¬ (("digits" : Str) = "fold") := by decide +kernel
theorem n_nc : ¬ (("count" : Str) = "cells") := by decide +kernel
theorem n_na : ¬ (("count" : Str) = "at") := by decide +kernel
theorem n_nd : ¬ (("count" : Str) = "digits") := by decide +kernel
theorem n_nf : ¬ (("count" : Str) = "fold") := by decide +kernel
theorem n_fc : ¬ (("fold" : Str) = "cells") := by decide +kernel
theorem n_fa : ¬ (("fold" : Str) = "at") := by decide +kernel
theorem n_fd : ¬ (("fold" : Str) = "digits") := by decide +kernel
theorem n_fn : ¬ (("fold" : Str) = "count") := by decide +kernel
def penK (l : Addr) (a d c f : Int) : List (Key × V) := [(Sum.inr "cells", .ref l), (Sum.inr "at", .int a), (Sum.inr "digits", .int d), (Sum.inr "count", .int c), (Sum.inr "fold", .int f)]
section
variable {l : Addr} {a d c f y : Int} {H : Hp} {p : Addr}
theorem put_at : putK (penK l a d c f) (Sum.inr "at") (.int y) = penK l y d c f := by
  simp only [putK, penK, List.any_cons, List.map_cons, List.map_nil, Sum.inr.injEq, n_ca, n_da, n_na, n_fa, decide_true, decide_false, Bool.true_or, Bool.or_true, if_true, if_false]
theorem put_digits : putK (penK l a d c f) (Sum.inr "digits") (.int y) = penK l a y c f := by
  simp only [putK, penK, List.any_cons, List.map_cons, List.map_nil, Sum.inr.injEq, n_cd, n_ad, n_nd, n_fd, decide_true, decide_false, Bool.true_or, Bool.or_true, if_true, if_false]
theorem put_count : putK (penK l a d c f) (Sum.inr "count") (.int y) = penK l a d y f := by
  simp only [putK, penK, List.any_cons, List.map_cons, List.map_nil, Sum.inr.injEq, n_cc, n_an, n_dn, n_fn, decide_true, decide_false, Bool.true_or, Bool.or_true, if_true, if_false]
theorem put_fold : putK (penK l a d c f) (Sum.inr "fold") (.int y) = penK l a d c y := by
  simp only [putK, penK, List.any_cons, List.map_cons, List.map_nil, Sum.inr.injEq, n_cf, n_af, n_df, n_nf, decide_true, decide_false, Bool.true_or, Bool.or_true, if_true, if_false]
theorem put_new {kvs : List (Key × V)} {x : Str} {v : V} (h : ∀ kv ∈ kvs, ¬ kv.1 = Sum.inr x) : putK kvs (Sum.inr x) v = kvs ++ [(Sum.inr x, v)] := by
  unfold putK
  rw [if_neg]
  intro e
  rw [List.any_eq_true] at e
  obtain ⟨kv, hm, hd⟩ := e
  exact h kv hm (of_decide_eq_true hd)
theorem merge5 : mergeK [] (([(Sum.inr "cells", .ref l), (Sum.inr "at", .int a), (Sum.inr "digits", .int d), (Sum.inr "count", .int c), (Sum.inr "fold", .int f)] : List (Key × V))) = penK l a d c f := by
  show putK (putK (putK (putK (putK ([] : List (Key × V)) (Sum.inr "cells" : Key) (.ref l)) (Sum.inr "at" : Key) (.int a)) (Sum.inr "digits" : Key) (.int d)) (Sum.inr "count" : Key) (.int c)) (Sum.inr "fold" : Key) (.int f) = penK l a d c f
  simp only [putK, penK, List.any_nil, List.nil_append, List.any_cons, List.map_cons, List.map_nil, List.cons_append, Sum.inr.injEq, n_ca, n_cd, n_ad, n_cc, n_an, n_dn, n_cf, n_af, n_df, n_nf, decide_false, Bool.or_false, Bool.false_eq_true, if_false]
theorem val_cells : valV (penK l a d c f) (Sum.inr "cells") = some (.ref l) := valV_pos rfl
theorem val_at : valV (penK l a d c f) (Sum.inr "at") = some (.int a) := (valV_neg fun z => n_ca (Sum.inr.inj z)).trans (valV_pos rfl)
theorem val_digits : valV (penK l a d c f) (Sum.inr "digits") = some (.int d) := (valV_neg fun z => n_cd (Sum.inr.inj z)).trans ((valV_neg fun z => n_ad (Sum.inr.inj z)).trans (valV_pos rfl))
theorem val_count : valV (penK l a d c f) (Sum.inr "count") = some (.int c) := (valV_neg fun z => n_cc (Sum.inr.inj z)).trans ((valV_neg fun z => n_an (Sum.inr.inj z)).trans ((valV_neg fun z => n_dn (Sum.inr.inj z)).trans (valV_pos rfl)))
theorem val_fold : valV (penK l a d c f) (Sum.inr "fold") = some (.int f) := (valV_neg fun z => n_cf (Sum.inr.inj z)).trans ((valV_neg fun z => n_af (Sum.inr.inj z)).trans ((valV_neg fun z => n_df (Sum.inr.inj z)).trans ((valV_neg fun z => n_nf (Sum.inr.inj z)).trans (valV_pos rfl))))
theorem g_cells (h : H p = some (.dK (penK l a d c f))) : DGet H p (.str "cells") (some (.ref l)) := val_cells ▸ DGet.k (k := Sum.inr "cells") h
theorem g_at (h : H p = some (.dK (penK l a d c f))) : DGet H p (.str "at") (some (.int a)) := val_at ▸ DGet.k (k := Sum.inr "at") h
theorem g_digits (h : H p = some (.dK (penK l a d c f))) : DGet H p (.str "digits") (some (.int d)) := val_digits ▸ DGet.k (k := Sum.inr "digits") h
theorem g_count (h : H p = some (.dK (penK l a d c f))) : DGet H p (.str "count") (some (.int c)) := val_count ▸ DGet.k (k := Sum.inr "count") h
theorem g_fold (h : H p = some (.dK (penK l a d c f))) : DGet H p (.str "fold") (some (.int f)) := val_fold ▸ DGet.k (k := Sum.inr "fold") h
theorem len5 : (penK l a d c f).length < sizeLine := small1000 (by show 5 ≤ 1000; decide)
theorem p_at (h : H p = some (.dK (penK l a d c f))) : DPut H p (.str "at") (.int y) (upd H p (.dK (penK l y d c f))) := put_at ▸ DPut.k (k := Sum.inr "at") h len5
theorem p_digits (h : H p = some (.dK (penK l a d c f))) : DPut H p (.str "digits") (.int y) (upd H p (.dK (penK l a y c f))) := put_digits ▸ DPut.k (k := Sum.inr "digits") h len5
theorem p_count (h : H p = some (.dK (penK l a d c f))) : DPut H p (.str "count") (.int y) (upd H p (.dK (penK l a d y f))) := put_count ▸ DPut.k (k := Sum.inr "count") h len5
theorem p_fold (h : H p = some (.dK (penK l a d c f))) : DPut H p (.str "fold") (.int y) (upd H p (.dK (penK l a d c y))) := put_fold ▸ DPut.k (k := Sum.inr "fold") h len5
end
/-- a pen stands at p, c draws were made -/
structure PenAt (H : Hp) (p l : Addr) (c : Int) : Prop where
  ex : ∃ (a d f : Int) (ns : List Int), H p = some (.dK (penK l a d c f)) ∧ H l = some (.lst (ns.map V.int)) ∧ 0 ≤ a ∧ 0 ≤ d ∧ 0 ≤ f ∧ f < 2147483648 ∧ ns.length ≤ 63
  lo : 0 ≤ c
/-- all but what stands at p is as it was -/
def Keep (p : Addr) (H H' : Hp) : Prop := ∀ b o, b ≠ p → H b = some o → H' b = some o
theorem Keep.refl (p : Addr) (H : Hp) : Keep p H H := fun _ _ _ e => e
theorem Keep.trans {p : Addr} {H H1 H2 : Hp} (a : Keep p H H1) (b : Keep p H1 H2) : Keep p H H2 := fun c o n e => b c o n (a c o n e)
theorem Keep.upd {p : Addr} {H : Hp} {o : HO} : Keep p H (upd H p o) := fun b x n e => by
  rw [upd_ne n]
  exact e
theorem Keep.new {p q : Addr} {H : Hp} {o : HO} (h : H q = none) : Keep p H (L2.upd H q o) := fun b x n e => by
  rw [upd_ne (ne_of_none e h)]
  exact e
theorem same_new {H : Hp} {q : Addr} {o : HO} (h : H q = none) : Same H (upd H q o) := fun b x e => by
  rw [upd_ne (ne_of_none e h)]
  exact e
theorem Same.keep {p : Addr} {H H' : Hp} (a : Same H H') : Keep p H H' := fun b o _ e => a b o e
theorem Keep.there {p b : Addr} {H H' : Hp} {o u : HO} (k : Keep p H H') (hp : H p = some u) (h : H b = some o) (d : o ≠ u) : H' b = some o := k b o (fun e => d (by rw [e] at h; exact Option.some.inj (h.symm.trans hp))) h
/-- a pen at p stays where something else is written -/
theorem PenAt.upd {H : Hp} {p l q : Addr} {c : Int} {o : HO} (P : PenAt H p l c) (n : H q = none) : PenAt (L2.upd H q o) p l c := by
  obtain ⟨⟨a, d, f, ns, h1, h2, r⟩, lo⟩ := P
  exact ⟨⟨a, d, f, ns, same_new n _ _ h1, same_new n _ _ h2, r⟩, lo⟩
theorem at_ints {ns : List Int} {i : Nat} {z : Int} (h : ns[i]? = some z) : atI (ns.map V.int) (i : Int) = some (.int z) := atI_nat (by rw [List.getElem?_map, h] <;> rfl)
/-! ### the promises -/
def spPen (K : PySem.W.Frag) : Sp := fun vs H Q _ => ∃ (a : Addr) (ns : List Int), vs = [.ref a] ∧ SqL K H a (ns.map V.int) ∧ ns.length ≤ 63 ∧ ∀ p l H', Same H H' → H p = none → H l = none → PenAt H' p l 0 → Q (.ref p) H'
def spDraw : Sp := fun vs H Q _ => ∃ (p l : Addr) (c many : Int), vs = [.ref p, .int many] ∧ PenAt H p l c ∧ c < 1000000000 ∧ 0 < many ∧ many < 1073741824 ∧
  ∀ (r : Int) (H' : Hp), 0 ≤ r → r < many → PenAt H' p l (c + 1) → Keep p H H' → Q (.int r) H'
def spPick : Sp := fun vs H Q _ => ∃ (p l q : Addr) (c : Int) (xs : List V), vs = [.ref p, .ref q] ∧ PenAt H p l c ∧ c < 1000000000 ∧ H q = some (.lst xs) ∧ 0 < xs.length ∧ xs.length ≤ 1000 ∧
  ∀ (i : Nat) (x : V) (H' : Hp), xs[i]? = some x → PenAt H' p l (c + 1) → Keep p H H' → Q x H'
section
variable {P : Program} {w : World} {K : PySem.W.Frag} {mg : Str → Option Value} {base : Heap}
theorem scPen : FnScope ["_law_script", "_law_fold", "_law_cell"] ["_law_script"] (defScope sPen) := ⟨rfl, rfl, rfl, by decide +kernel, rfl, by decide +kernel, by decide +kernel⟩
theorem ok_pen {k : Nat} {f : Addr} {fd : FuncData} (F : Fun K "_law_pen" "_law_pen" sPen f fd) (mi : mg "int" = none) (ml : mg "list" = none) : FnOk P w K mg base CX0 (k + 1) f fd ["_law_script"] (spPen K) := by
  refine F.ok scPen (fun vs H Q E h => ?_) (fun cdv A outer s H vs Q E hr h => ?_)
  · obtain ⟨a, ns, rfl, _⟩ := h
    rfl
  · obtain ⟨a, ns, rfl, hS, hl, k⟩ := h
    refine ⟨_, pss_cons (ps_set (i := 1) scPen.nd rfl (Or.inl rfl) pe_int)
      (pss_cons (ps_for PassesOwn.never rfl (pi_list (pv 0)) (pg_name (i := 2) scPen.nd rfl (Or.inl rfl))
        (pss_one (ps_set (i := 1) scPen.nd rfl (Or.inl rfl) (pe_op op_mod (pe_callTy call_int1 (by rfl) mi (by decide +kernel) (pa_cons (pe_op op_add (pe_op op_mul (pv 1) pe_int) (pv 2)) pa_nil)) pe_int))))
      (pss_one (ps_ret (pe_disp (pps_cons pe_str (pe_callTy call_list_of (by rfl) ml (by decide +kernel) (pa_cons (pv 0) pa_nil)) (pps_cons pe_str pe_int (pps_cons pe_str pe_int (pps_cons pe_str pe_int (pps_cons pe_str (pv 1) pps_nil))))) (by rfl) (by rfl) (fun z => by cases z) (by decide))))), ?_⟩
    refine ⟨_, rfl, a, rfl, ⟨_, hS⟩, for_list (K := K) (a := a) (xs := ns.map V.int) (fun i σ H2 => ∃ (z : Int) (v : Option V), σ = [some (.ref a), some (.int z), v] ∧ H2 = H ∧ 0 ≤ z ∧ z < 1000000007)
      ⟨0, none, rfl, rfl, by decide, by decide⟩ (fun i σ H2 _ ⟨_, _, _, e, _⟩ => e ▸ hS) ?_ ?_⟩
    · rintro i y σ H2 hi ⟨z, v, rfl, rfl, z0, z1⟩
      obtain ⟨n, rfl⟩ : ∃ n, y = V.int n := by
        rw [List.getElem?_map] at hi
        cases e : ns[i]? with
        | none =>
          rw [e] at hi
          cases hi
        | some n =>
          rw [e] at hi
          exact ⟨n, (Option.some.inj hi).symm⟩
      refine ⟨_, rfl, _, _, rfl, rfl, Or.inr ⟨by decide, by decide⟩, _, rfl, _, _, rfl, rfl, Or.inl ⟨_, rfl, _, _, rfl, rfl, (by show (0 : Int) < 1000000007; decide), ?_⟩⟩
      exact ⟨_, _, rfl, rfl, Int.emod_nonneg _ (by decide), Int.emod_lt_of_pos _ (by decide)⟩
    · rintro σ H2 ⟨z, v, rfl, rfl, z0, z1⟩
      intro p hp
      refine ⟨_, rfl, a, _, rfl, Or.inl ((same_new hp).seq hS), fun l hl' => ?_⟩
      have lp : p ≠ l := ne_of_none upd_same hl'
      refine ⟨_, rfl, ?_, [(Sum.inr "cells", .ref l), (Sum.inr "at", .int 0), (Sum.inr "digits", .int 0), (Sum.inr "count", .int 0), (Sum.inr "fold", .int z)], rfl, by show 5 ≤ 15; decide, ?_⟩
      · rw [upd_ne lp, upd_same]
      · have nl : H2 l = none := by
          rw [upd_ne lp.symm] at hl'
          exact hl'
        refine k p l _ (fun b o e => ?_) hp nl ⟨⟨0, 0, z, ns, ?_, ?_, by decide, by decide, z0, by omega, hl⟩, by decide⟩
        · rw [upd_ne (ne_of_none e hp), upd_ne (ne_of_none e nl), upd_ne (ne_of_none e hp)]
          exact e
        · rw [upd_same, merge5]
        · rw [upd_ne lp.symm, upd_same]
theorem scDraw : FnScope ["_law_pen_here", "_law_many", "_law_cell", "_law_digit", "_law_blend"] ["_law_pen_here", "_law_many"] (defScope sDraw) := ⟨rfl, rfl, rfl, by decide +kernel, rfl, by decide +kernel, by decide +kernel⟩
theorem ok_draw {k : Nat} {f : Addr} {fd : FuncData} (F : Fun K "_law_draw" "_law_draw" sDraw f fd) (mi : mg "int" = none) (ml : mg "len" = none) : FnOk P w K mg base CX0 (k + 1) f fd ["_law_pen_here", "_law_many"] spDraw := by
  refine F.ok scDraw (fun vs H Q E h => ?_) (fun cdv A outer s H vs Q E hr h => ?_)
  · obtain ⟨p, l, c, many, rfl, _⟩ := h
    rfl
  · obtain ⟨p, l, c, many, rfl, ⟨⟨a, d, fo, ns, hp, hl, a0, d0, f0, f1, hn⟩, c0⟩, c1, m0, m1, k⟩ := h
    have hu := hu_of hr
    refine ⟨_, pss_cons (ps_dput hu (pv 0) pe_str (pe_op op_add (pe_dget hu (pv 0) pe_str (fun _ _ => rfl)) pe_int) rfl)
      (C8.pss_cut (ps_if (PW.pt (pw_and (pt_cmpR op_eq (pe_dget hu (pv 0) pe_str (fun _ _ => rfl)) pe_int (nomark _)) (pw_and1 (pt_cmpR op_lt (pe_dget hu (pv 0) pe_str (fun _ _ => rfl)) (pe_callB call_len_seq (by rfl) ml PySem.boot_len (pa_cons (pe_dget hu (pv 0) pe_str (fun _ _ => rfl)) pa_nil)) (nomark _)))))
          (pss_cons (ps_set (i := 2) scDraw.nd rfl (Or.inl rfl) (pe_ix ix_list (pe_dget hu (pv 0) pe_str (fun _ _ => rfl)) (pe_dget hu (pv 0) pe_str (fun _ _ => rfl)) (fun _ _ => rfl)))
          (pss_cons (ps_dput hu (pv 0) pe_str (pe_op op_add (pe_dget hu (pv 0) pe_str (fun _ _ => rfl)) pe_int) rfl)
          (pss_one (ps_if (pt_cmpR op_ge (pv 2) (pe_op op_pow pe_int pe_int) (nomark _))
            (pss_one (ps_dput hu (pv 0) pe_str (pe_op op_sub (pv 2) (pe_op op_pow pe_int pe_int)) rfl))
            (pss_one (ps_dput hu (pv 0) pe_str (pe_op op_mod (pe_callTy call_int1 (by rfl) mi (by decide +kernel) (pa_cons (pe_op op_add (pe_op op_mul (pe_dget hu (pv 0) pe_str (fun _ _ => rfl)) pe_int) (pv 2)) pa_nil)) pe_int) rfl)))))) pss_nil)
      (pss_cons (ps_if (pt_cmpR op_gt (pe_dget hu (pv 0) pe_str (fun _ _ => rfl)) pe_int (nomark _))
          (pss_cons (ps_set (i := 3) scDraw.nd rfl (Or.inl rfl) (pe_op op_modN (pe_callTy call_int1 (by rfl) mi (by decide +kernel) (pa_cons (pe_dget hu (pv 0) pe_str (fun _ _ => rfl)) pa_nil)) (pv 1)))
          (pss_cons (ps_dput hu (pv 0) pe_str (pe_op op_fdivN (pe_dget hu (pv 0) pe_str (fun _ _ => rfl)) (pv 1)) rfl)
          (pss_one (ps_ret (pv 3))))) pss_nil)
      (pss_cons (ps_set (i := 4) scDraw.nd rfl (Or.inl rfl) (pe_op op_add (pe_op op_add (pe_dget hu (pv 0) pe_str (fun _ _ => rfl)) (pe_op op_mul (pe_dget hu (pv 0) pe_str (fun _ _ => rfl)) pe_int)) pe_int))
      (pss_one (ps_ret (pe_op op_modN (pe_op op_fdiv (pe_callTy call_int1 (by rfl) mi (by decide +kernel) (pa_cons (pe_op op_mod (pe_op op_pow (pv 4) pe_int) pe_int) pa_nil)) pe_int) (pv 1))))))), ?_⟩
    refine ⟨_, rfl, p, .int c, rfl, g_count hp, _, _, rfl, rfl, _, rfl, p, _, rfl, p_count hp, ?_⟩
    have lp : l ≠ p := ne_of hl hp (by intro z; cases z)
    refine ⟨fun σ' H' => ∃ (v2 : Option V) (a' d' f' : Int), σ' = [some (.ref p), some (.int many), v2, none, none] ∧ H' p = some (.dK (penK l a' d' (c + 1) f')) ∧ Keep p H H' ∧ 0 ≤ a' ∧ 0 ≤ d' ∧ 0 ≤ f' ∧ f' < 2147483648, ?_, ?_⟩
    · refine ⟨_, rfl, p, .int d, rfl, g_digits upd_same, rfl, _, rfl, ?_⟩
      refine ite2 (fun hd => ?_) (fun hd => ?_)
      · have hl1 : (upd H p (.dK (penK l a d (c + 1) fo))) l = some (.lst (ns.map V.int)) := by
          rw [upd_ne lp]
          exact hl
        refine ⟨_, rfl, p, .int a, rfl, g_at upd_same, _, rfl, p, .ref l, rfl, g_cells upd_same, l, _, rfl, Or.inl (SqL.of hl1), _, _, rfl, rfl, _, rfl, ?_⟩
        refine ite2 (fun ha => ?_) (fun ha => ?_)
        · have ha' : a < (ns.length : Int) := by
            have e := of_decide_eq_true ha
            rw [List.length_map] at e
            exact e
          obtain ⟨z, hz⟩ : ∃ z, ns[a.toNat]? = some z := ⟨ns[a.toNat]'(by omega), List.getElem?_eq_getElem _⟩
          refine ⟨_, rfl, p, .ref l, rfl, g_cells upd_same, _, rfl, p, .int a, rfl, g_at upd_same, l, _, a, .int z, rfl, rfl, SqL.of hl1, ?_, ?_⟩
          · have e := at_ints (ns := ns) hz
            rw [show ((a.toNat : Nat) : Int) = a by omega] at e
            exact e
          refine ⟨_, rfl, p, .int a, rfl, g_at upd_same, _, _, rfl, rfl, _, rfl, p, _, rfl, p_at upd_same, ?_⟩
          refine ⟨_, rfl, 10, 18, rfl, rfl, ⟨by decide, by decide, by decide⟩, _, _, rfl, rfl, _, rfl, ?_⟩
          have e18 : (10 : Int) ^ (18 : Int).toNat = 1000000000000000000 := by decide
          refine ite2 (fun hz => ?_) (fun hz => ?_)
          · have hz' := of_decide_eq_true hz
            rw [e18] at hz'
            refine ⟨_, rfl, 10, 18, rfl, rfl, ⟨by decide, by decide, by decide⟩, _, _, rfl, rfl, _, rfl, p, _, rfl, p_digits upd_same, _, _, _, _, rfl, upd_same, (Keep.upd.trans Keep.upd).trans Keep.upd, by omega, ?_, f0, f1⟩
            rw [e18]
            omega
          · refine ⟨_, rfl, p, .int fo, rfl, g_fold upd_same, _, _, rfl, rfl, Or.inr ⟨by decide, by decide⟩, _, rfl, _, _, rfl, rfl, Or.inl ⟨_, rfl, _, _, rfl, rfl, (by show (0 : Int) < 2147483587; decide), _, rfl, p, _, rfl, p_fold upd_same, ?_⟩⟩
            have e1 := Int.emod_nonneg (fo * 69069 + z) (show (2147483587 : Int) ≠ 0 by decide)
            have e2 := Int.emod_lt_of_pos (fo * 69069 + z) (show (0 : Int) < 2147483587 by decide)
            exact ⟨_, _, _, _, rfl, upd_same, (Keep.upd.trans Keep.upd).trans Keep.upd, by omega, d0, e1, by omega⟩
        · exact ⟨_, _, _, _, rfl, upd_same, Keep.upd, a0, d0, f0, f1⟩
      · exact ⟨_, _, _, _, rfl, upd_same, Keep.upd, a0, d0, f0, f1⟩
    · rintro σ' H2 ⟨v2, a', d', f', rfl, hp2, k2, a0', d0', f0', f1'⟩
      have hl2 : H2 l = some (.lst (ns.map V.int)) := k2 l _ lp hl
      refine ⟨_, rfl, p, .int d', rfl, g_digits hp2, _, _, rfl, rfl, _, rfl, ?_⟩
      refine ite2 (fun hd => ?_) (fun hd => ?_)
      · have hd' := of_decide_eq_true hd
        refine ⟨_, rfl, p, .int d', rfl, g_digits hp2, Or.inl ⟨_, rfl, _, rfl, _, _, rfl, rfl, by omega, ?_⟩⟩
        refine ⟨_, rfl, p, .int d', rfl, g_digits hp2, _, rfl, _, _, rfl, rfl, ⟨by omega, by omega⟩, _, rfl, p, _, rfl, p_digits hp2, _, rfl, ?_⟩
        have em : d'.fmod many = d' % many := Int.fmod_eq_emod_of_nonneg _ (by omega)
        have ed : d'.fdiv many = d' / many := Int.fdiv_eq_ediv_of_nonneg _ (by omega)
        refine k _ _ (by rw [em]; exact Int.emod_nonneg _ (by omega)) (by rw [em]; exact Int.emod_lt_of_pos _ m0) ⟨⟨a', _, f', ns, upd_same, by rw [upd_ne lp]; exact hl2, a0', by rw [ed]; exact Int.ediv_nonneg d0' (by omega), f0', f1', hn⟩, by omega⟩ (k2.trans Keep.upd)
      · refine ⟨_, rfl, p, .int f', rfl, g_fold hp2, _, rfl, p, .int (c + 1), rfl, g_count hp2, _, _, rfl, rfl, Or.inr ⟨by decide, by decide⟩, _, _, rfl, rfl, _, _, rfl, rfl, ?_⟩
        refine ⟨_, rfl, _, 17, rfl, rfl, ⟨by decide, by decide, by omega⟩, _, _, rfl, rfl, (by show (0 : Int) < 2305843009213693951; decide), Or.inl ⟨_, rfl, _, _, rfl, rfl, ⟨by decide, by decide⟩, _, rfl, _, _, rfl, rfl, by omega, ?_⟩⟩
        have em : ∀ z : Int, z.fmod many = z % many := fun z => Int.fmod_eq_emod_of_nonneg _ (by omega)
        exact k _ _ (by rw [em]; exact Int.emod_nonneg _ (by omega)) (by rw [em]; exact Int.emod_lt_of_pos _ m0) ⟨⟨a', d', f', ns, hp2, hl2, a0', d0', f0', f1', hn⟩, by omega⟩ k2
/-- a def that may be called: its promise, its name, how it binds -/
structure Cl (P : Program) (w : World) (K : PySem.W.Frag) (mg : Str → Option Value) (base : Heap) (x : Str) (ps : List Str) (k : Nat) (sp : Sp) (f : Addr) (fd : FuncData) : Prop where
  G : FnOk P w K mg base CX0 k f fd ps sp
  g : mg x = some (.ref f)
  kp : PySem.W.keepIn K (.ref f) = true
  b : Binds K fd ps []
abbrev psDraw : List Str := ["_law_pen_here", "_law_many"]
abbrev psPick : List Str := ["_law_pen_here", "_law_some"]
theorem scPick : FnScope ["_law_pen_here", "_law_some"] ["_law_pen_here", "_law_some"] (defScope sPick) := ⟨rfl, rfl, rfl, by decide +kernel, rfl, by decide +kernel, by decide +kernel⟩
theorem ok_pick {f fD : Addr} {fd fdD : FuncData} (F : Fun K "_law_pick" "_law_pick" sPick f fd) (ml : mg "len" = none) (D : Cl P w K mg base "_law_draw" psDraw 1 spDraw fD fdD) : FnOk P w K mg base CX0 2 f fd psPick spPick := by
  refine F.ok scPick (fun vs H Q E h => ?_) (fun cdv A outer s H vs Q E hr h => ?_)
  · obtain ⟨p, l, q, c, xs, rfl, _⟩ := h
    rfl
  · obtain ⟨p, l, q, c, xs, rfl, hp, c1, hq, x0, x1, k⟩ := h
    refine ⟨_, pss_one (ps_ret (pe_ix ix_list (pv 1) (pe_call D.G hr (by rfl) D.g D.kp D.b .nil pass0 (pa_cons (pv 0) (pa_cons (pe_callB call_len_seq (by rfl) ml PySem.boot_len (pa_cons (pv 1) pa_nil)) pa_nil))) (fun _ _ => rfl))), ?_⟩
    refine ⟨_, rfl, _, rfl, _, rfl, q, xs, rfl, Or.inl (SqL.of hq), p, l, c, (xs.length : Int), rfl, hp, c1, by omega, by omega, fun r H' r0 r1 P' k' => ?_⟩
    have qp : q ≠ p := by
      obtain ⟨⟨a, d, fo, ns, hp', _⟩, _⟩ := hp
      exact ne_of hq hp' (by intro z; cases z)
    have hr2 : r.toNat < xs.length := by omega
    have hx : xs[r.toNat]? = some (xs[r.toNat]'hr2) := List.getElem?_eq_getElem hr2
    refine ⟨q, xs, r, xs[r.toNat]'hr2, rfl, rfl, SqL.of (k' q _ qp hq), ?_, k _ _ H' hx P' k'⟩
    have e := atI_nat hx
    rw [show ((r.toNat : Nat) : Int) = r by omega] at e
    exact e
end
end Fk

set_option Elab.async false
set_option maxRecDepth 100000
namespace Fk
open PySem L2
abbrev sBig : Stmt := top 23
/-! ### a number of at most so many figures -/
theorem digits_lt : ∀ (cs : List Nat) (a : Nat), NumText.AllDigits cs → cs.foldl (fun acc c => acc * 10 + (c - 48)) a < (a + 1) * 10 ^ cs.length
  | [], a, _ => by simp
  | c :: cs, a, h => by
    have hc := h.head
    have ih := digits_lt cs (a * 10 + (c - 48)) h.tail
    rw [List.foldl_cons]
    refine Nat.lt_of_lt_of_le ih ?_
    rw [List.length_cons, Nat.pow_succ, Nat.mul_comm (10 ^ cs.length) 10, ← Nat.mul_assoc]
    exact Nat.mul_le_mul_right _ (by omega)
theorem digitsVal_lt {cs : List Nat} (h : NumText.AllDigits cs) : NumText.digitsVal cs < 10 ^ cs.length := by
  have z := digits_lt cs 0 h
  rw [Nat.zero_add, Nat.one_mul] at z
  exact z
/-- the last figures of a number, read as a number -/
theorem tail_int (n f : Nat) (hf : 0 < f) (hl : (TL.numL n).length ≤ 640) : ∃ r : Nat, PySem.intText? (cutS (Str.ofString (toString ((n : Nat) : Int))) (some (-(f : Int))) none) = some (r : Int) ∧ r < 10 ^ f := by
  have et : (Str.ofString (toString ((n : Nat) : Int))).cps.toList = TL.numL n := TL.tl_num n
  have el : (Str.ofString (toString ((n : Nat) : Int))).length = (TL.numL n).length := by rw [← et] <;> rfl
  have ne := TL.numL_ne n
  have pos : 0 < (TL.numL n).length := List.length_pos_iff.mpr ne
  have ei : HT.sIx (TL.numL n).length 0 (some (-(f : Int))) = (TL.numL n).length - f := by
    show (if (-(f : Int)) < 0 then ((-(f : Int)) + ((TL.numL n).length : Int)).toNat else _) = _
    rw [if_pos (by omega)]
    omega
  have ec : (cutS (Str.ofString (toString ((n : Nat) : Int))) (some (-(f : Int))) none).cps.toList = (TL.numL n).drop ((TL.numL n).length - f) := by
    unfold cutS
    rw [et, el, HT.sIx_none, ei, List.toList_toArray, List.take_of_length_le]
    rw [List.length_drop]
    exact Nat.le_refl _
  have ad : NumText.AllDigits ((TL.numL n).drop ((TL.numL n).length - f)) := fun c hc => TL.numL_digits n c (List.mem_of_mem_drop hc)
  have ll : ((TL.numL n).drop ((TL.numL n).length - f)).length ≤ f := by
    rw [List.length_drop]
    omega
  refine ⟨NumText.digitsVal ((TL.numL n).drop ((TL.numL n).length - f)), ?_, Nat.lt_of_lt_of_le (digitsVal_lt ad) (Nat.pow_le_pow_right (by decide) ll)⟩
  rw [← ec]
  refine intText_digits (by rw [ec]; exact ad) (by rw [ec]; exact fun z => by have := congrArg List.length z; rw [List.length_drop] at this; simp at this; omega) ?_
  exact Nat.le_trans (cutS_length _ _ _) (by rw [el]; omega)
def spBig : Sp := fun vs H Q _ => ∃ (p l : Addr) (c fg : Int), vs = [.ref p, .int fg] ∧ PenAt H p l c ∧ c < 900000000 ∧ 1 ≤ fg ∧ fg ≤ 60 ∧
  ∀ (r c' : Int) (H' : Hp), 0 ≤ r → r < 10 ^ fg.toNat → c ≤ c' → c' ≤ c + 30 → PenAt H' p l c' → Keep p H H' → Q (.int r) H'
section
variable {P : Program} {w : World} {K : PySem.W.Frag} {mg : Str → Option Value} {base : Heap}
abbrev psBig : List Str := ["_law_pen_here", "_law_figures"]
theorem scBig : FnScope ["_law_pen_here", "_law_figures", "_law_total", "_law_k"] psBig (defScope sBig) := ⟨rfl, rfl, rfl, by decide +kernel, rfl, by decide +kernel, by decide +kernel⟩
theorem ok_big {f fD fP : Addr} {fd fdD fdP : FuncData} (F : Fun K "_law_big" "_law_big" sBig f fd) (mr : mg "range" = none) (mi : mg "int" = none) (ms : mg "str" = none)
    (D : Cl P w K mg base "_law_draw" psDraw 1 spDraw fD fdD) (C : Cl P w K mg base "_law_pick" psPick 2 spPick fP fdP) : FnOk P w K mg base CX0 3 f fd psBig spBig := by
  refine F.ok scBig (fun vs H Q E h => ?_) (fun cdv A outer s H vs Q E hr h => ?_)
  · obtain ⟨p, l, c, fg, rfl, _⟩ := h
    rfl
  · obtain ⟨p, l, c, fg, rfl, hp, c1, f1, f2, k⟩ := h
    refine ⟨_, pss_cons (ps_set (i := 2) scBig.nd rfl (Or.inl rfl) pe_int)
      (pss_cons (ps_for PassesOwn.never rfl (pi_range1 (by rfl) mr (pa_cons (pe_call C.G hr (by rfl) C.g C.kp C.b .nil pass0 (pa_cons (pv 0) (pa_cons (pe_lst (pa_cons pe_int (pa_cons pe_int (pa_cons pe_int (pa_cons pe_int (pa_cons pe_int (pa_cons (pe_op op_fdiv (pe_op op_add (pv 1) pe_int) pe_int) pa_nil))))))) pa_nil))) pa_nil)) (pg_name (i := 3) scBig.nd rfl (Or.inl rfl))
        (pss_one (ps_set (i := 2) scBig.nd rfl (Or.inl rfl) (pe_op op_add (pe_op op_mul (pv 2) pe_int) (pe_call D.G (hr.mono (by decide)) (by rfl) D.g D.kp D.b .nil pass0 (pa_cons (pv 0) (pa_cons pe_int pa_nil)))))))
      (pss_one (ps_ret (pe_callTy call_int_str (by rfl) mi (by decide +kernel) (pa_cons (pe_slice sl_str (pe_callTy call_str_int (by rfl) ms (by decide +kernel) (pa_cons (pv 2) pa_nil)) (po_some (pe_un un_neg (pv 1))) po_none) pa_nil))))), ?_⟩
    refine ⟨_, rfl, _, rfl, _, _, rfl, rfl, _, _, rfl, rfl, ⟨by decide, by decide⟩, ?_⟩
    refine ⟨by show 6 ≤ sizeLine; decide, fun q hq => ?_⟩
    refine ⟨p, l, q, c, _, rfl, hp.upd hq, by omega, upd_same, by show 0 < 6; decide, by show 6 ≤ 1000; decide, fun i x H1 hx P1 k1 => ?_⟩
    obtain ⟨n, rfl, n0, n1⟩ : ∃ n : Int, x = .int n ∧ 1 ≤ n ∧ n ≤ 20 := by
      have hm := List.mem_of_getElem? hx
      simp only [List.mem_cons, List.not_mem_nil, or_false] at hm
      rcases hm with e | e | e | e | e | e
      · exact ⟨1, e, by decide, by decide⟩
      · exact ⟨1, e, by decide, by decide⟩
      · exact ⟨1, e, by decide, by decide⟩
      · exact ⟨2, e, by decide, by decide⟩
      · exact ⟨3, e, by decide, by decide⟩
      · exact ⟨(fg + 2) / 3, e, by omega, by omega⟩
    refine ⟨n, rfl, by omega, by omega, ?_⟩
    refine for_range (lo := 0) (n := n.toNat) (fun i σ H2 => ∃ (t c' : Int) (v : Option V), σ = [some (.ref p), some (.int fg), some (.int t), v] ∧ 0 ≤ t ∧ t < 1000 ^ i ∧ c ≤ c' ∧ c' ≤ c + 1 + i ∧ PenAt H2 p l c' ∧ Keep p H H2)
      ⟨0, c + 1, none, rfl, by decide, by decide, by omega, by omega, P1, (Keep.new hq).trans k1⟩ ?_ ?_
    · rintro i σ H2 hi ⟨t, c', v, rfl, t0, t1, c2, c3, P2, k2⟩
      refine ⟨_, rfl, _, _, rfl, rfl, Or.inr ⟨by decide, by decide⟩, _, rfl, p, l, c', 1000, rfl, P2, by omega, by decide, by decide, fun r H3 r0 r1 P3 k3 => ?_⟩
      refine ⟨_, _, rfl, rfl, _, c' + 1, _, rfl, by omega, ?_, by omega, by omega, P3, k2.trans k3⟩
      rw [Int.pow_succ]
      omega
    · rintro σ H2 ⟨t, c', v, rfl, t0, t1, c2, c3, P2, k2⟩
      obtain ⟨m, rfl⟩ : ∃ m : Nat, t = (m : Int) := ⟨t.toNat, by omega⟩
      obtain ⟨g, rfl⟩ : ∃ g : Nat, fg = (g : Int) := ⟨fg.toNat, by omega⟩
      have m60 : m < 10 ^ 60 := by
        have e1 : (1000 : Int) ^ n.toNat = ((1000 ^ n.toNat : Nat) : Int) := by simp
        rw [e1] at t1
        have e2 : 1000 ^ n.toNat ≤ 1000 ^ 20 := Nat.pow_le_pow_right (by decide) (by omega)
        have e3 : (1000 : Nat) ^ 20 = 10 ^ 60 := by decide
        omega
      have hlog : (m : Int).natAbs.log2 < 1920 := by
        rw [Int.natAbs_natCast]
        by_cases hm : m = 0
        · rw [hm]
          decide
        · exact Nat.lt_of_lt_of_le ((Nat.log2_lt hm).mpr (Nat.lt_trans m60 (show (10 : Nat) ^ 60 < 2 ^ 200 by decide))) (by decide)
      have l60 : (TL.numL m).length ≤ 60 := TL.numL_len (by decide) m60
      obtain ⟨r, hr1, hr2⟩ := tail_int m g (by omega) (by omega)
      have el : (Str.ofString (toString (m : Int))).length = (TL.numL m).length := by
        rw [← TL.tl_num m]
        rfl
      refine ⟨_, rfl, _, rfl, hlog, _, rfl, _, rfl, _, rfl, _, rfl, Nat.le_of_lt (small1000 (by omega)), _, (r : Int), rfl, hr1, Nat.le_trans (cutS_length _ _ _) (by omega), ?_⟩
      refine k _ c' H2 (by omega) ?_ c2 (by omega) P2 k2
      rw [Int.toNat_natCast]
      have e : ((10 : Int) ^ g) = ((10 ^ g : Nat) : Int) := by simp
      rw [e]
      exact Int.ofNat_lt.mpr hr2
end
end Fk

set_option Elab.async false
set_option maxRecDepth 100000
set_option maxHeartbeats 4000000
namespace Fk
open PySem PySem.Spec L2 PyProof.Rows
theorem paired_of {α β : Type} {R : α → β → Prop} : ∀ (xs : List α) (ys : List β), xs.length = ys.length → (∀ (i : Nat) (x : α) (y : β), xs[i]? = some x → ys[i]? = some y → R x y) → Paired R xs ys
  | [], [], _, _ => .nil
  | x :: xs, y :: ys, hl, h => .cons (h 0 x y rfl rfl) (paired_of xs ys (Nat.succ.inj hl) fun i a b ha hb => h (i + 1) a b ha hb)
  | [], _ :: _, hl, _ => nomatch hl
  | _ :: _, [], hl, _ => nomatch hl
section
variable {X : Cx}
/-! ### a text times a number; a tuple of a text's signs -/
theorem op_mulS : OpR X (binaryOp .Mult) (fun x y H Q => ∃ (z : Str) (k : Int), x = .str z ∧ y = .int k ∧ PySem.MulOk z k ∧ Q (.str (PySem.Txt.mul z k)) H) := by
  intro pins s σ H x y v u Q I rx ry h
  obtain ⟨z, k, rfl, rfl, ok, q⟩ := h
  obtain ⟨t, rfl⟩ := rx
  obtain ⟨t', rfl⟩ := ry
  exact PySem.SB.mul ok fun t2 k2 => ⟨.str _, H, I.tok _, ⟨_, rfl⟩, q⟩
def signsOf (z : Str) : List V := z.cps.toList.map fun c => V.str ⟨#[c]⟩
theorem call_tupS : CallR X (.type "tuple") (fun xs H Q => ∃ z : Str, xs = [.str z] ∧ X.A.handled = none ∧ z.length ≤ sizeLine ∧ ∀ p, H p = none → Q (.ref p) (upd H p (.tup (signsOf z)))) := by
  intro pins s σ H xs us Q I r h
  obtain ⟨z, rfl, hh, hz, q⟩ := h
  obtain ⟨u1, rfl, r1⟩ := vals1 r
  obtain ⟨t, rfl⟩ := r1
  refine call_tuple_str hh z t (fun h' tk acc hk hit => ?_) hz
  obtain ⟨hsz, hat⟩ := hit
  have zl : z.cps.toList.length = z.cps.size := Array.length_toList
  have rel : Vals (signsOf z) acc.toList := paired_of _ _ (by rw [signsOf, List.length_map, zl, Array.length_toList, hsz]) fun i x y hx hy => by
    rw [signsOf, List.getElem?_map] at hx
    rw [Array.getElem?_toList] at hy
    obtain ⟨c, u, hc, rfl⟩ := hat i y hy
    rw [← Array.getElem?_toList] at hc
    rw [hc] at hx
    cases hx
    exact ⟨u, rfl⟩
  have I1 : Inv X pins σ H { s with heap := h' } := I.kept (t' := s.toks) hk
  have I2 : Inv X pins σ (upd H h'.objs.size (.tup (signsOf z))) { s with heap := h'.push { cls := .type "tuple", data := .seq acc }, toks := tk } :=
    I1.laid (t' := tk) (fun b o e => Heap.get?_push_of_some _ e) (Nat.le_refl _) (show ObjOk X.prog X.w _ _ _ (.tup (signsOf z)) from ⟨by rw [signsOf, List.length_map, zl]; exact hz, acc.toList, rel, by rw [Array.toArray_toList]; exact IsTup.new _ _⟩)
  exact ⟨.ref h'.objs.size, _, I2, rfl, q _ (I1.hok.fresh (Nat.le_refl _))⟩
/-! ### int of a long text -/
theorem op_fdivB : OpR X (binaryOp .FloorDiv) (rI (fun i j => 0 < j ∧ i.natAbs < 2 ^ 13400) fun i j => .int (i / j)) := opI fun i j _ _ _ _ _ hc q => by
  obtain ⟨h1, h2⟩ := hc
  refine floordiv_int (by omega) (by rw [Int.fdiv_eq_ediv_of_nonneg i (by omega)]; exact q) (.inl ?_)
  have k1 : (if i == 0 then 0 else i.natAbs.log2 / 30 + 1) ≤ 447 := by
    by_cases h0 : (i == 0) = true
    · rw [if_pos h0]
      exact Nat.zero_le _
    · rw [if_neg h0]
      have : i.natAbs.log2 < 13400 := (Nat.log2_lt (by simpa using h0)).mpr h2
      omega
  show (decide ((if j == 0 then 0 else j.natAbs.log2 / 30 + 1) > 300) && decide ((if i == 0 then 0 else i.natAbs.log2 / 30 + 1) > (if j == 0 then 0 else j.natAbs.log2 / 30 + 1) + 150)) = false
  generalize (if i == 0 then 0 else i.natAbs.log2 / 30 + 1) = m at k1
  generalize (if j == 0 then 0 else j.natAbs.log2 / 30 + 1) = n
  by_cases hn : n > 300
  · rw [decide_eq_false (show ¬ m > n + 150 by omega), Bool.and_false]
  · rw [decide_eq_false hn, Bool.false_and]
end
/-! ### int of a long text -/
section
open PySem.NumText
theorem wp_long {M : Model} {A : Around} {E : Value → Shared → Prop} {s : Shared} {K : PySem.W.Frag} {Q : Value → Shared → Prop} {v : Value} {text : List Nat} {n : Int} (X : K.In s.heap) (e : PySem.W.nsIn K cStatics "sys.int_max_str_digits" = some none)
    (hs : ¬ (text.takeWhile (· != 0)).length ≤ 640) (hr : (int_private% "readNumeral") 4300 10 (text.takeWhile (· != 0)) = (int_private% "Numeral.value") n)
    (ha : ((text.takeWhile (· != 0)).length == text.length) = true) (h : Q (.int n s.toks) { s with toks := s.toks + 1 }) :
    wpAny M A ((int_private% "intFromText") v text 10) Q E s := by
  have L := PySem.W.looks_nsIn (M := M) X e
  obtain ⟨hp, g, d, tk, os⟩ := s
  repeat (any_goals (first
    | assumption
    | (with_reducible refine wpAny_ite_false (decide_eq_false hs) ?_)
    | (with_reducible refine wpAny_ite_true (decide_eq_true ha) ?_)
    | (with_reducible refine L.at ?_)
    | wp_step))
  all_goals (try rw [hr])
  all_goals (try dsimp only)
  repeat (any_goals (first
    | assumption
    | (with_reducible refine wpAny_ite_true (decide_eq_true ha) ?_)
    | wp_step))
structure Kept1 (p : Prop) : Prop where
  out : p
theorem meets_long {K : PySem.W.Frag} {x : PySem.Str} {u : Tok} {n : Int} (e : PySem.W.nsIn K cStatics "sys.int_max_str_digits" = some none) (hd : ∀ c ∈ x.cps.toList, c = 45 ∨ (48 ≤ c ∧ c ≤ 57)) (h6 : 640 < x.length) (hl : x.length ≤ sizeLine) (hn : PySem.intText? x = some n) :
    Meets (Builtin.«int.__new__» ⟨[.type "int", .str x u], []⟩) (fun _ R s => K.In s.heap ∧ ∀ tk t, R (.ok (.ret (.int n t))) { s with toks := tk }) := .of_wp fun prog w A R s h => by
  obtain ⟨X, h⟩ := h
  have f1 := F.conv_sub_int
  have f2 := F.madeHere_int
  have f3 := PySem.W.KIN.str_int
  have f4 := PySem.W.KIN.str_idx
  have f5 := PySem.W.KIN.str_trunc
  have f6 : typeOf (.str x u) = pure (.type "str") := rfl
  obtain ⟨e1, e2⟩ := numText_signs hd
  have xl : x.cps.toList.length = x.length := Array.length_toList
  have hs : ¬ (numSeenOf x).length ≤ 640 := by
    rw [e2, xl]
    omega
  have hr : (int_private% "readNumeral") 4300 10 (numSeenOf x) = (int_private% "Numeral.value") n ∧ ((numSeenOf x).length == (numTextOf x).length) = true := by
    rcases read4300 x hl with ⟨m, h1, h2, h3⟩ | ⟨h1, _⟩
    · rw [hn] at h1
      injection h1 with h1
      subst h1
      exact ⟨h3, h2⟩
    · rw [hn] at h1
      cases h1
  have hk := Kept1.mk (And.intro hs hr)
  clear hs hr hl hn hd e1 e2 xl h6
  obtain ⟨hp, g, d, tk, os⟩ := s
  repeat (any_goals (first
    | assumption
    | ((with_reducible show wpAny _ _ ((int_private% "intFromText") _ _ _) _ _ _); refine wp_long X e hk.out.1 hk.out.2.1 hk.out.2.2 ?_)
    | wp_step))
  all_goals first | exact ⟨_, rfl, h _ _⟩ | exact h _ _ | trace_state
end
section
variable {X : Cx}
/-- int(text), a number of at most 4,300 figures -/
theorem call_int_big (e : PySem.W.nsIn X.K cStatics "sys.int_max_str_digits" = some none) : CallR X (.type "int") (fun xs H Q => ∃ a n, xs = [.str a] ∧ (∀ c ∈ a.cps.toList, c = 45 ∨ (48 ≤ c ∧ c ≤ 57)) ∧ PySem.intText? a = some n ∧ a.length ≤ sizeLine ∧ Q (.int n) H) := by
  intro pins s σ H xs us Q I rs h
  obtain ⟨a, n, rfl, hd, hn, hl, h⟩ := h
  obtain ⟨u1, rfl, r1⟩ := vals1 rs
  obtain ⟨t, rfl⟩ := r1
  by_cases h6 : a.length ≤ 640
  · exact PySem.W.KIN.call_text hn h6 ⟨.int n, H, I.tok _, ⟨_, rfl⟩, h⟩
  · exact call_int_1 (meets_long e hd (by omega) hl hn) ⟨I.kIn, fun tk t => ⟨rfl, ⟨.int n, H, I.tok _, ⟨_, rfl⟩, h⟩⟩⟩
end
end Fk

set_option Elab.async false
set_option maxRecDepth 100000
set_option maxHeartbeats 4000000
namespace Fk
open PySem PySem.Spec L2 PyProof.Rows
/-! ### try with several clauses, each with a name -/
/-- a clause: its class, the slot of its name, its suite's reading -/
abbrev Clause := Value × Nat × (Addr → Value → Option Addr → TS)
def wEach (K : PySem.W.Frag) (Wout : WX) (D : Ends) : List Clause → WX
  | [] => Wout
  | (c, i, ts) :: r => wAs K c i ts (wEach K Wout D r) D
inductive Clauses (X : Cx) : List ExceptHandler → List Clause → Prop
  | nil : Clauses X [] []
  | cons {x n : Str} {c : Value} {i : Nat} {ts : Addr → Value → Option Addr → TS} {b : Stmt} {suite : List Stmt} {np pos : Pos} {hs : List ExceptHandler} {l : List Clause} (hc : Names X x c) (hi : X.N[i]? = some n) (hl : X.env.kindOf n = some .local)
      (hb : ∀ (a : Addr) (oe : Obj) (cls : Value) (d : Option Addr) (pn : List (Addr × Obj)), Zc cls d oe → (∃ vs, oe.data = .fields vs) → PSs (X.suite a ((a, oe) :: pn)) (b :: suite) (ts a cls d))
      (r : Clauses X hs l) : Clauses X (.ExceptHandler (some (.Name x np)) (some n) (b :: suite) pos :: hs) ((c, i, ts) :: l)
section
variable {X : Cx} {body : List Stmt} {hd : ExceptHandler} {hds : List ExceptHandler} {l : List Clause} {pos : Pos} {tb : WX → TS} {Wout : WX}
theorem ps_try_each (hs : X.stack = X.env :: X.outer) (hf : X.env.frame = some X.env.locals) (hN : X.N.Nodup) (tk : Takes X Wout)
    (hb : ∀ (W : WX) (pn : List (Addr × Obj)) (xe : Value → Shared → Prop), Takes (X.tr pn xe) W → PassesOwn (model X.prog X.w) X.A X.env xe → PSs (X.tr pn xe) body (tb W))
    (hh : Clauses X (hd :: hds) l) : PS X (.Try body (hd :: hds) [] [] pos) (fun D σ H => tb (wEach X.K Wout D l) D σ H) := by
  refine ⟨fun pins s σ H D I h => ?_⟩
  have ok := I.ok
  have fr : X.A.frames = some (X.env :: X.outer) := hs ▸ ok.frames
  refine wpAny_Try_except ?_
  refine wpAny_mono ((hb (wEach X.K Wout D l) (X.pn ++ pins) (fun e s₁ => wpAny (model X.prog X.w) X.A (noteFrame e X.env) (fun _ s₂ => wpAny (model X.prog X.w) X.A (setFlight e none) (fun _ s₃ =>
    wpAny (model X.prog X.w) X.A (handleBy e X.env (hd :: hds)) (SP X pins D) X.xe s₃) X.xe s₂) X.xe s₁) (fun u s' xx => ?_) PassesOwn.looking).run [] s σ H D (I.toTry _) h) (fun f s1 q => ?_) (fun e s1 z => z)
  · obtain ⟨a, B, sI, pj, σ', H', cls, d, rfl, J', nb, up, sky, na, os, ag, w⟩ := xx
    have J : Inv X pins σ' H' sI := J'.ofTry ok
    rw [hs] at sky
    show wpAny (model X.prog X.w) X.A (noteFrame (.ref a) X.env) _ _ _
    refine Sky.land Zc.steady fr hf sky fun h3 fl3 up3 => ?_
    have J3 : Inv X pins σ' H' { s' with heap := h3 } := J.landed nb fl3.1 (up.trans up3) os ag
    obtain ⟨oe3, vs3, he3, hz3, hd3⟩ := fl3.there
    have notIn : a ∉ frs (X.env :: X.outer) := fun hm => by
      obtain ⟨_, o', e', nf⟩ := fl3.2.2.1.mem hm
      rw [he3] at e'
      cases e'
      exact nf _ hd3
    have nL : a ≠ X.env.locals := fun z => notIn (List.mem_filterMap.mpr ⟨X.env, List.mem_cons_self, hf.trans (congrArg some z.symm)⟩)
    have nF : a ∉ X.fs := fun hm => by
      obtain ⟨e, he, z⟩ := List.mem_filterMap.mp hm
      exact notIn (List.mem_filterMap.mpr ⟨e, List.mem_cons_of_mem _ he, z⟩)
    have S3 := J3.suite he3 hd3 na nL nF
    have LT : PySem.W.Looks (model X.prog X.w) h3 (typeOf (.ref a)) cls := fun A Q E s k q => wpAny_typeOf_ref (k _ _ he3) (hz3.1.symm ▸ q)
    have go : ∀ {hs' : List ExceptHandler} {l' : List Clause}, Clauses X hs' l' → wEach X.K Wout D l' cls d σ' H' → wpAny (model X.prog X.w) X.A (handleBy (.ref a) X.env hs') (SP X pins D) X.xe { s' with heap := h3 } := by
      intro hs' l' hk
      induction hk with
      | nil =>
        intro w
        refine wpAny_handleBy_nil ?_
        obtain ⟨_, _, _, oe, vs, T, _, _, he, _, hdt, h1, _⟩ := id fl3
        unfold PySem.passOn
        refine wpAny_bind (wpAny_field he hdt h1 ?_)
        rw [if_neg (fun z => nomatch (beq_iff_eq.mp z : Value.ref T = Value.none))]
        have out : wpAny (model X.prog X.w) X.A (setFlight (.ref a) X.env.frame) (fun _ s4 => wpAny (model X.prog X.w) X.A (throw (.ref a) : Sem Flow) (SP X pins D) X.xe s4) X.xe { s' with heap := h3 } := by
          rw [hf]
          exact HandSPX.setFlight_upZ fl3 fun h4 hh4 up4 => wpAny_throw (tk _ _ ⟨a, B, sI, pins, σ', H', cls, d, rfl, J, nb, (up.trans up3).trans up4, .inr (.inr (hs.symm ▸ hh4)), na, os, ag, w⟩)
        first
          | exact wpAny_bind (wpAny_pure (wpAny_bind out))
          | exact wpAny_bind out
      | @cons x n c i ts b suite np pos' hs2 l2 hc hi hln hsu r ih =>
        intro w
        obtain ⟨yes, hy, h1, h2⟩ := w
        refine wpAny_handleBy_cons (codeAny_handlers_test ?_) (fun z => nomatch z)
        have LM := PySem.W.exm_one (M := model X.prog X.w) J3.kIn LT hy
        have test : ∀ {Q : Value → Shared → Prop} {E : Value → Shared → Prop}, Q c { s' with heap := h3 } → wpAny (model X.prog X.w) (X.A.mark (some (.ref a))) (eval (.Name x np) X.env) Q E { s' with heap := h3 } := fun {Q E} q => by
          obtain ⟨g1, g2, hm | ⟨hm, hv, hnn⟩⟩ := hc
          · exact ld_glob (X := X.suite a ((a, oe3) :: (X.pn ++ pins))) S3 g1 hm q g2
          · exact ld_blt (X := X.suite a ((a, oe3) :: (X.pn ++ pins))) S3 g1 hm hv q hnn g2
        refine test (LM.here ?_)
        cases yes with
        | false => exact ih (h2 rfl)
        | true =>
          refine codeAny_handlers_suite_as ?_
          refine HandSPX.lands_againZ fl3 fun h4 fl4 up4 => ?_
          have J4 : Inv X pins σ' H' { s' with heap := h4 } := J.landed nb fl4.1 ((up.trans up3).trans up4) os ag
          obtain ⟨oe4, vs4, he4, hz4, hd4⟩ := fl4.there
          refine store_ok (X := X.suite a ((a, oe4) :: (X.pn ++ pins))) (v := .ref a) (J4.suite he4 hd4 na nL nF) hN hi (.inl hln) rfl (fun s5 S5 => ?_) (.inr hln)
          refine wpAny_mono ((hsu a oe4 cls d (X.pn ++ pins) hz4 ⟨_, hd4⟩).run [] s5 _ H' _ S5 (h1 rfl a na)) (fun f s6 q => ?_) (fun _ _ z => False.elim z)
          have gone : ∀ {σ6 : L2.St} {H6 : Hp} {Q : Shared → Prop}, Inv (X.suite a ((a, oe4) :: (X.pn ++ pins))) [] σ6 H6 s6 → (∀ s7, Inv X pins (σ6.set i none) H6 s7 → Q s7) →
              wpAny (model X.prog X.w) X.A (do bindName X.env n .none; unbindBehindTheSuite X.env n pos') (fun _ s7 => Q s7) X.xe s6 := fun {σ6 H6 Q} S6 hq => gone_ok (S6.unsuite ok) hN hi hln hq
          cases f with
          | next =>
            obtain ⟨σ6, H6, S6, q6⟩ := q
            exact gone S6 fun s7 J7 => ⟨_, _, J7, q6⟩
          | brk =>
            obtain ⟨σ6, H6, S6, q6⟩ := q
            exact gone S6 fun s7 J7 => ⟨_, _, J7, q6⟩
          | cont =>
            obtain ⟨σ6, H6, S6, q6⟩ := q
            exact gone S6 fun s7 J7 => ⟨_, _, J7, q6⟩
          | ret u =>
            obtain ⟨v6, σ6, H6, S6, r6, q6⟩ := q
            exact gone S6 fun s7 J7 => ⟨_, _, _, J7, r6, q6⟩
    exact go hh w
  · cases f with
    | ret u =>
      obtain ⟨v, σ', H', J', r, z⟩ := q
      exact ⟨v, σ', H', J'.ofTry ok, r, z⟩
    | next =>
      obtain ⟨σ', H', J', z⟩ := q
      exact wpAny_execs_nil ⟨σ', H', J'.ofTry ok, z⟩
    | brk =>
      obtain ⟨σ', H', J', z⟩ := q
      exact ⟨σ', H', J'.ofTry ok, z⟩
    | cont =>
      obtain ⟨σ', H', J', z⟩ := q
      exact ⟨σ', H', J'.ofTry ok, z⟩
end
end Fk

set_option Elab.async false
set_option maxRecDepth 100000
namespace Fk
open PySem L2
/-! ### texts as lists of signs -/
def isD (c : Nat) : Bool := decide (48 ≤ c) && decide (c ≤ 57)
theorem isD_iff {c : Nat} : isD c = true ↔ 48 ≤ c ∧ c ≤ 57 := by
  unfold isD
  rw [Bool.and_eq_true, decide_eq_true_eq, decide_eq_true_eq]
/-- how many figures stand from k on -/
def nd (cs : List Nat) (k : Nat) : Nat := ((cs.drop k).takeWhile isD).length
def dend (cs : List Nat) (k : Nat) : Nat := k + nd cs k
theorem nd_step {cs : List Nat} {k c : Nat} (h : cs[k]? = some c) (hd : isD c = true) : nd cs k = nd cs (k + 1) + 1 := by
  have hk : k < cs.length := (List.getElem?_eq_some_iff.mp h).1
  have e : cs.drop k = c :: cs.drop (k + 1) := by
    rw [List.drop_eq_getElem_cons hk]
    have z := (List.getElem?_eq_some_iff.mp h).2
    rw [z]
  unfold nd
  rw [e, List.takeWhile_cons, if_pos hd, List.length_cons]
theorem dend_step {cs : List Nat} {k c : Nat} (h : cs[k]? = some c) (hd : isD c = true) : dend cs k = dend cs (k + 1) := by
  unfold dend
  rw [nd_step h hd]
  omega
theorem dend_stop {cs : List Nat} {k c : Nat} (h : cs[k]? = some c) (hd : isD c = false) : dend cs k = k := by
  have hk : k < cs.length := (List.getElem?_eq_some_iff.mp h).1
  have e : cs.drop k = c :: cs.drop (k + 1) := by
    rw [List.drop_eq_getElem_cons hk]
    have z := (List.getElem?_eq_some_iff.mp h).2
    rw [z]
  unfold dend nd
  rw [e, List.takeWhile_cons, hd]
  rfl
theorem dend_past {cs : List Nat} {k : Nat} (h : cs.length ≤ k) : dend cs k = k := by
  unfold dend nd
  rw [List.drop_of_length_le h]
  rfl
theorem dend_ge (cs : List Nat) (k : Nat) : k ≤ dend cs k := Nat.le_add_right _ _
theorem dend_le {cs : List Nat} {k : Nat} (h : k ≤ cs.length) : dend cs k ≤ cs.length := by
  have z : ((cs.drop k).takeWhile isD).length ≤ (cs.drop k).length := (List.takeWhile_sublist _).length_le
  rw [List.length_drop] at z
  unfold dend nd
  omega
/-- the signs from a to b -/
def cut (cs : List Nat) (a b : Nat) : List Nat := (cs.drop a).take (b - a)
theorem cut_dend (cs : List Nat) (k : Nat) : cut cs k (dend cs k) = (cs.drop k).takeWhile isD := by
  unfold cut dend
  rw [Nat.add_sub_cancel_left]
  unfold nd
  have h : (cs.drop k).takeWhile isD <+: cs.drop k := List.takeWhile_prefix _
  exact (List.prefix_iff_eq_take.mp h).symm
theorem tw_all : ∀ (l : List Nat) (c : Nat), c ∈ l.takeWhile isD → isD c = true
  | [], _, h => nomatch h
  | d :: l, c, h => by
    rw [List.takeWhile_cons] at h
    split at h
    · rename_i hd
      rcases List.mem_cons.mp h with e | e
      · rw [e]
        exact hd
      · exact tw_all l c e
    · cases h
theorem cut_digits (cs : List Nat) (k : Nat) : NumText.AllDigits (cut cs k (dend cs k)) := by
  rw [cut_dend]
  intro c hc
  exact isD_iff.mp (tw_all _ _ hc)
theorem cut_len {cs : List Nat} {a b : Nat} (h : b ≤ cs.length) : (cut cs a b).length = b - a := by
  unfold cut
  rw [List.length_take, List.length_drop]
  omega
/-- what a text is read as -/
inductive Out
  | text (n : Nat)
  | large (n : Nat)
  | ratio (a b : Int)
def sgn (s : Nat) : Int := if s = 1 then -1 else 1
def st (cs : List Nat) : Nat := if cs.head? = some 45 then 1 else 0
def val (cs : List Nat) (a b : Nat) : Nat := NumText.digitsVal (cut cs a b)
def out (cs : List Nat) : Out :=
  if dend cs (st cs) = st cs then .text (st cs + 1)
  else if cs[dend cs (st cs)]? = some 47 then
    if dend cs (dend cs (st cs) + 1) = dend cs (st cs) + 1 then .text (dend cs (dend cs (st cs) + 1) + 1)
    else if dend cs (dend cs (st cs) + 1) < cs.length then .text (dend cs (dend cs (st cs) + 1) + 1)
    else if 4000 < dend cs (st cs) - st cs then .large (dend cs (st cs) - st cs)
    else if 4000 < dend cs (dend cs (st cs) + 1) - (dend cs (st cs) + 1) then .large (dend cs (dend cs (st cs) + 1) - (dend cs (st cs) + 1))
    else if val cs (dend cs (st cs) + 1) (dend cs (dend cs (st cs) + 1)) = 0 then .text (dend cs (st cs) + 2)
    else .ratio (sgn (st cs) * ((val cs (st cs) (dend cs (st cs)) / Nat.gcd (val cs (st cs) (dend cs (st cs))) (val cs (dend cs (st cs) + 1) (dend cs (dend cs (st cs) + 1))) : Nat) : Int))
      ((val cs (dend cs (st cs) + 1) (dend cs (dend cs (st cs) + 1)) / Nat.gcd (val cs (st cs) (dend cs (st cs))) (val cs (dend cs (st cs) + 1) (dend cs (dend cs (st cs) + 1))) : Nat) : Int)
  else if dend cs (st cs) < cs.length then .text (dend cs (st cs) + 1)
  else if 4000 < dend cs (st cs) - st cs then .large (dend cs (st cs) - st cs)
  else .ratio (sgn (st cs) * (val cs (st cs) (dend cs (st cs)) : Int)) 1
theorem st_le (cs : List Nat) : st cs ≤ cs.length := by
  unfold st
  split
  · rename_i h
    cases cs with
    | nil => cases h
    | cons c cs => exact Nat.succ_le_succ (Nat.zero_le _)
  · exact Nat.zero_le _
theorem st_01 (cs : List Nat) : st cs = 0 ∨ st cs = 1 := by
  unfold st
  split
  · exact .inr rfl
  · exact .inl rfl
theorem head_st {cs : List Nat} (h : st cs = 1) : cs.head? = some 45 := by
  unfold st at h
  split at h
  · assumption
  · cases h
/-! ### slices -/
theorem six_le {n k : Nat} (d : Nat) (h : k ≤ n) : HT.sIx n d (some (k : Int)) = k := by
  rw [HT.sIx_nat, Nat.min_eq_left h]
theorem tl_len (z : Str) : z.cps.toList.length = z.length := Array.length_toList
theorem cutS_two (z : Str) {a b : Nat} (ha : a ≤ z.length) (hb : b ≤ z.length) : (cutS z (some (a : Int)) (some (b : Int))).cps.toList = cut z.cps.toList a b := by
  unfold cutS cut
  rw [six_le 0 ha, six_le z.length hb, List.toList_toArray]
theorem cutS_two' (z : Str) (a b : Nat) : (cutS z (some (a : Int)) (some (b : Int))).cps.toList = cut z.cps.toList (min a z.length) (min b z.length) := by
  unfold cutS cut
  rw [HT.sIx_nat, HT.sIx_nat, List.toList_toArray]
theorem cutS_to (z : Str) {b : Nat} (hb : b ≤ z.length) : (cutS z none (some (b : Int))).cps.toList = z.cps.toList.take b := by
  unfold cutS
  rw [six_le z.length hb, HT.sIx_none, List.toList_toArray, List.drop_zero, Nat.sub_zero]
theorem ext {y z : Str} (h : y.cps.toList = z.cps.toList) : y = z := TL.ext_tl h
/-- one sign, or none behind the end -/
theorem cutS_one (z : Str) (k : Nat) (hk : k ≤ z.length) : cutS z (some (k : Int)) (some ((k + 1 : Nat) : Int)) = match z.cps.toList[k]? with
    | some c => (⟨#[c]⟩ : Str)
    | none => ⟨#[]⟩ := by
  have zl := tl_len z
  cases h : z.cps.toList[k]? with
  | some c =>
    have hlt : k < z.cps.toList.length := (List.getElem?_eq_some_iff.mp h).1
    refine ext ?_
    rw [cutS_two z hk (by omega)]
    unfold cut
    rw [List.drop_eq_getElem_cons hlt, Nat.add_sub_cancel_left, List.take_succ_cons, List.take_zero, (List.getElem?_eq_some_iff.mp h).2]
  | none =>
    have hge : z.cps.toList.length ≤ k := List.getElem?_eq_none_iff.mp h
    refine ext ?_
    rw [cutS_two', Nat.min_eq_right (by omega : z.length ≤ k), Nat.min_eq_right (by omega : z.length ≤ k + 1)]
    unfold cut
    rw [Nat.sub_self, List.take_zero]
end Fk

set_option Elab.async false
set_option maxRecDepth 100000
namespace Fk
open PySem L2
/-! ### the two errors -/
structure IniC (K : PySem.W.Frag) (C : Addr) (fs : List Str) : Prop where
  ox : OexC K C
  no : ∀ f ∈ fs, PySem.W.findIn K (.ref C) f = some none
/-- __init__ leaves the fields, the last one first -/
def spIni (C : Addr) (fs : List Str) : Sp := fun vs H Q _ => ∃ (a : Addr) (ws : List V), vs = .ref a :: ws ∧ ws.length = fs.length ∧ H a = some (exo a C none) ∧
  ∀ (d : Addr) (H' : Hp), H d = none → d ≠ a → (∀ b o, b ≠ a → H b = some o → H' b = some o) → H' a = some (exo a C (some d)) → H' d = some (exd d (fs.zip ws).reverse) → Q .non H'
section
variable {P : Program} {w : World} {K : PySem.W.Frag} {mg : Str → Option Value} {base : Heap}
theorem ini_one {H : Hp} {a C d : Addr} {x : List (Str × V)} (hd : H d = none) (n : d ≠ a) : (∀ b o, b ≠ a → H b = some o → (upd (upd H d (exd d x)) a (exo a C (some d))) b = some o) ∧ (upd (upd H d (exd d x)) a (exo a C (some d))) a = some (exo a C (some d)) ∧ (upd (upd H d (exd d x)) a (exo a C (some d))) d = some (exd d x) :=
  ⟨fun b o hb e => by rw [upd_ne hb, upd_ne (ne_of_none e hd)]; exact e, upd_same, by rw [upd_ne n, upd_same]⟩
theorem ini_more {H H1 : Hp} {a C d : Addr} {x y : List (Str × V)} (hd : H d = none) (n : d ≠ a) (h : (∀ b o, b ≠ a → H b = some o → H1 b = some o) ∧ H1 a = some (exo a C (some d)) ∧ H1 d = some (exd d x)) :
    (∀ b o, b ≠ a → H b = some o → (upd H1 d (exd d y)) b = some o) ∧ (upd H1 d (exd d y)) a = some (exo a C (some d)) ∧ (upd H1 d (exd d y)) d = some (exd d y) :=
  ⟨fun b o hb e => by rw [upd_ne (ne_of_none e hd)]; exact h.1 b o hb e, by rw [upd_ne n.symm]; exact h.2.1, upd_same⟩
abbrev sIBadNumber : Stmt := inClass (top 3) 0
theorem scBadNumber : FnScope ["self", "what", "number"] ["self", "what", "number"] (defScope sIBadNumber) := ⟨rfl, rfl, rfl, by decide +kernel, rfl, by decide +kernel, by decide +kernel⟩
theorem ini_BadNumber {C f : Addr} {fd : FuncData} (F : Fun K "__init__" "BadNumber.__init__" sIBadNumber f fd) (T : IniC K C ["what", "number"]) : FnOk P w K mg base CX0 1 f fd ["self", "what", "number"] (spIni C ["what", "number"]) := by
  refine F.ok scBadNumber (fun vs H Q E h => ?_) (fun cdv A outer s H vs Q E hr h => ?_)
  · obtain ⟨a, ws, rfl, e, _⟩ := h
    exact congrArg (· + 1) e
  · obtain ⟨a, ws, rfl, e, ha, k⟩ := h
    match ws, e, k with
    | [v1, v2], _, k =>
      refine ⟨_, (pss_cons (ps_ost (pv 0) (pv 1)) (pss_one (ps_ost (pv 0) (pv 2)))), ?_⟩
      refine ⟨_, rfl, _, rfl, a, C, rfl, T.ox, T.no _ (by simp), Or.inl ⟨ha, fun d hd hn => ?_⟩⟩
      have h1 := ini_one (C := C) (x := [("what", v1)]) hd hn
      refine ⟨_, rfl, _, rfl, a, C, rfl, T.ox, T.no _ (by simp), Or.inr ⟨d, _, h1.2.1, h1.2.2, by show 1 ≤ 900; decide, ?_⟩⟩
      have h2 := ini_more (y := [("number", v2), ("what", v1)]) hd hn h1
      exact k d _ hd hn h2.1 h2.2.1 h2.2.2
/-- what is known of an error class that is raised and caught -/
structure Err (P : Program) (w : World) (K : PySem.W.Frag) (mg : Str → Option Value) (base : Heap) (x : Str) (fs : List Str) (C fI : Addr) (fd : FuncData) : Prop where
  ox : OexC K C
  iC : PySem.W.findIn K (.ref C) "__init__" = some (some (.ref fI))
  tI : PySem.W.typeIn K (.ref fI) = some (.type "function")
  G : FnOk P w K mg base CX0 1 fI fd ("self" :: fs) (spIni C fs)
  b : Binds K fd ("self" :: fs) []
  g : mg x = some (.ref C)
/-- raise C(e, ..): what is left -/
theorem raised {H H' : Hp} {a C d : Addr} {fs : List (Str × V)} (ha : H a = none) (hd0 : (upd H a (exo a C none)) d = none) (hk : ∀ b o, b ≠ a → (upd H a (exo a C none)) b = some o → H' b = some o) : H d = none ∧ Same H (upd (L2.del H' a) d (.xd fs)) ∧ (upd (L2.del H' a) d (.xd fs)) d = some (.xd fs) := by
  have hd : H d = none := by
    cases e : H d with
    | none => rfl
    | some o =>
      rw [upd_ne (ne_of_none e ha), e] at hd0
      cases hd0
  refine ⟨hd, fun b o e => ?_, upd_same⟩
  rw [upd_ne (ne_of_none e hd), L2.del_ne (ne_of_none e ha)]
  refine hk b o (ne_of_none e ha) ?_
  rw [upd_ne (ne_of_none e ha)]
  exact e
abbrev sLowest : Stmt := top 8
theorem scLowest : FnScope ["top", "bottom", "shared"] ["top", "bottom"] (defScope sLowest) := ⟨rfl, rfl, rfl, by decide +kernel, rfl, by decide +kernel, by decide +kernel⟩
def spLowest : Sp := fun vs H Q _ => ∃ (a b : Int), vs = [.int a, .int b] ∧ 0 < b ∧ a.natAbs < 2 ^ 13400 ∧ b.natAbs < 2 ^ 13400 ∧
  ∀ p, H p = none → Q (.ref p) (upd H p (.tup [.int (a / (Nat.gcd a.natAbs b.natAbs : Nat)), .int (b / (Nat.gcd a.natAbs b.natAbs : Nat))]))
theorem ok_lowest {f : Addr} {fd : FuncData} (F : Fun K "lowest" "lowest" sLowest f fd) (mgc : mg "gcd" = some (.builtin "math.gcd")) : FnOk P w K mg base CX0 1 f fd ["top", "bottom"] spLowest := by
  refine F.ok scLowest (fun vs H Q E h => ?_) (fun cdv A outer s H vs Q E hr h => ?_)
  · obtain ⟨a, b, rfl, _⟩ := h
    rfl
  · obtain ⟨a, b, rfl, b0, a1, b1, k⟩ := h
    refine ⟨_, pss_cons (ps_set (i := 2) scLowest.nd rfl (Or.inl rfl) (pe_callBfun cr_gcd (by rfl) mgc (pa_cons (pv 0) (pa_cons (pv 1) pa_nil))))
      (pss_cons (ps_if (pt_cmpR op_lt (pv 1) pe_int (nomark _)) (pss_one (ps_set (i := 2) scLowest.nd rfl (Or.inl rfl) (pe_un un_neg (pv 2)))) pss_nil)
      (pss_one (ps_ret (pe_tup (pa_cons (pe_op op_fdivB (pv 0) (pv 2)) (pa_cons (pe_op op_fdivB (pv 1) (pv 2)) pa_nil)))))), ?_⟩
    have g0 : (0 : Int) < (Nat.gcd a.natAbs b.natAbs : Nat) := by
      have : 0 < Nat.gcd a.natAbs b.natAbs := Nat.gcd_pos_of_pos_right _ (by omega)
      omega
    refine ⟨_, rfl, _, rfl, a, b, rfl, ?_⟩
    refine ⟨_, rfl, _, _, rfl, rfl, _, rfl, ite2 (fun h => absurd (of_decide_eq_true h) (by omega)) (fun _ => ?_)⟩
    exact ⟨_, rfl, _, rfl, _, _, rfl, rfl, ⟨g0, a1⟩, _, rfl, _, rfl, _, _, rfl, rfl, ⟨g0, b1⟩, by show 2 ≤ sizeLine; decide, fun p hp => k p hp⟩
end
end Fk

set_option Elab.async false
set_option maxRecDepth 100000
namespace Fk
open PySem L2
/-! ### the law's own sums: gcd, q, is_whole, is_ratio -/
abbrev sGcd : Stmt := top 24
abbrev sQ : Stmt := top 25
theorem keq {j i : Int} (h : decide (V.int j = V.int i) = true) : j = i := V.int.inj (of_decide_eq_true h)
theorem kne {j i : Int} (h : ¬ decide (V.int j = V.int i) = true) : j ≠ i := fun e => h (by rw [e]; exact decide_eq_true rfl)
theorem gcd_step {x y i B : Nat} (hy : 0 < y) (h0 : i = 0 → x * y ≤ B) (h1 : 1 ≤ i → y < x ∧ x * y * 2 ^ i ≤ 2 * B) : x % y < y ∧ y * (x % y) * 2 ^ (i + 1) ≤ 2 * B := by
  refine ⟨Nat.mod_lt _ hy, ?_⟩
  by_cases hi : i = 0
  · subst hi
    have h := h0 rfl
    have z : y * (x % y) ≤ y * x := Nat.mul_le_mul_left _ (Nat.mod_le _ _)
    rw [Nat.mul_comm x y] at h
    show y * (x % y) * 2 ≤ 2 * B
    omega
  · obtain ⟨hl, h⟩ := h1 (by omega)
    have z2 : 2 * (x % y) ≤ x := by
      have e := Nat.mod_add_div x y
      have : 1 ≤ x / y := (Nat.one_le_div_iff hy).mpr (by omega)
      have z3 : y * 1 ≤ y * (x / y) := Nat.mul_le_mul_left _ this
      have z4 := Nat.mod_lt x hy
      omega
    have e : y * (x % y) * 2 ^ (i + 1) = y * (2 * (x % y)) * 2 ^ i := by
      rw [Nat.pow_succ, Nat.mul_comm (2 ^ i) 2, ← Nat.mul_assoc, Nat.mul_assoc y, Nat.mul_comm (x % y) 2]
    rw [e]
    refine Nat.le_trans (Nat.mul_le_mul_right _ (Nat.mul_le_mul_left y z2)) ?_
    rw [Nat.mul_comm y x]
    exact h
theorem gcd_done {x y m n : Nat} (hl : y < x) (h : x * y * 2 ^ m ≤ 2 * 2 ^ n) (hmn : n + 1 < m) : y = 0 := by
  by_cases hy : y = 0
  · exact hy
  · exfalso
    have z : 1 ≤ x * y := Nat.mul_pos (by omega) (by omega)
    have z2 : 1 * 2 ^ m ≤ x * y * 2 ^ m := Nat.mul_le_mul_right _ z
    have z3 : (2 : Nat) * 2 ^ n < 2 ^ m := by
      rw [Nat.mul_comm, ← Nat.pow_succ]
      exact Nat.pow_lt_pow_right (by decide) hmn
    rw [Nat.one_mul] at z2
    exact absurd (Nat.le_trans z2 h) (Nat.not_le_of_lt z3)
def spGcd : Sp := fun vs H Q _ => ∃ a b : Int, vs = [.int a, .int b] ∧ a.natAbs < 2 ^ 13400 ∧ b.natAbs < 2 ^ 13400 ∧ Q (.int (Nat.gcd a.natAbs b.natAbs : Nat)) H
abbrev psGcd : List Str := ["_law_one", "_law_two"]
theorem abs_if (i : Int) : (if i < 0 then -i else i) = ((i.natAbs : Nat) : Int) := by
  split <;> omega
section
variable {P : Program} {w : World} {K : PySem.W.Frag} {mg : Str → Option Value} {base : Heap}
theorem scGcd : FnScope ["_law_one", "_law_two", "_law_lap"] psGcd (defScope sGcd) := ⟨rfl, rfl, rfl, by decide +kernel, rfl, by decide +kernel, by decide +kernel⟩
theorem ok_gcd {f : Addr} {fd : FuncData} (F : Fun K "_law_gcd" "_law_gcd" sGcd f fd) (ma : mg "abs" = none) (mr : mg "range" = none) (mi : mg "int" = none) : FnOk P w K mg base CX0 1 f fd psGcd spGcd := by
  refine F.ok scGcd (fun vs H Q E h => ?_) (fun cdv A outer s H vs Q E hr h => ?_)
  · obtain ⟨a, b, rfl, _⟩ := h
    rfl
  · obtain ⟨a, b, rfl, ha, hb, k⟩ := h
    refine ⟨_, pss_cons (ps_par (i := 0) (j := 1) (by rfl) scGcd.nd rfl rfl (by decide) rfl rfl (pa_cons (pe_callB call_abs (by rfl) ma (by decide +kernel) (pa_cons (pv 0) pa_nil)) (pa_cons (pe_callB call_abs (by rfl) ma (by decide +kernel) (pa_cons (pv 1) pa_nil)) pa_nil)) (by rfl))
      (pss_cons (ps_for PassesOwn.never rfl (pi_range1 (by rfl) mr (pa_cons pe_int pa_nil)) (pg_name (i := 2) scGcd.nd rfl (Or.inl rfl))
        (pss_cons (ps_if (pt_cmpR op_eq (pv 1) pe_int (nomark _)) (pss_one ps_break) pss_nil)
        (pss_one (ps_par (i := 0) (j := 1) (by rfl) scGcd.nd rfl rfl (by decide) rfl rfl (pa_cons (pv 1) (pa_cons (pe_op op_mod (pe_callTy call_int1 (by rfl) mi (by decide +kernel) (pa_cons (pv 0) pa_nil)) (pv 1)) pa_nil)) (by rfl)))))
      (pss_one (ps_ret (pv 0)))), ?_⟩
    refine ⟨_, rfl, _, rfl, _, rfl, _, rfl, _, _, rfl, ?_⟩
    rw [abs_if, abs_if]
    generalize hx : a.natAbs = x at *
    generalize hy : b.natAbs = y at *
    refine ⟨60000, rfl, by decide, by decide, ?_⟩
    refine for_range (fun i σ H' => ∃ (u v : Nat) (r : Option V), σ = [some (.int u), some (.int v), r] ∧ H' = H ∧ Nat.gcd u v = Nat.gcd x y ∧ (i = 0 → u * v ≤ 2 ^ 26800) ∧ (1 ≤ i → v < u ∧ u * v * 2 ^ i ≤ 2 * 2 ^ 26800)) ⟨x, y, none, rfl, rfl, rfl, fun _ => ?_, fun z => absurd z (by decide)⟩ ?_ ?_
    · have e : (2 : Nat) ^ 26800 = 2 ^ 13400 * 2 ^ 13400 := by rw [← Nat.pow_add]
      rw [e]
      exact Nat.mul_le_mul (Nat.le_of_lt ha) (Nat.le_of_lt hb)
    · rintro i σ H' hi ⟨u, v, r, rfl, rfl, hg, h0, h1⟩
      refine ⟨_, rfl, rfl, _, rfl, ite2 (fun h => ?_) (fun h => ?_)⟩
      · have v0 : v = 0 := by
          have := keq h
          omega
        subst v0
        rw [Nat.gcd_zero_right] at hg
        refine ⟨_, rfl, ?_⟩
        rw [hg]
        exact k
      · have v0 : 0 < v := by
          have := kne h
          omega
        have z := gcd_step v0 h0 h1
        refine ⟨_, rfl, _, rfl, Or.inl ⟨_, rfl, _, rfl, _, _, rfl, rfl, by omega, _, _, rfl, ?_⟩⟩
        refine ⟨v, u % v, _, rfl, rfl, ?_, fun z => absurd z (by omega), fun _ => z⟩
        rw [← hg, Nat.gcd_comm u v, Nat.gcd_rec v u, Nat.gcd_comm]
    · rintro σ H' ⟨u, v, r, rfl, rfl, hg, h0, h1⟩
      obtain ⟨hl, hm⟩ := h1 (by show 1 ≤ (60000 : Int).toNat; decide)
      have v0 := gcd_done hl hm (by show 26800 + 1 < (60000 : Int).toNat; decide)
      subst v0
      rw [Nat.gcd_zero_right] at hg
      refine ⟨_, rfl, ?_⟩
      rw [hg]
      exact k
end
end Fk

set_option Elab.async false
set_option maxRecDepth 100000
set_option maxHeartbeats 2000000
namespace Fk
open PySem PySem.Spec L2 PyProof.Rows
/-! ### repr of data, where no repr is under way -/
section
variable {X : Cx}
theorem call_reprV (hg : X.A.guards = some []) (hu : X.A.units + 64 < cLine) : CallR X (.builtin "repr") (fun xs H Q => ∃ (v : V) (d : PyData), xs = [v] ∧ Dp X.K H v d ∧ d.showable = true ∧ d.hasDict = false ∧ d.depth ≤ 10 ∧ d.shown.length ≤ sizeLine ∧ Q (.str d.shown) H) := by
  intro pins s σ H xs us Q I r h
  obtain ⟨v, d, rfl, hd, hs, hn, hp, hl, q⟩ := h
  obtain ⟨u1, rfl, r1⟩ := vals1 r
  have rd := Dp.reads I d _ _ hd r1
  cases hd with
  | non =>
    obtain rfl : u1 = Value.none := r1
    exact PySem.P.repr_of_none ⟨.str _, H, I.tok _, ⟨_, rfl⟩, q⟩
  | bl b =>
    obtain rfl : u1 = Value.bool b := r1
    refine PySem.P.repr_of_bool ⟨.str _, H, I.tok _, ⟨_, rfl⟩, ?_⟩
    cases b <;> exact q
  | int i =>
    obtain ⟨t, rfl⟩ := r1
    exact PySem.P.repr_of_int (of_decide_eq_true hs) ⟨.str _, H, I.tok _, ⟨_, rfl⟩, q⟩
  | str x =>
    obtain ⟨t, rfl⟩ := r1
    exact PySem.P.repr_of_str ⟨.str _, H, I.tok _, ⟨_, rfl⟩, q⟩ hl
  | lst h1 h2 =>
    obtain ⟨as, rd⟩ := rd
    cases r1
    exact repr_of_reads' rd hs (fun z => by rw [hn] at z; cases z) hg (by omega) (fun _ _ e => e) (fun h' u tk hk => ⟨.str _, H, I.kept hk, ⟨u, rfl⟩, q⟩) hl
  | tup h1 h2 =>
    obtain ⟨as, rd⟩ := rd
    cases r1
    exact repr_of_reads' rd hs (fun z => by rw [hn] at z; cases z) hg (by omega) (fun _ _ e => e) (fun h' u tk hk => ⟨.str _, H, I.kept hk, ⟨u, rfl⟩, q⟩) hl
end
/-! ### a def that is called where no repr is under way, and the law's call -/
structure FnG (P : Program) (w : World) (K : PySem.W.Frag) (mg : Str → Option Value) (base : Heap) (k : Nat) (f : Addr) (fd : FuncData) (ps : List Str) (sp : Sp) : Prop where
  len : ∀ vs H Q E, sp vs H Q E → vs.length = ps.length
  run : ∀ (A : Around) (outer : List Env) (s : Shared) (H : Hp) (args : Args) (us : List Value) (vs : List V) (Q : VK) (E : XK), A.guards = some [] → Room k A → Env0 P w K mg base A outer s H →
    BindsTo s fd args (ps.zip us) → Vals vs us → sp vs H Q E → codeAny (model P w) A (.call (.ref f) args) (CR CX0 outer P w H s Q E) s
section
variable {P : Program} {w : World} {K : PySem.W.Frag} {mg : Str → Option Value} {base : Heap}
theorem fun_okG {x qual : Str} {st : Stmt} {f : Addr} {fd : FuncData} {N ps : List Str} {k : Nat} {sp : Sp} (F : Fun K x qual st f fd) (S : FnScope N ps (defScope st)) (len : ∀ vs H Q E, sp vs H Q E → vs.length = ps.length)
    (hb : ∀ (cdv : Value) (A : Around) (outer : List Env) (s : Shared) (H : Hp) (vs : List V) (Q : VK) (E : XK), (A.deeper (envOfC qual (defScope st) s.heap.objs.size f cdv)).guards = some [] →
      Room k (A.deeper (envOfC qual (defScope st) s.heap.objs.size f cdv)) → sp vs H Q E →
      ∃ t, PSs (cxOf CX0 P w K mg base N qual (defScope st) f cdv A outer s H E).nox (defBody st) t ∧ t { nx := fun _ H' => Q .non H', rt := Q } (start N vs) H) : FnG P w K mg base (k + 1) f fd ps sp := by
  obtain ⟨oc, od, kV, doc, pm, an, cdv, ct, osl, rfl, lk, hcd⟩ := F.ex
  refine ⟨len, fun A outer s H args us vs Q E hg hr e0 hbt r hsp => ?_⟩
  have ll := len _ _ _ _ hsp
  have KX : K.In s.heap := e0.mod.kin.keeps fun b o z => (e0.bs b o z).1
  have nl : s.heap.NoLimit := e0.mod.nolimit.keeps fun b o z => (e0.bs b o z).1
  refine codeAny_call_function hr.depth (KX _ _ lk) rfl S.co S.gen rfl (PySem.W.codeRec_of KX hcd) (hbt _ _ _ _ ?_)
  refine wpAny_newFunctionEnv_cells S.kind (fun ⟨n, v⟩ hy => ?_) fun env he s1 z => ?_
  · exact (S.par n (List.of_mem_zip hy).1).elim .inl fun q => .inr ⟨q, PySem.W.cellsFrom_some _ _ _ (.inl q)⟩
  · subst he
    refine ⟨nl.keeps z.toInCall.keep, codeAny_func ?_⟩
    obtain ⟨t, ht, hq⟩ := hb cdv A outer s H vs Q E hg (hr.deeper _) hsp
    have I := inv_start (CX := CX0) (E := E) S hr.hd e0 ll r z
    refine wpAny_mono (ht.nox.run [] s1 (start N vs) H _ I hq) (fun fl s' hs => ?_) fun e s' hs => hs
    cases fl with
    | ret u =>
      obtain ⟨v, σ', H', J, rv, q⟩ := hs
      exact ⟨v, H', J.os, J.bare, J.base, J.hok, rv, q⟩
    | next =>
      obtain ⟨σ', H', J, q⟩ := hs
      exact ⟨.non, H', J.os, J.bare, J.base, J.hok, rfl, q⟩
    | brk =>
      obtain ⟨_, _, _, q⟩ := hs
      exact q.elim
    | cont =>
      obtain ⟨_, _, _, q⟩ := hs
      exact q.elim
end
section
variable {X : Cx} {k : Nat} {f : Addr} {fd : FuncData} {ps : List Str} {sp : Sp} {x : Str} {p pos : Pos} {e : Expr} {es : List Expr} {t : TA}
theorem run_fnG {pins : List (Addr × Obj)} {σ : L2.St} {H : Hp} {s : Shared} {Q : VK} {us : List Value} {vs : List V} {E : XK} (F : FnG X.prog X.w X.K X.mg X.base k f fd ps sp) (hG : X.A.guards = some []) (hr : Room k X.A) (hb : Binds X.K fd ps [])
    (I : Inv X pins σ H s) (r : Vals vs us) (h : sp vs H Q E) : wpAny (model X.prog X.w) X.A (call (.ref f) us) (EP X pins σ Q) X.xe s := by
  have hl : us.length = ps.length := by rw [← r.length]; exact F.len _ _ _ _ h
  have b := hb s us I.kIn (by rw [List.append_nil]; exact hl)
  rw [List.append_nil] at b
  refine wpAny_call (codeAny_mono (F.run X.A X.stack s H ⟨us, []⟩ us vs Q E hG hr I.env0 b r h) fun r s' hq => ?_)
  cases r with
  | error e => exact False.elim hq
  | ok fl =>
    cases fl with
    | ret u => exact I.after hq
    | next => exact False.elim hq
    | brk => exact False.elim hq
    | cont => exact False.elim hq
def tCallG (sp : Sp) (t : TA) : TE := fun σ H Q => t σ H fun vs H1 => sp vs H1 Q fun _ _ _ => False
theorem pe_callGd (F : FnG X.prog X.w X.K X.mg X.base k f fd ps sp) (hG : X.A.guards = some []) (hr : Room k X.A) (hg : Gl X x) (hm : X.mg x = some (.ref f)) (hk : PySem.W.keepIn X.K (.ref f) = true) (hb : Binds X.K fd ps [])
    (ha : PA X (e :: es) t) (hdb : (x == ("__debug__" : Str)) = false := by decide) (he : starEach (e :: es) X.env = (false, eval e X.env) :: starEach es X.env := by rfl) (hpl : (backTo pos (starEach es X.env)).any (·.1) = false := by rfl) :
    PE X (.Call (.Name x p) (e :: es) [] pos) (tCallG sp t) := by
  refine ⟨fun pins s σ H Q I h => ?_⟩
  refine wpAny_Call_Name_kw (ld_glob I hg hm ?_ hdb)
  refine PySem.W.callWith_K (h₀ := X.base) I.ok.mod.kin hk (thn (ha.run pos pins s σ H _ I h) fun us s1 ⟨vs, H1, I1, r, q⟩ => ⟨I1.kIn, ?_⟩) he hpl
  exact run_fnG F hG hr hb I1 r q
end
section
variable {P : Program} {w : World} {K : PySem.W.Frag} {mg : Str → Option Value} {base : Heap}
/-- the law's call, from any heap in which nothing but the script is tracked -/
theorem core_callG {mb : Str → Option Value} {k : Nat} {fa a : Addr} {fd : FuncData} {x : Str} {sp : Sp} {s₁ : Shared} {vs : List Value} {H : Hp}
    (KX : K.In s₁.heap) (hns : s₁.heap.Ns mainGlobals mg) (hbn : s₁.heap.Ns builtinsNs mb) (hbb : ∀ x : Str, x ≠ "__name__" → mb x = bootBuiltins x) (hlim : s₁.heap.NoLimit) (hgn : s₁.gens = #[])
    (ha : s₁.heap.get? a = some { cls := .type "list", data := .seq vs.toArray }) (hr : Room k callerA)
    (F : ∀ base : Heap, K.In base → base.Ns mainGlobals mg → FnG P w K mg base k fa fd [x] sp) (hbind : ∀ (s : Shared) (u : Value), BindsTo s fd ⟨[u], []⟩ [(x, u)])
    (hO : Only H) (hok : HOk P w H s₁.heap) (hA : ∀ b, H b ≠ none → b = a) (hK : H a ≠ none → K.lookup a = none) (hsp : sp [.ref a] H (fun v _ => v = .bl true) fun _ _ _ => False) :
    codeAny (model P w) callerA (.call (.ref fa) ⟨[.ref a], []⟩) (fun r s' => r = .ok (.ret (.bool true)) ∧ OldK s₁.heap s'.heap ∧ s'.os = s₁.os ∧ AllBare s'.gens) s₁ := by
  have free : ∀ {b : Addr}, b ≠ a → H b = none := fun {b} hb => by
    cases q : H b with
    | none => rfl
    | some u => exact absurd (hA b (by rw [q]; exact fun z => nomatch z)) hb
  have notDict : ∀ {b : Addr} {o : Obj} {es : Array DictEntry} {ep : Nat}, s₁.heap.get? b = some o → o.data = .dict es ep → H b = none := fun {b o es ep} e d => free fun z => by
    rw [z, ha] at e
    cases e
    have d' : Data.seq vs.toArray _ = Data.dict es ep := d
    cases d'
  have nsH : ∀ {b : Addr} {m : Str → Option Value}, s₁.heap.Ns b m → (hidT s₁.heap H).Ns b m := fun {b m} ⟨o, es, ep, e, d, r⟩ => ⟨o, es, ep, hidT_get e (notDict e d), d, r⟩
  have kH : K.In (hidT s₁.heap H) := fun b o e => hidT_get (KX b o e) (by
    by_cases hb : b = a
    · subst hb
      cases q : H b with
      | none => rfl
      | some u =>
        have z := hK (by rw [q]; exact fun z => nomatch z)
        rw [e] at z
        cases z
    · exact free hb)
  obtain ⟨mc, c1, c2⟩ := hlim
  have e0 : Env0 P w K mg (hidT s₁.heap H) callerA [] s₁ H := ⟨rfl, ⟨kH, nsH hns, ⟨mb, nsH hbn, hbb⟩, ⟨mc, nsH c1, c2⟩⟩, fun b o e => of_hidT e, Nat.le_of_eq (hidT_size _ _), trivial, fun b hb => (nomatch (show b ∈ ([] : List Addr) from hb)), hok, .of_eq hgn⟩
  refine codeAny_mono ((F _ kH (nsH hns)).run callerA [] s₁ H ⟨[.ref a], []⟩ [.ref a] [.ref a] _ _ rfl hr e0 (hbind s₁ (.ref a)) (.cons rfl .nil) hsp) fun r s' h => ?_
  cases r with
  | error e => exact False.elim h
  | ok fl =>
    cases fl with
    | next => exact False.elim h
    | brk => exact False.elim h
    | cont => exact False.elim h
    | ret u =>
      obtain ⟨v, H', os, bare, un, hok', r', q⟩ := h
      obtain rfl : v = .bl true := q
      obtain rfl : u = Value.bool true := r'
      refine ⟨rfl, OldK.of_keep fun b o e => ?_, os, bare⟩
      cases q : H b with
      | none => exact un.keep b o e q (fun z => nomatch (show b ∈ ([] : List Addr) from z)) (fun z => nomatch z)
      | some u =>
        rcases hO b with z | ⟨ob, xs, z⟩
        · rw [q] at z
          cases z
        · obtain ⟨e1, _⟩ := hok b _ z
          obtain ⟨e2, _⟩ := hok' b _ (un.frzs b ob _ z)
          rw [e] at e1
          cases e1
          exact e2
theorem law_callG {mb : Str → Option Value} {k : Nat} {fa a : Addr} {fd : FuncData} {x : Str} {sp : Sp} {s₁ : Shared} {vs : List Value} {ns : List Int}
    (KX : K.In s₁.heap) (hns : s₁.heap.Ns mainGlobals mg) (hbn : s₁.heap.Ns builtinsNs mb) (hbb : ∀ x : Str, x ≠ "__name__" → mb x = bootBuiltins x) (hlim : s₁.heap.NoLimit) (hgn : s₁.gens = #[])
    (ha : s₁.heap.get? a = some { cls := .type "list", data := .seq vs.toArray }) (hi : IntsAre vs ns) (hl : ns.length ≤ sizeLine) (hr : Room k callerA)
    (F : ∀ base : Heap, K.In base → base.Ns mainGlobals mg → FnG P w K mg base k fa fd [x] sp) (hbind : ∀ (s : Shared) (u : Value), BindsTo s fd ⟨[u], []⟩ [(x, u)])
    (hsp : ∀ H : Hp, Only H → SqL K H a (ns.map V.int) → sp [.ref a] H (fun v _ => v = .bl true) fun _ _ _ => False) :
    codeAny (model P w) callerA (.call (.ref fa) ⟨[.ref a], []⟩) (fun r s' => r = .ok (.ret (.bool true)) ∧ OldK s₁.heap s'.heap ∧ s'.os = s₁.os ∧ AllBare s'.gens) s₁ := by
  have rv := vals_ints hi
  have lv := hi.length
  have one : ∀ H : Hp, Only H → SqL K H a (ns.map V.int) → HOk P w H s₁.heap → (∀ b, H b ≠ none → b = a) → (H a ≠ none → K.lookup a = none) → _ :=
    fun H hO hS hok hA hK => core_callG KX hns hbn hbb hlim hgn ha hr F hbind hO hok hA hK (hsp H hO hS)
  cases hk : K.lookup a with
  | some o =>
    have e := KX a o hk
    rw [ha] at e
    cases e
    refine one (fun _ => none) (fun _ => .inl rfl) (.inr ⟨_, vs.toArray, _, hk, rfl, rfl, rfl, ?_, by simpa using rv⟩) (fun b u z => ?_) (fun b z => absurd rfl z) fun z => absurd rfl z
    · rw [List.size_toArray, lv]
      exact hl
    · have z' : (none : Option HO) = some u := z
      cases z'
  | none =>
    refine one (fun b => if b = a then some (.frz { cls := .type "list", data := .seq vs.toArray } (.lst (ns.map V.int))) else none) (fun b => ?_) (.inl (.inr ⟨_, if_pos rfl⟩)) (fun b u z => ?_) (fun b z => ?_) fun _ => hk
    · by_cases hb : b = a
      · exact .inr ⟨_, _, if_pos hb⟩
      · exact .inl (if_neg hb)
    · by_cases hb : b = a
      · cases (if_pos hb).symm.trans z
        subst hb
        exact ⟨ha, by rw [List.length_map]; exact hl, vs, _, rv, ha⟩
      · cases (if_neg hb).symm.trans z
    · by_cases hb : b = a
      · exact hb
      · exact absurd (if_neg hb) z
end
/-- the goal that the head leaves -/
theorem walkG {l : PySem.W.OpenLaw} {n k : Nat} {q : Program} {loose : List Str} {XP : (Str → Option Value) → Heap → Prop} {YP : World → Heap → Prop} {d : DefRec} {K : Params → PySem.W.Frag} {sp : World → Sp} {x : Str}
    (hn : l.most = some n) (hn2 : n ≤ sizeLine) (hdf : d.params.defaults = []) (hr : Room k callerA) (hY : ∀ (w : World) (h : Heap), YP w h → (K w.params).In h)
    (F : ∀ (w : World) (mg : Str → Option Value) (fa : Addr) (h : Heap), (K w.params).In h → h.Ns mainGlobals mg → mg d.name = some (.ref fa) →
      ∃ fd : FuncData, (∀ (s : Shared) (u : Value), BindsTo s fd ⟨[u], []⟩ [(x, u)]) ∧ ∀ base : Heap, (K w.params).In base → base.Ns mainGlobals mg → FnG l.prog w (K w.params) mg base k fa fd [x] (sp w))
    (hsp : ∀ (w : World) (H : Hp) (a : Addr) (ns : List Int), ns.length ≤ n → Only H → SqL (K w.params) H a (ns.map V.int) → sp w [.ref a] H (fun v _ => v = .bl true) fun _ _ _ => False) :
    PySem.W.WalkO q loose XP YP l.row.toRowW d [] (fun f vs => PySem.call f vs) := by
  refine Att.attach_call hn hdf fun w s₀ s₁ mg mb fa o pm cd doc a vs ns G Y ho hd hcd hmg hobj hints hlen hg => ?_
  obtain ⟨fd, hb, hF⟩ := F w mg fa _ (hY w _ Y) G.T.g hmg
  exact law_callG (hY w _ Y) G.T.g G.T.b G.T.builtins G.T.nolimit hg hobj hints (Nat.le_trans hlen hn2) hr hF hb fun H hO hS => hsp w H a ns hlen hO hS
end Fk

set_option Elab.async false
set_option maxRecDepth 100000
namespace Fk
open PySem L2
/-! ### is_integer, is_ratio, as_ratio, ratio_text -/
abbrev sIsInt : Stmt := top 6
abbrev sIsRat : Stmt := top 7
abbrev sAsRat : Stmt := top 9
/-- whether a value is an integer -/
def IntV (K : PySem.W.Frag) (H : Hp) (v : V) (b : Bool) : Prop := ∃ ty b1 b2, TyX K H v ty ∧ PySem.W.kitOne K ty (.type "int") = some b1 ∧ PySem.W.kitOne K ty (.type "bool") = some b2 ∧ b = (b1 && !b2)
theorem IntV.int (K : PySem.W.Frag) (H : Hp) (i : Int) : IntV K H (.int i) true := ⟨_, true, false, .base (.int i), kit_ty (by decide), kit_ty (by decide), rfl⟩
theorem IntV.bl (K : PySem.W.Frag) (H : Hp) (i : Bool) : IntV K H (.bl i) false := ⟨_, true, true, .base (.bl i), kit_ty (by decide), kit_ty (by decide), rfl⟩
theorem IntV.str (K : PySem.W.Frag) (H : Hp) (i : Str) : IntV K H (.str i) false := ⟨_, false, false, .base (.str i), kit_ty (by decide), kit_ty (by decide), rfl⟩
theorem IntV.non (K : PySem.W.Frag) (H : Hp) : IntV K H .non false := ⟨_, false, false, .base .non, kit_ty (by decide), kit_ty (by decide), rfl⟩
theorem IntV.lst {K : PySem.W.Frag} {H : Hp} {p : Addr} {xs : List V} (h : H p = some (.lst xs)) : IntV K H (.ref p) false := ⟨_, false, false, .base (.lst h), kit_ty (by decide), kit_ty (by decide), rfl⟩
theorem IntV.tup {K : PySem.W.Frag} {H : Hp} {p : Addr} {xs : List V} (h : H p = some (.tup xs)) : IntV K H (.ref p) false := ⟨_, false, false, .base (.tup h), kit_ty (by decide), kit_ty (by decide), rfl⟩
/-- whether a value is a ratio -/
inductive Val (K : PySem.W.Frag) (H : Hp) : V → Bool → Prop
  | int (i : Int) : Val K H (.int i) true
  | other {v : V} {ty : Value} (h : IntV K H v false) (t : TyX K H v ty) (n : PySem.W.kitOne K ty (.type "tuple") = some false) : Val K H v false
  | len {p : Addr} {xs : List V} (h : H p = some (.tup xs)) (n : xs.length ≠ 2) : Val K H (.ref p) false
  | rat {p : Addr} {a b : Int} (h : H p = some (.tup [.int a, .int b])) : Val K H (.ref p) (decide (0 < b))
  | one {p : Addr} {x y : V} (h : H p = some (.tup [x, y])) (hx : IntV K H x false) : Val K H (.ref p) false
  | two {p : Addr} {y : V} {a : Int} (h : H p = some (.tup [.int a, y])) (hy : IntV K H y false) : Val K H (.ref p) false
def spIsInt (K : PySem.W.Frag) : Sp := fun vs H Q _ => ∃ v b, vs = [v] ∧ IntV K H v b ∧ Q (.bl b) H
def spIsRat (K : PySem.W.Frag) : Sp := fun vs H Q _ => ∃ v b, vs = [v] ∧ Val K H v b ∧ Q (.bl b) H
/-- v told in lowest terms -/
def Low (H : Hp) (v : V) (a b : Int) : Prop := (v = .int a ∧ b = 1) ∨ ∃ (q : Addr) (c d : Int), v = .ref q ∧ H q = some (.tup [.int c, .int d]) ∧ 0 < d ∧ c.natAbs < 2 ^ 13400 ∧ d.natAbs < 2 ^ 13400 ∧
  a = c / (Nat.gcd c.natAbs d.natAbs : Nat) ∧ b = d / (Nat.gcd c.natAbs d.natAbs : Nat)
def spAs : Sp := fun vs H Q _ => ∃ v a b, vs = [v] ∧ Low H v a b ∧ ∀ p, H p = none → Q (.ref p) (upd H p (.tup [.int a, .int b]))
section
variable {P : Program} {w : World} {K : PySem.W.Frag} {mg : Str → Option Value} {base : Heap}
abbrev psv : List Str := ["value"]
theorem scIsInt : FnScope psv psv (defScope sIsInt) := ⟨rfl, rfl, rfl, by decide +kernel, rfl, by decide +kernel, by decide +kernel⟩
theorem ok_isint {f : Addr} {fd : FuncData} (F : Fun K "is_integer" "is_integer" sIsInt f fd) (mi : mg "isinstance" = none) (mn : mg "int" = none) (mb : mg "bool" = none) : FnOk P w K mg base CX0 1 f fd psv (spIsInt K) := by
  refine F.ok scIsInt (fun vs H Q E h => ?_) (fun cdv A outer s H vs Q E hr h => ?_)
  · obtain ⟨i, b, rfl, _⟩ := h
    rfl
  · obtain ⟨v, b, rfl, ⟨ty, b1, b2, ht, k1, k2, rfl⟩, k⟩ := h
    refine ⟨_, pss_one (ps_ret (pe_and (pe_callB call_isi (by rfl) mi (by decide +kernel) (pa_cons (pv 0) (pa_cons (pe_bltn (v := .ty "int") (by rfl) mn (by decide +kernel) rfl) pa_nil)))
      (pe_one (pe_not (pe_callB call_isi (by rfl) mi (by decide +kernel) (pa_cons (pv 0) (pa_cons (pe_bltn (v := .ty "bool") (by rfl) mb (by decide +kernel) rfl) pa_nil))))))), ?_⟩
    refine ⟨_, rfl, v, _, ty, _, b1, rfl, .ty _, ht, k1, b1, rfl, ?_⟩
    cases b1 with
    | false => exact iteF k
    | true => exact iteT ⟨_, rfl, v, _, ty, _, b2, rfl, .ty _, ht, k2, b2, rfl, k⟩
theorem scIsRat : FnScope psv psv (defScope sIsRat) := ⟨rfl, rfl, rfl, by decide +kernel, rfl, by decide +kernel, by decide +kernel⟩
theorem ok_israt {f fI : Addr} {fd dI : FuncData} (F : Fun K "is_ratio" "is_ratio" sIsRat f fd) (mi : mg "isinstance" = none) (mt : mg "tuple" = none) (ml : mg "len" = none) (I : Cl P w K mg base "is_integer" psv 1 (spIsInt K) fI dI) : FnOk P w K mg base CX0 2 f fd psv (spIsRat K) := by
  refine F.ok scIsRat (fun vs H Q E h => ?_) (fun cdv A outer s H vs Q E hr h => ?_)
  · obtain ⟨i, b, rfl, _⟩ := h
    rfl
  · obtain ⟨v, b, rfl, hv, k⟩ := h
    refine ⟨_, pss_cons (ps_if (pt_val (pe_call I.G hr (by rfl) I.g I.kp I.b .nil pass0 (pa_cons (pv 0) pa_nil))) (pss_one (ps_ret pe_bl)) pss_nil)
      (pss_cons (ps_if (PW.pt (pw_or (pt_not (pt_val (pe_callB call_isi (by rfl) mi (by decide +kernel) (pa_cons (pv 0) (pa_cons (pe_bltn (v := .ty "tuple") (by rfl) mt (by decide +kernel) rfl) pa_nil)))))
          (pw_or1 (pt_cmpR op_ne (pe_callB call_len_seq (by rfl) ml PySem.boot_len (pa_cons (pv 0) pa_nil)) pe_int (nomark _))))) (pss_one (ps_ret pe_bl)) pss_nil)
      (pss_one (ps_ret (pe_and (pe_call I.G hr (by rfl) I.g I.kp I.b .nil pass0 (pa_cons (pe_ix ix_tup (pv 0) pe_int (fun _ _ => rfl)) pa_nil))
        (pe_and (pe_call I.G hr (by rfl) I.g I.kp I.b .nil pass0 (pa_cons (pe_ix ix_tup (pv 0) pe_int (fun _ _ => rfl)) pa_nil))
        (pe_one (pe_cmpR op_gt (pe_ix ix_tup (pv 0) pe_int (fun _ _ => rfl)) pe_int (nomark _)))))))), ?_⟩
    cases hv with
    | int i => exact ⟨_, rfl, _, true, rfl, .int K H i, true, rfl, iteT k⟩
    | other h t n =>
      refine ⟨_, rfl, _, false, rfl, h, false, rfl, iteF ?_⟩
      exact ⟨_, rfl, v, _, _, _, false, rfl, .ty _, t, n, false, rfl, iteT k⟩
    | @len p xs h n =>
      refine ⟨_, rfl, _, false, rfl, .tup h, false, rfl, iteF ?_⟩
      have st : SqT K H p xs := Or.inl (Or.inl h)
      refine ⟨_, rfl, _, _, _, _, true, rfl, .ty _, .base (.tup h), kit_ty (by decide), true, rfl, iteF ?_⟩
      refine ⟨_, rfl, p, _, rfl, .inr st, rfl, _, rfl, ?_⟩
      rw [decide_eq_false (fun z => n (by have := V.int.inj z; omega) : ¬ V.int (xs.length : Nat) = V.int 2)]
      exact iteT k
    | @rat p a c h =>
      refine ⟨_, rfl, _, false, rfl, .tup h, false, rfl, iteF ?_⟩
      have st : SqT K H p [V.int a, V.int c] := Or.inl (Or.inl h)
      refine ⟨_, rfl, _, _, _, _, true, rfl, .ty _, .base (.tup h), kit_ty (by decide), true, rfl, iteF ?_⟩
      refine ⟨_, rfl, p, _, rfl, .inr st, rfl, _, rfl, iteF ?_⟩
      refine ⟨_, rfl, p, _, 0, _, rfl, rfl, st, rfl, _, true, rfl, .int K H a, true, rfl, iteT ?_⟩
      refine ⟨_, rfl, p, _, 1, _, rfl, rfl, st, rfl, _, true, rfl, .int K H c, true, rfl, iteT ?_⟩
      exact ⟨_, rfl, p, _, 1, _, rfl, rfl, st, rfl, _, _, rfl, rfl, k⟩
    | @one p x y h hx =>
      refine ⟨_, rfl, _, false, rfl, .tup h, false, rfl, iteF ?_⟩
      have st : SqT K H p [x, y] := Or.inl (Or.inl h)
      refine ⟨_, rfl, _, _, _, _, true, rfl, .ty _, .base (.tup h), kit_ty (by decide), true, rfl, iteF ?_⟩
      refine ⟨_, rfl, p, _, rfl, .inr st, rfl, _, rfl, iteF ?_⟩
      exact ⟨_, rfl, p, _, 0, _, rfl, rfl, st, rfl, _, false, rfl, hx, false, rfl, iteF k⟩
    | @two p y a h hy =>
      refine ⟨_, rfl, _, false, rfl, .tup h, false, rfl, iteF ?_⟩
      have st : SqT K H p [V.int a, y] := Or.inl (Or.inl h)
      refine ⟨_, rfl, _, _, _, _, true, rfl, .ty _, .base (.tup h), kit_ty (by decide), true, rfl, iteF ?_⟩
      refine ⟨_, rfl, p, _, rfl, .inr st, rfl, _, rfl, iteF ?_⟩
      refine ⟨_, rfl, p, _, 0, _, rfl, rfl, st, rfl, _, true, rfl, .int K H a, true, rfl, iteT ?_⟩
      exact ⟨_, rfl, p, _, 1, _, rfl, rfl, st, rfl, _, false, rfl, hy, false, rfl, iteF k⟩
theorem scAsRat : FnScope psv psv (defScope sAsRat) := ⟨rfl, rfl, rfl, by decide +kernel, rfl, by decide +kernel, by decide +kernel⟩
theorem ok_as {f fL : Addr} {fd dL : FuncData} (F : Fun K "as_ratio" "as_ratio" sAsRat f fd) (mi : mg "isinstance" = none) (mn : mg "int" = none) (L : Cl P w K mg base "lowest" ["top", "bottom"] 1 spLowest fL dL) : FnOk P w K mg base CX0 2 f fd psv spAs := by
  refine F.ok scAsRat (fun vs H Q E h => ?_) (fun cdv A outer s H vs Q E hr h => ?_)
  · obtain ⟨v, a, b, rfl, _⟩ := h
    rfl
  · obtain ⟨v, a, b, rfl, hv, k⟩ := h
    refine ⟨_, pss_cons (ps_if (pt_val (pe_callB call_isi (by rfl) mi (by decide +kernel) (pa_cons (pv 0) (pa_cons (pe_bltn (v := .ty "int") (by rfl) mn (by decide +kernel) rfl) pa_nil)))) (pss_one (ps_ret (pe_tup (pa_cons (pv 0) (pa_cons pe_int pa_nil))))) pss_nil)
      (pss_one (ps_ret (pe_call L.G hr (by rfl) L.g L.kp L.b .nil pass0 (pa_cons (pe_ix ix_tup (pv 0) pe_int (fun _ _ => rfl)) (pa_cons (pe_ix ix_tup (pv 0) pe_int (fun _ _ => rfl)) pa_nil))))), ?_⟩
    rcases hv with ⟨rfl, rfl⟩ | ⟨q, c, d, rfl, hq, d0, hc, hd, rfl, rfl⟩
    · exact ⟨_, rfl, _, _, _, _, true, rfl, .ty _, .base (.int a), kit_ty (by decide), true, rfl, iteT ⟨_, rfl, by show 2 ≤ sizeLine; decide, k⟩⟩
    · have st : SqT K H q [V.int c, V.int d] := Or.inl (Or.inl hq)
      refine ⟨_, rfl, _, _, _, _, false, rfl, .ty _, .base (.tup hq), kit_ty (by decide), false, rfl, iteF ?_⟩
      exact ⟨_, rfl, q, _, 0, _, rfl, rfl, st, rfl, _, rfl, q, _, 1, _, rfl, rfl, st, rfl, c, d, rfl, d0, hc, hd, k⟩
end
end Fk

set_option Elab.async false
set_option maxRecDepth 100000
set_option maxHeartbeats 4000000
namespace Fk
open PySem L2
/-! ### a walk by its turns -/
theorem wk {J : It} {n : Nat} {H0 : Hp} {Qd : Hp → Prop} {B : (Hp → Prop) → V → Hp → Prop} (Pv : Nat → Hp → Prop) (h0 : Pv 0 H0) (hd : ∀ H, Pv n H → J.stop n H ∧ Qd H)
    (hs : ∀ i H, i < n → Pv i H → J.go i H ∧ ∀ x H', J.yld i H x H' → B (Pv (i + 1)) x H') :
    ∃ W : Nat → Nat → Hp → Prop, (∃ m, W 0 m H0) ∧ ∀ i m H, W i m H → (J.stop i H ∧ Qd H) ∨ (J.go i H ∧ ∃ Nx : Hp → Prop, (∀ H', Nx H' → ∃ m', m' < m ∧ W (i + 1) m' H') ∧ ∀ x H', J.yld i H x H' → B Nx x H') := by
  refine ⟨fun i m H => m = n - i ∧ i ≤ n ∧ Pv i H, ⟨n, by simp, Nat.zero_le _, h0⟩, ?_⟩
  rintro i m H ⟨rfl, hi, p⟩
  by_cases hlt : i < n
  · obtain ⟨g, b⟩ := hs i H hlt p
    exact .inr ⟨g, Pv (i + 1), fun H' p' => ⟨n - (i + 1), by omega, rfl, hlt, p'⟩, b⟩
  · have e : i = n := by omega
    subst e
    exact .inl (hd H p)
/-! ### what stays: all but some places -/
def Keeps (S : List Addr) (H H' : Hp) : Prop := ∀ b o, b ∉ S → H b = some o → H' b = some o
theorem Keeps.refl {S : List Addr} {H : Hp} : Keeps S H H := fun _ _ _ e => e
theorem Keeps.trans {S : List Addr} {H H1 H2 : Hp} (a : Keeps S H H1) (b : Keeps S H1 H2) : Keeps S H H2 := fun c o n e => b c o n (a c o n e)
theorem Same.keeps {S : List Addr} {H H' : Hp} (a : Same H H') : Keeps S H H' := fun b o _ e => a b o e
theorem Keeps.mono {S T : List Addr} {H H' : Hp} (a : Keeps S H H') (h : ∀ x ∈ S, x ∈ T) : Keeps T H H' := fun b o n e => a b o (fun z => n (h b z)) e
theorem Keeps.at {S : List Addr} {p : Addr} {H : Hp} {o : HO} (h : p ∈ S) : Keeps S H (upd H p o) := fun b x n e => by
  rw [upd_ne (fun z => n (by rw [z]; exact h))]
  exact e
theorem Keeps.new {S : List Addr} {q : Addr} {H : Hp} {o : HO} (h : H q = none) : Keeps S H (upd H q o) := Same.keeps (same_new h)
theorem Keeps.same {H H' : Hp} (a : Keeps [] H H') : Same H H' := fun b o e => a b o (fun z => nomatch z) e
theorem Keep.keeps {p : Addr} {H H' : Hp} (a : Keep p H H') : Keeps [p] H H' := fun b o n e => a b o (fun z => n (by rw [z]; exact List.mem_singleton.mpr rfl)) e
/-- a new place is not one that is held -/
theorem fresh_of {H : Hp} {p : Addr} {S : List Addr} (h : H p = none) (hS : ∀ x ∈ S, ∃ o, H x = some o) : p ∉ S := fun z => by
  obtain ⟨o, e⟩ := hS p z
  rw [h] at e
  cases e
def iv (xs : List Int) : List V := xs.map V.int
theorem iv_at {xs : List Int} {i : Nat} {x : V} (h : (iv xs)[i]? = some x) : ∃ z, xs[i]? = some z ∧ x = .int z := by
  unfold iv at h
  rw [List.getElem?_map] at h
  cases e : xs[i]? with
  | none =>
    rw [e] at h
    cases h
  | some z =>
    rw [e] at h
    exact ⟨z, rfl, (Option.some.inj h).symm⟩
theorem iv_get {xs : List Int} {i : Nat} {z : Int} (h : xs[i]? = some z) : (iv xs)[i]? = some (.int z) := by
  unfold iv
  rw [List.getElem?_map, h]
  rfl
theorem iv_len (xs : List Int) : (iv xs).length = xs.length := List.length_map ..
theorem atI_m1 {α : Type} {xs : List α} {x : α} (h : xs[xs.length - 1]? = some x) : atI xs (-1) = some x := by
  have h0 : 0 < xs.length := by
    have := (List.getElem?_eq_some_iff.mp h).1
    omega
  have e : ixN xs.length (-1) = some (xs.length - 1) := by
    unfold ixN
    rw [if_neg (by decide), if_pos (by omega)]
    exact congrArg some (by omega)
  unfold atI
  rw [e]
  exact h
theorem iteF' {b : Bool} {t u : Prop} (hb : b = false) (h : u) : if b = true then t else u := by rw [hb]; exact h
theorem lookup_zip {k : Str} {v : V} : ∀ {keys : List Str} {vals : List V} {i : Nat}, keys.Nodup → keys[i]? = some k → vals[i]? = some v → (keys.zip vals).lookup k = some v
  | [], _, _, _, h, _ => nomatch h
  | _ :: _, [], _, _, _, h => nomatch h
  | a :: ks, b :: vs, 0, _, h1, h2 => by
    obtain rfl : a = k := Option.some.inj h1
    obtain rfl : b = v := Option.some.inj h2
    show List.lookup a ((a, b) :: ks.zip vs) = some b
    rw [List.lookup_cons, beq_self_eq_true]
  | a :: ks, b :: vs, i + 1, nd, h1, h2 => by
    have hm : k ∈ ks := List.mem_of_getElem? h1
    have ne : ¬ k = a := fun e => (List.nodup_cons.mp nd).1 (e ▸ hm)
    show List.lookup k ((a, b) :: ks.zip vs) = some v
    rw [List.lookup_cons, show (k == a) = false from beq_eq_false_iff_ne.mpr ne]
    exact lookup_zip (i := i) (List.nodup_cons.mp nd).2 h1 h2
theorem putF_zip {k : Str} {v : V} : ∀ {keys : List Str} {vals : List V} {i : Nat}, keys.Nodup → keys.length = vals.length → keys[i]? = some k → putF k v (keys.zip vals) = keys.zip (vals.set i v)
  | [], _, _, _, _, h => nomatch h
  | _ :: _, [], _, _, h, _ => nomatch h
  | a :: ks, b :: vs, 0, _, _, h1 => by
    obtain rfl : a = k := Option.some.inj h1
    show (if a = a then (a, v) :: ks.zip vs else _) = _
    rw [if_pos rfl]
    rfl
  | a :: ks, b :: vs, i + 1, nd, hl, h1 => by
    have hm : k ∈ ks := List.mem_of_getElem? h1
    have ne : ¬ a = k := fun e => (List.nodup_cons.mp nd).1 (e ▸ hm)
    show (if a = k then (a, v) :: ks.zip vs else (a, b) :: putF k v (ks.zip vs)) = _
    rw [if_neg ne, putF_zip (i := i) (List.nodup_cons.mp nd).2 (Nat.succ.inj hl) h1]
    rfl
theorem putF_new {k : Str} {v : V} : ∀ {keys : List Str} {vals : List V}, k ∉ keys → keys.length = vals.length → putF k v (keys.zip vals) = (keys ++ [k]).zip (vals ++ [v])
  | [], [], _, _ => rfl
  | [], _ :: _, _, h => nomatch h
  | _ :: _, [], _, h => nomatch h
  | a :: ks, b :: vs, h, hl => by
    have ne : ¬ a = k := fun e => h (e ▸ List.mem_cons_self)
    show (if a = k then (a, v) :: ks.zip vs else (a, b) :: putF k v (ks.zip vs)) = _
    rw [if_neg ne, putF_new (fun z => h (List.mem_cons_of_mem _ z)) (Nat.succ.inj hl)]
    rfl
theorem pi_tupK {X : Cx} {K : PySem.W.Frag} {tg l : Expr} {tl : TE} (hK : X.K = K) (hl : PE X l tl) : PI X tg l (iTup K tl) := by
  subst hK
  exact pi_tup hl
theorem pe_fldK {X : Cx} {K : PySem.W.Frag} {o : Expr} {f : Str} {pos : Pos} {ta : TE} (hK : X.K = K) (he : PE X o ta) (hb : attributeBase o f X.env (eval o X.env) = eval o X.env) : PE X (.Attribute o f pos) (tFld K ta f) := by
  subst hK
  exact pe_fld he hb
structure VCls (K : PySem.W.Frag) (C : Addr) (ks : List Str) : Prop where
  cl : Cls K C
  no : ∀ f ∈ ks, NoAttr K C f
/-- a method of a class -/
structure MCl (P : Program) (w : World) (K : PySem.W.Frag) (mg : Str → Option Value) (base : Heap) (C : Addr) (m : Str) (ps : List Str) (k : Nat) (sp : Sp) (f : Addr) (fd : FuncData) : Prop where
  m : Meth K C m f
  G : FnOk P w K mg base CX0 k f fd ("self" :: ps) sp
  b : Binds K fd ("self" :: ps) []
def Bd (B : Nat) (x : Int) : Prop := x.natAbs < 2 ^ B
theorem Bd.mul {A B : Nat} {x y : Int} (hx : Bd A x) (hy : Bd B y) (hA : A ≤ 200000) (hB : B ≤ 200000) : CMulW x y :=
  wide_mul (a := 200000) (b := 200000) (Nat.lt_of_lt_of_le hx (Nat.pow_le_pow_right (by decide) hA)) (Nat.lt_of_lt_of_le hy (Nat.pow_le_pow_right (by decide) hB)) (by decide) (by decide) (by decide)
theorem Bd.mono {A B : Nat} {x : Int} (hx : Bd A x) (h : A ≤ B) : Bd B x := Nat.lt_of_lt_of_le hx (Nat.pow_le_pow_right (by decide) h)
theorem Bd.mulB {A B : Nat} {x y : Int} (hx : Bd A x) (hy : Bd B y) : Bd (A + B) (x * y) := by
  unfold Bd at *
  rw [Int.natAbs_mul, Nat.pow_add]
  exact Nat.mul_lt_mul'' hx hy
theorem Bd.neg {A : Nat} {x : Int} (hx : Bd A x) : Bd A (-x) := by
  unfold Bd at *
  rw [Int.natAbs_neg]
  exact hx
theorem Bd.addB {A : Nat} {x y : Int} (hx : Bd A x) (hy : Bd A y) : Bd (A + 1) (x + y) := by
  unfold Bd at *
  have := Int.natAbs_add_le x y
  rw [Nat.pow_succ]
  omega
theorem Bd.subB {A : Nat} {x y : Int} (hx : Bd A x) (hy : Bd A y) : Bd (A + 1) (x - y) := by
  rw [Int.sub_eq_add_neg]
  exact hx.addB hy.neg
end Fk

set_option Elab.async false
set_option maxRecDepth 100000
set_option maxHeartbeats 4000000
namespace Fk
open PySem L2
/-! ### lists and tuples alike -/
def SqA (K : PySem.W.Frag) (H : Hp) (a : Addr) (xs : List V) : Prop := SqL K H a xs ∨ SqT K H a xs
theorem SqL.same {K : PySem.W.Frag} {H H' : Hp} {a : Addr} {xs : List V} (h : SqL K H a xs) (s : Same H H') : SqL K H' a xs := by
  rcases h with h | h
  · rcases h with h | h
    · exact .inl (.inl (s _ _ h))
    · obtain ⟨o, h⟩ := h
      exact .inl (.inr ⟨o, s _ _ h⟩)
  · exact .inr h
theorem SqT.same {K : PySem.W.Frag} {H H' : Hp} {a : Addr} {xs : List V} (h : SqT K H a xs) (s : Same H H') : SqT K H' a xs := by
  rcases h with h | h
  · rcases h with h | h
    · exact .inl (.inl (s _ _ h))
    · obtain ⟨o, h⟩ := h
      exact .inl (.inr ⟨o, s _ _ h⟩)
  · exact .inr h
theorem SqA.same {K : PySem.W.Frag} {H H' : Hp} {a : Addr} {xs : List V} (h : SqA K H a xs) (s : Same H H') : SqA K H' a xs := h.imp (fun h => SqL.same h s) (fun h => SqT.same h s)
theorem SqA.lst {K : PySem.W.Frag} {H : Hp} {a : Addr} {xs : List V} (h : H a = some (.lst xs)) : SqA K H a xs := .inl (SqL.of h)
theorem SqA.tup {K : PySem.W.Frag} {H : Hp} {a : Addr} {xs : List V} (h : H a = some (.tup xs)) : SqA K H a xs := .inr (.inl (.inl h))
theorem PI.or {X : Cx} {tg it : Expr} {t u : TI} (h : PI X tg it t) (h' : PI X tg it u) : PI X tg it (fun σ H R => t σ H R ∨ u σ H R) := ⟨fun pins s σ H R I q => q.elim (fun q => h.run pins s σ H R I q) fun q => h'.run pins s σ H R I q⟩
theorem IxR.or {X : Cx} {r r' : R2} (h : IxR X r) (h' : IxR X r') : IxR X (fun x y H Q => r x y H Q ∨ r' x y H Q) := fun value slice pins s σ H x y v u Q I rx ry q hs => q.elim (fun q => h value slice pins s σ H x y v u Q I rx ry q hs) fun q => h' value slice pins s σ H x y v u Q I rx ry q hs
/-- a list or a tuple by its place -/
def rIxA (K : PySem.W.Frag) : R2 := fun x y H Q => ∃ p xs i v, x = .ref p ∧ y = .int i ∧ SqA K H p xs ∧ atI xs i = some v ∧ Q v H
theorem ix_any {X : Cx} : IxR X (rIxA X.K) := fun value slice pins s σ H x y v u Q I rx ry ⟨p, xs, i, z, e1, e2, hs', he, q⟩ hs => by
  rcases hs' with h | h
  · exact ix_list value slice pins s σ H x y v u Q I rx ry ⟨p, xs, i, z, e1, e2, h, he, q⟩ hs
  · exact ix_tup value slice pins s σ H x y v u Q I rx ry ⟨p, xs, i, z, e1, e2, h, he, q⟩ hs
theorem ix_anyK {X : Cx} {K : PySem.W.Frag} (hK : X.K = K) : IxR X (rIxA K) := hK ▸ ix_any
/-- a walk over either -/
def iAny (K : PySem.W.Frag) (tl : TE) : TI := fun σ H R => iList K tl σ H R ∨ iTup K tl σ H R
theorem pi_any {X : Cx} {tg l : Expr} {tl : TE} (hl : PE X l tl) : PI X tg l (iAny X.K tl) := PI.or (pi_list hl) (pi_tup hl)
theorem pi_anyK {X : Cx} {K : PySem.W.Frag} {tg l : Expr} {tl : TE} (hK : X.K = K) (hl : PE X l tl) : PI X tg l (iAny K tl) := hK ▸ pi_any hl
theorem for_any {K : PySem.W.Frag} {a : Addr} {xs : List V} {tl : TE} {g : TG} {tb : TS} {D : Ends} {σ : L2.St} {H H1 : Hp} (Pv : Nat → L2.St → Hp → Prop) (hv : ∀ P : VK, P (.ref a) H1 → tl σ H P) (hs : SqA K H1 a xs) (h0 : Pv 0 σ H1) (hk : ∀ i σ' H', i ≤ xs.length → Pv i σ' H' → Same H1 H')
    (ht : ∀ i x σ' H', xs[i]? = some x → Pv i σ' H' → g x σ' H' fun σ2 H2 => tb { D with nx := Pv (i + 1), ct := Pv (i + 1), bk := D.nx } σ2 H2) (hd : ∀ σ' H', Pv xs.length σ' H' → D.nx σ' H') : tFor (iAny K tl) g tb D σ H := by
  rcases hs with h | h
  · exact .inl (hv _ ⟨a, rfl, ⟨_, h⟩, for_list (K := K) (a := a) (xs := xs) Pv h0 (fun i σ' H' hi p => SqL.same h (hk i σ' H' hi p)) ht hd⟩)
  · exact .inr (hv _ ⟨a, rfl, ⟨_, h⟩, for_tup (K := K) (a := a) (xs := xs) Pv h0 (fun i σ' H' hi p => SqT.same h (hk i σ' H' hi p)) ht hd⟩)
theorem lc_any {K : PySem.W.Frag} {a : Addr} {xs : List V} {tl : TE} {g : TG} {tt : TT} {te : TE} {vs : List Nat} {σ : L2.St} {H H1 : Hp} {Q : VK} (hv : ∀ P : VK, P (.ref a) H1 → tl σ H P) (hs : SqA K H1 a xs)
    (h : ∀ D, H1 D = none → ∃ Pv : Nat → Hp → Prop, Pv 0 (upd H1 D (.lst [])) ∧ (∀ i H', i ≤ xs.length → Pv i H' → Same H1 H') ∧ (∀ i x H', xs[i]? = some x → Pv i H' → g x (wipe σ vs) H' fun σ2 H2 => wipe σ2 vs = wipe σ vs ∧ tt σ2 H2 fun b H3 =>
      if b = true then te σ2 H3 fun y H4 => ∃ acc, H4 D = some (.lst acc) ∧ acc.length < sizeLine ∧ Pv (i + 1) (upd H4 D (.lst (acc ++ [y]))) else Pv (i + 1) H3) ∧ ∀ H', Pv xs.length H' → Q (.ref D) H') : tLc (iAny K tl) g tt te vs σ H Q := by
  rcases hs with hs | hs
  · refine .inl (hv _ ⟨a, rfl, ⟨_, hs⟩, fun D hD => ?_⟩)
    obtain ⟨Pv, h0, hk, ht, hd⟩ := h D hD
    exact lc_list (K := K) (a := a) (xs := xs) Pv h0 (fun i H' hi p => SqL.same hs (hk i H' hi p)) ht hd
  · refine .inr (hv _ ⟨a, rfl, ⟨_, hs⟩, fun D hD => ?_⟩)
    obtain ⟨Pv, h0, hk, ht, hd⟩ := h D hD
    exact lc_tup (K := K) (a := a) (xs := xs) Pv h0 (fun i H' hi p => SqT.same hs (hk i H' hi p)) ht hd
end Fk

set_option Elab.async false
set_option maxRecDepth 100000
set_option maxHeartbeats 4000000
set_option exponentiation.threshold 20000
namespace Fk
open PySem L2
section
variable {P : Program} {w : World} {K : PySem.W.Frag} {mg : Str → Option Value} {base : Heap}
def nv (xs : List Nat) : List V := xs.map fun (n : Nat) => V.int (n : Int)
def rv (ls : List Addr) : List V := ls.map V.ref
def LinesAt (H : Hp) (ls : List Addr) (lines : List (List Int)) : Prop := ls.length = lines.length ∧ ∀ (i : Nat) (p : Addr) (row : List Int), ls[i]? = some p → lines[i]? = some row → H p = some (.lst (iv row))
theorem LinesAt.same {H H' : Hp} {ls : List Addr} {lines : List (List Int)} (h : LinesAt H ls lines) (s : Same H H') : LinesAt H' ls lines := ⟨h.1, fun i p r a b => s _ _ (h.2 i p r a b)⟩
def gi (xs : List Int) (i : Nat) : Int := xs.getD i 0
def gl (xs : List (List Int)) (i : Nat) : List Int := xs.getD i []
theorem gi_at {xs : List Int} {i : Nat} (h : i < xs.length) : xs[i]? = some (gi xs i) := by
  unfold gi
  rw [List.getD_eq_getElem?_getD, List.getElem?_eq_getElem h]
  rfl
theorem gl_at {xs : List (List Int)} {i : Nat} (h : i < xs.length) : xs[i]? = some (gl xs i) := by
  unfold gl
  rw [List.getD_eq_getElem?_getD, List.getElem?_eq_getElem h]
  rfl
theorem iv_atI {xs : List Int} {i : Nat} (h : i < xs.length) : atI (iv xs) (i : Int) = some (.int (gi xs i)) := atI_nat (iv_get (gi_at h))
theorem rv_len (xs : List Addr) : (rv xs).length = xs.length := List.length_map ..
theorem LinesAt.line {H : Hp} {ls : List Addr} {lines : List (List Int)} (h : LinesAt H ls lines) {k : Nat} (hk : k < lines.length) : ∃ p, atI (rv ls) (k : Int) = some (.ref p) ∧ H p = some (.lst (iv (gl lines k))) := by
  have hl : k < ls.length := by rw [h.1]; exact hk
  refine ⟨ls[k], atI_nat (by unfold rv; rw [List.getElem?_map, List.getElem?_eq_getElem hl]; rfl), h.2 k _ _ (List.getElem?_eq_getElem hl) (gl_at hk)⟩
def lowI (a b : Int) : Int × Int := (a / (Nat.gcd a.natAbs b.natAbs : Nat), b / (Nat.gcd a.natAbs b.natAbs : Nat))
def RatAt (H : Hp) (p : Addr) (x : Int × Int) : Prop := H p = some (.tup [.int x.1, .int x.2])
theorem RatAt.same {H H' : Hp} {p : Addr} {x : Int × Int} (h : RatAt H p x) (s : Same H H') : RatAt H' p x := s _ _ h
theorem LinesAt.add {H : Hp} {D t : Addr} {ls : List Addr} {rows : List (List Int)} {row : List Int} {xs : List V} (hD : H D = some (.lst xs)) (h : LinesAt H ls rows) (hn : D ∉ ls) (ht : H t = some (.lst (iv row))) (nt : t ≠ D) (o : HO) : LinesAt (upd H D o) (ls ++ [t]) (rows ++ [row]) := by
  have hl := h.1
  refine ⟨by rw [List.length_append, List.length_append, hl]; rfl, fun i p r hp hr => ?_⟩
  by_cases hi : i < ls.length
  · rw [List.getElem?_append_left hi] at hp
    rw [List.getElem?_append_left (by omega)] at hr
    rw [upd_ne (fun e => hn (by rw [← e]; exact List.mem_of_getElem? hp))]
    exact h.2 i p r hp hr
  · have e : i = ls.length := by
      have := (List.getElem?_eq_some_iff.mp hp).1
      rw [List.length_append, List.length_singleton] at this
      omega
    subst e
    rw [List.getElem?_append_right (Nat.le_refl _), Nat.sub_self] at hp
    rw [List.getElem?_append_right (by omega), hl, Nat.sub_self] at hr
    cases hp
    cases hr
    rw [upd_ne nt]
    exact ht
theorem Keeps.cons {a b : Addr} {H H' : Hp} (h : Keeps [a, b] H H') {c : Addr} {o : HO} (n1 : c ≠ a) (n2 : c ≠ b) (e : H c = some o) : H' c = some o := h c o (fun z => by
  rcases List.mem_cons.mp z with z | z
  · exact n1 z
  · exact n2 (List.mem_singleton.mp z)) e
/-- a list of addresses of pairs -/
def PairsAt (H : Hp) (ps : List Addr) (fs : List (Int × Int)) : Prop := ps.length = fs.length ∧ ∀ (i : Nat) (p : Addr) (x : Int × Int), ps[i]? = some p → fs[i]? = some x → RatAt H p x
theorem PairsAt.same {H H' : Hp} {ps : List Addr} {fs : List (Int × Int)} (h : PairsAt H ps fs) (s : Same H H') : PairsAt H' ps fs := ⟨h.1, fun i p x a b => s _ _ (h.2 i p x a b)⟩
theorem PairsAt.get {H : Hp} {ps : List Addr} {fs : List (Int × Int)} (h : PairsAt H ps fs) {i : Nat} {v : V} (hv : (rv ps)[i]? = some v) : ∃ p x, v = .ref p ∧ ps[i]? = some p ∧ fs[i]? = some x ∧ RatAt H p x := by
  unfold rv at hv
  rw [List.getElem?_map] at hv
  cases e : ps[i]? with
  | none =>
    rw [e] at hv
    cases hv
  | some p =>
    rw [e] at hv
    cases hv
    have hi := (List.getElem?_eq_some_iff.mp e).1
    have hi2 : i < fs.length := by rw [← h.1]; exact hi
    exact ⟨p, fs[i], rfl, rfl, List.getElem?_eq_getElem hi2, h.2 i p _ e (List.getElem?_eq_getElem hi2)⟩
theorem PairsAt.add {H : Hp} {D t : Addr} {ps : List Addr} {fs : List (Int × Int)} {x : Int × Int} {xs : List V} (hD : H D = some (.lst xs)) (h : PairsAt H ps fs) (ht : RatAt H t x) (o : HO) : PairsAt (upd H D o) (ps ++ [t]) (fs ++ [x]) := by
  have hl := h.1
  have up : ∀ {p : Addr} {y : Int × Int}, RatAt H p y → RatAt (upd H D o) p y := fun {p y} e => by
    unfold RatAt at *
    rw [upd_ne (ne_of e hD (fun z => nomatch z))]
    exact e
  refine ⟨by rw [List.length_append, List.length_append, hl]; rfl, fun i p r hp hr => ?_⟩
  by_cases hi : i < ps.length
  · rw [List.getElem?_append_left hi] at hp
    rw [List.getElem?_append_left (by omega)] at hr
    exact up (h.2 i p r hp hr)
  · have e : i = ps.length := by
      have := (List.getElem?_eq_some_iff.mp hp).1
      rw [List.length_append, List.length_singleton] at this
      omega
    subst e
    rw [List.getElem?_append_right (Nat.le_refl _), Nat.sub_self] at hp
    rw [List.getElem?_append_right (by omega), hl, Nat.sub_self] at hr
    cases hp
    cases hr
    exact up ht
theorem PairsAt.set {H : Hp} {D t : Addr} {ps : List Addr} {fs : List (Int × Int)} {x : Int × Int} {xs : List V} {j : Nat} (hD : H D = some (.lst xs)) (h : PairsAt H ps fs) (ht : RatAt H t x) (o : HO) : PairsAt (upd H D o) (ps.set j t) (fs.set j x) := by
  have up : ∀ {p : Addr} {y : Int × Int}, RatAt H p y → RatAt (upd H D o) p y := fun {p y} e => by
    unfold RatAt at *
    rw [upd_ne (ne_of e hD (fun z => nomatch z))]
    exact e
  refine ⟨by rw [List.length_set, List.length_set, h.1], fun i p r hp hr => ?_⟩
  rw [List.getElem?_set] at hp hr
  by_cases e : j = i
  · rw [if_pos e] at hp hr
    by_cases l : j < ps.length
    · rw [if_pos l] at hp
      rw [if_pos (by rw [← h.1]; exact l)] at hr
      cases hp
      cases hr
      exact up ht
    · rw [if_neg l] at hp
      cases hp
  · rw [if_neg e] at hp hr
    exact up (h.2 i p r hp hr)
theorem rv_set (ps : List Addr) (j : Nat) (q : Addr) : (rv ps).set j (.ref q) = rv (ps.set j q) := by
  unfold rv
  rw [List.map_set]
theorem rep_refs (p : Addr) (n : Nat) : (List.replicate n [V.ref p]).flatten = rv (List.replicate n p) := by
  unfold rv
  rw [List.map_replicate]
  induction n with
  | zero => rfl
  | succ n ih =>
    rw [List.replicate_succ, List.flatten_cons, ih, List.replicate_succ]
    rfl
theorem pairs_rep {H : Hp} {p : Addr} {x : Int × Int} (h : RatAt H p x) (n : Nat) : PairsAt H (List.replicate n p) (List.replicate n x) := ⟨by rw [List.length_replicate, List.length_replicate], fun i q y hq hy => by
  rw [List.getElem?_replicate] at hq hy
  by_cases l : i < n
  · rw [if_pos l] at hq hy
    cases hq
    cases hy
    exact h
  · rw [if_neg l] at hq
    cases hq⟩
theorem Bd.big {B : Nat} {x : Int} (h : Bd B x) (hB : B ≤ 13400) : x.natAbs < 2 ^ 13400 := Nat.lt_of_lt_of_le h (Nat.pow_le_pow_right (by decide) hB)
abbrev sShared : Stmt := top 10
def shStep (s : Int) (x : Int × Int) : Int := s / (Nat.gcd s.natAbs x.2.natAbs : Nat) * x.2
def shF (fs : List (Int × Int)) : Int := fs.foldl shStep 1
theorem shF_snoc (fs : List (Int × Int)) (x : Int × Int) : shF (fs ++ [x]) = shStep (shF fs) x := by
  unfold shF
  rw [List.foldl_append]
  rfl
theorem gcd_dvd_int (a b : Int) : ((Nat.gcd a.natAbs b.natAbs : Nat) : Int) ∣ a := Int.natAbs_dvd_natAbs.mp (by rw [Int.natAbs_natCast]; exact Nat.gcd_dvd_left _ _)
theorem gcd_dvd_int' (a b : Int) : ((Nat.gcd a.natAbs b.natAbs : Nat) : Int) ∣ b := Int.natAbs_dvd_natAbs.mp (by rw [Int.natAbs_natCast]; exact Nat.gcd_dvd_right _ _)
theorem gcd_pos_int {a b : Int} (h : 0 < b) : (0 : Int) < (Nat.gcd a.natAbs b.natAbs : Nat) := by
  have : 0 < Nat.gcd a.natAbs b.natAbs := Nat.gcd_pos_of_pos_right _ (by omega)
  omega
theorem shStep_pos {s : Int} {x : Int × Int} (hs : 0 < s) (hx : 0 < x.2) : 0 < shStep s x :=
  Int.mul_pos (Int.ediv_pos_of_pos_of_dvd hs (by have := gcd_pos_int (a := s) hx; omega) (gcd_dvd_int s x.2)) hx
theorem shStep_old {s : Int} {x : Int × Int} : s ∣ shStep s x := by
  obtain ⟨c, hc⟩ := gcd_dvd_int' s x.2
  obtain ⟨d, hd⟩ := gcd_dvd_int s x.2
  refine ⟨c, ?_⟩
  unfold shStep
  generalize hg : ((Nat.gcd s.natAbs x.2.natAbs : Nat) : Int) = g at *
  by_cases g0 : g = 0
  · rw [g0, Int.zero_mul] at hd
    rw [hd, Int.zero_ediv, Int.zero_mul, Int.zero_mul]
  · have e : s / g = d := by
      rw [hd, Int.mul_ediv_cancel_left _ g0]
    rw [e, hc, hd, ← Int.mul_assoc, Int.mul_comm d g]
theorem shStep_new {s : Int} {x : Int × Int} : x.2 ∣ shStep s x := ⟨s / (Nat.gcd s.natAbs x.2.natAbs : Nat), by unfold shStep; rw [Int.mul_comm]⟩
theorem shF_facts : ∀ (fs : List (Int × Int)) (s : Int), 0 < s → (∀ x ∈ fs, 0 < x.2) → 0 < fs.foldl shStep s ∧ s ∣ fs.foldl shStep s ∧ ∀ x ∈ fs, x.2 ∣ fs.foldl shStep s
  | [], s, h, _ => ⟨h, Int.dvd_refl s, fun _ hx => nomatch hx⟩
  | x :: fs, s, h, hp => by
    have hx := hp x (List.mem_cons_self ..)
    obtain ⟨h1, h2, h3⟩ := shF_facts fs (shStep s x) (shStep_pos h hx) fun y hy => hp y (List.mem_cons_of_mem _ hy)
    refine ⟨h1, Int.dvd_trans shStep_old h2, fun y hy => ?_⟩
    rcases List.mem_cons.mp hy with rfl | hy
    · exact Int.dvd_trans shStep_new h2
    · exact h3 y hy
theorem shStep_bd {A b : Nat} {s : Int} {x : Int × Int} (hs : Bd A s) (s0 : 0 < s) (x0 : 0 < x.2) (hx : Bd b x.2) : Bd (A + b) (shStep s x) := by
  unfold shStep
  refine Bd.mulB ?_ hx
  have d1 : s / ((Nat.gcd s.natAbs x.2.natAbs : Nat) : Int) ≤ s := Int.ediv_le_self _ (by omega)
  have d2 : 0 ≤ s / ((Nat.gcd s.natAbs x.2.natAbs : Nat) : Int) := Int.ediv_nonneg (by omega) (by omega)
  unfold Bd at *
  omega
theorem shF_bd {b : Nat} : ∀ (fs : List (Int × Int)) (A : Nat) (s : Int), 0 < s → Bd A s → (∀ x ∈ fs, 0 < x.2 ∧ Bd b x.2) → Bd (A + b * fs.length) (fs.foldl shStep s)
  | [], A, s, _, h, _ => h
  | x :: fs, A, s, s0, h, hp => by
    obtain ⟨x0, xb⟩ := hp x (List.mem_cons_self ..)
    have z := shF_bd fs (A + b) (shStep s x) (shStep_pos s0 x0) (shStep_bd h s0 x0 xb) fun y hy => hp y (List.mem_cons_of_mem _ hy)
    refine z.mono ?_
    rw [List.length_cons, Nat.mul_succ]
    omega
theorem one_bd : Bd 1 1 := by unfold Bd; decide
def spShared : Sp := fun vs H Q _ => ∃ (l : Addr) (ps : List Addr) (fs : List (Int × Int)) (b : Nat), vs = [.ref l] ∧ H l = some (.lst (rv ps)) ∧ PairsAt H ps fs ∧ (∀ x ∈ fs, 0 < x.2 ∧ Bd b x.2) ∧ fs.length ≤ 20 ∧ b ≤ 600 ∧ Q (.int (shF fs)) H
theorem scShared : FnScope ["ratios", "shared", "ratio"] ["ratios"] (defScope sShared) := ⟨rfl, rfl, rfl, by decide +kernel, rfl, by decide +kernel, by decide +kernel⟩
theorem ok_shared {f : Addr} {fd : FuncData} (F : Fun K "shared_bottom" "shared_bottom" sShared f fd) (mgc : mg "gcd" = some (.builtin "math.gcd")) : FnOk P w K mg base CX0 1 f fd ["ratios"] spShared := by
  refine F.ok scShared (fun vs H Q E h => ?_) (fun cdv A outer s H vs Q E hr h => ?_)
  · obtain ⟨l, ps, fs, b, rfl, _⟩ := h
    rfl
  · obtain ⟨l, ps, fs, b, rfl, hl, hps, hf, hn, hb, k⟩ := h
    refine ⟨_, pss_cons (ps_set (i := 1) scShared.nd rfl (Or.inl rfl) pe_int)
      (pss_cons (ps_for PassesOwn.never rfl (pi_list (pv 0)) (pg_name (i := 2) scShared.nd rfl (Or.inl rfl))
        (pss_one (ps_set (i := 1) scShared.nd rfl (Or.inl rfl) (pe_op op_mulW (pe_op op_fdivB (pv 1) (pe_callBfun cr_gcd (by rfl) mgc (pa_cons (pv 1) (pa_cons (pe_ix ix_tup (pv 2) pe_int (fun _ _ => rfl)) pa_nil)))) (pe_ix ix_tup (pv 2) pe_int (fun _ _ => rfl))))))
      (pss_one (ps_ret (pv 1)))), ?_⟩
    have pl := hps.1
    refine ⟨_, rfl, l, rfl, ⟨_, SqL.of hl⟩, for_list (K := K) (a := l) (xs := rv ps) (fun i σ H' => H' = H ∧ ∃ v : Option V, σ = [some (.ref l), some (.int (shF (fs.take i))), v]) ⟨rfl, none, rfl⟩ (fun i σ H' _ ⟨e, _⟩ => e ▸ SqL.of hl) ?_ ?_⟩
    · rintro i x σ H' hx ⟨rfl, v, rfl⟩
      obtain ⟨p, y, rfl, hp, hy, hfr⟩ := hps.get hx
      have hym := List.mem_of_getElem? hy
      obtain ⟨y0, yb⟩ := hf y hym
      have hi : i < fs.length := (List.getElem?_eq_some_iff.mp hy).1
      have st : SqT K H' p [.int y.1, .int y.2] := Or.inl (Or.inl hfr)
      have pp := (shF_facts (fs.take i) 1 (by decide) fun x hx => (hf x (List.mem_of_mem_take hx)).1).1
      have pb := shF_bd (b := b) (fs.take i) 1 1 (by decide) one_bd fun x hx => hf x (List.mem_of_mem_take hx)
      rw [List.length_take, Nat.min_eq_left (by omega)] at pb
      have hbi : b * i ≤ 12000 := Nat.le_trans (Nat.mul_le_mul hb (show i ≤ 20 by omega)) (by decide)
      have g0 := gcd_pos_int (a := shF (fs.take i)) y0
      have dle : shF (fs.take i) / ((Nat.gcd (shF (fs.take i)).natAbs y.2.natAbs : Nat) : Int) ≤ shF (fs.take i) := Int.ediv_le_self _ (by have : 0 < shF (fs.take i) := pp; omega)
      have d2 : 0 ≤ shF (fs.take i) / ((Nat.gcd (shF (fs.take i)).natAbs y.2.natAbs : Nat) : Int) := Int.ediv_nonneg (by have : 0 < shF (fs.take i) := pp; omega) (by omega)
      have db : Bd (1 + b * i) (shF (fs.take i) / ((Nat.gcd (shF (fs.take i)).natAbs y.2.natAbs : Nat) : Int)) := by
        have : Bd (1 + b * i) (shF (fs.take i)) := pb
        unfold Bd at *
        omega
      refine ⟨_, rfl, _, rfl, _, rfl, p, _, 1, _, rfl, rfl, st, rfl, _, _, rfl, _, _, rfl, rfl, ⟨g0, Bd.big (show Bd (1 + b * i) (shF (fs.take i)) from pb) (by omega)⟩, _, rfl, p, _, 1, _, rfl, rfl, st, rfl, _, _, rfl, rfl, Bd.mul db yb (by omega) (by omega), rfl, some (.ref p), ?_⟩
      rw [List.take_add_one, hy]
      show _ = [some (V.ref l), some (V.int (shF (fs.take i ++ [y]))), some (V.ref p)]
      rw [shF_snoc]
      rfl
    · rintro σ H' ⟨rfl, v, rfl⟩
      rw [rv_len, pl, List.take_length]
      exact ⟨_, rfl, k⟩
/-- a ratio in lowest terms, not large -/
structure Fit (a b : Nat) (x : Int × Int) : Prop where
  p : 0 < x.2
  g : Nat.gcd x.1.natAbs x.2.natAbs = 1
  b1 : Bd a x.1
  b2 : Bd b x.2
abbrev Lw (x : Int × Int) : Prop := Fit 130 60 x
theorem Fit.mono {a b c d : Nat} {x : Int × Int} (h : Fit a b x) (h1 : a ≤ c) (h2 : b ≤ d) : Fit c d x := ⟨h.p, h.g, h.b1.mono h1, h.b2.mono h2⟩
/-- values that are passed, and what they stand for -/
def PassAt (H : Hp) (vs : List V) (fs : List (Int × Int)) : Prop := vs.length = fs.length ∧ ∀ (i : Nat) (v : V) (x : Int × Int), vs[i]? = some v → fs[i]? = some x → Low H v x.1 x.2
theorem Low.same {H H' : Hp} {v : V} {a b : Int} (h : Low H v a b) (s : Same H H') : Low H' v a b := by
  rcases h with h | ⟨q, c, d, e, hq, r⟩
  · exact .inl h
  · exact .inr ⟨q, c, d, e, s _ _ hq, r⟩
theorem PassAt.same {H H' : Hp} {vs : List V} {fs : List (Int × Int)} (h : PassAt H vs fs) (s : Same H H') : PassAt H' vs fs := ⟨h.1, fun i v x a b => (h.2 i v x a b).same s⟩
theorem Low.keep {o : Addr} {H H' : Hp} {u : HO} {v : V} {a b : Int} (h : Low H v a b) (k : Keep o H H') (ho : H o = some u) (hu : ∀ xs, HO.tup xs ≠ u) : Low H' v a b := by
  rcases h with h | ⟨q, c, d, e, hq, r⟩
  · exact .inl h
  · exact .inr ⟨q, c, d, e, k.there ho hq (hu _), r⟩
theorem PassAt.keep {o : Addr} {H H' : Hp} {u : HO} {vs : List V} {fs : List (Int × Int)} (h : PassAt H vs fs) (k : Keep o H H') (ho : H o = some u) (hu : ∀ xs, HO.tup xs ≠ u) : PassAt H' vs fs := ⟨h.1, fun i v x a b => (h.2 i v x a b).keep k ho hu⟩
theorem SqA.keep {K : PySem.W.Frag} {o : Addr} {H H' : Hp} {u : HO} {a : Addr} {xs : List V} (h : SqA K H a xs) (k : Keep o H H') (ho : H o = some u) (hu : ∀ xs, HO.tup xs ≠ u) (hv : ∀ xs, HO.lst xs ≠ u) (hf : ∀ d w, HO.frz d w ≠ u) : SqA K H' a xs := by
  rcases h with (h | h) | (h | h)
  · rcases h with h | ⟨d, h⟩
    · exact .inl (.inl (.inl (k.there ho h (hv _))))
    · exact .inl (.inl (.inr ⟨d, k.there ho h (hf _ _)⟩))
  · exact .inl (.inr h)
  · rcases h with h | ⟨d, h⟩
    · exact .inr (.inl (.inl (k.there ho h (hu _))))
    · exact .inr (.inl (.inr ⟨d, k.there ho h (hf _ _)⟩))
  · exact .inr (.inr h)
def gp (xs : List (Int × Int)) (i : Nat) : Int × Int := xs.getD i (0, 1)
theorem gp_at {xs : List (Int × Int)} {i : Nat} (h : i < xs.length) : xs[i]? = some (gp xs i) := by
  unfold gp
  rw [List.getD_eq_getElem?_getD, List.getElem?_eq_getElem h]
  rfl
def RowsAt2 (H : Hp) (rs : List Addr) (mat : List (List (Int × Int))) : Prop := rs.length = mat.length ∧ ∀ (i : Nat) (p : Addr) (fs : List (Int × Int)), rs[i]? = some p → mat[i]? = some fs → ∃ ps, H p = some (.lst (rv ps)) ∧ PairsAt H ps fs
theorem RowsAt2.same {H H' : Hp} {rs : List Addr} {mat : List (List (Int × Int))} (h : RowsAt2 H rs mat) (s : Same H H') : RowsAt2 H' rs mat := ⟨h.1, fun i p fs a b => by
  obtain ⟨ps, h1, h2⟩ := h.2 i p fs a b
  exact ⟨ps, s _ _ h1, h2.same s⟩⟩
def gm (xs : List (List (Int × Int))) (i : Nat) : List (Int × Int) := xs.getD i []
theorem gm_at {xs : List (List (Int × Int))} {i : Nat} (h : i < xs.length) : xs[i]? = some (gm xs i) := by
  unfold gm
  rw [List.getD_eq_getElem?_getD, List.getElem?_eq_getElem h]
  rfl
/-- what is a list or a tuple of pairs stays where only one instance changes -/
theorem PairsAt.keep {o : Addr} {H H' : Hp} {u : HO} {ps : List Addr} {fs : List (Int × Int)} (h : PairsAt H ps fs) (k : Keep o H H') (ho : H o = some u) (hu : ∀ xs, HO.tup xs ≠ u) : PairsAt H' ps fs := ⟨h.1, fun i p x a b => k.there ho (h.2 i p x a b) (hu _)⟩
theorem RowsAt2.keep {o : Addr} {H H' : Hp} {u : HO} {rs : List Addr} {mat : List (List (Int × Int))} (h : RowsAt2 H rs mat) (k : Keep o H H') (ho : H o = some u) (hu : ∀ xs, HO.tup xs ≠ u) (hv : ∀ xs, HO.lst xs ≠ u) : RowsAt2 H' rs mat := ⟨h.1, fun i p fs a b => by
  obtain ⟨ps, h1, h2⟩ := h.2 i p fs a b
  exact ⟨ps, k.there ho h1 (hv _), h2.keep k ho hu⟩⟩
theorem RowsAt2.add {H : Hp} {D t : Addr} {rs : List Addr} {mat : List (List (Int × Int))} {fs : List (Int × Int)} {ps : List Addr} {xs : List V} (hD : H D = some (.lst xs)) (h : RowsAt2 H rs mat) (hn : D ∉ rs) (ht : H t = some (.lst (rv ps))) (hp : PairsAt H ps fs) (nt : t ≠ D) (o : HO) : RowsAt2 (upd H D o) (rs ++ [t]) (mat ++ [fs]) := by
  have hl := h.1
  have up : ∀ {ps : List Addr} {fs : List (Int × Int)}, PairsAt H ps fs → PairsAt (upd H D o) ps fs := fun {ps fs} z => ⟨z.1, fun i p x a b => by
    have e := z.2 i p x a b
    unfold RatAt at *
    rw [upd_ne (ne_of e hD (fun z => nomatch z))]
    exact e⟩
  refine ⟨by rw [List.length_append, List.length_append, hl]; rfl, fun i p r hp1 hr => ?_⟩
  by_cases hi : i < rs.length
  · rw [List.getElem?_append_left hi] at hp1
    rw [List.getElem?_append_left (by omega)] at hr
    obtain ⟨ps, h1, h2⟩ := h.2 i p r hp1 hr
    exact ⟨ps, by rw [upd_ne (fun e => hn (by rw [← e]; exact List.mem_of_getElem? hp1))]; exact h1, up h2⟩
  · have e : i = rs.length := by
      have := (List.getElem?_eq_some_iff.mp hp1).1
      rw [List.length_append, List.length_singleton] at this
      omega
    subst e
    rw [List.getElem?_append_right (Nat.le_refl _), Nat.sub_self] at hp1
    rw [List.getElem?_append_right (by omega), hl, Nat.sub_self] at hr
    cases hp1
    cases hr
    exact ⟨ps, by rw [upd_ne nt]; exact ht, up hp⟩
/-- rows that are passed -/
def RowsP (K : PySem.W.Frag) (H : Hp) (rs : List Addr) (mat : List (List (Int × Int))) : Prop := rs.length = mat.length ∧ ∀ (i : Nat) (p : Addr) (fs : List (Int × Int)), rs[i]? = some p → mat[i]? = some fs → ∃ us, SqA K H p us ∧ PassAt H us fs
theorem RowsP.same {K : PySem.W.Frag} {H H' : Hp} {rs : List Addr} {mat : List (List (Int × Int))} (h : RowsP K H rs mat) (s : Same H H') : RowsP K H' rs mat := ⟨h.1, fun i p fs a b => by
  obtain ⟨us, h1, h2⟩ := h.2 i p fs a b
  exact ⟨us, h1.same s, h2.same s⟩⟩
theorem RowsP.keep {K : PySem.W.Frag} {o : Addr} {H H' : Hp} {u : HO} {rs : List Addr} {mat : List (List (Int × Int))} (h : RowsP K H rs mat) (k : Keep o H H') (ho : H o = some u) (hu : ∀ xs, HO.tup xs ≠ u) (hv : ∀ xs, HO.lst xs ≠ u) (hf : ∀ d w, HO.frz d w ≠ u) : RowsP K H' rs mat := ⟨h.1, fun i p fs a b => by
  obtain ⟨us, h1, h2⟩ := h.2 i p fs a b
  exact ⟨us, h1.keep k ho hu hv hf, h2.keep k ho hu⟩⟩
theorem low_ok {K : PySem.W.Frag} {H : Hp} {v : V} {a b : Int} (h : Low H v a b) : Val K H v true := by
  rcases h with ⟨rfl, _⟩ | ⟨q, c, d, rfl, hq, d0, _⟩
  · exact .int a
  · have z : Val K H (.ref q) (decide (0 < d)) := .rat hq
    rw [decide_eq_true d0] at z
    exact z
theorem raise_ok {C : Addr} {names : List Str} {ws : List V} {H : Hp} {Q : XK} (hl : ws.length = names.length) (hz : ws.length ≤ 1000) (k : ∀ d H', H d = none → Same H H' → H' d = some (.xd (names.zip ws).reverse) → Q (.ref C) (some d) H') :
    ws.length ≤ 1000 ∧ ∀ a, H a = none → spIni C names (.ref a :: (ws ++ [])) (upd H a (exo a C none))
      (fun v H2 => v = .non ∧ ∃ (d : Addr) (fs : List (Str × V)), H2 a = some (exo a C (some d)) ∧ H2 d = some (exd d fs) ∧ H d = none ∧ Q (.ref C) (some d) (upd (L2.del H2 a) d (.xd fs))) (fun _ _ _ => False) := by
  refine ⟨hz, fun a ha => ⟨a, ws, by rw [List.append_nil], hl, upd_same, fun d H' hd hn hk h1 h2 => ⟨rfl, d, _, h1, h2, ?_, ?_⟩⟩⟩
  · exact (raised (fs := (names.zip ws).reverse) ha hd hk).1
  · have z := raised (fs := (names.zip ws).reverse) ha hd hk
    exact k d _ z.1 z.2.1 z.2.2
abbrev numFs : List Str := ["what", "number"]
def numD (v : V) : List (Str × V) := [("number", v), ("what", .str "entry")]
def Chk (K : PySem.W.Frag) (H : Hp) (xs : List V) : Option V → Prop
  | none => ∀ (i : Nat) (x : V), xs[i]? = some x → Val K H x true
  | some v => ∃ i, xs[i]? = some v ∧ Val K H v false ∧ ∀ (j : Nat) (x : V), j < i → xs[j]? = some x → Val K H x true
def Said (CN : Addr) (H : Hp) (Q : VK) (E : XK) : Option V → Prop
  | none => Q .non H
  | some v => ∀ d H', H d = none → Same H H' → H' d = some (.xd (numD v)) → E (.ref CN) (some d) H'
def spCheck (K : PySem.W.Frag) (CN : Addr) : Sp := fun vs H Q E => ∃ (l : Addr) (xs : List V) (r : Option V), vs = [.ref l] ∧ SqA K H l xs ∧ Chk K H xs r ∧ Said CN H Q E r
abbrev sCheck : Stmt := top 12
theorem scCheck : FnScope ["entries", "value"] ["entries"] (defScope sCheck) := ⟨rfl, rfl, rfl, by decide +kernel, rfl, by decide +kernel, by decide +kernel⟩
theorem ok_check {f fI CN gN : Addr} {fd dI dN : FuncData} (F : Fun K "check_entries" "check_entries" sCheck f fd) (EN : Err P w K mg base "BadNumber" numFs CN gN dN) (IR : Cl P w K mg base "is_ratio" psv 2 (spIsRat K) fI dI) : FnOk P w K mg base (L2.CX P w) 3 f fd ["entries"] (spCheck K CN) := by
  refine F.okX scCheck (fun vs H Q E h => ?_) (fun cdv A outer s H vs Q E hr h => ?_)
  · obtain ⟨l, xs, r, rfl, _⟩ := h
    rfl
  · obtain ⟨l, xs, r, rfl, hl, hC, k⟩ := h
    refine ⟨_, pss_one (ps_for (passes_of rfl) rfl (pi_any (pv 0)) (pg_name (i := 1) scCheck.nd rfl (Or.inl rfl))
      (pss_one (ps_if (pt_not (pt_val (pe_call IR.G hr (by rfl) IR.g IR.kp IR.b .nil pass0 (pa_cons (pv 1) pa_nil))))
        (pss_one (ps_raise rfl (takes_of rfl rfl rfl rfl) (pmk_oex EN.ox EN.iC EN.tI EN.G (hr.mono (by decide)) EN.b .nil pass0 (by rfl) EN.g (pa_cons pe_str (pa_cons (pv 1) pa_nil))))) pss_nil))), ?_⟩
    refine for_any (K := K) (a := l) (xs := xs) (H1 := H) (fun i σ H' => H' = H ∧ (∀ v, r = some v → ∀ j x, j < i → xs[j]? = some x → x = v → Val K H x true) ∧ (match r with | none => True | some v => ∃ m, i ≤ m ∧ xs[m]? = some v ∧ Val K H v false ∧ ∀ (j : Nat) (x : V), j < m → xs[j]? = some x → Val K H x true) ∧ ∃ v : Option V, σ = [some (.ref l), v]) (fun P h => ⟨_, rfl, h⟩) hl ⟨rfl, ?_, ?_, none, rfl⟩ (fun i σ H' _ ⟨e, _⟩ => e ▸ Same.refl _) ?_ ?_
    · exact fun v _ j x hj => absurd hj (by omega)
    · cases r with
      | none => trivial
      | some v =>
        obtain ⟨m, h1, h2, h3⟩ := hC
        exact ⟨m, Nat.zero_le _, h1, h2, h3⟩
    · rintro i x σ H' hx ⟨rfl, _, hm, v, rfl⟩
      cases r with
      | none =>
        refine ⟨_, rfl, x, true, rfl, hC i x hx, true, rfl, iteF ⟨rfl, (fun v e => nomatch e), trivial, some x, rfl⟩⟩
      | some v0 =>
        obtain ⟨m, im, h1, h2, h3⟩ := hm
        rcases Nat.lt_or_eq_of_le im with lt | rfl
        · refine ⟨_, rfl, x, true, rfl, h3 i x lt hx, true, rfl, iteF ⟨rfl, (fun v e j y hj hy _ => ?_), ⟨m, lt, h1, h2, h3⟩, some x, rfl⟩⟩
          exact h3 j y (by omega) hy
        · rw [hx] at h1
          cases h1
          refine ⟨_, rfl, x, false, rfl, h2, false, rfl, iteT ?_⟩
          exact ⟨_, rfl, raise_ok rfl (by show 2 ≤ 1000; decide) k⟩
    · rintro σ H' ⟨rfl, _, hm, v, rfl⟩
      cases r with
      | none => exact k
      | some v0 =>
        obtain ⟨m, im, h1, h2, h3⟩ := hm
        have := (List.getElem?_eq_some_iff.mp h1).1
        omega
abbrev reK : List Str := ["number", "spots", "weights"]
abbrev enK : List Str := ["spots", "run"]
abbrev noK : List Str := ["weights"]
def First (K : PySem.W.Frag) (H : Hp) (rs : List Addr) : Option V → Prop
  | none => ∀ (i : Nat) (p : Addr), rs[i]? = some p → ∃ xs, SqA K H p xs ∧ Chk K H xs none
  | some v => ∃ (i : Nat) (p : Addr) (xs : List V), rs[i]? = some p ∧ SqA K H p xs ∧ Chk K H xs (some v) ∧ ∀ (j : Nat) (q : Addr), j < i → rs[j]? = some q → ∃ xs, SqA K H q xs ∧ Chk K H xs none
/-- a tuple of ratios -/
def TupAt (H : Hp) (p : Addr) (fs : List (Int × Int)) : Prop := ∃ ps, H p = some (.tup (rv ps)) ∧ PairsAt H ps fs
theorem TupAt.same {H H' : Hp} {p : Addr} {fs : List (Int × Int)} (h : TupAt H p fs) (s : Same H H') : TupAt H' p fs := by
  obtain ⟨ps, h1, h2⟩ := h
  exact ⟨ps, s _ _ h1, h2.same s⟩
theorem chk_pass {K : PySem.W.Frag} {H : Hp} {us : List V} {fs : List (Int × Int)} (h : PassAt H us fs) : Chk K H us none := fun i x hx => by
  have hi : i < fs.length := by
    rw [← h.1]
    exact (List.getElem?_eq_some_iff.mp hx).1
  exact low_ok (h.2 i x _ hx (List.getElem?_eq_getElem hi))
theorem first_rows {K : PySem.W.Frag} {H : Hp} {rs : List Addr} {mat : List (List (Int × Int))} (h : RowsP K H rs mat) : First K H rs none := fun i p hp => by
  have hi : i < mat.length := by
    rw [← h.1]
    exact (List.getElem?_eq_some_iff.mp hp).1
  obtain ⟨us, h1, h2⟩ := h.2 i p _ hp (gm_at hi)
  exact ⟨_, h1, chk_pass h2⟩
theorem zero_bd (B : Nat) : Bd B 0 := Nat.pow_pos (n := B) (show 0 < 2 by decide)
theorem gp_mem {xs : List (Int × Int)} {i : Nat} (h : i < xs.length) : gp xs i ∈ xs := List.mem_of_getElem? (gp_at h)
theorem yesT {σ : L2.St} {H : Hp} {A B : Hp → Prop} (h : A H) : tYes σ H (fun b H3 => if b = true then A H3 else B H3) := by
  show if true = true then A H else B H
  rw [if_pos rfl]
  exact h
theorem gm_mem {xs : List (List (Int × Int))} {i : Nat} (h : i < xs.length) : gm xs i ∈ xs := List.mem_of_getElem? (gm_at h)
theorem PassAt.at_ {H : Hp} {vs : List V} {fs : List (Int × Int)} (h : PassAt H vs fs) {i : Nat} (hi : i < fs.length) : ∃ v, atI vs (i : Int) = some v ∧ Low H v (gp fs i).1 (gp fs i).2 := by
  have hl : i < vs.length := by rw [h.1]; exact hi
  exact ⟨vs[i], atI_nat (List.getElem?_eq_getElem hl), h.2 i _ _ (List.getElem?_eq_getElem hl) (gp_at hi)⟩
theorem RowsAt2.at_ {H : Hp} {rs : List Addr} {mat : List (List (Int × Int))} (h : RowsAt2 H rs mat) {i : Nat} (hi : i < mat.length) : ∃ p ps, atI (rv rs) (i : Int) = some (.ref p) ∧ H p = some (.lst (rv ps)) ∧ PairsAt H ps (gm mat i) := by
  have hl : i < rs.length := by rw [h.1]; exact hi
  obtain ⟨ps, h1, h2⟩ := h.2 i _ _ (List.getElem?_eq_getElem hl) (gm_at hi)
  exact ⟨rs[i], ps, atI_nat (by unfold rv; rw [List.getElem?_map, List.getElem?_eq_getElem hl]; rfl), h1, h2⟩
theorem RowsP.at_ {K : PySem.W.Frag} {H : Hp} {rs : List Addr} {mat : List (List (Int × Int))} (h : RowsP K H rs mat) {i : Nat} (hi : i < mat.length) : ∃ p us, atI (rv rs) (i : Int) = some (.ref p) ∧ SqA K H p us ∧ PassAt H us (gm mat i) := by
  have hl : i < rs.length := by rw [h.1]; exact hi
  obtain ⟨us, h1, h2⟩ := h.2 i _ _ (List.getElem?_eq_getElem hl) (gm_at hi)
  exact ⟨rs[i], us, atI_nat (by unfold rv; rw [List.getElem?_map, List.getElem?_eq_getElem hl]; rfl), h1, h2⟩
theorem PairsAt.at_ {H : Hp} {ps : List Addr} {fs : List (Int × Int)} (h : PairsAt H ps fs) {i : Nat} (hi : i < fs.length) : ∃ p, atI (rv ps) (i : Int) = some (.ref p) ∧ RatAt H p (gp fs i) := by
  have hl : i < ps.length := by rw [h.1]; exact hi
  exact ⟨ps[i], atI_nat (by unfold rv; rw [List.getElem?_map, List.getElem?_eq_getElem hl]; rfl), h.2 i _ _ (List.getElem?_eq_getElem hl) (gp_at hi)⟩
end
end Fk

set_option Elab.async false
namespace La
/-! ### sums -/
def sm : Nat → (Nat → Int) → Int
  | 0, _ => 0
  | n + 1, f => sm n f + f n
theorem sm_congr {n : Nat} {f g : Nat → Int} (h : ∀ i, i < n → f i = g i) : sm n f = sm n g := by
  induction n with
  | zero => rfl
  | succ n ih =>
    show sm n f + f n = sm n g + g n
    rw [ih fun i hi => h i (by omega), h n (by omega)]
theorem sm_zero {n : Nat} {f : Nat → Int} (h : ∀ i, i < n → f i = 0) : sm n f = 0 := by
  induction n with
  | zero => rfl
  | succ n ih =>
    show sm n f + f n = 0
    rw [ih fun i hi => h i (by omega), h n (by omega)]
    rfl
theorem sm_add (n : Nat) (f g : Nat → Int) : sm n (fun i => f i + g i) = sm n f + sm n g := by
  induction n with
  | zero => rfl
  | succ n ih =>
    show sm n (fun i => f i + g i) + (f n + g n) = (sm n f + f n) + (sm n g + g n)
    rw [ih]
    omega
theorem sm_sub (n : Nat) (f g : Nat → Int) : sm n (fun i => f i - g i) = sm n f - sm n g := by
  induction n with
  | zero => rfl
  | succ n ih =>
    show sm n (fun i => f i - g i) + (f n - g n) = (sm n f + f n) - (sm n g + g n)
    rw [ih]
    omega
theorem sm_mul (n : Nat) (a : Int) (f : Nat → Int) : sm n (fun i => a * f i) = a * sm n f := by
  induction n with
  | zero => exact (Int.mul_zero a).symm
  | succ n ih =>
    show sm n (fun i => a * f i) + a * f n = a * (sm n f + f n)
    rw [ih, Int.mul_add]
theorem sm_mulr (n : Nat) (a : Int) (f : Nat → Int) : sm n (fun i => f i * a) = sm n f * a := by
  rw [Int.mul_comm, ← sm_mul]
  exact sm_congr fun i _ => Int.mul_comm _ _
theorem sm_neg (n : Nat) (f : Nat → Int) : sm n (fun i => - f i) = - sm n f := by
  induction n with
  | zero => rfl
  | succ n ih =>
    show sm n (fun i => - f i) + - f n = - (sm n f + f n)
    rw [ih]
    omega
theorem sm_single {n k : Nat} {f : Nat → Int} (hk : k < n) (h : ∀ i, i < n → i ≠ k → f i = 0) : sm n f = f k := by
  induction n with
  | zero => exact absurd hk (Nat.not_lt_zero _)
  | succ n ih =>
    show sm n f + f n = f k
    by_cases e : k = n
    · subst e
      rw [sm_zero fun i hi => h i (by omega) (by omega)]
      exact Int.zero_add _
    · rw [ih (by omega) fun i hi hn => h i (by omega) hn, h n (by omega) (fun z => e z.symm)]
      exact Int.add_zero _
theorem sm_two {n k l : Nat} {f : Nat → Int} (hk : k < n) (hl : l < n) (hkl : k ≠ l) (h : ∀ i, i < n → i ≠ k → i ≠ l → f i = 0) : sm n f = f k + f l := by
  have e : sm n f = sm n (fun i => (if i = k then f k else 0) + (if i = k then 0 else f i)) := sm_congr fun i _ => by
    by_cases e : i = k
    · rw [if_pos e, if_pos e, e]; omega
    · rw [if_neg e, if_neg e]; omega
  rw [e, sm_add, sm_single (k := k) hk (fun i _ hn => if_neg hn), sm_single (k := l) hl (fun i hi hn => ?_)]
  · rw [if_pos rfl, if_neg (fun z => hkl z.symm)]
  · by_cases e : i = k
    · rw [if_pos e]
    · rw [if_neg e]
      exact h i hi e hn
theorem sm_comm (n m : Nat) (f : Nat → Nat → Int) : sm n (fun i => sm m fun j => f i j) = sm m fun j => sm n fun i => f i j := by
  induction n with
  | zero => exact (sm_zero fun _ _ => rfl).symm
  | succ n ih =>
    show sm n (fun i => sm m fun j => f i j) + sm m (fun j => f n j) = _
    rw [ih, ← sm_add]
    rfl
theorem sm_nonneg {n : Nat} {f : Nat → Int} (h : ∀ i, i < n → 0 ≤ f i) : 0 ≤ sm n f := by
  induction n with
  | zero => exact Int.le_refl _
  | succ n ih =>
    show 0 ≤ sm n f + f n
    have := ih fun i hi => h i (by omega)
    have := h n (by omega)
    omega
theorem sm_le {n : Nat} {f g : Nat → Int} (h : ∀ i, i < n → f i ≤ g i) : sm n f ≤ sm n g := by
  induction n with
  | zero => exact Int.le_refl _
  | succ n ih =>
    show sm n f + f n ≤ sm n g + g n
    have := ih fun i hi => h i (by omega)
    have := h n (by omega)
    omega
theorem sm_pos {n : Nat} {f : Nat → Int} (h : 0 < sm n f) : ∃ i, i < n ∧ 0 < f i := by
  induction n with
  | zero => exact absurd h (Int.lt_irrefl 0)
  | succ n ih =>
    have h1 : 0 < sm n f + f n := h
    by_cases e : 0 < f n
    · exact ⟨n, by omega, e⟩
    · obtain ⟨i, hi, p⟩ := ih (by omega)
      exact ⟨i, by omega, p⟩
theorem sm_app (n m : Nat) (f : Nat → Int) : sm (n + m) f = sm n f + sm m fun i => f (n + i) := by
  induction m with
  | zero =>
    show sm n f = sm n f + 0
    omega
  | succ m ih =>
    show sm (n + m) f + f (n + m) = sm n f + (sm m (fun i => f (n + i)) + f (n + m))
    rw [ih]
    omega
theorem sm_abs {n b : Nat} {f : Nat → Int} (h : ∀ i, i < n → (f i).natAbs ≤ b) : (sm n f).natAbs ≤ n * b := by
  induction n with
  | zero => exact Nat.zero_le _
  | succ n ih =>
    show (sm n f + f n).natAbs ≤ (n + 1) * b
    have h1 := ih fun i hi => h i (by omega)
    have h2 := h n (by omega)
    have h3 := Int.natAbs_add_le (sm n f) (f n)
    rw [Nat.succ_mul]
    omega
/-! ### a determinant: columns B c, rows B c r -/
def skip (i r : Nat) : Nat := if r < i then r else r + 1
def sg (i : Nat) : Int := if i % 2 = 0 then 1 else -1
theorem sg_succ (i : Nat) : sg (i + 1) = - sg i := by
  unfold sg
  by_cases h : i % 2 = 0
  · rw [if_pos h, if_neg (by omega)]
  · rw [if_neg h, if_pos (by omega)]
    rfl
theorem sg_abs (i : Nat) : (sg i).natAbs = 1 := by
  unfold sg
  by_cases h : i % 2 = 0
  · rw [if_pos h]; rfl
  · rw [if_neg h]; rfl
def det : Nat → (Nat → Nat → Int) → Int
  | 0, _ => 1
  | n + 1, B => sm (n + 1) fun i => sg i * B 0 i * det n fun c r => B (c + 1) (skip i r)
theorem skip_lt {n i r : Nat} (hr : r < n) : skip i r < n + 1 := by
  unfold skip
  split <;> omega
theorem det_congr : ∀ {n : Nat} {B C : Nat → Nat → Int}, (∀ c r, c < n → r < n → B c r = C c r) → det n B = det n C
  | 0, _, _, _ => rfl
  | n + 1, B, C, h => sm_congr fun i hi => by
    rw [h 0 i (by omega) hi, det_congr (n := n) (B := fun c r => B (c + 1) (skip i r)) (C := fun c r => C (c + 1) (skip i r)) fun c r hc hr => h _ _ (by omega) (skip_lt hr)]
/-- column k replaced -/
def rep (B : Nat → Nat → Int) (k : Nat) (v : Nat → Int) : Nat → Nat → Int := fun c => if c = k then v else B c
theorem rep_at {B : Nat → Nat → Int} {k : Nat} {v : Nat → Int} : rep B k v k = v := if_pos rfl
theorem rep_ne {B : Nat → Nat → Int} {k c : Nat} {v : Nat → Int} (h : c ≠ k) : rep B k v c = B c := if_neg h
theorem rep_shift (B : Nat → Nat → Int) (k i : Nat) (v : Nat → Int) : (fun c r => rep B (k + 1) v (c + 1) (skip i r)) = rep (fun c r => B (c + 1) (skip i r)) k (fun r => v (skip i r)) := by
  funext c
  unfold rep
  by_cases e : c = k
  · rw [if_pos e]
    funext r
    rw [if_pos (by omega)]
  · rw [if_neg e]
    funext r
    rw [if_neg (by omega)]
/-- linear in each column -/
theorem det_lin : ∀ {n : Nat} {B : Nat → Nat → Int} {k : Nat} {u v : Nat → Int} {a b : Int}, k < n → det n (rep B k fun r => a * u r + b * v r) = a * det n (rep B k u) + b * det n (rep B k v)
  | 0, _, k, _, _, _, _, h => absurd h (Nat.not_lt_zero k)
  | n + 1, B, 0, u, v, a, b, _ => by
    unfold det
    rw [← sm_mul, ← sm_mul, ← sm_add]
    refine sm_congr fun i _ => ?_
    rw [rep_at, rep_at, rep_at]
    have e : ∀ w : Nat → Int, (fun c r => rep B 0 w (c + 1) (skip i r)) = fun c r => B (c + 1) (skip i r) := fun w => by
      funext c r
      rw [rep_ne (by omega)]
    rw [e, e, e]
    grind
  | n + 1, B, k + 1, u, v, a, b, h => by
    unfold det
    rw [← sm_mul, ← sm_mul, ← sm_add]
    refine sm_congr fun i _ => ?_
    rw [rep_ne (by omega), rep_ne (by omega), rep_ne (by omega), rep_shift, rep_shift, rep_shift]
    have q := det_lin (n := n) (B := fun c r => B (c + 1) (skip i r)) (k := k) (u := fun r => u (skip i r)) (v := fun r => v (skip i r)) (a := a) (b := b) (by omega)
    rw [q]
    grind
theorem sum_split (n : Nat) (g : Nat → Nat → Int) : sm n (fun i => sm n fun j => if j < i then g i j else 0) = sm n (fun j => sm n fun i => if j < i then g i j else 0) := sm_comm n n fun i j => if j < i then g i j else 0
/-- the sum along a row of signs, one place left out -/
theorem sm_skip (n i : Nat) (hi : i < n + 1) (f : Nat → Int) : sm n (fun j => sg j * f (skip i j)) = sm (n + 1) (fun j => if j < i then sg j * f j else if j = i then 0 else - (sg j * f j)) := by
  induction n generalizing i with
  | zero =>
    have e : i = 0 := by omega
    subst e
    rfl
  | succ n ih =>
    by_cases e : i = n + 1
    · subst e
      show _ = sm (n + 1) _ + (if n + 1 < n + 1 then _ else if n + 1 = n + 1 then (0 : Int) else _)
      rw [if_neg (by omega), if_pos rfl, Int.add_zero]
      refine sm_congr fun j hj => ?_
      rw [if_pos hj]
      unfold skip
      rw [if_pos hj]
    · have q := ih i (by omega)
      show sm n (fun j => sg j * f (skip i j)) + sg n * f (skip i n) = sm (n + 1) _ + (if n + 1 < i then _ else if n + 1 = i then (0 : Int) else - (sg (n + 1) * f (n + 1)))
      rw [q, if_neg (by omega), if_neg (by omega)]
      have e2 : skip i n = n + 1 := by
        unfold skip
        rw [if_neg (by omega)]
      rw [e2, sg_succ]
      grind
theorem skip_skip {i j r : Nat} (h : j < i) : skip i (skip j r) = skip j (skip (i - 1) r) := by
  unfold skip
  repeat' split
  all_goals omega
/-- the first two columns are the same -/
theorem det_two (n : Nat) (B : Nat → Nat → Int) (h : ∀ r, B 0 r = B 1 r) : det (n + 2) B = 0 := by
  -- the minor without the rows i, j
  let M : Nat → Nat → Int := fun i j => det n fun c r => B (c + 2) (skip i (skip j r))
  have e1 : det (n + 2) B = sm (n + 2) fun i => sm (n + 2) fun j => if j < i then sg i * sg j * B 0 i * B 0 j * M i j else if j = i then 0 else - (sg i * sg j * B 0 i * B 0 j * M i (j - 1)) := by
    unfold det
    refine sm_congr fun i hi => ?_
    unfold det
    rw [← sm_mul]
    have e : sm (n + 1) (fun j => sg i * B 0 i * (sg j * B (0 + 1) (skip i j) * det n fun c r => B (c + 1 + 1) (skip i (skip j r)))) = sg i * B 0 i * sm (n + 1) (fun j => sg j * ((fun p => B 0 p * M i (if p < i then p else p - 1)) (skip i j))) := by
      rw [← sm_mul]
      refine sm_congr fun j _ => ?_
      have e2 : (if skip i j < i then skip i j else skip i j - 1) = j := by
        unfold skip
        by_cases hj : j < i
        · rw [if_pos hj, if_pos hj]
        · rw [if_neg hj, if_neg (by omega)]
          omega
      show sg i * B 0 i * (sg j * B 1 (skip i j) * M i j) = sg i * B 0 i * (sg j * (B 0 (skip i j) * M i (if skip i j < i then skip i j else skip i j - 1)))
      rw [e2, h (skip i j), Int.mul_assoc (sg j)]
    rw [e, sm_skip (n + 1) i hi (fun p => B 0 p * M i (if p < i then p else p - 1)), ← sm_mul]
    refine sm_congr fun j hj => ?_
    by_cases h1 : j < i
    · rw [if_pos h1, if_pos h1, if_pos h1]
      grind
    · rw [if_neg h1, if_neg h1, if_neg h1]
      by_cases h2 : j = i
      · rw [if_pos h2, if_pos h2]
        omega
      · rw [if_neg h2, if_neg h2]
        grind
  rw [e1]
  have e2 : (sm (n + 2) fun i => sm (n + 2) fun j => if j < i then sg i * sg j * B 0 i * B 0 j * M i j else if j = i then 0 else - (sg i * sg j * B 0 i * B 0 j * M i (j - 1)))
      = (sm (n + 2) fun i => sm (n + 2) fun j => if j < i then sg i * sg j * B 0 i * B 0 j * M i j else 0) - (sm (n + 2) fun i => sm (n + 2) fun j => if i < j then sg j * sg i * B 0 j * B 0 i * M j i else 0) := by
    rw [← sm_sub]
    refine sm_congr fun i _ => ?_
    rw [← sm_sub]
    refine sm_congr fun j _ => ?_
    by_cases h1 : j < i
    · rw [if_pos h1, if_pos h1, if_neg (by omega)]
      omega
    · rw [if_neg h1, if_neg h1]
      by_cases h2 : j = i
      · rw [if_pos h2, if_neg (by omega)]
        rfl
      · rw [if_neg h2, if_pos (by omega)]
        have e3 : M j i = M i (j - 1) := by
          show det n _ = det n _
          refine det_congr fun c r _ _ => ?_
          rw [skip_skip (i := j) (j := i) (by omega)]
        rw [e3]
        grind
  rw [e2, sm_comm (n + 2) (n + 2) fun i j => if i < j then sg j * sg i * B 0 j * B 0 i * M j i else 0]
  omega
/-- neighbors are the same -/
theorem det_adj : ∀ {n : Nat} {B : Nat → Nat → Int} {k : Nat}, k + 1 < n → (∀ r, B k r = B (k + 1) r) → det n B = 0
  | 0, _, _, h, _ => absurd h (Nat.not_lt_zero _)
  | 1, _, _, h, _ => by omega
  | n + 2, B, 0, _, h => det_two n B h
  | n + 2, B, k + 1, h, e => by
    show sm (n + 2) (fun i => sg i * B 0 i * det (n + 1) fun c r => B (c + 1) (skip i r)) = 0
    refine sm_zero fun i _ => ?_
    have q := det_adj (n := n + 1) (B := fun c r => B (c + 1) (skip i r)) (k := k) (by omega) fun r => e _
    rw [q]
    exact Int.mul_zero _
theorem rep_self (B : Nat → Nat → Int) (k : Nat) : rep B k (B k) = B := by
  funext c
  unfold rep
  by_cases h : c = k
  · rw [if_pos h, h]
  · rw [if_neg h]
theorem rep_rep (B : Nat → Nat → Int) (k : Nat) (u v : Nat → Int) : rep (rep B k u) k v = rep B k v := by
  funext c
  unfold rep
  by_cases h : c = k
  · rw [if_pos h, if_pos h]
  · rw [if_neg h, if_neg h, if_neg h]
theorem rep_comm (B : Nat → Nat → Int) {k l : Nat} (u v : Nat → Int) (h : k ≠ l) : rep (rep B k u) l v = rep (rep B l v) k u := by
  funext c
  unfold rep
  by_cases h1 : c = k
  · rw [if_neg (by omega), if_pos h1, if_pos h1]
  · by_cases h2 : c = l
    · rw [if_pos h2, if_neg h1, if_pos h2]
    · rw [if_neg h2, if_neg h1, if_neg h1, if_neg h2]
theorem det_add {n : Nat} {B : Nat → Nat → Int} {k : Nat} {u v : Nat → Int} (h : k < n) : det n (rep B k fun r => u r + v r) = det n (rep B k u) + det n (rep B k v) := by
  have q := det_lin (n := n) (B := B) (k := k) (u := u) (v := v) (a := 1) (b := 1) h
  have e : (fun r => 1 * u r + 1 * v r) = fun r => u r + v r := by
    funext r
    rw [Int.one_mul, Int.one_mul]
  rw [e] at q
  rw [q, Int.one_mul, Int.one_mul]
/-- neighbors change places -/
theorem det_swap1 {n : Nat} {B : Nat → Nat → Int} {k : Nat} {u v : Nat → Int} (h : k + 1 < n) : det n (rep (rep B k u) (k + 1) v) = - det n (rep (rep B k v) (k + 1) u) := by
  have z : ∀ x : Nat → Int, det n (rep (rep B k x) (k + 1) x) = 0 := fun x => det_adj h fun r => by
    rw [rep_at, rep_ne (by omega), rep_at]
  have s1 : det n (rep (rep B k fun r => u r + v r) (k + 1) fun r => u r + v r) = det n (rep (rep B k u) (k + 1) fun r => u r + v r) + det n (rep (rep B k v) (k + 1) fun r => u r + v r) := by
    have c : ∀ x y : Nat → Int, rep (rep B k x) (k + 1) y = rep (rep B (k + 1) y) k x := fun x y => rep_comm B x y (by omega)
    rw [c, c, c]
    exact det_add (by omega)
  rw [z, det_add h, det_add h, z, z] at s1
  omega
/-- two columns are the same -/
theorem det_same {n : Nat} : ∀ (d : Nat) {B : Nat → Nat → Int} {k : Nat}, k + d + 1 < n → (∀ r, B k r = B (k + d + 1) r) → det n B = 0
  | 0, B, k, h, e => det_adj h e
  | d + 1, B, k, h, e => by
    have e1 : B = rep (rep B (k + d + 1) (B (k + d + 1))) (k + d + 1 + 1) (B (k + d + 1 + 1)) := by
      rw [rep_self, rep_self]
    rw [e1, det_swap1 (n := n) (k := k + d + 1) (by omega)]
    have q := det_same (n := n) d (B := rep (rep B (k + d + 1) (B (k + d + 1 + 1))) (k + d + 1 + 1) (B (k + d + 1))) (k := k) (by omega) fun r => by
      rw [rep_ne (show k ≠ k + d + 1 + 1 by omega), rep_ne (show k ≠ k + d + 1 by omega), rep_ne (show k + d + 1 ≠ k + d + 1 + 1 by omega), rep_at]
      exact e r
    rw [q]
    rfl
theorem det_eq0 {n k l : Nat} {B : Nat → Nat → Int} (hk : k < n) (hl : l < n) (hkl : k ≠ l) (e : ∀ r, B k r = B l r) : det n B = 0 := by
  rcases Nat.lt_or_gt_of_ne hkl with h | h
  · exact det_same (l - k - 1) (k := k) (by omega) fun r => by
      rw [show k + (l - k - 1) + 1 = l by omega]
      exact e r
  · exact det_same (k - l - 1) (k := l) (by omega) fun r => by
      rw [show l + (k - l - 1) + 1 = k by omega]
      exact (e r).symm
/-- two columns change places -/
theorem det_swap {n k l : Nat} {B : Nat → Nat → Int} {u v : Nat → Int} (hk : k < n) (hl : l < n) (hkl : k ≠ l) : det n (rep (rep B k u) l v) = - det n (rep (rep B k v) l u) := by
  have z : ∀ x : Nat → Int, det n (rep (rep B k x) l x) = 0 := fun x => det_eq0 hk hl hkl fun r => by
    rw [rep_at, rep_ne hkl, rep_at]
  have s1 : det n (rep (rep B k fun r => u r + v r) l fun r => u r + v r) = det n (rep (rep B k u) l fun r => u r + v r) + det n (rep (rep B k v) l fun r => u r + v r) := by
    have c : ∀ x y : Nat → Int, rep (rep B k x) l y = rep (rep B l y) k x := fun x y => rep_comm B x y hkl
    rw [c, c, c]
    exact det_add hk
  rw [z, det_add hl, det_add hl, z, z] at s1
  omega
theorem det_smul {n : Nat} {B : Nat → Nat → Int} {k : Nat} {a : Int} {u : Nat → Int} (h : k < n) : det n (rep B k fun r => a * u r) = a * det n (rep B k u) := by
  have q := det_lin (n := n) (B := B) (k := k) (u := u) (v := u) (a := a) (b := 0) h
  have e : (fun r => a * u r + 0 * u r) = fun r => a * u r := by
    funext r
    omega
  rw [e] at q
  rw [q]
  omega
theorem det_sum {n : Nat} {B : Nat → Nat → Int} {k : Nat} (h : k < n) (a : Nat → Int) (u : Nat → Nat → Int) : ∀ m, det n (rep B k fun r => sm m fun i => a i * u i r) = sm m fun i => a i * det n (rep B k (u i))
  | 0 => by
    have q := det_smul (n := n) (B := B) (k := k) (a := 0) (u := fun _ => 0) h
    have e : (fun r : Nat => sm 0 fun i => a i * u i r) = fun _ => 0 * 0 := rfl
    rw [e, q]
    exact Int.zero_mul _
  | m + 1 => by
    show det n (rep B k fun r => sm m (fun i => a i * u i r) + a m * u m r) = sm m (fun i => a i * det n (rep B k (u i))) + a m * det n (rep B k (u m))
    rw [det_add h, det_sum h a u m, det_smul h]
/-- Cramer's rule: d e = sum of x i B i -/
theorem cramer {n k : Nat} {B : Nat → Nat → Int} {x e : Nat → Int} {d : Int} (h : k < n) (he : ∀ r, r < n → sm n (fun i => x i * B i r) = d * e r) : d * det n (rep B k e) = x k * det n B := by
  rw [← det_smul h]
  have e1 : det n (rep B k fun r => d * e r) = det n (rep B k fun r => sm n fun i => x i * B i r) := det_congr fun c r _ hr => by
    unfold rep
    by_cases hc : c = k
    · rw [if_pos hc, if_pos hc]
      exact (he r hr).symm
    · rw [if_neg hc, if_neg hc]
  rw [e1, det_sum h, sm_single (k := k) h fun i hi hn => ?_]
  · rw [rep_self]
  · rw [det_eq0 h hi (fun z => hn z.symm) fun r => by rw [rep_at, rep_ne hn]]
    exact Int.mul_zero _
/-- columns of which none hangs on the others -/
theorem indep {n : Nat} {B : Nat → Nat → Int} {x : Nat → Int} (hd : det n B ≠ 0) (he : ∀ r, r < n → sm n (fun i => x i * B i r) = 0) : ∀ k, k < n → x k = 0 := fun k hk => by
  have q := cramer (n := n) (k := k) (B := B) (x := x) (e := fun _ => 0) (d := 0) hk fun r hr => by rw [he r hr]; rfl
  rw [Int.zero_mul] at q
  rcases Int.mul_eq_zero.mp q.symm with z | z
  · exact z
  · exact absurd z hd
theorem det_one : ∀ n, det n (fun c r => if c = r then 1 else 0) = 1
  | 0 => rfl
  | n + 1 => by
    unfold det
    rw [sm_single (k := 0) (by omega) fun i _ hi => by
      show sg i * (if 0 = i then 1 else 0) * _ = 0
      rw [if_neg (fun z => hi z.symm), Int.mul_zero, Int.zero_mul]]
    have e : det n (fun c r => if c + 1 = skip 0 r then 1 else 0) = det n (fun c r => if c = r then 1 else 0) := det_congr fun c r _ _ => by
      have q : skip 0 r = r + 1 := rfl
      rw [q]
      by_cases h : c = r
      · rw [if_pos (by omega), if_pos h]
      · rw [if_neg (by omega), if_neg h]
    rw [e, det_one n]
    rfl
def fact : Nat → Nat
  | 0 => 1
  | n + 1 => (n + 1) * fact n
theorem det_bound {b : Nat} : ∀ {n : Nat} {B : Nat → Nat → Int}, (∀ c r, c < n → r < n → (B c r).natAbs ≤ b) → (det n B).natAbs ≤ fact n * b ^ n
  | 0, _, _ => Nat.le_refl 1
  | n + 1, B, h => by
    unfold det
    have q := sm_abs (n := n + 1) (b := b * (fact n * b ^ n)) (f := fun i => sg i * B 0 i * det n fun c r => B (c + 1) (skip i r)) fun i hi => by
      rw [Int.natAbs_mul, Int.natAbs_mul, sg_abs, Nat.one_mul]
      exact Nat.mul_le_mul (h 0 i (by omega) hi) (det_bound (n := n) fun c r hc hr => h _ _ (by omega) (skip_lt hr))
    refine Nat.le_trans q (Nat.le_of_eq ?_)
    show (n + 1) * (b * (fact n * b ^ n)) = (n + 1) * fact n * b ^ (n + 1)
    rw [Nat.pow_succ, Nat.mul_assoc, ← Nat.mul_assoc b, Nat.mul_comm b, Nat.mul_assoc (fact n), Nat.mul_comm b]
/-- one column is bounded by d, the others by b -/
theorem det_bound2 {b d : Nat} (b1 : 1 ≤ b) : ∀ {n k : Nat} {B : Nat → Nat → Int}, (∀ c r, c < n → r < n → c ≠ k → (B c r).natAbs ≤ b) → (∀ r, r < n → (B k r).natAbs ≤ d) → k < n → (det n B).natAbs ≤ fact n * b ^ n * d
  | 0, _, _, _, _, h => absurd h (Nat.not_lt_zero _)
  | n + 1, 0, B, h, hd, _ => by
    unfold det
    have q := sm_abs (n := n + 1) (b := d * (fact n * b ^ n)) (f := fun i => sg i * B 0 i * det n fun c r => B (c + 1) (skip i r)) fun i hi => by
      rw [Int.natAbs_mul, Int.natAbs_mul, sg_abs, Nat.one_mul]
      exact Nat.mul_le_mul (hd i hi) (det_bound (n := n) fun c r hc hr => h _ _ (by omega) (skip_lt hr) (by omega))
    refine Nat.le_trans q ?_
    have e : (n + 1) * (d * (fact n * b ^ n)) = fact (n + 1) * b ^ n * d := by
      show _ = (n + 1) * fact n * b ^ n * d
      rw [Nat.mul_comm d, ← Nat.mul_assoc, ← Nat.mul_assoc]
    rw [e]
    refine Nat.mul_le_mul_right _ (Nat.mul_le_mul_left _ ?_)
    rw [Nat.pow_succ]
    exact Nat.le_mul_of_pos_right _ b1
  | n + 1, k + 1, B, h, hd, hk => by
    unfold det
    have q := sm_abs (n := n + 1) (b := b * (fact n * b ^ n * d)) (f := fun i => sg i * B 0 i * det n fun c r => B (c + 1) (skip i r)) fun i hi => by
      rw [Int.natAbs_mul, Int.natAbs_mul, sg_abs, Nat.one_mul]
      exact Nat.mul_le_mul (h 0 i (by omega) hi (by omega)) (det_bound2 b1 (n := n) (k := k) (fun c r hc hr hn => h _ _ (by omega) (skip_lt hr) (by omega)) (fun r hr => hd _ (skip_lt hr)) (by omega))
    refine Nat.le_trans q (Nat.le_of_eq ?_)
    show (n + 1) * (b * (fact n * b ^ n * d)) = (n + 1) * fact n * b ^ (n + 1) * d
    rw [Nat.pow_succ]
    have e : b * (fact n * b ^ n * d) = fact n * (b ^ n * b) * d := by
      rw [← Nat.mul_assoc, ← Nat.mul_assoc, Nat.mul_comm b, Nat.mul_assoc (fact n), Nat.mul_comm b, Nat.mul_assoc (fact n)]
    rw [e, ← Nat.mul_assoc, ← Nat.mul_assoc]
end La

set_option Elab.async false
namespace La
/-- a tableau: m rows, N columns; T the columns it began with; b its base, D its divisor, L its lines (row, column) -/
structure Inv (m N : Nat) (T : Nat → Nat → Int) (b : Nat → Nat) (D : Int) (L : Nat → Nat → Int) : Prop where
  d0 : 0 < D
  bN : ∀ k, k < m → b k < N
  span : ∀ j, j < N → ∀ r, r < m → sm m (fun k => L k j * T (b k) r) = D * T j r
  dt : (det m fun k => T (b k)).natAbs = D.natAbs
/-- base, lines behind a step -/
def bP (b : Nat → Nat) (at' c : Nat) : Nat → Nat := fun k => if k = at' then c else b k
def LP (L : Nat → Nat → Int) (D : Int) (at' c : Nat) (s : Int) : Nat → Nat → Int := fun k j => if k = at' then s * L at' j else (s * L at' c * L k j - L k c * (s * L at' j)) / D
theorem rep_bP (T : Nat → Nat → Int) (b : Nat → Nat) (at' c : Nat) : (fun k => T (bP b at' c k)) = rep (fun k => T (b k)) at' (T c) := by
  funext k
  unfold bP rep
  by_cases h : k = at'
  · rw [if_pos h, if_pos h]
  · rw [if_neg h, if_neg h]
section
variable {m N : Nat} {T : Nat → Nat → Int} {b : Nat → Nat} {D : Int} {L : Nat → Nat → Int}
theorem Inv.sgn (I : Inv m N T b D L) : ∃ s : Int, (s = 1 ∨ s = -1) ∧ (det m fun k => T (b k)) = s * D := by
  have h := I.dt
  rcases Int.natAbs_eq_natAbs_iff.mp h with e | e
  · exact ⟨1, .inl rfl, by rw [e, Int.one_mul]⟩
  · exact ⟨-1, .inr rfl, by rw [e]; omega⟩
theorem Inv.det0 (I : Inv m N T b D L) : (det m fun k => T (b k)) ≠ 0 := fun z => by
  have h := I.dt
  have := I.d0
  rw [z] at h
  have e : D.natAbs = 0 := h.symm
  omega
/-- what stands in the lines is a determinant -/
theorem Inv.entry (I : Inv m N T b D L) {k j : Nat} (hk : k < m) (hj : j < N) {s : Int} (hs : (det m fun k => T (b k)) = s * D) : det m (rep (fun k => T (b k)) k (T j)) = s * L k j := by
  have q := cramer (n := m) (k := k) (B := fun k => T (b k)) (x := fun k => L k j) (e := T j) (d := D) hk fun r hr => I.span j hj r hr
  rw [hs] at q
  have d0 := I.d0
  have e : D * det m (rep (fun k => T (b k)) k (T j)) = D * (s * L k j) := by rw [q]; grind
  exact Int.eq_of_mul_eq_mul_left (by omega) e
theorem Inv.bound (I : Inv m N T b D L) {c : Nat} (hT : ∀ j r, j < N → r < m → (T j r).natAbs ≤ c) {k j : Nat} (hk : k < m) (hj : j < N) : (L k j).natAbs ≤ fact m * c ^ m := by
  obtain ⟨s, hs, e⟩ := I.sgn
  have q := I.entry hk hj e
  have h := det_bound (n := m) (b := c) (B := rep (fun k => T (b k)) k (T j)) fun x r hx hr => by
    unfold rep
    by_cases z : x = k
    · rw [if_pos z]; exact hT j r hj hr
    · rw [if_neg z]; exact hT _ r (I.bN x hx) hr
  rw [q, Int.natAbs_mul] at h
  have e1 : s.natAbs = 1 := by rcases hs with rfl | rfl <;> rfl
  rw [e1, Nat.one_mul] at h
  exact h
/-- the base's columns are bounded by c, the column that comes in by d -/
theorem Inv.bound2 (I : Inv m N T b D L) {c d : Nat} (c1 : 1 ≤ c) (hT : ∀ k r, k < m → r < m → (T (b k) r).natAbs ≤ c) {k j : Nat} (hk : k < m) (hj : j < N) (hd : ∀ r, r < m → (T j r).natAbs ≤ d) : (L k j).natAbs ≤ fact m * c ^ m * d := by
  obtain ⟨s, hs, e⟩ := I.sgn
  have q := I.entry hk hj e
  have h := det_bound2 (n := m) (b := c) (d := d) (k := k) (B := rep (fun k => T (b k)) k (T j)) c1 (fun x r hx hr hn => by
    rw [rep_ne hn]
    exact hT x r hx hr) (fun r hr => by rw [rep_at]; exact hd r hr) hk
  rw [q, Int.natAbs_mul] at h
  have e1 : s.natAbs = 1 := by rcases hs with rfl | rfl <;> rfl
  rw [e1, Nat.one_mul] at h
  exact h
theorem Inv.boundB (I : Inv m N T b D L) {c : Nat} (hT : ∀ k r, k < m → r < m → (T (b k) r).natAbs ≤ c) : D.natAbs ≤ fact m * c ^ m := by
  rw [← I.dt]
  exact det_bound fun x r hx hr => hT x r hx hr
theorem Inv.boundD (I : Inv m N T b D L) {c : Nat} (hT : ∀ j r, j < N → r < m → (T j r).natAbs ≤ c) : D.natAbs ≤ fact m * c ^ m := by
  rw [← I.dt]
  exact det_bound fun x r hx hr => hT _ r (I.bN x hx) hr
/-- what doesn't change the columns told by the base is nothing -/
theorem Inv.inj (I : Inv m N T b D L) {x y : Nat → Int} (h : ∀ r, r < m → sm m (fun k => x k * T (b k) r) = sm m fun k => y k * T (b k) r) : ∀ k, k < m → x k = y k := fun k hk => by
  have q := indep (n := m) (B := fun k => T (b k)) (x := fun k => x k - y k) I.det0 (fun r hr => by
    have e : sm m (fun k => (x k - y k) * T (b k) r) = sm m (fun k => x k * T (b k) r) - sm m fun k => y k * T (b k) r := by
      rw [← sm_sub]
      exact sm_congr fun i _ => by rw [Int.sub_mul]
    rw [e, h r hr]
    omega) k hk
  omega
/-- the base's own columns -/
theorem Inv.unit (I : Inv m N T b D L) {k i : Nat} (hk : k < m) (hi : i < m) : L k (b i) = if k = i then D else 0 := by
  refine I.inj (x := fun k => L k (b i)) (y := fun k => if k = i then D else 0) (fun r hr => ?_) k hk
  rw [I.span _ (I.bN i hi) r hr]
  rw [sm_single (k := i) hi fun j _ hn => by rw [if_neg hn, Int.zero_mul]]
  rw [if_pos rfl]
theorem Inv.base_inj (I : Inv m N T b D L) {k i : Nat} (hk : k < m) (hi : i < m) (e : b k = b i) : k = i := by
  have h1 := I.unit hk hi
  have h2 := I.unit hi hi
  have d0 := I.d0
  rw [if_pos rfl] at h2
  by_cases z : k = i
  · exact z
  · rw [if_neg z] at h1
    have h3 := I.unit hk hk
    rw [if_pos rfl, e, h1] at h3
    omega
/-- the division goes up -/
theorem Inv.exact (I : Inv m N T b D L) {at' c k j : Nat} {s : Int} (ha : at' < m) (hk : k < m) (hka : k ≠ at') (hc : c < N) (hj : j < N) : D ∣ s * L at' c * L k j - L k c * (s * L at' j) := by
  obtain ⟨σ, hσ, e⟩ := I.sgn
  have d0 := I.d0
  let B := fun k => T (b k)
  have e1 : D * det m (rep (rep B at' (T c)) k (T j)) = σ * (L k j * L at' c - L at' j * L k c) := by
    rw [← det_smul hk]
    have e2 : det m (rep (rep B at' (T c)) k fun r => D * T j r) = det m (rep (rep B at' (T c)) k fun r => sm m fun i => L i j * B i r) := det_congr fun x r _ hr => by
      unfold rep
      by_cases hx : x = k
      · rw [if_pos hx, if_pos hx]
        exact (I.span j hj r hr).symm
      · rw [if_neg hx, if_neg hx]
    rw [e2, det_sum hk]
    rw [sm_two (k := k) (l := at') hk ha hka fun i hi n1 n2 => by
      have z : det m (rep (rep B at' (T c)) k (B i)) = 0 := det_eq0 hk hi (fun z => n1 z.symm) fun r => by
        rw [rep_at, rep_ne n1, rep_ne n2]
      rw [z, Int.mul_zero]]
    have z1 : rep (rep B at' (T c)) k (B k) = rep B at' (T c) := by
      rw [rep_comm _ _ _ (fun z => hka z.symm), rep_self]
    have z2 : det m (rep (rep B at' (T c)) k (B at')) = - det m (rep B k (T c)) := by
      have q := det_swap (n := m) (B := B) (k := at') (l := k) (u := T c) (v := B at') ha hk (fun z => hka z.symm)
      rw [q, rep_self]
    rw [z1, z2, I.entry ha hc e, I.entry hk hc e]
    grind
  have e3 : σ * σ = 1 := by rcases hσ with rfl | rfl <;> rfl
  refine ⟨s * σ * det m (rep (rep B at' (T c)) k (T j)), ?_⟩
  have e4 : D * (s * σ * det m (rep (rep B at' (T c)) k (T j))) = s * σ * (D * det m (rep (rep B at' (T c)) k (T j))) := by grind
  rw [e4, e1]
  grind
theorem Inv.LP_at (I : Inv m N T b D L) {at' c k j : Nat} {s : Int} (ha : at' < m) (hk : k < m) (hka : k ≠ at') (hc : c < N) (hj : j < N) : D * LP L D at' c s k j = s * L at' c * L k j - L k c * (s * L at' j) := by
  unfold LP
  rw [if_neg hka]
  exact Int.mul_ediv_cancel' (I.exact ha hk hka hc hj)
/-- a step keeps it -/
theorem Inv.pivot (I : Inv m N T b D L) {at' c : Nat} {s : Int} (hs : s = 1 ∨ s = -1) (ha : at' < m) (hc : c < N) (hp : 0 < s * L at' c) : Inv m N T (bP b at' c) (s * L at' c) (LP L D at' c s) := by
  have d0 := I.d0
  refine ⟨hp, fun k hk => ?_, fun j hj r hr => ?_, ?_⟩
  · unfold bP
    split
    · exact hc
    · exact I.bN k hk
  · refine Int.eq_of_mul_eq_mul_left (show D ≠ 0 by omega) ?_
    rw [← sm_mul]
    have e1 : sm m (fun k => D * (LP L D at' c s k j * T (bP b at' c k) r)) = sm m (fun k => (s * L at' c * (L k j * T (b k) r) - s * L at' j * (L k c * T (b k) r)) + (if k = at' then D * (s * L at' j * T c r) else 0)) := sm_congr fun k hk => by
      by_cases hka : k = at'
      · subst hka
        unfold LP bP
        rw [if_pos rfl, if_pos rfl, if_pos rfl]
        grind
      · rw [if_neg hka, ← Int.mul_assoc, I.LP_at ha hk hka hc hj]
        unfold bP
        rw [if_neg hka]
        grind
    rw [e1, sm_add, sm_sub, sm_mul, sm_mul, I.span j hj r hr, I.span c hc r hr, sm_single (k := at') ha fun i _ hn => if_neg hn, if_pos rfl]
    grind
  · rw [rep_bP]
    obtain ⟨σ, hσ, e⟩ := I.sgn
    rw [I.entry ha hc e, Int.natAbs_mul, Int.natAbs_mul]
    have h1 : σ.natAbs = 1 := by rcases hσ with rfl | rfl <;> rfl
    have h2 : s.natAbs = 1 := by rcases hs with rfl | rfl <;> rfl
    rw [h1, h2]
end
end La

set_option Elab.async false
set_option maxRecDepth 100000
set_option maxHeartbeats 4000000
set_option exponentiation.threshold 20000
namespace Fk
open PySem L2
/-! ### lowest terms -/
theorem low_parts {a b : Int} (b0 : 0 < b) : ∃ g a' b' : Int, 0 < g ∧ a = g * a' ∧ b = g * b' ∧ 0 < b' ∧ Nat.gcd a'.natAbs b'.natAbs = 1 ∧ lowI a b = (a', b') := by
  have g0 := gcd_pos_int (a := a) b0
  obtain ⟨a', ha⟩ := gcd_dvd_int a b
  obtain ⟨b', hb⟩ := gcd_dvd_int' a b
  refine ⟨(Nat.gcd a.natAbs b.natAbs : Nat), a', b', g0, ha, hb, ?_, ?_, ?_⟩
  · rw [hb] at b0
    exact Int.lt_of_mul_lt_mul_left (by rw [Int.mul_zero]; exact b0) (Int.le_of_lt g0)
  · have e1 : a.natAbs = Nat.gcd a.natAbs b.natAbs * a'.natAbs := by
      have z := congrArg Int.natAbs ha
      rw [Int.natAbs_mul, Int.natAbs_natCast] at z
      exact z
    have e2 : b.natAbs = Nat.gcd a.natAbs b.natAbs * b'.natAbs := by
      have z := congrArg Int.natAbs hb
      rw [Int.natAbs_mul, Int.natAbs_natCast] at z
      exact z
    have gp : 0 < Nat.gcd a.natAbs b.natAbs := by omega
    have e3 : Nat.gcd a.natAbs b.natAbs = Nat.gcd a.natAbs b.natAbs * Nat.gcd a'.natAbs b'.natAbs := by
      rw [← Nat.gcd_mul_left, ← e1, ← e2]
    have : Nat.gcd a.natAbs b.natAbs * 1 = Nat.gcd a.natAbs b.natAbs * Nat.gcd a'.natAbs b'.natAbs := by omega
    exact (Nat.eq_of_mul_eq_mul_left gp this).symm
  · unfold lowI
    generalize hg : ((Nat.gcd a.natAbs b.natAbs : Nat) : Int) = g at *
    have n0 : g ≠ 0 := by omega
    rw [ha, hb, Int.mul_ediv_cancel_left _ n0, Int.mul_ediv_cancel_left _ n0]
theorem low_uniq {a b c d : Int} (b0 : 0 < b) (d0 : 0 < d) (h1 : Nat.gcd a.natAbs b.natAbs = 1) (h2 : Nat.gcd c.natAbs d.natAbs = 1) (h : a * d = c * b) : (a, b) = (c, d) := by
  have e1 : b.natAbs ∣ d.natAbs := by
    refine Nat.Coprime.dvd_of_dvd_mul_left (show Nat.Coprime b.natAbs a.natAbs from (Nat.gcd_comm _ _).trans h1) ⟨c.natAbs, ?_⟩
    have z := congrArg Int.natAbs h
    rw [Int.natAbs_mul, Int.natAbs_mul] at z
    rw [z, Nat.mul_comm]
  have e2 : d.natAbs ∣ b.natAbs := by
    refine Nat.Coprime.dvd_of_dvd_mul_left (show Nat.Coprime d.natAbs c.natAbs from (Nat.gcd_comm _ _).trans h2) ⟨a.natAbs, ?_⟩
    have z := congrArg Int.natAbs h
    rw [Int.natAbs_mul, Int.natAbs_mul] at z
    rw [← z, Nat.mul_comm]
  have e3 := Nat.dvd_antisymm e1 e2
  have e4 : b = d := by omega
  subst e4
  have e5 : a = c := Int.eq_of_mul_eq_mul_right (by omega) h
  rw [e5]
theorem low_eq {a b c d : Int} (b0 : 0 < b) (d0 : 0 < d) (h : a * d = c * b) : lowI a b = lowI c d := by
  obtain ⟨g, a', b', g0, ha, hb, b1, c1, e1⟩ := low_parts (a := a) b0
  obtain ⟨k, c', d', k0, hc, hd, d1, c2, e2⟩ := low_parts (a := c) d0
  rw [e1, e2]
  refine low_uniq b1 d1 c1 c2 ?_
  have z : (g * k) * (a' * d') = (g * k) * (c' * b') := by
    have z1 : g * a' * (k * d') = g * k * (a' * d') := by
      rw [Int.mul_assoc, ← Int.mul_assoc a', Int.mul_comm a' k, Int.mul_assoc k, ← Int.mul_assoc]
    have z2 : k * c' * (g * b') = g * k * (c' * b') := by
      rw [Int.mul_assoc, ← Int.mul_assoc c', Int.mul_comm c' g, Int.mul_assoc g, ← Int.mul_assoc, Int.mul_comm k g]
    rw [← z1, ← z2, ← ha, ← hb, ← hc, ← hd]
    exact h
  exact Int.eq_of_mul_eq_mul_left (by have := Int.mul_pos g0 k0; omega) z
theorem low_pos {a b : Int} (b0 : 0 < b) (a0 : 0 < a) : 0 < (lowI a b).1 := by
  obtain ⟨g, a', b', g0, e1, e2, b1, c, e⟩ := low_parts (a := a) b0
  rw [e]
  rw [e1] at a0
  exact Int.lt_of_mul_lt_mul_left (by rw [Int.mul_zero]; exact a0) (Int.le_of_lt g0)
/-- a fraction in lowest terms, told by another -/
theorem low_val {a b : Int} (b0 : 0 < b) : 0 < (lowI a b).2 ∧ (lowI a b).1 * b = a * (lowI a b).2 := by
  obtain ⟨g, a', b', g0, e1, e2, b1, c, e⟩ := low_parts (a := a) b0
  rw [e]
  refine ⟨b1, ?_⟩
  show a' * b = a * b'
  rw [e1, e2]
  ac_rfl
theorem low_bd {A B : Nat} {a b : Int} (b0 : 0 < b) (ha : Bd A a) (hb : Bd B b) : Bd A (lowI a b).1 ∧ Bd B (lowI a b).2 := by
  obtain ⟨g, a', b', g0, e1, e2, b1, c, e⟩ := low_parts (a := a) b0
  rw [e]
  have na : a'.natAbs ≤ a.natAbs := by
    rw [e1, Int.natAbs_mul]
    exact Nat.le_mul_of_pos_left _ (by omega)
  have nb : b'.natAbs ≤ b.natAbs := by
    rw [e2, Int.natAbs_mul]
    exact Nat.le_mul_of_pos_left _ (by omega)
  exact ⟨Nat.lt_of_le_of_lt na ha, Nat.lt_of_le_of_lt nb hb⟩
/-- what a pair needs to be reckoned with -/
def Fine (B : Nat) (x : Int × Int) : Prop := 0 < x.2 ∧ Bd B x.1 ∧ Bd B x.2
def timF (x y : Int × Int) : Int × Int := lowI (x.1 * y.1) (x.2 * y.2)
def pluF (x y : Int × Int) : Int × Int := lowI (x.1 * y.2 + y.1 * x.2) (x.2 * y.2)
/-! ### pairs as rational numbers -/
def qv (x : Int × Int) : Rat := (x.1 : Rat) / (x.2 : Rat)
structure Red (x : Int × Int) : Prop where
  p : 0 < x.2
  g : Nat.gcd x.1.natAbs x.2.natAbs = 1
theorem Fit.red {a b : Nat} {x : Int × Int} (h : Fit a b x) : Red x := ⟨h.p, h.g⟩
theorem cast_ne {b : Int} (h : 0 < b) : (b : Rat) ≠ 0 := by
  have : b ≠ 0 := by omega
  exact_mod_cast this
theorem cast_pos {b : Int} (h : 0 < b) : (0 : Rat) < (b : Rat) := by exact_mod_cast h
theorem qv_mul {x : Int × Int} (h : 0 < x.2) : qv x * (x.2 : Rat) = (x.1 : Rat) := by
  have := cast_ne h
  unfold qv
  grind
theorem low_red {a b : Int} (b0 : 0 < b) : Red (lowI a b) := by
  obtain ⟨g, a', b', g0, ha, hb, b1, c1, e1⟩ := low_parts (a := a) b0
  rw [e1]
  exact ⟨b1, c1⟩
theorem qv_low {a b : Int} (b0 : 0 < b) : qv (lowI a b) = (a : Rat) / (b : Rat) := by
  obtain ⟨h1, h2⟩ := low_val (a := a) b0
  have n1 := cast_ne h1
  have n2 := cast_ne b0
  have e : ((lowI a b).1 : Rat) * (b : Rat) = (a : Rat) * ((lowI a b).2 : Rat) := by exact_mod_cast h2
  unfold qv
  grind
theorem qv_inj {x y : Int × Int} (hx : Red x) (hy : Red y) (h : qv x = qv y) : x = y := by
  have n1 := cast_ne hx.p
  have n2 := cast_ne hy.p
  have e : (x.1 : Rat) * (y.2 : Rat) = (y.1 : Rat) * (x.2 : Rat) := by
    unfold qv at h
    grind
  have e2 : x.1 * y.2 = y.1 * x.2 := by exact_mod_cast e
  exact low_uniq hx.p hy.p hx.g hy.g e2
theorem qv_neg {x : Int × Int} (h : 0 < x.2) : x.1 < 0 ↔ qv x < 0 := by
  have q := qv_mul h
  have p := cast_pos h
  constructor
  · intro z
    have z' : (x.1 : Rat) < 0 := by exact_mod_cast z
    rw [← q] at z'
    exact Rat.not_le.mp fun w => absurd (Rat.mul_nonneg w (Rat.le_of_lt p)) (Rat.not_le.mpr z')
  · intro z
    have z' : qv x * (x.2 : Rat) < 0 := by
      have := Rat.mul_lt_mul_of_pos_right z p
      rwa [Rat.zero_mul] at this
    rw [q] at z'
    exact_mod_cast z'
theorem qv_lt {x y : Int × Int} (hx : 0 < x.2) (hy : 0 < y.2) : x.1 * y.2 < y.1 * x.2 ↔ qv x < qv y := by
  have q1 := qv_mul hx
  have q2 := qv_mul hy
  have p1 := cast_pos hx
  have p2 := cast_pos hy
  have p3 := Rat.mul_pos p1 p2
  have e1 : ((x.1 * y.2 : Int) : Rat) = qv x * ((x.2 : Rat) * (y.2 : Rat)) := by
    rw [Rat.intCast_mul, ← q1]
    grind
  have e2 : ((y.1 * x.2 : Int) : Rat) = qv y * ((x.2 : Rat) * (y.2 : Rat)) := by
    rw [Rat.intCast_mul, ← q2]
    grind
  have e3 : x.1 * y.2 < y.1 * x.2 ↔ ((x.1 * y.2 : Int) : Rat) < ((y.1 * x.2 : Int) : Rat) := by
    constructor
    · intro z
      exact_mod_cast z
    · intro z
      exact_mod_cast z
  rw [e3, e1, e2]
  exact Rat.mul_lt_mul_right p3
theorem qv_plu {x y : Int × Int} (hx : 0 < x.2) (hy : 0 < y.2) : qv (pluF x y) = qv x + qv y := by
  unfold pluF
  rw [qv_low (Int.mul_pos hx hy)]
  have n1 := cast_ne hx
  have n2 := cast_ne hy
  rw [Rat.intCast_add, Rat.intCast_mul, Rat.intCast_mul, Rat.intCast_mul]
  unfold qv
  grind
theorem qv_tim {x y : Int × Int} (hx : 0 < x.2) (hy : 0 < y.2) : qv (timF x y) = qv x * qv y := by
  unfold timF
  rw [qv_low (Int.mul_pos hx hy)]
  have n1 := cast_ne hx
  have n2 := cast_ne hy
  rw [Rat.intCast_mul, Rat.intCast_mul]
  unfold qv
  grind
/-! ### sums -/
def rs : Nat → (Nat → Rat) → Rat
  | 0, _ => 0
  | n + 1, f => rs n f + f n
theorem rs_congr {n : Nat} {f g : Nat → Rat} (h : ∀ i, i < n → f i = g i) : rs n f = rs n g := by
  induction n with
  | zero => rfl
  | succ n ih =>
    show rs n f + f n = rs n g + g n
    rw [ih fun i hi => h i (by omega), h n (by omega)]
theorem rs_cast (n : Nat) (f : Nat → Int) : ((La.sm n f : Int) : Rat) = rs n fun i => (f i : Rat) := by
  induction n with
  | zero => rfl
  | succ n ih =>
    show ((La.sm n f + f n : Int) : Rat) = rs n (fun i => (f i : Rat)) + (f n : Rat)
    rw [Rat.intCast_add, ih]
theorem rs_mul (n : Nat) (a : Rat) (f : Nat → Rat) : rs n (fun i => a * f i) = a * rs n f := by
  induction n with
  | zero => exact (Rat.mul_zero a).symm
  | succ n ih =>
    show rs n (fun i => a * f i) + a * f n = a * (rs n f + f n)
    rw [ih, Rat.mul_add]
theorem rs_add (n : Nat) (f g : Nat → Rat) : rs n (fun i => f i + g i) = rs n f + rs n g := by
  induction n with
  | zero => exact (Rat.add_zero 0).symm
  | succ n ih =>
    show rs n (fun i => f i + g i) + (f n + g n) = (rs n f + f n) + (rs n g + g n)
    rw [ih]
    grind
theorem rs_zero {n : Nat} {f : Nat → Rat} (h : ∀ i, i < n → f i = 0) : rs n f = 0 := by
  induction n with
  | zero => rfl
  | succ n ih =>
    show rs n f + f n = 0
    rw [ih fun i hi => h i (by omega), h n (by omega), Rat.add_zero]
theorem rs_single {n k : Nat} {f : Nat → Rat} (hk : k < n) (h : ∀ i, i < n → i ≠ k → f i = 0) : rs n f = f k := by
  induction n with
  | zero => exact absurd hk (Nat.not_lt_zero _)
  | succ n ih =>
    show rs n f + f n = f k
    by_cases e : k = n
    · subst e
      rw [rs_zero fun i hi => h i (by omega) (by omega), Rat.zero_add]
    · rw [ih (by omega) fun i hi hn => h i (by omega) hn, h n (by omega) (by omega), Rat.add_zero]
theorem rs_comm (n m : Nat) (f : Nat → Nat → Rat) : rs n (fun i => rs m fun j => f i j) = rs m fun j => rs n fun i => f i j := by
  induction n with
  | zero => exact (rs_zero fun _ _ => rfl).symm
  | succ n ih =>
    show rs n (fun i => rs m fun j => f i j) + rs m (fun j => f n j) = _
    rw [ih, ← rs_add]
    rfl
theorem rs_nonneg {n : Nat} {f : Nat → Rat} (h : ∀ i, i < n → 0 ≤ f i) : 0 ≤ rs n f := by
  induction n with
  | zero => exact Rat.le_refl
  | succ n ih => exact Rat.add_nonneg (ih fun i hi => h i (by omega)) (h n (by omega))
/-! ### the promise's own dot -/
def dotT (xs ys : List (Int × Int)) : Nat → Int × Int
  | 0 => (0, 1)
  | k + 1 => pluF (dotT xs ys k) (timF (gp xs k) (gp ys k))
theorem tim_red {x y : Int × Int} (hx : 0 < x.2) (hy : 0 < y.2) : Red (timF x y) := low_red (Int.mul_pos hx hy)
theorem dot_red {xs ys : List (Int × Int)} : ∀ {k : Nat}, (∀ i, i < k → 0 < (gp xs i).2 ∧ 0 < (gp ys i).2) → Red (dotT xs ys k)
  | 0, _ => ⟨by show (0 : Int) < 1; decide, by show Nat.gcd 0 1 = 1; decide⟩
  | k + 1, h => by
    have ih := dot_red (k := k) fun i hi => h i (by omega)
    obtain ⟨h1, h2⟩ := h k (by omega)
    exact low_red (Int.mul_pos ih.p (tim_red h1 h2).p)
theorem dot_qv {xs ys : List (Int × Int)} : ∀ {k : Nat}, (∀ i, i < k → 0 < (gp xs i).2 ∧ 0 < (gp ys i).2) → qv (dotT xs ys k) = rs k fun i => qv (gp xs i) * qv (gp ys i)
  | 0, _ => by
    unfold dotT rs qv
    grind
  | k + 1, h => by
    have ih := dot_qv (k := k) fun i hi => h i (by omega)
    have r := dot_red (k := k) fun i hi => h i (by omega)
    obtain ⟨h1, h2⟩ := h k (by omega)
    show qv (pluF _ _) = _
    rw [qv_plu r.p (tim_red h1 h2).p, qv_tim h1 h2, ih]
    rfl
theorem tim_comm (x y : Int × Int) : timF x y = timF y x := by
  unfold timF
  rw [Int.mul_comm x.1, Int.mul_comm x.2]
theorem dot_comm (xs ys : List (Int × Int)) : ∀ k, dotT xs ys k = dotT ys xs k
  | 0 => rfl
  | k + 1 => by
    show pluF _ _ = pluF _ _
    rw [dot_comm xs ys k, tim_comm]
/-! ### sizes -/
theorem red_dvd {x : Int × Int} {M N : Int} (h : Red x) (M0 : 0 < M) (e : qv x * (M : Rat) = (N : Rat)) : ∃ u : Int, M = x.2 * u ∧ N = x.1 * u ∧ 0 < u := by
  have n1 := cast_ne h.p
  have e1 : (x.1 : Rat) * (M : Rat) = (N : Rat) * (x.2 : Rat) := by
    unfold qv at e
    grind
  have e2 : x.1 * M = N * x.2 := by exact_mod_cast e1
  have d : x.2.natAbs ∣ M.natAbs := by
    refine Nat.Coprime.dvd_of_dvd_mul_left (show Nat.Coprime x.2.natAbs x.1.natAbs from (Nat.gcd_comm _ _).trans h.g) ⟨N.natAbs, ?_⟩
    have z := congrArg Int.natAbs e2
    rw [Int.natAbs_mul, Int.natAbs_mul] at z
    rw [z, Nat.mul_comm]
  obtain ⟨u, hu⟩ := Int.natAbs_dvd_natAbs.mp d
  have p := h.p
  refine ⟨u, hu, ?_, ?_⟩
  · rw [hu] at e2
    have e3 : x.2 * N = x.2 * (x.1 * u) := by
      rw [Int.mul_comm x.2 N, ← e2]
      grind
    exact Int.eq_of_mul_eq_mul_left (by omega) e3
  · rw [hu] at M0
    exact Int.pos_of_mul_pos_right M0 (by omega)
theorem red_bd {A B : Nat} {x : Int × Int} {M N : Int} (h : Red x) (M0 : 0 < M) (e : qv x * (M : Rat) = (N : Rat)) (hN : Bd A N) (hM : Bd B M) : Bd A x.1 ∧ Bd B x.2 := by
  obtain ⟨u, e1, e2, u0⟩ := red_dvd h M0 e
  rw [e1] at hM
  rw [e2] at hN
  unfold Bd at *
  rw [Int.natAbs_mul] at hM hN
  exact ⟨Nat.lt_of_le_of_lt (Nat.le_mul_of_pos_right _ (by omega)) hN, Nat.lt_of_le_of_lt (Nat.le_mul_of_pos_right _ (by omega)) hM⟩
/-- the dot and all on the way to it are small enough -/
structure DotOk (xs ys : List (Int × Int)) (k : Nat) : Prop where
  x : ∀ i, i < k → Fine 6600 (gp xs i)
  y : ∀ i, i < k → Fine 6600 (gp ys i)
  t : ∀ i, i < k → Fine 6600 (timF (gp xs i) (gp ys i))
  d : ∀ i, i ≤ k → Fine 6600 (dotT xs ys i)
theorem DotOk.pos {xs ys : List (Int × Int)} {k : Nat} (h : DotOk xs ys k) : ∀ i, i < k → 0 < (gp xs i).2 ∧ 0 < (gp ys i).2 := fun i hi => ⟨(h.x i hi).1, (h.y i hi).1⟩
theorem DotOk.comm {xs ys : List (Int × Int)} {k : Nat} (h : DotOk xs ys k) : DotOk ys xs k := ⟨h.y, h.x, fun i hi => by rw [tim_comm]; exact h.t i hi, fun i hi => by rw [dot_comm]; exact h.d i hi⟩
theorem dot_ok {xs ys : List (Int × Int)} {k α γ μ : Nat} {M : Int} {P c : Nat → Int} (x : ∀ i, i < k → Fine 6600 (gp xs i)) (y : ∀ i, i < k → Fine 6600 (gp ys i)) (M0 : 0 < M) (hM : Bd μ M)
    (hc : ∀ i, i < k → 0 < c i ∧ Bd γ (c i)) (hP : ∀ i, i < k → Bd α (P i)) (e : ∀ i, i < k → qv (gp xs i) * qv (gp ys i) * ((M * c i : Int) : Rat) = (P i : Rat)) (h1 : α + γ * k + k + 1 ≤ 6600) (h2 : μ + γ * k + γ + 1 ≤ 6600) : DotOk xs ys k := by
  have pos : ∀ i, i < k → 0 < (gp xs i).2 ∧ 0 < (gp ys i).2 := fun i hi => ⟨(x i hi).1, (y i hi).1⟩
  have part : ∀ i, i ≤ k → ∃ N C : Int, 0 < C ∧ Bd (γ * i + 1) C ∧ Bd (α + γ * i + i + 1) N ∧ qv (dotT xs ys i) * ((M * C : Int) : Rat) = (N : Rat) := by
    intro i
    induction i with
    | zero => exact fun _ => ⟨0, 1, by decide, one_bd.mono (by omega), zero_bd _, by
        unfold dotT qv
        grind⟩
    | succ i ih =>
      intro hi
      obtain ⟨N, C, C0, bC, bN, eq⟩ := ih (by omega)
      obtain ⟨c0, bc⟩ := hc i (by omega)
      have ei := e i (by omega)
      refine ⟨N * c i + P i * C, C * c i, Int.mul_pos C0 c0, (bC.mulB bc).mono (by rw [Nat.mul_succ]; omega), ?_, ?_⟩
      · exact (((bN.mulB bc).mono (show _ ≤ α + γ * i + i + 1 + γ by omega)).addB (((hP i (by omega)).mulB bC).mono (show _ ≤ α + γ * i + i + 1 + γ by omega))).mono (by rw [Nat.mul_succ]; omega)
      · have r := dot_red (k := i) fun j hj => pos j (by omega)
        obtain ⟨p1, p2⟩ := pos i (by omega)
        show qv (pluF _ _) * _ = _
        rw [qv_plu r.p (tim_red p1 p2).p, qv_tim p1 p2]
        simp only [Rat.intCast_mul, Rat.intCast_add] at eq ei ⊢
        rw [← eq, ← ei]
        grind
  have le : ∀ i, i ≤ k → γ * i ≤ γ * k := fun i hi => Nat.mul_le_mul_left _ hi
  refine ⟨x, y, fun i hi => ?_, fun i hi => ?_⟩
  · obtain ⟨p1, p2⟩ := pos i hi
    have r := tim_red p1 p2
    obtain ⟨c0, bc⟩ := hc i hi
    obtain ⟨b1, b2⟩ := red_bd r (Int.mul_pos M0 c0) (by rw [qv_tim p1 p2]; exact e i hi) (hP i hi) (hM.mulB bc)
    exact ⟨r.p, b1.mono (by omega), b2.mono (by omega)⟩
  · have r := dot_red (k := i) fun j hj => pos j (by omega)
    obtain ⟨N, C, C0, bC, bN, eq⟩ := part i hi
    have := le i hi
    obtain ⟨b1, b2⟩ := red_bd r (Int.mul_pos M0 C0) eq bN (hM.mulB bC)
    exact ⟨r.p, b1.mono (by omega), b2.mono (by omega)⟩
end Fk

set_option Elab.async false
set_option maxRecDepth 100000
set_option maxHeartbeats 4000000
set_option exponentiation.threshold 20000
namespace Fk
open PySem L2
def colQ (mat : List (List (Int × Int))) (j : Nat) : List (Int × Int) := mat.map fun r => gp r j
theorem gp_map {α : Type} {f : α → Int × Int} {xs : List α} {k : Nat} {x : α} (h : xs[k]? = some x) : gp (xs.map f) k = f x := by
  unfold gp
  rw [List.getD_eq_getElem?_getD, List.getElem?_map, h]
  rfl
theorem colQ_at {mat : List (List (Int × Int))} {j k : Nat} (hk : k < mat.length) : gp (colQ mat j) k = gp (gm mat k) j := gp_map (gm_at hk)
structure AllQ (xs : List (Int × Int)) (L : Nat) : Prop where
  l : xs.length = L
  r : ∀ i, i < L → Red (gp xs i) ∧ Fine 6600 (gp xs i)
theorem qv_zero {x : Int} : qv (0, x) = 0 := by
  unfold qv
  show ((0 : Int) : Rat) / _ = 0
  rw [show ((0 : Int) : Rat) = 0 from rfl]
  grind
theorem qv_one {x : Int} : qv (x, 1) = (x : Rat) := by
  unfold qv
  show (x : Rat) / ((1 : Int) : Rat) = _
  rw [show ((1 : Int) : Rat) = 1 from rfl]
  grind
theorem red_zero : Red (0, 1) := ⟨by decide, by decide⟩
theorem red_one (x : Int) : Red (x, 1) := ⟨by show (0 : Int) < 1; decide, Nat.gcd_one_right _⟩
theorem gp_set {xs : List (Int × Int)} {i k : Nat} {x : Int × Int} (h : i < xs.length) : gp (xs.set i x) k = if k = i then x else gp xs k := by
  unfold gp
  rw [List.getD_eq_getElem?_getD, List.getD_eq_getElem?_getD, List.getElem?_set]
  by_cases e : i = k
  · rw [if_pos e, if_pos e.symm, if_pos h]
    rfl
  · rw [if_neg e, if_neg (fun z => e z.symm)]
theorem gp_rep {x : Int × Int} {n i : Nat} (h : i < n) : gp (List.replicate n x) i = x := by
  unfold gp
  rw [List.getD_eq_getElem?_getD, List.getElem?_replicate, if_pos h]
  rfl
theorem cancel {q r p : Rat} (p0 : p ≠ 0) (e : q * p = r * p) : q = r := by grind
end Fk

set_option Elab.async false
set_option maxRecDepth 100000
set_option maxHeartbeats 4000000
namespace Fk
open PySem PySem.Spec PyProof.Rows L2 RZ
/-! ### zip of two that are lists or tuples, in any mix -/
/-- a list (true) or a tuple (false) -/
def sqB (K : PySem.W.Frag) (k : Bool) (H : Hp) (a : Addr) (xs : List V) : Prop := if k = true then SqL K H a xs else SqT K H a xs
def itB (k : Bool) (h : Heap) (i1 a : Addr) (i : Nat) : Prop := if k = true then h.IsListIter i1 a i else h.IsTupleIter i1 a i
def hpB (k : Bool) (h : Heap) (a : Addr) (items : Array Value) : Prop := if k = true then h.IsList a items else h.IsTuple a items
def obB (k : Bool) (a : Addr) : Obj := if k = true then { cls := .type "list_iterator", data := .fields #[.ref a, .int 0 0] } else { cls := .type "tuple_iterator", data := .fields #[.ref a, .int 0 0] }
theorem SqA.kind {K : PySem.W.Frag} {H : Hp} {a : Addr} {xs : List V} (h : SqA K H a xs) : ∃ k, sqB K k H a xs := by
  rcases h with h | h
  · exact ⟨true, by unfold sqB; exact h⟩
  · exact ⟨false, by unfold sqB; exact h⟩
theorem sqB_any {K : PySem.W.Frag} {k : Bool} {H : Hp} {a : Addr} {xs : List V} (h : sqB K k H a xs) : SqA K H a xs := by
  cases k
  · exact .inr h
  · exact .inl h
theorem sqB_same {K : PySem.W.Frag} {k : Bool} {H H' : Hp} {a : Addr} {xs : List V} (h : sqB K k H a xs) (s : Same H H') : sqB K k H' a xs := by
  cases k
  · exact SqT.same h s
  · exact SqL.same h s
def ItzB (K : PySem.W.Frag) (k l : Bool) (a b : Addr) : It :=
  ⟨fun i H => ∃ (xs ys : List V) (x y : V), sqB K k H a xs ∧ sqB K l H b ys ∧ xs[i]? = some x ∧ ys[i]? = some y,
    fun i H v H' => ∃ T x y, v = .ref T ∧ H T = none ∧ H' = upd H T (.tup [x, y]) ∧ (∀ xs, sqB K k H a xs → xs[i]? = some x) ∧ ∀ ys, sqB K l H b ys → ys[i]? = some y,
    fun i H => ∃ xs ys : List V, sqB K k H a xs ∧ sqB K l H b ys ∧ xs.length = ys.length ∧ i = xs.length⟩
section
variable {X : Cx} {pins : List (Addr × Obj)} {σ : L2.St} {H : Hp} {s : Shared} {a : Addr} {xs ys : List V}
theorem sqB_heap (I : Inv X pins σ H s) {k : Bool} (h : sqB X.K k H a xs) : ∃ its : List Value, Vals xs its ∧ hpB k s.heap a its.toArray := by
  cases k
  · obtain ⟨its, r, p, _⟩ := I.tuple h
    exact ⟨its, r, p⟩
  · obtain ⟨its, r, p, _⟩ := I.list h
    exact ⟨its, r, p.isList⟩
theorem sqB_inj (I : Inv X pins σ H s) {k : Bool} (h : sqB X.K k H a xs) (h' : sqB X.K k H a ys) : xs = ys := by
  cases k
  · exact I.tuple_inj h h'
  · exact I.list_inj h h'
end
theorem itB_at {k : Bool} {h h' : Heap} {i1 a : Addr} {i : Nat} (x : itB k h i1 a i) (hk : ∀ o, h.get? i1 = some o → h'.get? i1 = some o) : itB k h' i1 a i := by
  cases k
  · exact Heap.IsTupleIter.at x fun o e => hk o e
  · exact Heap.IsListIter.at x fun o e => hk o e
theorem itB_obj {k : Bool} {h : Heap} {i1 a : Addr} {i : Nat} (x : itB k h i1 a i) : ∃ o, h.get? i1 = some o ∧ ∀ v, o.data ≠ .cell v := by
  cases k
  · obtain ⟨o, e, _, d⟩ := x
    exact ⟨o, e, fun v q => by rw [d] at q; cases q⟩
  · obtain ⟨o, e, _, d⟩ := x
    exact ⟨o, e, fun v q => by rw [d] at q; cases q⟩
theorem hpB_lt {k : Bool} {h : Heap} {a : Addr} {items : Array Value} (x : hpB k h a items) : a < h.objs.size := by
  cases k
  · obtain ⟨o, e, _⟩ := x
    exact Heap.lt_size e
  · obtain ⟨o, e, _⟩ := x
    exact Heap.lt_size e
theorem itB_draws {k : Bool} {prog : Program} {w : World} {A : Around} (hh : A.handled = none) (it t : Addr) (hne : t ≠ it) (items : Array Value) :
    Draws prog w A it [it, t] items.size (fun i v => items[i]? = some v) (fun i h => itB k h it t i ∧ hpB k h t items) := by
  cases k
  · exact Draws.tuple hh it t hne items
  · exact Draws.list hh it t hne items
theorem itB_begins {k : Bool} (t : Addr) (items : Array Value) : Begins (.ref t) (obB k t) fun h => hpB k h t items := by
  cases k
  · exact begins_tuple t items
  · exact begins_list t items
theorem itB_new {k : Bool} {h : Heap} {i1 a : Addr} (e : h.get? i1 = some (obB k a)) : itB k h i1 a 0 := by
  cases k
  · exact ⟨_, e, rfl, rfl⟩
  · exact ⟨_, e, rfl, rfl⟩
theorem turnB {P : Program} {w : World} {K : PySem.W.Frag} {elts : List Expr} {kk : Nat} {tpos : Pos} {k l : Bool} {a b z TI TO i1 i2 : Addr} (S : ZipSep2 z TI TO i1 i2 [i1, a] [i2, b]) (n1 : a ≠ i1) (n2 : b ≠ i2) :
    Turn P w K (.Tuple elts kk tpos) (ItzB K k l a b) [z, TI, TO, i1, i2] z (fun i h => PySem.IsZip h z TI TO .none ∧ IsTupOf2 h TI (.ref i1) (.ref i2) ∧ (∃ x y, IsTupOf2 h TO x y) ∧ itB k h i1 a i ∧ itB l h i2 b i) where
  mem := by simp
  obj := fun i h st c hc => by
    obtain ⟨hz, hTI, ⟨x, y, hTO⟩, h1, h2⟩ := st
    have e' : c = z ∨ c = TI ∨ c = TO ∨ c = i1 ∨ c = i2 := by simpa using hc
    rcases e' with q | q | q | q | q
    · rw [q]; exact ⟨_, hz, fun v q => nomatch q⟩
    · rw [q]; exact ⟨_, hTI, fun v q => nomatch q⟩
    · rw [q]; exact ⟨_, hTO, fun v q => nomatch q⟩
    · rw [q]; exact itB_obj h1
    · rw [q]; exact itB_obj h2
  keep := fun i h h' st k => by
    obtain ⟨hz, hTI, ⟨x, y, hTO⟩, h1, h2⟩ := st
    exact ⟨k z (by simp) _ hz, k TI (by simp) _ hTI, ⟨x, y, k TO (by simp) _ hTO⟩, itB_at h1 fun o q => k i1 (by simp) o q, itB_at h2 fun o q => k i2 (by simp) o q⟩
  item := by
    intro X hP hw hK hc i pins s σ H E I hf st hg
    subst hP hw hK
    obtain ⟨hz, hTI, ⟨x0, y0, hTO⟩, h1, h2⟩ := st
    obtain ⟨xs, ys, x, y, hqx, hqy, hx, hy⟩ := hg
    obtain ⟨its, rv, p⟩ := sqB_heap I hqx
    obtain ⟨its2, rv2, p2⟩ := sqB_heap I hqy
    obtain ⟨u, hu, ru⟩ := rv.get hx
    obtain ⟨u2, hu2, ru2⟩ := rv2.get hy
    have hzl : z < s.heap.objs.size := Heap.lt_size hz
    have hd : X.A.in1.handled = none := I.ok.hd hc
    refine wpAny_pyNext_zipD2_item S (itB_draws (k := k) hd i1 a n1 its.toArray) (itB_draws (k := l) hd i2 b n2 its2.toArray) hz hTI hTO ⟨h1, p⟩ ⟨h2, p2⟩
      (by have := (List.getElem?_eq_some_iff.mp hu).1; simpa using this) (by have := (List.getElem?_eq_some_iff.mp hu2).1; simpa using this) fun x1 x2 h' tk e1 e2 z' TO' st1 st2 hT hsz hk => ?_
    obtain rfl : x1 = u := by
      have e1' : its[i]? = some x1 := by simpa using e1
      rw [hu] at e1'
      exact (Option.some.inj e1').symm
    obtain rfl : x2 = u2 := by
      have e2' : its2[i]? = some x2 := by simpa using e2
      rw [hu2] at e2'
      exact (Option.some.inj e2').symm
    refine ⟨_, rfl, wpAny_letOwnedTupleGo_zip (s := { s with heap := h', toks := tk }) z' fun h'' z'' sb => ?_⟩
    have hT2 : h''.get? s.heap.objs.size = some { cls := .type "tuple", data := .seq #[x1, x2] } := (sb.2 _ (Nat.ne_of_gt hzl)).trans hT
    have new : ObjOk X.prog X.w (upd H s.heap.objs.size (.tup [x, y])) h'' s.heap.objs.size (.tup [x, y]) :=
      ⟨by show 2 ≤ sizeLine; decide, [x1, x2], .cons ru (.cons ru2 .nil), ⟨_, hT2, rfl, _, rfl⟩⟩
    have I1 : Inv X pins σ (upd H s.heap.objs.size (.tup [x, y])) { s with heap := h'', toks := tk } :=
      I.turnedNew (t' := tk) (ch := [z, TI, TO, i1, i2]) (fun c o hb q => (sb.2 c (fun q' => hb (by simp [q']))).trans (hk c o (fun q' => hb (by simp [q'])) (fun q' => hb (by simp [q'])) (fun q' => hb (by simp [q'])) (fun q' => hb (by simp [q'])) q)) hf (Nat.le_refl _) new
    refine ⟨.ref s.heap.objs.size, _, I1, rfl, ⟨_, x, y, rfl, I.hok.fresh (Nat.le_refl _), rfl, fun l hl => by rw [sqB_inj I hl hqx]; exact hx, fun l hl => by rw [sqB_inj I hl hqy]; exact hy⟩, ⟨z'', ?_, ⟨x1, x2, ?_⟩, ?_, ?_⟩, fun c hcm => ?_⟩
    · exact (sb.2 _ S.TIz).trans (hk _ _ S.TIz S.TITO S.TIi1 S.TIi2 hTI)
    · exact (sb.2 _ S.TOz).trans TO'
    · exact itB_at st1.1 fun o q => (sb.2 _ S.zi1.symm).trans q
    · exact itB_at st2.1 fun o q => (sb.2 _ S.zi2.symm).trans q
    · have hlt : c < s.heap.objs.size := by
        have e' : c = z ∨ c = TI ∨ c = TO ∨ c = i1 ∨ c = i2 := by simpa using hcm
        rcases e' with q | q | q | q | q
        · rw [q]; exact hzl
        · rw [q]; exact Heap.lt_size hTI
        · rw [q]; exact Heap.lt_size hTO
        · rw [q]; obtain ⟨_, e1, _⟩ := itB_obj h1; exact Heap.lt_size e1
        · rw [q]; obtain ⟨_, e2, _⟩ := itB_obj h2; exact Heap.lt_size e2
      rw [upd_ne (Nat.ne_of_lt hlt)]
      exact (hf c hcm).1
  done := by
    intro X hP hw hK hc i pins s σ H E I hf st hg
    subst hP hw hK
    obtain ⟨hz, hTI, ⟨x0, y0, hTO⟩, h1, h2⟩ := st
    obtain ⟨xs, ys, hqx, hqy, hl, hi⟩ := hg
    obtain ⟨its, rv, p⟩ := sqB_heap I hqx
    obtain ⟨its2, rv2, p2⟩ := sqB_heap I hqy
    have l1 := rv.length
    have l2 := rv2.length
    have hd : X.A.in1.handled = none := I.ok.hd hc
    have z1 : its.toArray.size = its.length := by simp
    have z2 : its2.toArray.size = its2.length := by simp
    exact wpAny_pyNext_zipD2_end S (itB_draws (k := k) hd i1 a n1 its.toArray) (itB_draws (k := l) hd i2 b n2 its2.toArray) hz hTI hTO ⟨h1, p⟩ ⟨h2, p2⟩ (by omega) (by omega) (by omega) fun h' tk hk =>
      ⟨rfl, I.turnedL (t' := tk) (ch := [z, TI, TO, i1, i2]) (fun c o hb q =>
        hk c o (fun q' => hb (by simp [q'])) (fun q' => hb (by simp [q'])) (fun q' => hb (by simp [q'])) (fun q' => hb (by simp [q'])) q) hf⟩
  self := fun A i s Q E st h => wpAny_pyIter_zip st.1 h
theorem two_refs {a b : Addr} {us : List Value} (r : Vals [.ref a, .ref b] us) : us = [.ref a, .ref b] := by
  cases r with
  | cons r rr =>
    cases rr with
    | cons r' rr =>
      cases rr
      cases r
      cases r'
      rfl
theorem ne_off {n : Nat} (i j : Nat) (h : i ≠ j) : n + i ≠ n + j := fun e => h (Nat.add_left_cancel e)
theorem zip_sep {n a b : Nat} (h1 : a < n) (h2 : b < n) : ZipSep2 (n + 4) (n + 2) (n + 3) n (n + 1) [n, a] [n + 1, b] where
  TIz := ne_off 2 4 (by decide)
  TOz := ne_off 3 4 (by decide)
  TITO := ne_off 2 3 (by decide)
  TIi1 := ne_off 2 0 (by decide)
  mem1 := List.mem_cons_self
  zf1 := fun h => by
    rcases List.mem_cons.mp h with e | e
    · exact ne_off 4 0 (by decide) e
    · have e := List.mem_singleton.mp e
      exact absurd e (Nat.ne_of_gt (Nat.lt_of_lt_of_le h1 (Nat.le_add_right n 4)))
  Tf1 := fun h => by
    rcases List.mem_cons.mp h with e | e
    · exact ne_off 3 0 (by decide) e
    · have e := List.mem_singleton.mp e
      exact absurd e (Nat.ne_of_gt (Nat.lt_of_lt_of_le h1 (Nat.le_add_right n 3)))
  TIi2 := ne_off 2 1 (by decide)
  mem2 := List.mem_cons_self
  zf2 := fun h => by
    rcases List.mem_cons.mp h with e | e
    · exact ne_off 4 1 (by decide) e
    · have e := List.mem_singleton.mp e
      exact absurd e (Nat.ne_of_gt (Nat.lt_of_lt_of_le h2 (Nat.le_add_right n 4)))
  Tf2 := fun h => by
    rcases List.mem_cons.mp h with e | e
    · exact ne_off 3 1 (by decide) e
    · have e := List.mem_singleton.mp e
      exact absurd e (Nat.ne_of_gt (Nat.lt_of_lt_of_le h2 (Nat.le_add_right n 3)))
  sep1_2 := fun h => by
    rcases List.mem_cons.mp h with e | e
    · exact ne_off 0 1 (by decide) e
    · have e := List.mem_singleton.mp e
      exact absurd e (Nat.ne_of_gt h2)
  sep2_1 := fun h => by
    rcases List.mem_cons.mp h with e | e
    · exact ne_off 1 0 (by decide) e
    · have e := List.mem_singleton.mp e
      exact absurd e (Nat.ne_of_gt (Nat.lt_of_lt_of_le h1 (Nat.le_add_right n 1)))
def iZipB (K : PySem.W.Frag) (ta : TA) : TI := fun σ H R => ta σ H fun vs H1 => ∃ k l a b xs ys, vs = [.ref a, .ref b] ∧ sqB K k H1 a xs ∧ sqB K l H1 b ys ∧ R (ItzB K k l a b) H1
theorem pi_zipB {X : Cx} {e e2 : Expr} {ta : TA} {p pos tpos : Pos} {elts : List Expr} {kk : Nat} (hg : Gl X "zip") (hm : X.mg "zip" = none) (ha : PA X [e, e2] ta)
    (hs : starEach [e, e2] X.env = (false, eval e X.env) :: starEach [e2] X.env := by rfl) (hpl : (backTo pos (starEach [e2] X.env)).any (·.1) = false := by rfl) :
    PI X (.Tuple elts kk tpos) (.Call (.Name "zip" p) [e, e2] [] pos) (iZipB X.K ta) := by
  refine ⟨fun pins s σ H R I h => ?_⟩
  refine Call_ (ld_blt I hg hm PyProof.Rows.boot_zip (PyProof.Rows.callWith_type1 (thn (ha.run pos pins s σ H _ I h) fun us s1 ⟨vs, H1, I1, r1, q1⟩ => ?_) hs hpl))
  obtain ⟨k, l, a, b, xs, ys, ex, hqx, hqy, q⟩ := q1
  subst ex
  have eu := two_refs r1
  subst eu
  obtain ⟨its, rv, p1⟩ := sqB_heap I1 hqx
  obtain ⟨its2, rv2, p2⟩ := sqB_heap I1 hqy
  refine zip_begins2 (itB_begins (k := k) a its.toArray) (itB_begins (k := l) b its2.toArray) p1 p2 fun h' hz hTI hTO g1 g2 hsz hk => wpAny_pyIter_zip hz ?_
  have I2 : Inv X pins σ H1 { s1 with heap := h' } := I1.kept (t' := s1.toks) hk
  have L1 := hpB_lt p1
  have L2 := hpB_lt p2
  refine ⟨s1.heap.objs.size + 4, [s1.heap.objs.size + 4, s1.heap.objs.size + 2, s1.heap.objs.size + 3, s1.heap.objs.size, s1.heap.objs.size + 1], _, _, H1, rfl, I2, turnB (zip_sep L1 L2) (Nat.ne_of_lt L1) (Nat.ne_of_lt (Nat.lt_succ_of_lt L2)), ⟨hz, hTI, ⟨_, _, hTO⟩, itB_new g1, itB_new g2⟩, fun c hcm => ?_, q⟩
  have e' : c = s1.heap.objs.size + 4 ∨ c = s1.heap.objs.size + 2 ∨ c = s1.heap.objs.size + 3 ∨ c = s1.heap.objs.size ∨ c = s1.heap.objs.size + 1 := by simpa using hcm
  have hle : s1.heap.objs.size ≤ c := by
    rcases e' with z | z | z | z | z <;> rw [z] <;> first | exact Nat.le_add_right _ _ | exact Nat.le_refl _
  exact I1.fpOk hle (I1.hok.fresh hle)
theorem pi_zipBK {X : Cx} {K : PySem.W.Frag} (hK : X.K = K) {e e2 : Expr} {ta : TA} {p pos tpos : Pos} {elts : List Expr} {kk : Nat} (hg : Gl X "zip") (hm : X.mg "zip" = none) (ha : PA X [e, e2] ta)
    (hs : starEach [e, e2] X.env = (false, eval e X.env) :: starEach [e2] X.env := by rfl) (hpl : (backTo pos (starEach [e2] X.env)).any (·.1) = false := by rfl) :
    PI X (.Tuple elts kk tpos) (.Call (.Name "zip" p) [e, e2] [] pos) (iZipB K ta) := hK ▸ pi_zipB hg hm ha hs hpl
/-- a loop over both, of one length -/
theorem for_zipB {K : PySem.W.Frag} {k l : Bool} {a b : Addr} {xs ys : List V} {g : TG} {tb : TS} {D : L2.Ends} {σ : L2.St} {H : Hp} (hl : xs.length = ys.length) (Pv : Nat → L2.St → Hp → Prop) (h0 : Pv 0 σ H) (hq : ∀ i σ H, Pv i σ H → sqB K k H a xs ∧ sqB K l H b ys)
    (hs : ∀ (i : Nat) (x y : V) (T : Addr) (σ : L2.St) (H : Hp), xs[i]? = some x → ys[i]? = some y → Pv i σ H → H T = none → g (.ref T) σ (upd H T (.tup [x, y])) fun σ2 H2 => tb { D with nx := Pv (i + 1), ct := Pv (i + 1), bk := D.nx } σ2 H2) (hd : ∀ σ H, Pv xs.length σ H → D.nx σ H) :
    ∃ W : Nat → Nat → L2.St → Hp → Prop, (∃ m, W 0 m σ H) ∧ ∀ i m σ H, W i m σ H →
      ((ItzB K k l a b).stop i H ∧ D.nx σ H) ∨ ((ItzB K k l a b).go i H ∧ ∃ N : L2.St → Hp → Prop, (∀ σ' H', N σ' H' → ∃ m', m' < m ∧ W (i + 1) m' σ' H') ∧ ∀ v H', (ItzB K k l a b).yld i H v H' → g v σ H' fun σ2 H2 => tb { D with nx := N, ct := N, bk := D.nx } σ2 H2) := by
  refine ⟨fun i m σ H => m = xs.length - i ∧ i ≤ xs.length ∧ Pv i σ H, ⟨xs.length, rfl, Nat.zero_le _, h0⟩, ?_⟩
  rintro i m σ H ⟨rfl, hi, p⟩
  obtain ⟨qx, qy⟩ := hq i σ H p
  by_cases hlt : i < xs.length
  · have hx : xs[i]? = some xs[i] := List.getElem?_eq_getElem hlt
    have hlt2 : i < ys.length := by omega
    have hy : ys[i]? = some ys[i] := List.getElem?_eq_getElem hlt2
    refine .inr ⟨⟨xs, ys, _, _, qx, qy, hx, hy⟩, Pv (i + 1), fun σ' H' p' => ⟨xs.length - (i + 1), by omega, rfl, hlt, p'⟩, fun v H' y => ?_⟩
    obtain ⟨T, x', y', rfl, hT, rfl, f1, f2⟩ := y
    exact hs i x' y' T σ H (f1 xs qx) (f2 ys qy) p hT
  · have e : i = xs.length := by omega
    subst e
    exact .inl ⟨⟨xs, ys, qx, qy, hl, rfl⟩, hd σ H p⟩
end Fk

set_option Elab.async false
set_option maxRecDepth 100000
set_option maxHeartbeats 4000000
set_option exponentiation.threshold 20000
namespace Fk
open PySem L2
/-! ### the promise's own sums -/
abbrev psQ : List Str := ["_law_top", "_law_bottom"]
def spQ : Sp := fun vs H Q _ => ∃ (a b : Int), vs = [.int a, .int b] ∧ 0 < b ∧ a.natAbs < 2 ^ 13400 ∧ b.natAbs < 2 ^ 13400 ∧ ∀ p H', Same H H' → RatAt H' p (lowI a b) → Q (.ref p) H'
theorem low_lw {a b : Int} (b0 : 0 < b) (ha : Bd 130 a) (hb : Bd 60 b) : Lw (lowI a b) := by
  obtain ⟨g, a', b', g0, e1, e2, b1, c, e⟩ := low_parts (a := a) b0
  rw [e]
  have na : a'.natAbs ≤ a.natAbs := by
    rw [e1, Int.natAbs_mul]
    exact Nat.le_mul_of_pos_left _ (by omega)
  have nb : b'.natAbs ≤ b.natAbs := by
    rw [e2, Int.natAbs_mul]
    exact Nat.le_mul_of_pos_left _ (by omega)
  exact ⟨b1, c, Nat.lt_of_le_of_lt na ha, Nat.lt_of_le_of_lt nb hb⟩
abbrev sPlus : Stmt := top 26
abbrev sTimes : Stmt := top 28
abbrev sLDot : Stmt := top 30
def spTwo (f : Int × Int → Int × Int → Int × Int) : Sp := fun vs H Q _ => ∃ (p q : Addr) (x y : Int × Int), vs = [.ref p, .ref q] ∧ RatAt H p x ∧ RatAt H q y ∧ Fine 6600 x ∧ Fine 6600 y ∧ ∀ r H', Same H H' → RatAt H' r (f x y) → Q (.ref r) H'
section
variable {P : Program} {w : World} {K : PySem.W.Frag} {mg : Str → Option Value} {base : Heap}
theorem scQ : FnScope ["_law_top", "_law_bottom", "_law_by"] psQ (defScope sQ) := ⟨rfl, rfl, rfl, by decide +kernel, rfl, by decide +kernel, by decide +kernel⟩
theorem ok_q {f fG : Addr} {fd dG : FuncData} (F : Fun K "_law_q" "_law_q" sQ f fd) (G : Cl P w K mg base "_law_gcd" psGcd 1 spGcd fG dG) : FnOk P w K mg base CX0 2 f fd psQ spQ := by
  refine F.ok scQ (fun vs H Q E h => ?_) (fun cdv A outer s H vs Q E hr h => ?_)
  · obtain ⟨a, b, rfl, _⟩ := h
    rfl
  · obtain ⟨a, b, rfl, b0, a1, b1, k⟩ := h
    refine ⟨_, pss_cons (ps_set (i := 2) scQ.nd rfl (Or.inl rfl) (pe_call G.G hr (by rfl) G.g G.kp G.b .nil pass0 (pa_cons (pv 0) (pa_cons (pv 1) pa_nil))))
      (pss_cons (ps_if (pt_cmpR op_lt (pv 1) pe_int (nomark _)) (pss_one (ps_set (i := 2) scQ.nd rfl (Or.inl rfl) (pe_un un_neg (pv 2)))) pss_nil)
      (pss_one (ps_ret (pe_tup (pa_cons (pe_op op_fdivB (pv 0) (pv 2)) (pa_cons (pe_op op_fdivB (pv 1) (pv 2)) pa_nil)))))), ?_⟩
    have g0 : (0 : Int) < (Nat.gcd a.natAbs b.natAbs : Nat) := gcd_pos_int b0
    refine ⟨_, rfl, _, rfl, a, b, rfl, a1, b1, ?_⟩
    refine ⟨_, rfl, _, _, rfl, rfl, _, rfl, ite2 (fun h => absurd (of_decide_eq_true h) (by omega)) (fun _ => ?_)⟩
    exact ⟨_, rfl, _, rfl, _, _, rfl, rfl, ⟨g0, a1⟩, _, rfl, _, rfl, _, _, rfl, rfl, ⟨g0, b1⟩, by show 2 ≤ sizeLine; decide, fun p hp => k p _ (same_new hp) upd_same⟩
abbrev psOT : List Str := ["_law_one", "_law_two"]
theorem scPlus : FnScope psOT psOT (defScope sPlus) := ⟨rfl, rfl, rfl, by decide +kernel, rfl, by decide +kernel, by decide +kernel⟩
theorem scTimes : FnScope psOT psOT (defScope sTimes) := ⟨rfl, rfl, rfl, by decide +kernel, rfl, by decide +kernel, by decide +kernel⟩
theorem ok_plus {f fQ : Addr} {fd dQ : FuncData} (F : Fun K "_law_plus" "_law_plus" sPlus f fd) (L : Cl P w K mg base "_law_q" psQ 2 spQ fQ dQ) : FnOk P w K mg base CX0 3 f fd psOT (spTwo pluF) := by
  refine F.ok scPlus (fun vs H Q E h => ?_) (fun cdv A outer s H vs Q E hr h => ?_)
  · obtain ⟨p, q, x, y, rfl, _⟩ := h
    rfl
  · obtain ⟨p, q, x, y, rfl, hp, hq, ⟨x0, x1, x2⟩, ⟨y0, y1, y2⟩, k⟩ := h
    refine ⟨_, pss_one (ps_ret (pe_call L.G hr (by rfl) L.g L.kp L.b .nil pass0 (pa_cons (pe_op op_add (pe_op op_mulW (pe_ix ix_tup (pv 0) pe_int (fun _ _ => rfl)) (pe_ix ix_tup (pv 1) pe_int (fun _ _ => rfl))) (pe_op op_mulW (pe_ix ix_tup (pv 1) pe_int (fun _ _ => rfl)) (pe_ix ix_tup (pv 0) pe_int (fun _ _ => rfl))))
      (pa_cons (pe_op op_mulW (pe_ix ix_tup (pv 0) pe_int (fun _ _ => rfl)) (pe_ix ix_tup (pv 1) pe_int (fun _ _ => rfl))) pa_nil)))), ?_⟩
    have a5 : 6600 ≤ 200000 := by decide
    refine ⟨_, rfl, p, _, 0, _, rfl, rfl, .inl (.inl hp), rfl, _, rfl, q, _, 1, _, rfl, rfl, .inl (.inl hq), rfl, _, _, rfl, rfl, Bd.mul x1 y2 a5 a5, _, rfl, q, _, 0, _, rfl, rfl, .inl (.inl hq), rfl, _, rfl, p, _, 1, _, rfl, rfl, .inl (.inl hp), rfl, _, _, rfl, rfl, Bd.mul y1 x2 a5 a5, _, _, rfl, rfl, ?_⟩
    exact ⟨_, rfl, p, _, 1, _, rfl, rfl, .inl (.inl hp), rfl, _, rfl, q, _, 1, _, rfl, rfl, .inl (.inl hq), rfl, _, _, rfl, rfl, Bd.mul x2 y2 a5 a5, _, _, rfl, Int.mul_pos x0 y0, ((x1.mulB y2).addB (y1.mulB x2)).big (by decide), (x2.mulB y2).big (by decide), k⟩
theorem ok_times {f fQ : Addr} {fd dQ : FuncData} (F : Fun K "_law_times" "_law_times" sTimes f fd) (L : Cl P w K mg base "_law_q" psQ 2 spQ fQ dQ) : FnOk P w K mg base CX0 3 f fd psOT (spTwo timF) := by
  refine F.ok scTimes (fun vs H Q E h => ?_) (fun cdv A outer s H vs Q E hr h => ?_)
  · obtain ⟨p, q, x, y, rfl, _⟩ := h
    rfl
  · obtain ⟨p, q, x, y, rfl, hp, hq, ⟨x0, x1, x2⟩, ⟨y0, y1, y2⟩, k⟩ := h
    refine ⟨_, pss_one (ps_ret (pe_call L.G hr (by rfl) L.g L.kp L.b .nil pass0 (pa_cons (pe_op op_mulW (pe_ix ix_tup (pv 0) pe_int (fun _ _ => rfl)) (pe_ix ix_tup (pv 1) pe_int (fun _ _ => rfl)))
      (pa_cons (pe_op op_mulW (pe_ix ix_tup (pv 0) pe_int (fun _ _ => rfl)) (pe_ix ix_tup (pv 1) pe_int (fun _ _ => rfl))) pa_nil)))), ?_⟩
    have a5 : 6600 ≤ 200000 := by decide
    exact ⟨_, rfl, p, _, 0, _, rfl, rfl, .inl (.inl hp), rfl, _, rfl, q, _, 0, _, rfl, rfl, .inl (.inl hq), rfl, _, _, rfl, rfl, Bd.mul x1 y1 a5 a5, _, rfl, p, _, 1, _, rfl, rfl, .inl (.inl hp), rfl, _, rfl, q, _, 1, _, rfl, rfl, .inl (.inl hq), rfl, _, _, rfl, rfl, Bd.mul x2 y2 a5 a5, _, _, rfl, Int.mul_pos x0 y0, (x1.mulB y1).big (by decide), (x2.mulB y2).big (by decide), k⟩
end
/-! ### products of rows -/
abbrev psLDot : List Str := ["_law_row", "_law_other"]
abbrev nsLDot : List Str := ["_law_row", "_law_other", "_law_total", "_law_one", "_law_two"]
def spLDot (K : PySem.W.Frag) : Sp := fun vs H Q _ => ∃ (a b : Addr) (as bs : List Addr) (xs ys : List (Int × Int)), vs = [.ref a, .ref b] ∧ SqA K H a (rv as) ∧ SqA K H b (rv bs) ∧ PairsAt H as xs ∧ PairsAt H bs ys ∧ xs.length = ys.length ∧ DotOk xs ys xs.length ∧
  ∀ p H', Same H H' → RatAt H' p (dotT xs ys xs.length) → Q (.ref p) H'
section
variable {P : Program} {w : World} {K : PySem.W.Frag} {mg : Str → Option Value} {base : Heap}
theorem scLDot : FnScope nsLDot psLDot (defScope sLDot) := ⟨rfl, rfl, rfl, by decide +kernel, rfl, by decide +kernel, by decide +kernel⟩
theorem ok_ldot {f fP fT : Addr} {fd dP dT : FuncData} (F : Fun K "_law_dot" "_law_dot" sLDot f fd) (mz : mg "zip" = none) (Pl : Cl P w K mg base "_law_plus" psOT 3 (spTwo pluF) fP dP) (Ti : Cl P w K mg base "_law_times" psOT 3 (spTwo timF) fT dT) : FnOk P w K mg base CX0 4 f fd psLDot (spLDot K) := by
  refine F.ok scLDot (fun vs H Q E h => ?_) (fun cdv A outer s H vs Q E hr h => ?_)
  · obtain ⟨a, b, as, bs, xs, ys, rfl, _⟩ := h
    rfl
  · obtain ⟨a, b, as, bs, xs, ys, rfl, ha, hb, hxs, hys, hl, ok, k⟩ := h
    refine ⟨_, pss_cons (ps_set (i := 2) scLDot.nd rfl (Or.inl rfl) (pe_tup (pa_cons pe_int (pa_cons pe_int pa_nil))))
      (pss_cons (ps_for PassesOwn.never rfl (pi_zipBK (K := K) rfl (by rfl) mz (pa_cons (pv 0) (pa_cons (pv 1) pa_nil))) (pg_tup (by rfl) (pgs_cons (pg_name (i := 3) scLDot.nd rfl (Or.inl rfl)) (pgs_cons (pg_name (i := 4) scLDot.nd rfl (Or.inl rfl)) pgs_nil)))
        (pss_one (ps_set (i := 2) scLDot.nd rfl (Or.inl rfl) (pe_call Pl.G hr (by rfl) Pl.g Pl.kp Pl.b .nil pass0 (pa_cons (pv 2) (pa_cons (pe_call Ti.G hr (by rfl) Ti.g Ti.kp Ti.b .nil pass0 (pa_cons (pv 3) (pa_cons (pv 4) pa_nil))) pa_nil))))))
      (pss_one (ps_ret (pv 2)))), ?_⟩
    refine ⟨by show 2 ≤ sizeLine; decide, fun t0 ht0 => ?_⟩
    have s0 := same_new (o := .tup [.int 0, .int 1]) ht0
    obtain ⟨ka, qa⟩ := (ha.same s0).kind
    obtain ⟨kb, qb⟩ := (hb.same s0).kind
    have la : (rv as).length = xs.length := by rw [rv_len, hxs.1]
    have lb : (rv bs).length = ys.length := by rw [rv_len, hys.1]
    refine ⟨_, rfl, _, rfl, ka, kb, a, b, _, _, rfl, qa, qb, for_zipB (K := K) (by rw [la, lb, hl]) (fun i σ H' => Same (upd H t0 (.tup [.int 0, .int 1])) H' ∧ ∃ (r : Addr) (v3 v4 : Option V), RatAt H' r (dotT xs ys i) ∧ σ = [some (.ref a), some (.ref b), some (.ref r), v3, v4])
      ⟨Same.refl _, t0, none, none, upd_same, rfl⟩ (fun i σ H' ⟨z, _⟩ => ⟨sqB_same qa z, sqB_same qb z⟩) ?_ ?_⟩
    · rintro i x y T σ H' hx hy ⟨s2, r, v3, v4, hr', rfl⟩ hT
      have z2 := s0.trans s2
      obtain ⟨p, u, rfl, _, hxu, ru⟩ := (hxs.same z2).get hx
      obtain ⟨q, v, rfl, _, hyv, rv'⟩ := (hys.same z2).get hy
      have hi : i < xs.length := (List.getElem?_eq_some_iff.mp hxu).1
      have eu : u = gp xs i := by
        have z := gp_at hi
        rw [hxu] at z
        exact Option.some.inj z
      have ev : v = gp ys i := by
        have z := gp_at (show i < ys.length by omega)
        rw [hyv] at z
        exact Option.some.inj z
      rw [eu] at ru
      rw [ev] at rv'
      have s3 := same_new (o := .tup [.ref p, .ref q]) hT
      refine ⟨T, _, rfl, .inl (.inl upd_same), rfl, _, _, rfl, _, _, rfl, rfl, ?_⟩
      refine ⟨_, rfl, _, rfl, _, rfl, p, q, _, _, rfl, s3 _ _ ru, s3 _ _ rv', ok.x i hi, ok.y i hi, fun t H3 s4 ht => ?_⟩
      refine ⟨r, t, _, _, rfl, (s3.trans s4) _ _ hr', ht, ok.d i (Nat.le_of_lt hi), ok.t i hi, fun t2 H4 s5 ht2 => ?_⟩
      exact ⟨s2.trans (s3.trans (s4.trans s5)), t2, _, _, ht2, rfl⟩
    · rintro σ H' ⟨s2, r, v3, v4, hr', rfl⟩
      rw [la] at hr'
      exact ⟨_, rfl, k r H' (s0.trans s2) hr'⟩
end
end Fk

set_option Elab.async false
set_option maxRecDepth 100000
set_option maxHeartbeats 4000000
set_option exponentiation.threshold 20000
namespace Fk
open PySem L2
/-! ### the promise's own looks -/
theorem op_eqDK {X : Cx} {K : PySem.W.Frag} (hK : X.K = K) (hu : X.A.units + 64 < cLine) : OpR X (compareOp .Eq) (rEqD K) := hK ▸ op_eqD hu
theorem op_neDK {X : Cx} {K : PySem.W.Frag} (hK : X.K = K) (hu : X.A.units + 64 < cLine) : OpR X (compareOp .NotEq) (rNeD K) := hK ▸ op_neD hu
def datP (x : Int × Int) : PyData := .tuple [.int x.1, .int x.2]
theorem dp_rat {K : PySem.W.Frag} {H : Hp} {p : Addr} {x : Int × Int} (h : RatAt H p x) : Dp K H (.ref p) (datP x) := .tup (.inl (.inl h)) (.cons (.int _) (.cons (.int _) .nil))
theorem dp_pairs {K : PySem.W.Frag} {H : Hp} : ∀ {ps : List Addr} {fs : List (Int × Int)}, PairsAt H ps fs → DpAll K H (rv ps) (fs.map datP)
  | [], [], _ => .nil
  | [], _ :: _, h => nomatch h.1
  | _ :: _, [], h => nomatch h.1
  | p :: ps, x :: fs, h => .cons (dp_rat (h.2 0 p x rfl rfl)) (dp_pairs ⟨Nat.succ.inj h.1, fun i q y a b => h.2 (i + 1) q y a b⟩)
theorem dats_lay : ∀ fs : List (Int × Int), PyData.canLayAll0 (fs.map datP) = true
  | [] => rfl
  | x :: fs => by
    rw [List.map_cons]
    show (PyData.canLay0 (datP x) && PyData.canLayAll0 (fs.map datP)) = true
    rw [dats_lay fs]
    rfl
theorem dats_dep : ∀ fs : List (Int × Int), PyData.depthAll (fs.map datP) ≤ 2
  | [] => by decide
  | x :: fs => by
    have ih := dats_dep fs
    rw [List.map_cons]
    simp only [PyData.depthAll, datP, PyData.depth] at ih ⊢
    omega
theorem dats_shaped (fs : List (Int × Int)) : SeqAt.shaped (.list (fs.map datP)) = true := by
  have h := dats_dep fs
  have l := dats_lay fs
  refine Bool.and_eq_true_iff.mpr ⟨l, decide_eq_true ?_⟩
  simp only [PyData.depth]
  omega
theorem dats_refl (fs : List (Int × Int)) : PyData.eqv (.list (fs.map datP)) (.list (fs.map datP)) = true := SeqAt.eqv_refl _ (SeqAt.canLay_of_shaped (dats_shaped fs))
theorem noT {A B : Prop} (h : B) : if false = true then A else B := by
  rw [if_neg (fun z => nomatch z)]
  exact h
abbrev sLWhole : Stmt := top 31
abbrev sLIsR : Stmt := top 32
abbrev sLAre : Stmt := top 33
abbrev psLv : List Str := ["_law_value"]
def spLIsR : Sp := fun vs H Q _ => ∃ (p : Addr) (x : Int × Int), vs = [.ref p] ∧ RatAt H p x ∧ Red x ∧ Fine 6600 x ∧ Q (.bl true) H
abbrev psLAre : List Str := ["_law_values", "_law_many"]
abbrev nsLAre : List Str := ["_law_values", "_law_many", "_law_one"]
def spLAre : Sp := fun vs H Q _ => ∃ (p : Addr) (fs : List (Int × Int)) (L : Nat), vs = [.ref p, .int (L : Nat)] ∧ TupAt H p fs ∧ AllQ fs L ∧ ∀ H', Same H H' → Q (.bl true) H'
theorem PairsAt.gp {H : Hp} {ps : List Addr} {fs : List (Int × Int)} (h : PairsAt H ps fs) {i : Nat} {v : V} (hv : (rv ps)[i]? = some v) : ∃ p, v = .ref p ∧ i < fs.length ∧ RatAt H p (gp fs i) := by
  obtain ⟨p, x, rfl, _, hx, hr⟩ := h.get hv
  have hi : i < fs.length := (List.getElem?_eq_some_iff.mp hx).1
  have e : x = Fk.gp fs i := by
    have z := gp_at hi
    rw [hx] at z
    exact Option.some.inj z
  exact ⟨p, rfl, hi, e ▸ hr⟩
section
variable {P : Program} {w : World} {K : PySem.W.Frag} {mg : Str → Option Value} {base : Heap}
theorem scLWhole : FnScope psLv psLv (defScope sLWhole) := ⟨rfl, rfl, rfl, by decide +kernel, rfl, by decide +kernel, by decide +kernel⟩
theorem ok_lwhole {f : Addr} {fd : FuncData} (F : Fun K "_law_is_whole" "_law_is_whole" sLWhole f fd) (mi : mg "isinstance" = none) (mn : mg "int" = none) (mb : mg "bool" = none) : FnOk P w K mg base CX0 1 f fd psLv (spIsInt K) := by
  refine F.ok scLWhole (fun vs H Q E h => ?_) (fun cdv A outer s H vs Q E hr h => ?_)
  · obtain ⟨i, b, rfl, _⟩ := h
    rfl
  · obtain ⟨v, b, rfl, ⟨ty, b1, b2, ht, k1, k2, rfl⟩, k⟩ := h
    refine ⟨_, pss_one (ps_ret (pe_and (pe_callB call_isi (by rfl) mi (by decide +kernel) (pa_cons (pv 0) (pa_cons (pe_bltn (v := .ty "int") (by rfl) mn (by decide +kernel) rfl) pa_nil)))
      (pe_one (pe_not (pe_callB call_isi (by rfl) mi (by decide +kernel) (pa_cons (pv 0) (pa_cons (pe_bltn (v := .ty "bool") (by rfl) mb (by decide +kernel) rfl) pa_nil))))))), ?_⟩
    refine ⟨_, rfl, v, _, ty, _, b1, rfl, .ty _, ht, k1, b1, rfl, ?_⟩
    cases b1 with
    | false => exact iteF k
    | true => exact iteT ⟨_, rfl, v, _, ty, _, b2, rfl, .ty _, ht, k2, b2, rfl, k⟩
theorem scLIsR : FnScope psLv psLv (defScope sLIsR) := ⟨rfl, rfl, rfl, by decide +kernel, rfl, by decide +kernel, by decide +kernel⟩
theorem ok_lisr {f fI fG : Addr} {fd dI dG : FuncData} (F : Fun K "_law_is_ratio" "_law_is_ratio" sLIsR f fd) (mi : mg "isinstance" = none) (mt : mg "tuple" = none) (ml : mg "len" = none) (I : Cl P w K mg base "_law_is_whole" psLv 1 (spIsInt K) fI dI) (G : Cl P w K mg base "_law_gcd" psGcd 1 spGcd fG dG) : FnOk P w K mg base CX0 2 f fd psLv spLIsR := by
  refine F.ok scLIsR (fun vs H Q E h => ?_) (fun cdv A outer s H vs Q E hr h => ?_)
  · obtain ⟨p, x, rfl, _⟩ := h
    rfl
  · obtain ⟨p, x, rfl, h, hx, ⟨f0, f1, f2⟩, k⟩ := h
    refine ⟨_, pss_cons (ps_if (PW.pt (pw_or (pt_not (pt_val (pe_callB call_isi (by rfl) mi (by decide +kernel) (pa_cons (pv 0) (pa_cons (pe_bltn (v := .ty "tuple") (by rfl) mt (by decide +kernel) rfl) pa_nil)))))
          (pw_or1 (pt_cmpR op_ne (pe_callB call_len_seq (by rfl) ml PySem.boot_len (pa_cons (pv 0) pa_nil)) pe_int (nomark _))))) (pss_one (ps_ret pe_bl)) pss_nil)
      (pss_cons (ps_if (PW.pt (pw_or (pt_not (pt_val (pe_call I.G hr (by rfl) I.g I.kp I.b .nil pass0 (pa_cons (pe_ix ix_tup (pv 0) pe_int (fun _ _ => rfl)) pa_nil))))
          (pw_or (pt_not (pt_val (pe_call I.G hr (by rfl) I.g I.kp I.b .nil pass0 (pa_cons (pe_ix ix_tup (pv 0) pe_int (fun _ _ => rfl)) pa_nil))))
          (pw_or1 (pt_cmpR op_le (pe_ix ix_tup (pv 0) pe_int (fun _ _ => rfl)) pe_int (nomark _)))))) (pss_one (ps_ret pe_bl)) pss_nil)
      (pss_one (ps_ret (pe_cmpR op_eq (pe_call G.G hr (by rfl) G.g G.kp G.b .nil pass0 (pa_cons (pe_ix ix_tup (pv 0) pe_int (fun _ _ => rfl)) (pa_cons (pe_ix ix_tup (pv 0) pe_int (fun _ _ => rfl)) pa_nil))) pe_int (nomark _))))), ?_⟩
    have st : SqT K H p [V.int x.1, V.int x.2] := Or.inl (Or.inl h)
    refine ⟨_, rfl, _, _, _, _, true, rfl, .ty _, .base (.tup h), kit_ty (by decide), true, rfl, iteF ?_⟩
    refine ⟨_, rfl, p, _, rfl, .inr st, rfl, _, rfl, iteF ?_⟩
    refine ⟨_, rfl, p, _, 0, _, rfl, rfl, st, rfl, _, true, rfl, .int K H x.1, true, rfl, iteF ?_⟩
    refine ⟨_, rfl, p, _, 1, _, rfl, rfl, st, rfl, _, true, rfl, .int K H x.2, true, rfl, iteF ?_⟩
    refine ⟨_, rfl, p, _, 1, _, rfl, rfl, st, rfl, _, _, rfl, rfl, _, rfl, ite2 (fun hz => absurd (of_decide_eq_true hz) (by omega)) fun _ => ?_⟩
    refine ⟨_, rfl, p, _, 0, _, rfl, rfl, st, rfl, _, rfl, p, _, 1, _, rfl, rfl, st, rfl, x.1, x.2, rfl, f1.big (by decide), f2.big (by decide), rfl, ?_⟩
    rw [hx.g]
    exact k
theorem scLAre : FnScope nsLAre psLAre (defScope sLAre) := ⟨rfl, rfl, rfl, by decide +kernel, rfl, by decide +kernel, by decide +kernel⟩
theorem ok_lare {f fI : Addr} {fd dI : FuncData} (F : Fun K "_law_are_ratios" "_law_are_ratios" sLAre f fd) (mi : mg "isinstance" = none) (mt : mg "tuple" = none) (ml : mg "len" = none) (I : Cl P w K mg base "_law_is_ratio" psLv 2 spLIsR fI dI) : FnOk P w K mg base CX0 3 f fd psLAre spLAre := by
  refine F.ok scLAre (fun vs H Q E h => ?_) (fun cdv A outer s H vs Q E hr h => ?_)
  · obtain ⟨p, fs, L, rfl, _⟩ := h
    rfl
  · obtain ⟨p, fs, L, rfl, ⟨ps, hp, hps⟩, ⟨hl, hq⟩, k⟩ := h
    refine ⟨_, pss_cons (ps_if (PW.pt (pw_or (pt_not (pt_val (pe_callB call_isi (by rfl) mi (by decide +kernel) (pa_cons (pv 0) (pa_cons (pe_bltn (v := .ty "tuple") (by rfl) mt (by decide +kernel) rfl) pa_nil)))))
          (pw_or1 (pt_cmpR op_ne (pe_callB call_len_seq (by rfl) ml PySem.boot_len (pa_cons (pv 0) pa_nil)) (pv 1) (nomark _))))) (pss_one (ps_ret pe_bl)) pss_nil)
      (pss_one (ps_ret (pe_cmpR (op_eqDK (K := K) rfl hr.units) (pe_lc (own := [("_law_one", 2)]) (g := gName 2) rfl scLAre.nd (pi_anyK (K := K) rfl (pv 0)) (blkOk_by (N := nsLAre) (sc := defScope sLAre) (by decide +kernel)) (fun _ _ _ _ _ => pg_name (i := 2) scLAre.nd rfl (Or.inl rfl))
        (fun _ _ _ _ _ => pts_one (pt_not (pt_val (pe_call I.G hr (by rfl) I.g I.kp I.b .nil pass0 (pa_cons (pv 2) pa_nil))))) (fun _ _ _ _ _ => pv 2)) (pe_lst pa_nil) (nomark _)))), ?_⟩
    have st : SqT K H p (rv ps) := Or.inl (Or.inl hp)
    refine ⟨_, rfl, _, _, _, _, true, rfl, .ty _, .base (.tup hp), kit_ty (by decide), true, rfl, iteF ?_⟩
    have el : (rv ps).length = L := by rw [rv_len, hps.1, hl]
    refine ⟨_, rfl, p, _, rfl, .inr st, _, rfl, by rw [el]; rfl, _, rfl, ?_⟩
    rw [el]
    refine ite2 (fun hz => absurd hz (by simp)) fun _ => ?_
    dsimp only [tNext, tRet, tOp]
    refine lc_any (K := K) (a := p) (xs := rv ps) (H1 := H) (fun P h => ⟨_, rfl, h⟩) (.inr st) fun D hD => ⟨fun i H' => Same (upd H D (.lst [])) H', Same.refl _, fun i H' _ s => (same_new hD).trans s, ?_, ?_⟩
    · rintro i x H' hx s1
      obtain ⟨q, rfl, hi, hr'⟩ := (hps.same ((same_new hD).trans s1)).gp hx
      obtain ⟨q1, q2⟩ := hq i (by omega)
      refine ⟨rfl, ?_⟩
      exact ⟨_, rfl, q, _, rfl, hr', q1, q2, true, rfl, noT s1⟩
    · intro H' s1
      refine ⟨by show 0 ≤ sizeLine; decide, fun u hu => ?_⟩
      have s2 := same_new (o := .lst []) hu
      exact ⟨.list [], .list [], .lst (SqL.of (s2 _ _ (s1 _ _ upd_same))) .nil, .lst (SqL.of upd_same) .nil, rfl, rfl, k _ ((same_new hD).trans (s1.trans s2))⟩
end
end Fk

set_option Elab.async false
set_option maxRecDepth 100000
set_option maxHeartbeats 4000000
set_option exponentiation.threshold 20000
namespace Fk
open PySem L2
/-- a comprehension over both -/
theorem lc_zipB {K : PySem.W.Frag} {k l : Bool} {a b D : Addr} {xs ys : List V} {g : TG} {tt : TT} {te : TE} {vs : List Nat} {σ : L2.St} {H : Hp} {Qd : Hp → Prop} (hl : xs.length = ys.length) (Pv : Nat → Hp → Prop) (h0 : Pv 0 (upd H D (.lst []))) (hq : ∀ i H', Pv i H' → sqB K k H' a xs ∧ sqB K l H' b ys)
    (hs : ∀ (i : Nat) (x y : V) (T : Addr) (H' : Hp), xs[i]? = some x → ys[i]? = some y → Pv i H' → H' T = none → g (.ref T) (wipe σ vs) (upd H' T (.tup [x, y])) fun σ2 H2 => wipe σ2 vs = wipe σ vs ∧ tt σ2 H2 fun b H3 =>
      if b = true then te σ2 H3 fun y H4 => ∃ acc, H4 D = some (.lst acc) ∧ acc.length < sizeLine ∧ Pv (i + 1) (upd H4 D (.lst (acc ++ [y]))) else Pv (i + 1) H3) (hd : ∀ H', Pv xs.length H' → Qd H') :
    ∃ W : Nat → Nat → Hp → Prop, (∃ m, W 0 m (upd H D (.lst []))) ∧ ∀ i m H, W i m H →
      ((ItzB K k l a b).stop i H ∧ Qd H) ∨ ((ItzB K k l a b).go i H ∧ ∃ Nx : Hp → Prop, (∀ H', Nx H' → ∃ m', m' < m ∧ W (i + 1) m' H') ∧ ∀ x H', (ItzB K k l a b).yld i H x H' → g x (wipe σ vs) H' fun σ2 H2 => wipe σ2 vs = wipe σ vs ∧ tt σ2 H2 fun b H3 =>
        if b = true then te σ2 H3 fun y H4 => ∃ acc, H4 D = some (.lst acc) ∧ acc.length < sizeLine ∧ Nx (upd H4 D (.lst (acc ++ [y]))) else Nx H3) := by
  refine ⟨fun i m H => m = xs.length - i ∧ i ≤ xs.length ∧ Pv i H, ⟨xs.length, rfl, Nat.zero_le _, h0⟩, ?_⟩
  rintro i m H ⟨rfl, hi, p⟩
  obtain ⟨qx, qy⟩ := hq i H p
  by_cases hlt : i < xs.length
  · have hx : xs[i]? = some xs[i] := List.getElem?_eq_getElem hlt
    have hlt2 : i < ys.length := by omega
    have hy : ys[i]? = some ys[i] := List.getElem?_eq_getElem hlt2
    refine .inr ⟨⟨xs, ys, _, _, qx, qy, hx, hy⟩, Pv (i + 1), fun H' p' => ⟨xs.length - (i + 1), by omega, rfl, hlt, p'⟩, fun v H' y => ?_⟩
    obtain ⟨T, x', y', rfl, hT, rfl, f1, f2⟩ := y
    exact hs i x' y' T H (f1 xs qx) (f2 ys qy) p hT
  · have e : i = xs.length := by omega
    subst e
    exact .inl ⟨⟨xs, ys, qx, qy, hl, rfl⟩, hd H p⟩
theorem pairs_nil {H : Hp} : PairsAt H [] [] := ⟨rfl, fun i p x hp _ => nomatch hp⟩
/-- one more in a list that a comprehension builds -/
theorem grow {H0 H2 H3 : Hp} {D r : Addr} {qs : List Addr} {fs : List (Int × Int)} {x : Int × Int} (hD : H0 D = none) (s : Same H0 H2) (hq : H2 D = some (.lst (rv qs))) (hQ : PairsAt H2 qs fs) (s3 : Same H2 H3) (hr : RatAt H3 r x) (lt : fs.length ≤ 1000) :
    ∃ acc, H3 D = some (.lst acc) ∧ acc.length < sizeLine ∧ Same H0 (upd H3 D (.lst (acc ++ [.ref r]))) ∧ ∃ qs', (upd H3 D (.lst (acc ++ [.ref r]))) D = some (.lst (rv qs')) ∧ PairsAt (upd H3 D (.lst (acc ++ [.ref r]))) qs' (fs ++ [x]) := by
  refine ⟨rv qs, s3 _ _ hq, by rw [rv_len, hQ.1]; exact small1000 lt, fun b o hb => ?_, qs ++ [r], ?_, (hQ.same s3).add (s3 _ _ hq) hr _⟩
  · rw [upd_ne (ne_of_none hb hD)]
    exact (s.trans s3) _ _ hb
  · rw [upd_same]
    unfold rv
    rw [List.map_append]
    rfl
theorem take_gp {fs : List (Int × Int)} {i : Nat} (h : i < fs.length) : fs.take (i + 1) = fs.take i ++ [gp fs i] := by
  rw [List.take_add_one, gp_at h]
  rfl
theorem RowsAt2.gm {H : Hp} {rs : List Addr} {mat : List (List (Int × Int))} (h : RowsAt2 H rs mat) {i : Nat} {v : V} (hv : (rv rs)[i]? = some v) : ∃ q ps, v = .ref q ∧ i < mat.length ∧ H q = some (.lst (rv ps)) ∧ PairsAt H ps (Fk.gm mat i) := by
  have hi : i < rs.length := by
    have := (List.getElem?_eq_some_iff.mp hv).1
    rwa [rv_len] at this
  have hm : i < mat.length := by rw [← h.1]; exact hi
  have e := List.getElem?_eq_getElem hi
  obtain ⟨ps, h1, h2⟩ := h.2 i _ _ e (gm_at hm)
  refine ⟨rs[i], ps, ?_, hm, h1, h2⟩
  unfold rv at hv
  rw [List.getElem?_map, e] at hv
  exact (Option.some.inj hv).symm
end Fk

set_option Elab.async false
set_option maxRecDepth 100000
set_option maxHeartbeats 4000000
set_option exponentiation.threshold 20000
namespace Fk
open PySem L2
/-! ### what is drawn -/
theorem PenAt.dk {H : Hp} {p l : Addr} {c : Int} (P : PenAt H p l c) : ∃ u, H p = some u ∧ (∀ xs, HO.lst xs ≠ u) ∧ (∀ xs, HO.tup xs ≠ u) ∧ ∀ C dx fs, HO.ins C dx fs ≠ u := by
  obtain ⟨⟨a, d, f, ns, h1, _⟩, _⟩ := P
  exact ⟨_, h1, fun _ z => (nomatch z), fun _ z => (nomatch z), fun _ _ _ z => nomatch z⟩
theorem PenAt.there {H : Hp} {p l : Addr} {c : Int} (P : PenAt H p l c) : ∃ u, H l = some u := by
  obtain ⟨⟨a, d, f, ns, _, h2, _⟩, _⟩ := P
  exact ⟨_, h2⟩
theorem PenAt.set {H : Hp} {p l D : Addr} {c : Int} {o : HO} {xs : List V} (P : PenAt H p l c) (hD : H D = some (.lst xs)) (n : D ≠ l) : PenAt (L2.upd H D o) p l c := by
  obtain ⟨⟨a, d, f, ns, h1, h2, h3⟩, lo⟩ := P
  have nD : D ≠ p := fun e => by
    rw [e, h1] at hD
    cases hD
  exact ⟨⟨a, d, f, ns, by rw [upd_ne nD.symm]; exact h1, by rw [upd_ne n.symm]; exact h2, h3⟩, lo⟩
theorem Keep.lst {H H' : Hp} {p l q : Addr} {c : Int} {xs : List V} (k : Keep p H H') (P : PenAt H p l c) (h : H q = some (.lst xs)) : H' q = some (.lst xs) := by
  obtain ⟨u, h1, h2, _, _⟩ := P.dk
  exact k.there h1 h (h2 _)
theorem Keep.rat {H H' : Hp} {p l q : Addr} {c : Int} {x : Int × Int} (k : Keep p H H') (P : PenAt H p l c) (h : RatAt H q x) : RatAt H' q x := by
  obtain ⟨u, h1, _, h2, _⟩ := P.dk
  exact k.there h1 h (h2 _)
theorem Keep.pairs {H H' : Hp} {p l : Addr} {c : Int} {ps : List Addr} {fs : List (Int × Int)} (k : Keep p H H') (P : PenAt H p l c) (h : PairsAt H ps fs) : PairsAt H' ps fs := ⟨h.1, fun i q x a b => k.rat P (h.2 i q x a b)⟩
theorem new_ne {H : Hp} {p l D : Addr} {c : Int} (P : PenAt H p l c) (h : H D = none) : D ≠ l := fun e => by
  obtain ⟨u, hu⟩ := P.there
  rw [e, hu] at h
  cases h
theorem PenAt.same {H H' : Hp} {p l : Addr} {c : Int} (h : PenAt H p l c) (s : Same H H') : PenAt H' p l c := by
  obtain ⟨⟨a, d, f, ns, h1, h2, h3⟩, lo⟩ := h
  exact ⟨⟨a, d, f, ns, s _ _ h1, s _ _ h2, h3⟩, lo⟩
theorem low_fit {A B : Nat} {a b : Int} (b0 : 0 < b) (ha : Bd A a) (hb : Bd B b) : Fit A B (lowI a b) := by
  have r := low_red (a := a) b0
  have z := low_bd b0 ha hb
  exact ⟨r.p, r.g, z.1, z.2⟩
theorem fig20 {r fg : Int} (h0 : 0 ≤ r) (h : r < 10 ^ fg.toNat) (f : fg ≤ 30) : Bd 100 r := by
  have e : ((10 : Int) ^ fg.toNat) = ((10 ^ fg.toNat : Nat) : Int) := by simp
  rw [e] at h
  have z : (10 : Nat) ^ fg.toNat ≤ 10 ^ 30 := Nat.pow_le_pow_right (by decide) (by omega)
  have z2 : (10 : Nat) ^ 30 < 2 ^ 100 := by decide
  unfold Bd
  omega
theorem fig1 {r fg : Int} (h0 : 0 ≤ r) (h : r < 10 ^ fg.toNat) (f : fg = 1) : Bd 4 r := by
  subst f
  have e : ((10 : Int) ^ (1 : Int).toNat) = 10 := by decide
  rw [e] at h
  have z2 : (10 : Nat) < 2 ^ 4 := by decide
  unfold Bd
  omega
theorem sgn_bd {s r : Int} {A : Nat} (h : s = 1 ∨ s = -1) (hr : Bd A r) : Bd A (s * r) := by
  unfold Bd at *
  rcases h with rfl | rfl
  · rw [Int.one_mul]
    exact hr
  · rw [Int.neg_mul, Int.one_mul, Int.natAbs_neg]
    exact hr
abbrev sLRatio : Stmt := top 34
abbrev sLPassed : Stmt := top 35
def spLRatio : Sp := fun vs H Q _ => ∃ (p l : Addr) (c fg : Int), vs = [.ref p, .int fg] ∧ PenAt H p l c ∧ c < 800000000 ∧ 1 ≤ fg ∧ fg ≤ 30 ∧ ∀ q x c' H', Keep p H H' → PenAt H' p l c' → c ≤ c' → c' ≤ c + 40 → RatAt H' q x → Fit 100 7 x → (fg = 1 → Fit 4 7 x) → Q (.ref q) H'
abbrev psLPassed : List Str := ["_law_pen_here", "_law_ratio_here"]
abbrev nsLPassed : List Str := ["_law_pen_here", "_law_ratio_here", "_law_way", "_law_by"]
def spLPassed : Sp := fun vs H Q _ => ∃ (p l q : Addr) (c : Int) (x : Int × Int), vs = [.ref p, .ref q] ∧ PenAt H p l c ∧ c < 700000000 ∧ RatAt H q x ∧ Fit 600 600 x ∧ ∀ v c' H', Keep p H H' → PenAt H' p l c' → c ≤ c' → c' ≤ c + 2 → Low H' v x.1 x.2 → Q v H'
theorem low_self {H : Hp} {q : Addr} {x : Int × Int} (h : RatAt H q x) (f : Fit 600 600 x) : Low H (.ref q) x.1 x.2 := .inr ⟨q, x.1, x.2, rfl, h, f.p, f.b1.big (by decide), f.b2.big (by decide), by rw [f.g]; simp, by rw [f.g]; simp⟩
theorem low_scaled {H : Hp} {q : Addr} {x : Int × Int} {b : Int} (h : H q = some (.tup [.int (x.1 * b), .int (x.2 * b)])) (f : Fit 600 600 x) (b0 : 0 < b) (bb : Bd 7 b) : Low H (.ref q) x.1 x.2 := by
  have g : (Nat.gcd (x.1 * b).natAbs (x.2 * b).natAbs : Nat) = b.natAbs := by rw [Int.natAbs_mul, Int.natAbs_mul, Nat.gcd_mul_right, f.g, Nat.one_mul]
  have e : ((Nat.gcd (x.1 * b).natAbs (x.2 * b).natAbs : Nat) : Int) = b := by
    rw [g]
    omega
  refine .inr ⟨q, _, _, rfl, h, Int.mul_pos f.p b0, (f.b1.mulB bb).big (by decide), (f.b2.mulB bb).big (by decide), ?_, ?_⟩
  · rw [e, Int.mul_ediv_cancel _ (by omega)]
  · rw [e, Int.mul_ediv_cancel _ (by omega)]
section
variable {P : Program} {w : World} {K : PySem.W.Frag} {mg : Str → Option Value} {base : Heap}
theorem scLRatio : FnScope ["_law_pen_here", "_law_figures", "_law_top", "_law_bottom"] psBig (defScope sLRatio) := ⟨rfl, rfl, rfl, by decide +kernel, rfl, by decide +kernel, by decide +kernel⟩
theorem ok_lratio {f fD fP fB fQ : Addr} {fd dD dP dB dQ : FuncData} (F : Fun K "_law_ratio" "_law_ratio" sLRatio f fd) (D : Cl P w K mg base "_law_draw" psDraw 1 spDraw fD dD) (C : Cl P w K mg base "_law_pick" psPick 2 spPick fP dP) (B : Cl P w K mg base "_law_big" psBig 3 spBig fB dB) (L : Cl P w K mg base "_law_q" psQ 2 spQ fQ dQ) :
    FnOk P w K mg base CX0 4 f fd psBig spLRatio := by
  refine F.ok scLRatio (fun vs H Q E h => ?_) (fun cdv A outer s H vs Q E hr h => ?_)
  · obtain ⟨p, l, c, fg, rfl, _⟩ := h
    rfl
  · obtain ⟨p, l, c, fg, rfl, hp, c1, f1, f2, k⟩ := h
    have hr2 := hr.mono (show 2 ≤ 3 by decide)
    have hr1 := hr.mono (show 1 ≤ 3 by decide)
    refine ⟨_, pss_cons (ps_set (i := 2) scLRatio.nd rfl (Or.inl rfl) (pe_call B.G hr (by rfl) B.g B.kp B.b .nil pass0 (pa_cons (pv 0) (pa_cons (pv 1) pa_nil))))
      (pss_cons (ps_set (i := 3) scLRatio.nd rfl (Or.inl rfl) (pe_call C.G hr2 (by rfl) C.g C.kp C.b .nil pass0 (pa_cons (pv 0) (pa_cons (pe_lst (pa_cons pe_int (pa_cons pe_int (pa_cons pe_int (pa_cons pe_int (pa_cons pe_int (pa_cons pe_int (pa_cons pe_int (pa_cons (pe_op op_add pe_int (pe_call D.G hr1 (by rfl) D.g D.kp D.b .nil pass0 (pa_cons (pv 0) (pa_cons pe_int pa_nil)))) pa_nil))))))))) pa_nil))))
      (pss_one (ps_ret (pe_call L.G hr2 (by rfl) L.g L.kp L.b .nil pass0 (pa_cons (pe_op op_mulW (pe_call C.G hr2 (by rfl) C.g C.kp C.b .nil pass0 (pa_cons (pv 0) (pa_cons (pe_lst (pa_cons pe_int (pa_cons pe_int (pa_cons (pe_un un_neg pe_int) pa_nil)))) pa_nil))) (pv 2)) (pa_cons (pv 3) pa_nil)))))), ?_⟩
    refine ⟨_, rfl, _, rfl, p, l, c, fg, rfl, hp, by omega, f1, by omega, fun r c2 H1 r0 r1 l1 l2 P1 k1 => ?_⟩
    have rb := fig20 r0 r1 f2
    refine ⟨_, rfl, _, rfl, p, l, c2, 97, rfl, P1, by omega, by decide, by decide, fun d H2 d0 d1 P2 k2 => ?_⟩
    refine ⟨_, _, rfl, rfl, by show 8 ≤ sizeLine; decide, fun q hq => ?_⟩
    refine ⟨p, l, q, c2 + 1, _, rfl, P2.upd hq, by omega, upd_same, by show 0 < 8; decide, by show 8 ≤ 1000; decide, fun i x H3 hx P3 k3 => ?_⟩
    obtain ⟨b, rfl, b0, b1⟩ : ∃ b : Int, x = .int b ∧ 0 < b ∧ b ≤ 97 := by
      have hm := List.mem_of_getElem? hx
      simp only [List.mem_cons, List.not_mem_nil, or_false] at hm
      rcases hm with e | e | e | e | e | e | e | e
      · exact ⟨1, e, by decide, by decide⟩
      · exact ⟨1, e, by decide, by decide⟩
      · exact ⟨1, e, by decide, by decide⟩
      · exact ⟨2, e, by decide, by decide⟩
      · exact ⟨3, e, by decide, by decide⟩
      · exact ⟨4, e, by decide, by decide⟩
      · exact ⟨7, e, by decide, by decide⟩
      · exact ⟨1 + d, e, by omega, by omega⟩
    refine ⟨_, rfl, 1, rfl, by show 3 ≤ sizeLine; decide, fun q2 hq2 => ?_⟩
    refine ⟨p, l, q2, c2 + 1 + 1, _, rfl, P3.upd hq2, by omega, upd_same, by show 0 < 3; decide, by show 3 ≤ 1000; decide, fun i2 x2 H4 hx2 P4 k4 => ?_⟩
    obtain ⟨s1, rfl, sb⟩ : ∃ s1 : Int, x2 = .int s1 ∧ (s1 = 1 ∨ s1 = -1) := by
      have hm := List.mem_of_getElem? hx2
      simp only [List.mem_cons, List.not_mem_nil, or_false] at hm
      rcases hm with e | e | e
      · exact ⟨1, e, .inl rfl⟩
      · exact ⟨1, e, .inl rfl⟩
      · exact ⟨-1, e, .inr rfl⟩
    have bb : Bd 7 b := by
      unfold Bd
      have : (2 : Nat) ^ 7 = 128 := by decide
      omega
    have s1b : Bd 1 s1 := by
      rcases sb with rfl | rfl
      · exact one_bd
      · unfold Bd
        decide
    refine ⟨_, rfl, _, _, rfl, rfl, Bd.mul s1b rb (by decide) (by decide), _, rfl, _, b, rfl, b0, ((s1b.mulB rb).big (by decide)), (bb.big (by decide)), fun u H5 s5 hu => ?_⟩
    have k04 : Keep p H H4 := k1.trans (k2.trans ((Keep.new hq).trans (k3.trans ((Keep.new hq2).trans k4))))
    exact k u _ (c2 + 1 + 1 + 1) H5 (k04.trans (Same.keep s5)) (P4.same s5) (by omega) (by omega) hu (low_fit b0 (sgn_bd sb rb) bb) (fun e => low_fit b0 (sgn_bd sb (fig1 r0 r1 e)) bb)
theorem scLPassed : FnScope nsLPassed psLPassed (defScope sLPassed) := ⟨rfl, rfl, rfl, by decide +kernel, rfl, by decide +kernel, by decide +kernel⟩
theorem ok_lpassed {f fD : Addr} {fd dD : FuncData} (F : Fun K "_law_passed" "_law_passed" sLPassed f fd) (D : Cl P w K mg base "_law_draw" psDraw 1 spDraw fD dD) : FnOk P w K mg base CX0 2 f fd psLPassed spLPassed := by
  refine F.ok scLPassed (fun vs H Q E h => ?_) (fun cdv A outer s H vs Q E hr h => ?_)
  · obtain ⟨p, l, q, c, x, rfl, _⟩ := h
    rfl
  · obtain ⟨p, l, q, c, x, rfl, hp, c1, hq, fx, k⟩ := h
    refine ⟨_, pss_cons (ps_set (i := 2) scLPassed.nd rfl (Or.inl rfl) (pe_call D.G hr (by rfl) D.g D.kp D.b .nil pass0 (pa_cons (pv 0) (pa_cons pe_int pa_nil))))
      (C8.pss_cut (ps_if (PW.pt (pw_and (pt_cmpR op_eq (pv 2) pe_int (nomark _)) (pw_and1 (pt_cmpR op_eq (pe_ix ix_tup (pv 1) pe_int (fun _ _ => rfl)) pe_int (nomark _))))) (pss_one (ps_ret (pe_ix ix_tup (pv 1) pe_int (fun _ _ => rfl)))) pss_nil)
      (pss_cons (ps_if (pt_cmpR op_eq (pv 2) pe_int (nomark _)) (pss_cons (ps_set (i := 3) scLPassed.nd rfl (Or.inl rfl) (pe_op op_add pe_int (pe_call D.G hr (by rfl) D.g D.kp D.b .nil pass0 (pa_cons (pv 0) (pa_cons pe_int pa_nil)))))
        (pss_one (ps_ret (pe_tup (pa_cons (pe_op op_mulW (pe_ix ix_tup (pv 1) pe_int (fun _ _ => rfl)) (pv 3)) (pa_cons (pe_op op_mulW (pe_ix ix_tup (pv 1) pe_int (fun _ _ => rfl)) (pv 3)) pa_nil)))))) pss_nil)
      (pss_one (ps_ret (pv 1))))), ?_⟩
    refine ⟨_, rfl, p, l, c, 4, rfl, hp, by omega, by decide, by decide, fun d H1 d0 d1 P1 k1 => ?_⟩
    have hq1 := k1.rat hp hq
    refine ⟨fun σ' H' => σ' = [some (.ref p), some (.ref q), some (.int d), none] ∧ H' = H1, ?_, ?_⟩
    · refine ⟨_, rfl, rfl, _, rfl, ite2 (fun _ => ?_) fun _ => iteF ⟨rfl, rfl⟩⟩
      refine ⟨_, rfl, q, _, 1, _, rfl, rfl, .inl (.inl hq1), rfl, rfl, _, rfl, ite2 (fun e => ?_) fun _ => ⟨rfl, rfl⟩⟩
      have e1 : x.2 = 1 := V.int.inj (of_decide_eq_true e)
      refine ⟨_, rfl, q, _, 0, _, rfl, rfl, .inl (.inl hq1), rfl, ?_⟩
      exact k _ (c + 1) H1 k1 P1 (by omega) (by omega) (.inl ⟨rfl, e1⟩)
    rintro σ' H' ⟨rfl, rfl⟩
    refine ⟨_, rfl, rfl, _, rfl, ite2 (fun _ => ?_) fun _ => ?_⟩
    · refine ⟨_, rfl, p, l, c + 1, 5, rfl, P1, by omega, by decide, by decide, fun e H2 e0 e1 P2 k2 => ?_⟩
      have hq2 := k2.rat P1 hq1
      have eb : Bd 7 (2 + e) := by
        unfold Bd
        have : (2 : Nat) ^ 7 = 128 := by decide
        omega
      refine ⟨_, _, rfl, rfl, ?_⟩
      refine ⟨_, rfl, q, _, 0, _, rfl, rfl, .inl (.inl hq2), rfl, _, rfl, _, _, rfl, rfl, Bd.mul fx.b1 eb (by decide) (by decide), _, rfl, q, _, 1, _, rfl, rfl, .inl (.inl hq2), rfl, _, rfl, _, _, rfl, rfl, Bd.mul fx.b2 eb (by decide) (by decide), by show 2 ≤ sizeLine; decide, fun t ht => ?_⟩
      exact k _ (c + 1 + 1) _ (k1.trans (k2.trans (Keep.new ht))) (P2.upd ht) (by omega) (by omega) (low_scaled upd_same fx (by omega) eb)
    · exact ⟨_, rfl, k _ (c + 1) _ k1 P1 (by omega) (by omega) (low_self hq1 fx)⟩
end
end Fk

set_option Elab.async false
set_option maxRecDepth 100000
set_option maxHeartbeats 8000000
set_option exponentiation.threshold 20000
namespace Fk
open PySem L2
theorem Fit.fine {A B : Nat} {x : Int × Int} (h : Fit A B x) (a : A ≤ 6600) (b : B ≤ 6600) : Fine 6600 x := ⟨h.p, h.b1.mono a, h.b2.mono b⟩
theorem Fit.abs {A B : Nat} {x : Int × Int} (h : Fit A B x) : Fit A B ((x.1.natAbs : Nat), x.2) := ⟨h.p, by simpa using h.g, by have z := h.b1; unfold Bd at *; simpa using z, h.b2⟩
theorem tim_fit {A B C D : Nat} {x y : Int × Int} (hx : Fit A B x) (hy : Fit C D y) : Fit (A + C) (B + D) (timF x y) := low_fit (Int.mul_pos hx.p hy.p) (hx.b1.mulB hy.b1) (hx.b2.mulB hy.b2)
def absQ (x : Int × Int) : Int × Int := ((x.1.natAbs : Nat), x.2)
/-- numbers that a comprehension draws -/
def NumL (p l D : Addr) (H0 : Hp) (c0 : Int) (A B : Nat) (j : Nat) (H' : Hp) : Prop := ∃ (qs : List Addr) (fs : List (Int × Int)) (c' : Int), Keep p H0 H' ∧ PenAt H' p l c' ∧ c0 ≤ c' ∧ c' ≤ c0 + 50 * j ∧ H' D = some (.lst (rv qs)) ∧ PairsAt H' qs fs ∧ fs.length = j ∧ ∀ x ∈ fs, Fit A B x
theorem NumL.start {p l D : Addr} {H0 : Hp} {c0 : Int} {A B : Nat} (P : PenAt H0 p l c0) (hD : H0 D = none) : NumL p l D H0 c0 A B 0 (upd H0 D (.lst [])) := ⟨[], [], c0, Keep.new hD, P.upd hD, by omega, by omega, upd_same, pairs_nil, rfl, fun x h => nomatch h⟩
theorem NumL.step {p l D r : Addr} {H0 H2 H3 : Hp} {c0 c c3 : Int} {A B j : Nat} {qs : List Addr} {fs : List (Int × Int)} {x : Int × Int} (hD : H0 D = none) (nDl : D ≠ l) (k2 : Keep p H0 H2) (P2 : PenAt H2 p l c) (c1 : c0 ≤ c) (c2 : c ≤ c0 + 50 * j) (hq : H2 D = some (.lst (rv qs))) (hQ : PairsAt H2 qs fs) (hl : fs.length = j) (hf : ∀ x ∈ fs, Fit A B x)
    (k3 : Keep p H2 H3) (P3 : PenAt H3 p l c3) (c4 : c ≤ c3) (c5 : c3 ≤ c + 50) (hr : RatAt H3 r x) (fx : Fit A B x) (lt : j ≤ 1000) : ∃ acc, H3 D = some (.lst acc) ∧ acc.length < sizeLine ∧ NumL p l D H0 c0 A B (j + 1) (upd H3 D (.lst (acc ++ [.ref r]))) := by
  have hq3 := k3.lst P2 hq
  refine ⟨rv qs, hq3, by rw [rv_len, hQ.1, hl]; exact small1000 lt, qs ++ [r], fs ++ [x], c3, fun b o nb hb => ?_, P3.set hq3 nDl, by omega, by omega, ?_, (k3.pairs P2 hQ).add hq3 hr _, by rw [List.length_append, hl]; rfl, fun y hy => ?_⟩
  · rw [upd_ne (ne_of_none hb hD)]
    exact (k2.trans k3) _ _ nb hb
  · rw [upd_same]
    unfold rv
    rw [List.map_append]
    rfl
  · rcases List.mem_append.mp hy with z | z
    · exact hf y z
    · rw [List.mem_singleton.mp z]
      exact fx
theorem Keep.rows {H H' : Hp} {p l : Addr} {c : Int} {rs : List Addr} {mat : List (List (Int × Int))} (k : Keep p H H') (P : PenAt H p l c) (h : RowsAt2 H rs mat) : RowsAt2 H' rs mat := by
  obtain ⟨u, h1, h2, h3, _⟩ := P.dk
  exact h.keep k h1 h3 h2
theorem map_take_gp {α : Type} {f : α → Int × Int} {xs : List α} {x : α} {i : Nat} (h : xs[i]? = some x) : (xs.map f).take (i + 1) = (xs.map f).take i ++ [f x] := by
  rw [take_gp (by rw [List.length_map]; exact (List.getElem?_eq_some_iff.mp h).1), gp_map h]
/-! ### what is passed -/
theorem call_tuple_ofK {X : Cx} {K : PySem.W.Frag} (hK : X.K = K) : CallR X (.type "tuple") (fun xs H Q => ∃ p ys, xs = [.ref p] ∧ ((SqL K H p ys ∧ ∀ l, H l = none → Q (.ref l) (upd H l (.tup ys))) ∨ (SqT K H p ys ∧ Q (.ref p) H))) := by
  subst hK
  exact call_tuple_of
def RowsL (H : Hp) (rs : List Addr) (mat : List (List (Int × Int))) : Prop := rs.length = mat.length ∧ ∀ (i : Nat) (p : Addr) (fs : List (Int × Int)), rs[i]? = some p → mat[i]? = some fs → ∃ us, H p = some (.lst us) ∧ PassAt H us fs
def RowsTp (H : Hp) (rs : List Addr) (mat : List (List (Int × Int))) : Prop := rs.length = mat.length ∧ ∀ (i : Nat) (p : Addr) (fs : List (Int × Int)), rs[i]? = some p → mat[i]? = some fs → ∃ us, H p = some (.tup us) ∧ PassAt H us fs
theorem RowsL.same {H H' : Hp} {rs : List Addr} {mat : List (List (Int × Int))} (h : RowsL H rs mat) (s : Same H H') : RowsL H' rs mat := ⟨h.1, fun i p fs a b => by
  obtain ⟨us, h1, h2⟩ := h.2 i p fs a b
  exact ⟨us, s _ _ h1, h2.same s⟩⟩
theorem RowsL.p {K : PySem.W.Frag} {H : Hp} {rs : List Addr} {mat : List (List (Int × Int))} (h : RowsL H rs mat) : RowsP K H rs mat := ⟨h.1, fun i p fs a b => by
  obtain ⟨us, h1, h2⟩ := h.2 i p fs a b
  exact ⟨us, .lst h1, h2⟩⟩
theorem RowsTp.p {K : PySem.W.Frag} {H : Hp} {rs : List Addr} {mat : List (List (Int × Int))} (h : RowsTp H rs mat) : RowsP K H rs mat := ⟨h.1, fun i p fs a b => by
  obtain ⟨us, h1, h2⟩ := h.2 i p fs a b
  exact ⟨us, .tup h1, h2⟩⟩
theorem Keep.pass {H H' : Hp} {p l : Addr} {c : Int} {us : List V} {fs : List (Int × Int)} (k : Keep p H H') (P : PenAt H p l c) (h : PassAt H us fs) : PassAt H' us fs := by
  obtain ⟨u, h1, _, h2, _⟩ := P.dk
  exact h.keep k h1 h2
theorem Keep.rowsL {H H' : Hp} {p l : Addr} {c : Int} {rs : List Addr} {mat : List (List (Int × Int))} (k : Keep p H H') (P : PenAt H p l c) (h : RowsL H rs mat) : RowsL H' rs mat := ⟨h.1, fun i q fs a b => by
  obtain ⟨us, h1, h2⟩ := h.2 i q fs a b
  exact ⟨us, k.lst P h1, k.pass P h2⟩⟩
theorem Low.set {H : Hp} {D : Addr} {v : V} {a b : Int} {xs : List V} (h : Low H v a b) (hD : H D = some (.lst xs)) (o : HO) : Low (upd H D o) v a b := h.keep Keep.upd hD fun _ z => nomatch z
theorem PassAt.add {H : Hp} {D : Addr} {v : V} {us : List V} {fs : List (Int × Int)} {x : Int × Int} {xs : List V} (hD : H D = some (.lst xs)) (h : PassAt H us fs) (hv : Low H v x.1 x.2) (o : HO) : PassAt (upd H D o) (us ++ [v]) (fs ++ [x]) := by
  refine ⟨by rw [List.length_append, List.length_append, h.1]; rfl, fun i y z hy hz => ?_⟩
  by_cases hi : i < us.length
  · rw [List.getElem?_append_left hi] at hy
    rw [List.getElem?_append_left (by rw [← h.1]; exact hi)] at hz
    exact (h.2 i y z hy hz).set hD o
  · have e : i = us.length := by
      have := (List.getElem?_eq_some_iff.mp hy).1
      rw [List.length_append, List.length_singleton] at this
      omega
    rw [e, List.getElem?_append_right (Nat.le_refl _), Nat.sub_self] at hy
    rw [e, h.1, List.getElem?_append_right (Nat.le_refl _), Nat.sub_self] at hz
    cases hy
    cases hz
    exact hv.set hD o
theorem RowsL.add {H : Hp} {D t : Addr} {rs : List Addr} {mat : List (List (Int × Int))} {us : List V} {fs : List (Int × Int)} {xs : List V} (hD : H D = some (.lst xs)) (h : RowsL H rs mat) (nD : D ∉ rs) (ht : H t = some (.lst us)) (hp : PassAt H us fs) (nt : t ≠ D) (o : HO) : RowsL (upd H D o) (rs ++ [t]) (mat ++ [fs]) := by
  have up : ∀ {vs : List V} {gs : List (Int × Int)}, PassAt H vs gs → PassAt (upd H D o) vs gs := fun {vs gs} z => ⟨z.1, fun i v x a b => (z.2 i v x a b).set hD o⟩
  refine ⟨by rw [List.length_append, List.length_append, h.1]; rfl, fun i p gs hp' hg => ?_⟩
  by_cases hi : i < rs.length
  · rw [List.getElem?_append_left hi] at hp'
    rw [List.getElem?_append_left (by rw [← h.1]; exact hi)] at hg
    obtain ⟨vs, z1, z2⟩ := h.2 i p gs hp' hg
    exact ⟨vs, by rw [upd_ne (fun e => nD (by rw [← e]; exact List.mem_of_getElem? hp'))]; exact z1, up z2⟩
  · have e : i = rs.length := by
      have := (List.getElem?_eq_some_iff.mp hp').1
      rw [List.length_append, List.length_singleton] at this
      omega
    rw [e, List.getElem?_append_right (Nat.le_refl _), Nat.sub_self] at hp'
    rw [e, h.1, List.getElem?_append_right (Nat.le_refl _), Nat.sub_self] at hg
    cases hp'
    cases hg
    exact ⟨us, by rw [upd_ne nt]; exact ht, up hp⟩
theorem RowsL.gm {H : Hp} {rs : List Addr} {mat : List (List (Int × Int))} (h : RowsL H rs mat) {i : Nat} {v : V} (hv : (rv rs)[i]? = some v) : ∃ q us, v = .ref q ∧ rs[i]? = some q ∧ i < mat.length ∧ H q = some (.lst us) ∧ PassAt H us (Fk.gm mat i) := by
  have hi : i < rs.length := by
    have := (List.getElem?_eq_some_iff.mp hv).1
    rwa [rv_len] at this
  have hm : i < mat.length := by rw [← h.1]; exact hi
  have e := List.getElem?_eq_getElem hi
  obtain ⟨us, h1, h2⟩ := h.2 i _ _ e (gm_at hm)
  refine ⟨rs[i], us, ?_, e, hm, h1, h2⟩
  unfold rv at hv
  rw [List.getElem?_map, e] at hv
  exact (Option.some.inj hv).symm
/-- values that a comprehension passes -/
def ValL (p l D : Addr) (H0 : Hp) (c0 : Int) (fs : List (Int × Int)) (j : Nat) (H' : Hp) : Prop := ∃ (us : List V) (c' : Int), Keep p H0 H' ∧ PenAt H' p l c' ∧ c0 ≤ c' ∧ c' ≤ c0 + 2 * j ∧ H' D = some (.lst us) ∧ PassAt H' us (fs.take j)
theorem pass_nil {H : Hp} : PassAt H [] [] := ⟨rfl, fun i p x hp _ => nomatch hp⟩
theorem ValL.start {p l D : Addr} {H0 : Hp} {c0 : Int} {fs : List (Int × Int)} (P : PenAt H0 p l c0) (hD : H0 D = none) : ValL p l D H0 c0 fs 0 (upd H0 D (.lst [])) := ⟨[], c0, Keep.new hD, P.upd hD, by omega, by omega, upd_same, pass_nil⟩
theorem ValL.step {p l D : Addr} {H0 H2 H3 : Hp} {c0 c c3 : Int} {j : Nat} {us : List V} {fs : List (Int × Int)} {v : V} (hD : H0 D = none) (nDl : D ≠ l) (k2 : Keep p H0 H2) (P2 : PenAt H2 p l c) (c1 : c0 ≤ c) (c2 : c ≤ c0 + 2 * j) (hq : H2 D = some (.lst us)) (hQ : PassAt H2 us (fs.take j)) (hj : j < fs.length)
    (k3 : Keep p H2 H3) (P3 : PenAt H3 p l c3) (c4 : c ≤ c3) (c5 : c3 ≤ c + 2) (hv : Low H3 v (gp fs j).1 (gp fs j).2) (lt : fs.length ≤ 1000) : ∃ acc, H3 D = some (.lst acc) ∧ acc.length < sizeLine ∧ ValL p l D H0 c0 fs (j + 1) (upd H3 D (.lst (acc ++ [v]))) := by
  have hq3 := k3.lst P2 hq
  refine ⟨us, hq3, by rw [hQ.1, List.length_take]; exact small1000 (by omega), us ++ [v], c3, fun b o nb hb => ?_, P3.set hq3 nDl, by omega, by omega, upd_same, ?_⟩
  · rw [upd_ne (ne_of_none hb hD)]
    exact (k2.trans k3) _ _ nb hb
  · rw [take_gp hj]
    exact (k3.pass P2 hQ).add hq3 hv _
/-- rows that a comprehension passes -/
def PasL (p l D : Addr) (H0 : Hp) (c0 : Int) (mat : List (List (Int × Int))) (j : Nat) (H' : Hp) : Prop := ∃ (cs : List Addr) (c' : Int), Keep p H0 H' ∧ PenAt H' p l c' ∧ c0 ≤ c' ∧ c' ≤ c0 + 20 * j ∧ H' D = some (.lst (rv cs)) ∧ RowsL H' cs (mat.take j) ∧ D ∉ cs
theorem PasL.start {p l D : Addr} {H0 : Hp} {c0 : Int} {mat : List (List (Int × Int))} (P : PenAt H0 p l c0) (hD : H0 D = none) : PasL p l D H0 c0 mat 0 (upd H0 D (.lst [])) := ⟨[], c0, Keep.new hD, P.upd hD, by omega, by omega, upd_same, ⟨rfl, fun i p x hp _ => nomatch hp⟩, fun z => nomatch z⟩
theorem PasL.step {p l D t : Addr} {H0 H2 H3 : Hp} {c0 c c3 : Int} {j : Nat} {cs : List Addr} {us : List V} {mat : List (List (Int × Int))} (hD : H0 D = none) (nDl : D ≠ l) (k2 : Keep p H0 H2) (P2 : PenAt H2 p l c) (c1 : c0 ≤ c) (c2 : c ≤ c0 + 20 * j) (hq : H2 D = some (.lst (rv cs))) (hQ : RowsL H2 cs (mat.take j)) (nD : D ∉ cs) (hj : j < mat.length)
    (k3 : Keep p H2 H3) (P3 : PenAt H3 p l c3) (c4 : c ≤ c3) (c5 : c3 ≤ c + 20) (ht : H3 t = some (.lst us)) (hp : PassAt H3 us (gm mat j)) (nt : t ≠ D) (lt : mat.length ≤ 1000) : ∃ acc, H3 D = some (.lst acc) ∧ acc.length < sizeLine ∧ PasL p l D H0 c0 mat (j + 1) (upd H3 D (.lst (acc ++ [.ref t]))) := by
  have hq3 := k3.lst P2 hq
  refine ⟨rv cs, hq3, by rw [rv_len, hQ.1, List.length_take]; exact small1000 (by omega), cs ++ [t], c3, fun b o nb hb => ?_, P3.set hq3 nDl, by omega, by omega, ?_, ?_, fun z => ?_⟩
  · rw [upd_ne (ne_of_none hb hD)]
    exact (k2.trans k3) _ _ nb hb
  · rw [upd_same]
    unfold rv
    rw [List.map_append]
    rfl
  · have e : mat.take (j + 1) = mat.take j ++ [gm mat j] := by
      rw [List.take_add_one, gm_at hj]
      rfl
    rw [e]
    exact (k3.rowsL P2 hQ).add hq3 nD ht hp nt _
  · rcases List.mem_append.mp z with z | z
    · exact nD z
    · exact nt (List.mem_singleton.mp z).symm
/-! ### data of what is passed -/
theorem low_dp {K : PySem.W.Frag} {H : Hp} {v : V} {a b : Int} (h : Low H v a b) : ∃ d, Dp K H v d ∧ d.canLay0 = true ∧ d.depth ≤ 2 := by
  rcases h with ⟨rfl, _⟩ | ⟨q, c, d, rfl, hq, _⟩
  · exact ⟨.int a, .int a, rfl, by simp only [PyData.depth]; omega⟩
  · exact ⟨datP (c, d), dp_rat hq, rfl, by simp only [PyData.depthAll, datP, PyData.depth]; omega⟩
theorem pass_dp {K : PySem.W.Frag} {H : Hp} : ∀ {us : List V} {fs : List (Int × Int)}, PassAt H us fs → ∃ ds, DpAll K H us ds ∧ PyData.canLayAll0 ds = true ∧ PyData.depthAll ds ≤ 2
  | [], _, _ => ⟨[], .nil, rfl, by decide⟩
  | v :: us, [], h => nomatch h.1
  | v :: us, x :: fs, h => by
    obtain ⟨d, d1, d2, d3⟩ := low_dp (K := K) (h.2 0 v x rfl rfl)
    obtain ⟨ds, e1, e2, e3⟩ := pass_dp (K := K) (us := us) (fs := fs) ⟨Nat.succ.inj h.1, fun i q y a b => h.2 (i + 1) q y a b⟩
    refine ⟨d :: ds, .cons d1 e1, ?_, ?_⟩
    · show (PyData.canLay0 d && PyData.canLayAll0 ds) = true
      rw [d2, e2]
      rfl
    · simp only [PyData.depthAll]
      omega
def Twin (H : Hp) (rs ks : List Addr) : Prop := ks.length = rs.length ∧ ∀ (i : Nat) (p k : Addr), rs[i]? = some p → ks[i]? = some k → ∃ us fs, H p = some (.lst us) ∧ H k = some (.lst us) ∧ PassAt H us fs
theorem Twin.same {H H' : Hp} {rs ks : List Addr} (h : Twin H rs ks) (s : Same H H') : Twin H' rs ks := ⟨h.1, fun i p k a b => by
  obtain ⟨us, fs, h1, h2, h3⟩ := h.2 i p k a b
  exact ⟨us, fs, s _ _ h1, s _ _ h2, h3.same s⟩⟩
theorem twin_dp {K : PySem.W.Frag} {H : Hp} : ∀ {rs ks : List Addr}, Twin H rs ks → ∃ ds, DpAll K H (rv rs) ds ∧ DpAll K H (rv ks) ds ∧ PyData.canLayAll0 ds = true ∧ PyData.depthAll ds ≤ 4
  | [], [], _ => ⟨[], .nil, .nil, rfl, by decide⟩
  | [], k :: ks, h => nomatch h.1
  | p :: rs, [], h => nomatch h.1
  | p :: rs, k :: ks, h => by
    obtain ⟨us, fs, h1, h2, h3⟩ := h.2 0 p k rfl rfl
    obtain ⟨d, d1, d2, d3⟩ := pass_dp (K := K) h3
    obtain ⟨ds, e1, e0, e2, e3⟩ := twin_dp (K := K) (rs := rs) (ks := ks) ⟨Nat.succ.inj h.1, fun i q y a b => h.2 (i + 1) q y a b⟩
    refine ⟨.list d :: ds, .cons (.lst (SqL.of h1) d1) e1, .cons (.lst (SqL.of h2) d1) e0, ?_, ?_⟩
    · show (PyData.canLayAll0 d && PyData.canLayAll0 ds) = true
      rw [d2, e2]
      rfl
    · simp only [PyData.depthAll, PyData.depth]
      omega
/-- what is passed, and what is kept of it, are told by the same data -/
theorem kept_dp {K : PySem.W.Frag} {H : Hp} {T U a b c a' b' c' : Addr} {rs ks : List Addr} {ys zs : List V} {fs gs : List (Int × Int)} (hT : H T = some (.tup [.ref a, .ref b, .ref c])) (hU : H U = some (.tup [.ref a', .ref b', .ref c'])) (ha : H a = some (.lst (rv rs))) (ha' : H a' = some (.lst (rv ks))) (tw : Twin H rs ks)
    (hb : H b = some (.lst ys)) (hb' : H b' = some (.lst ys)) (py : PassAt H ys fs) (hc : H c = some (.lst zs)) (hc' : H c' = some (.lst zs)) (pz : PassAt H zs gs) : ∃ d, Dp K H (.ref T) d ∧ Dp K H (.ref U) d ∧ SeqAt.shaped d = true ∧ PyData.eqv d d = true := by
  obtain ⟨d1, a1, a2, a3, a4⟩ := twin_dp (K := K) tw
  obtain ⟨d2, b1, b3, b4⟩ := pass_dp (K := K) py
  obtain ⟨d3, c1, c3, c4⟩ := pass_dp (K := K) pz
  have sh : SeqAt.shaped (.tuple [.list d1, .list d2, .list d3]) = true := by
    refine Bool.and_eq_true_iff.mpr ⟨?_, decide_eq_true ?_⟩
    · show (PyData.canLayAll0 d1 && (PyData.canLayAll0 d2 && (PyData.canLayAll0 d3 && true))) = true
      rw [a3, b3, c3]
      rfl
    · simp only [PyData.depthAll, PyData.depth]
      omega
  exact ⟨.tuple [.list d1, .list d2, .list d3], .tup (.inl (.inl hT)) (.cons (.lst (SqL.of ha) a1) (.cons (.lst (SqL.of hb) b1) (.cons (.lst (SqL.of hc) c1) .nil))), .tup (.inl (.inl hU)) (.cons (.lst (SqL.of ha') a2) (.cons (.lst (SqL.of hb') b1) (.cons (.lst (SqL.of hc') c1) .nil))), sh, SeqAt.eqv_refl _ (SeqAt.canLay_of_shaped sh)⟩
/-- copies that a comprehension makes of lists -/
def CopL (o : List V → HO) (H0 : Hp) (D : Addr) (cs : List Addr) (j : Nat) (H' : Hp) : Prop := Same H0 H' ∧ ∃ ks : List Addr, H' D = some (.lst (rv ks)) ∧ ks.length = j ∧ D ∉ ks ∧ ∀ (i : Nat) (k : Addr), ks[i]? = some k → ∃ p us, cs[i]? = some p ∧ H0 p = some (.lst us) ∧ H' k = some (o us)
theorem CopL.start {o : List V → HO} {H0 : Hp} {D : Addr} {cs : List Addr} (hD : H0 D = none) : CopL o H0 D cs 0 (upd H0 D (.lst [])) := ⟨same_new hD, [], upd_same, rfl, fun z => (nomatch z), fun i k h => nomatch h⟩
theorem CopL.step {o : List V → HO} {H0 H2 : Hp} {D p m : Addr} {cs : List Addr} {j : Nat} {us : List V} (hD : H0 D = none) (h : CopL o H0 D cs j H2) (hp : cs[j]? = some p) (hus : H0 p = some (.lst us)) (hm : H2 m = none) (lt : j ≤ 1000) :
    ∃ acc, (upd H2 m (o us)) D = some (.lst acc) ∧ acc.length < sizeLine ∧ CopL o H0 D cs (j + 1) (upd (upd H2 m (o us)) D (.lst (acc ++ [.ref m]))) := by
  obtain ⟨s, ks, hq, hl, nD, hk⟩ := h
  have s1 := same_new (o := o us) hm
  have nm : m ≠ D := fun e => by
    rw [e, hq] at hm
    cases hm
  refine ⟨rv ks, s1 _ _ hq, by rw [rv_len, hl]; exact small1000 lt, fun b x hb => ?_, ks ++ [m], ?_, by rw [List.length_append, hl]; rfl, fun z => ?_, fun i k h => ?_⟩
  · rw [upd_ne (ne_of_none hb hD)]
    exact (s.trans s1) _ _ hb
  · rw [upd_same]
    unfold rv
    rw [List.map_append]
    rfl
  · rcases List.mem_append.mp z with z | z
    · exact nD z
    · exact nm (List.mem_singleton.mp z).symm
  · by_cases hi : i < ks.length
    · rw [List.getElem?_append_left hi] at h
      obtain ⟨p', us', h1, h2, h3⟩ := hk i k h
      refine ⟨p', us', h1, h2, ?_⟩
      rw [upd_ne (fun e => nD (by rw [← e]; exact List.mem_of_getElem? h))]
      exact s1 _ _ h3
    · have e : i = ks.length := by
        have := (List.getElem?_eq_some_iff.mp h).1
        rw [List.length_append, List.length_singleton] at this
        omega
      rw [e, List.getElem?_append_right (Nat.le_refl _), Nat.sub_self] at h
      cases h
      refine ⟨p, us, by rw [e, hl]; exact hp, hus, ?_⟩
      rw [upd_ne nm]
      exact upd_same
theorem CopL.twin {H0 H' : Hp} {D : Addr} {cs : List Addr} {mat : List (List (Int × Int))} (h : CopL .lst H0 D cs cs.length H') (r : RowsL H0 cs mat) : ∃ ks, H' D = some (.lst (rv ks)) ∧ Twin H' cs ks := by
  obtain ⟨s, ks, hq, hl, nD, hk⟩ := h
  refine ⟨ks, hq, hl, fun i p k a b => ?_⟩
  obtain ⟨p', us, h1, h2, h3⟩ := hk i k b
  rw [a] at h1
  cases h1
  have hi : i < mat.length := by
    rw [← r.1]
    exact (List.getElem?_eq_some_iff.mp a).1
  obtain ⟨us', r1, r2⟩ := r.2 i p _ a (gm_at hi)
  rw [h2] at r1
  cases r1
  exact ⟨us, _, s _ _ h2, h3, r2.same s⟩
theorem CopL.tups {H0 H' : Hp} {D : Addr} {cs : List Addr} {mat : List (List (Int × Int))} (h : CopL .tup H0 D cs cs.length H') (r : RowsL H0 cs mat) : ∃ ks, H' D = some (.lst (rv ks)) ∧ RowsTp H' ks mat := by
  obtain ⟨s, ks, hq, hl, nD, hk⟩ := h
  refine ⟨ks, hq, by rw [hl, r.1], fun i k fs b c => ?_⟩
  obtain ⟨p', us, h1, h2, h3⟩ := hk i k b
  obtain ⟨us', r1, r2⟩ := r.2 i p' _ h1 c
  rw [h2] at r1
  cases r1
  exact ⟨us, h3, r2.same s⟩
theorem RowsTp.same {H H' : Hp} {rs : List Addr} {mat : List (List (Int × Int))} (h : RowsTp H rs mat) (s : Same H H') : RowsTp H' rs mat := ⟨h.1, fun i p fs a b => by
  obtain ⟨us, h1, h2⟩ := h.2 i p fs a b
  exact ⟨us, s _ _ h1, h2.same s⟩⟩
end Fk

set_option Elab.async false
set_option maxRecDepth 100000
namespace La
/-! ### places swapped -/
def swp (a c k : Nat) : Nat := if k = a then c else if k = c then a else k
theorem swp_lt {n a c k : Nat} (ha : a < n) (hc : c < n) (hk : k < n) : swp a c k < n := by
  unfold swp
  split
  · exact hc
  · split
    · exact ha
    · exact hk
theorem sm_swap {n a c : Nat} (ha : a < n) (hc : c < n) (f : Nat → Int) : sm n (fun k => f (swp a c k)) = sm n f := by
  by_cases e : a = c
  · subst e
    refine sm_congr fun k _ => ?_
    unfold swp
    by_cases h : k = a
    · rw [if_pos h, h]
    · rw [if_neg h, if_neg h]
  · have h1 := sm_two (n := n) (k := a) (l := c) (f := fun k => f (swp a c k) - f k) ha hc e fun i _ h1 h2 => by
      unfold swp
      rw [if_neg h1, if_neg h2]
      omega
    rw [sm_sub] at h1
    unfold swp at h1 ⊢
    rw [if_pos rfl, if_neg (Ne.symm e), if_pos rfl] at h1
    omega
theorem det_swp {n a c : Nat} (ha : a < n) (hc : c < n) (B : Nat → Nat → Int) : (det n fun k => B (swp a c k)).natAbs = (det n B).natAbs := by
  by_cases e : a = c
  · subst e
    have : (fun k => B (swp a a k)) = B := by
      funext k
      unfold swp
      by_cases h : k = a
      · rw [if_pos h, h]
      · rw [if_neg h, if_neg h]
    rw [this]
  · have : (fun k => B (swp a c k)) = rep (rep B a (B c)) c (B a) := by
      funext k
      unfold swp rep
      by_cases h1 : k = a
      · rw [if_pos h1, if_neg (by rw [h1]; exact e), if_pos h1]
      · rw [if_neg h1]
        by_cases h2 : k = c
        · rw [if_pos h2, if_pos h2]
        · rw [if_neg h2, if_neg h2, if_neg h1]
    rw [this, det_swap ha hc e, rep_self]
    have e2 : rep B c (B c) = B := rep_self B c
    rw [e2, Int.natAbs_neg]
section
variable {m N k : Nat} {T : Nat → Nat → Int} {b : Nat → Nat} {D : Int} {L : Nat → Nat → Int}
theorem Inv.swap (I : Inv m N T b D L) {a c : Nat} (ha : a < m) (hc : c < m) : Inv m N T (fun i => b (swp a c i)) D (fun i => L (swp a c i)) :=
  ⟨I.d0, fun i hi => I.bN _ (swp_lt ha hc hi), fun j hj r hr => by
    rw [sm_swap ha hc fun i => L i j * T (b i) r]
    exact I.span j hj r hr, by
    rw [det_swp ha hc fun i => T (b i)]
    exact I.dt⟩
/-! ### elimination, column by column -/
/-- columns ahead tell this one -/
def NPT (m N : Nat) (T : Nat → Nat → Int) (c : Nat) : Prop := ∃ y : Nat → Int, y c ≠ 0 ∧ (∀ j, c < j → y j = 0) ∧ ∀ r, r < m → sm N (fun j => y j * T j r) = 0
structure Ech (m N : Nat) (T : Nat → Nat → Int) (b : Nat → Nat) (D : Int) (L : Nat → Nat → Int) (k : Nat) : Prop where
  I : Inv m (N + m) T b D L
  hb : ∀ i, i < m → b i < k ∨ N ≤ b i
  z : ∀ i, i < m → N ≤ b i → ∀ j, j < k → L i j = 0
theorem null_rows (I : Inv m (N + m) T b D L) {y : Nat → Int} (h : ∀ r, r < m → sm N (fun j => y j * T j r) = 0) : ∀ i, i < m → sm N (fun j => y j * L i j) = 0 := by
  refine indep I.det0 fun r hr => ?_
  have e : (sm m fun i => sm N (fun j => y j * L i j) * T (b i) r) = sm m fun i => sm N fun j => y j * (L i j * T (b i) r) := sm_congr fun i hi => by
    rw [← sm_mulr]
    exact sm_congr fun j _ => by rw [Int.mul_assoc]
  rw [e, sm_comm]
  have e2 : (sm N fun j => sm m fun i => y j * (L i j * T (b i) r)) = sm N fun j => D * (y j * T j r) := sm_congr fun j hj => by
    rw [sm_mul, I.span j (by omega) r hr]
    ac_rfl
  rw [e2, sm_mul, h r hr, Int.mul_zero]
theorem Ech.found (E : Ech m N T b D L k) (kN : k < N) {l : Nat} (hl : l < m) (hn : N ≤ b l) (nz : L l k ≠ 0) : ¬ NPT m N T k := fun ⟨y, y0, y1, y2⟩ => by
  have h := null_rows E.I y2 l hl
  rw [sm_single (k := k) kN fun j _ hj => by
    rcases Nat.lt_or_gt_of_ne hj with z | z
    · rw [E.z l hl hn j z, Int.mul_zero]
    · rw [y1 j z, Int.zero_mul]] at h
  rcases Int.mul_eq_zero.mp h with z | z
  · exact y0 z
  · exact nz z
theorem Ech.none (E : Ech m N T b D L k) (kN : k < N) (h : ∀ i, i < m → N ≤ b i → L i k = 0) : NPT m N T k := by
  have hs : ∀ j, k ≤ j → j < N → sm m (fun i => if b i = j then L i k else 0) = 0 := fun j hj hN => sm_zero fun i hi => if_neg fun e => by
    rcases E.hb i hi with z | z <;> omega
  have hs2 : ∀ j, N ≤ j → sm m (fun i => if b i = j then L i k else 0) = 0 := fun j hj => sm_zero fun i hi => by
    by_cases e : b i = j
    · rw [if_pos e]
      exact h i hi (by omega)
    · rw [if_neg e]
  refine ⟨fun j => (if j = k then D else 0) - sm m fun i => if b i = j then L i k else 0, ?_, fun j hj => ?_, fun r hr => ?_⟩
  · show (if k = k then D else 0) - _ ≠ 0
    rw [if_pos rfl, hs k (Nat.le_refl _) kN]
    have := E.I.d0
    omega
  · show (if j = k then D else 0) - _ = 0
    rw [if_neg (by omega)]
    by_cases z : j < N
    · rw [hs j (by omega) z]
      rfl
    · rw [hs2 j (by omega)]
      rfl
  · have e1 : (sm N fun j => ((if j = k then D else 0) - sm m fun i => if b i = j then L i k else 0) * T j r) = sm N (fun j => (if j = k then D else 0) * T j r) - sm N fun j => sm m fun i => (if b i = j then L i k else 0) * T j r := by
      rw [← sm_sub]
      refine sm_congr fun j _ => ?_
      rw [Int.sub_mul, sm_mulr]
    rw [e1, sm_single (k := k) kN fun j _ hj => by rw [if_neg hj, Int.zero_mul], if_pos rfl, sm_comm]
    have e2 : (sm m fun i => sm N fun j => (if b i = j then L i k else 0) * T j r) = sm m fun i => L i k * T (b i) r := sm_congr fun i hi => by
      by_cases z : b i < N
      · rw [sm_single (k := b i) z fun j _ hj => by rw [if_neg (Ne.symm hj), Int.zero_mul], if_pos rfl]
      · rw [h i hi (by omega), Int.zero_mul]
        exact sm_zero fun j _ => by rw [ite_self, Int.zero_mul]
    rw [e2, E.I.span k (by omega) r hr]
    omega
theorem Ech.skip (E : Ech m N T b D L k) (h : ∀ i, i < m → N ≤ b i → L i k = 0) : Ech m N T b D L (k + 1) := ⟨E.I, fun i hi => (E.hb i hi).imp (fun z => by omega) id, fun i hi hn j hj => by
  rcases Nat.lt_or_eq_of_le (Nat.le_of_lt_succ hj) with z | rfl
  · exact E.z i hi hn j z
  · exact h i hi hn⟩
theorem Ech.swap (E : Ech m N T b D L k) {a c : Nat} (ha : a < m) (hc : c < m) : Ech m N T (fun i => b (swp a c i)) D (fun i => L (swp a c i)) k := ⟨E.I.swap ha hc, fun i hi => E.hb _ (swp_lt ha hc hi), fun i hi hn j hj => E.z _ (swp_lt ha hc hi) hn j hj⟩
theorem Ech.pivot (E : Ech m N T b D L k) (kN : k < N) {l : Nat} {s : Int} (hs : s = 1 ∨ s = -1) (hl : l < m) (hn : N ≤ b l) (hp : 0 < s * L l k) : Ech m N T (bP b l k) (s * L l k) (LP L D l k s) (k + 1) := by
  refine ⟨E.I.pivot hs hl (by omega) hp, fun i hi => ?_, fun i hi hN j hj => ?_⟩
  · unfold bP
    split
    · exact .inl (by omega)
    · exact (E.hb i hi).imp (fun z => by omega) id
  · have il : i ≠ l := fun e => by
      unfold bP at hN
      rw [if_pos e] at hN
      omega
    have hN' : N ≤ b i := by
      unfold bP at hN
      rwa [if_neg il] at hN
    have q := E.I.LP_at (at' := l) (c := k) (k := i) (j := j) (s := s) hl hi il (by omega) (by omega)
    have d0 := E.I.d0
    have r0 : s * L l k * L i j - L i k * (s * L l j) = 0 := by
      rcases Nat.lt_or_eq_of_le (Nat.le_of_lt_succ hj) with z | rfl
      · rw [E.z i hi hN' j z, E.z l hl hn j z, Int.mul_zero, Int.mul_zero, Int.mul_zero]
        rfl
      · rw [Int.mul_comm (L i j)]
        omega
    rw [r0] at q
    rcases Int.mul_eq_zero.mp q with z | z
    · omega
    · exact z
theorem Ech.start (hT : ∀ i r, i < m → r < m → T (N + i) r = if i = r then 1 else 0) : Ech m N T (fun i => N + i) 1 (fun i j => T j i) 0 := by
  refine ⟨⟨by decide, fun i hi => by omega, fun j hj r hr => ?_, ?_⟩, fun i _ => .inr (by omega), fun i _ _ j hj => absurd hj (Nat.not_lt_zero j)⟩
  · rw [sm_single (k := r) hr fun i hi hne => by rw [hT i r hi hr, if_neg hne, Int.mul_zero], hT r r hr hr, if_pos rfl, Int.mul_one, Int.one_mul]
  · have : (det m fun i => T (N + i)) = det m fun c r => if c = r then 1 else 0 := det_congr fun c r hc hr => hT c r hc hr
    rw [this, det_one]
/-- how many of the first columns are not told by those ahead -/
noncomputable def cnt (p : Nat → Prop) : Nat → Nat
  | 0 => 0
  | k + 1 => cnt p k + (open Classical in if p k then 1 else 0)
theorem cnt_yes {p : Nat → Prop} {k : Nat} (h : p k) : cnt p (k + 1) = cnt p k + 1 := by
  show cnt p k + (open Classical in if p k then 1 else 0) = _
  rw [if_pos h]
theorem cnt_no {p : Nat → Prop} {k : Nat} (h : ¬ p k) : cnt p (k + 1) = cnt p k := by
  show cnt p k + (open Classical in if p k then 1 else 0) = _
  rw [if_neg h, Nat.add_zero]
theorem cnt_congr {p q : Nat → Prop} : ∀ {k : Nat}, (∀ c, c < k → (p c ↔ q c)) → cnt p k = cnt q k
  | 0, _ => rfl
  | k + 1, h => by
    have ih := cnt_congr (k := k) fun c hc => h c (by omega)
    by_cases z : p k
    · rw [cnt_yes z, cnt_yes ((h k (Nat.lt_succ_self k)).mp z), ih]
    · rw [cnt_no z, cnt_no (fun w => z ((h k (Nat.lt_succ_self k)).mpr w)), ih]
theorem cnt_le (p : Nat → Prop) : ∀ k, cnt p k ≤ k
  | 0 => Nat.le_refl 0
  | k + 1 => by
    have ih := cnt_le p k
    by_cases z : p k
    · rw [cnt_yes z]
      omega
    · rw [cnt_no z]
      omega
theorem cnt_full {p : Nat → Prop} : ∀ {k : Nat}, cnt p k = k → ∀ c, c < k → p c
  | 0, _, c, hc => absurd hc (Nat.not_lt_zero c)
  | k + 1, h, c, hc => by
    have l := cnt_le p k
    by_cases z : p k
    · rw [cnt_yes z] at h
      rcases Nat.lt_or_eq_of_le (Nat.le_of_lt_succ hc) with w | rfl
      · exact cnt_full (by omega) c w
      · exact z
    · rw [cnt_no z] at h
      omega
end
end La

set_option Elab.async false
set_option maxRecDepth 100000
set_option maxHeartbeats 4000000
set_option exponentiation.threshold 20000
namespace Fk
open PySem PySem.Spec PyProof.Rows L2
theorem gi_mem {xs : List Int} {i : Nat} (h : i < xs.length) : gi xs i ∈ xs := List.mem_of_getElem? (gi_at h)
theorem gl_mem {xs : List (List Int)} {i : Nat} (h : i < xs.length) : gl xs i ∈ xs := List.mem_of_getElem? (gl_at h)
/-! ### // by any number but 0 -/
theorem op_fdivN {X : Cx} : OpR X (binaryOp .FloorDiv) (rI (fun i j => j ≠ 0 ∧ i.natAbs < 2 ^ 13400) fun i j => .int (i.fdiv j)) := opI fun i j _ _ _ _ _ hc q => by
  obtain ⟨h1, h2⟩ := hc
  refine floordiv_int h1 q (.inl ?_)
  have k1 : (if i == 0 then 0 else i.natAbs.log2 / 30 + 1) ≤ 447 := by
    by_cases h0 : (i == 0) = true
    · rw [if_pos h0]
      exact Nat.zero_le _
    · rw [if_neg h0]
      have : i.natAbs.log2 < 13400 := (Nat.log2_lt (by simpa using h0)).mpr h2
      omega
  show (decide ((if j == 0 then 0 else j.natAbs.log2 / 30 + 1) > 300) && decide ((if i == 0 then 0 else i.natAbs.log2 / 30 + 1) > (if j == 0 then 0 else j.natAbs.log2 / 30 + 1) + 150)) = false
  generalize (if i == 0 then 0 else i.natAbs.log2 / 30 + 1) = m at k1
  generalize (if j == 0 then 0 else j.natAbs.log2 / 30 + 1) = n
  by_cases h : n > 300
  · rw [decide_eq_true h, decide_eq_false (by omega)]
    rfl
  · rw [decide_eq_false h]
    rfl
abbrev sPivoted : Stmt := top 14
def elimF (tp fa D : Int) (line lead : List Int) : List Int := List.zipWith (fun a b => (tp * a - fa * b).fdiv D) line lead
def pivRow (lines : List (List Int)) (at' col : Nat) (D : Int) (k : Nat) : List Int := if k = at' then gl lines at' else elimF (gi (gl lines at') col) (gi (gl lines k) col) D (gl lines k) (gl lines at')
def pivotL (lines : List (List Int)) (at' col : Nat) (D : Int) : List (List Int) := (List.range lines.length).map (pivRow lines at' col D)
structure LnOk (B wd : Nat) (lines : List (List Int)) : Prop where
  bB : B ≤ 4200
  wB : wd ≤ 20
  n : lines.length ≤ 6
  ll : ∀ r ∈ lines, r.length = wd
  lb : ∀ r ∈ lines, ∀ x ∈ r, Bd B x
def spPivoted : Sp := fun vs H Q _ => ∃ (l : Addr) (ls : List Addr) (lines : List (List Int)) (at' col B wd : Nat) (D : Int), vs = [.ref l, .int at', .int col, .int D] ∧ H l = some (.lst (rv ls)) ∧ LinesAt H ls lines ∧ LnOk B wd lines ∧ at' < lines.length ∧ col < wd ∧ D ≠ 0 ∧
  ∀ l' ls' H', Same H H' → H l' = none → H' l' = some (.lst (rv ls')) → LinesAt H' ls' (pivotL lines at' col D) → (∀ p ∈ ls', p ∈ ls ∨ H p = none) → Q (.ref l') H'
theorem elim_bd {B : Nat} {tp fa a b : Int} (h1 : Bd B tp) (h2 : Bd B fa) (h3 : Bd B a) (h4 : Bd B b) : Bd (2 * B + 1) (tp * a - fa * b) := ((h1.mulB h3).mono (by omega)).subB ((h2.mulB h4).mono (by omega))
theorem elim_at {tp fa D : Int} {line lead : List Int} {i : Nat} (h1 : i < line.length) (h2 : i < lead.length) : (elimF tp fa D line lead).take (i + 1) = (elimF tp fa D line lead).take i ++ [(tp * gi line i - fa * gi lead i).fdiv D] := by
  have e : (elimF tp fa D line lead)[i]? = some ((tp * gi line i - fa * gi lead i).fdiv D) := by
    unfold elimF
    rw [List.getElem?_zipWith, gi_at h1, gi_at h2]
  rw [List.take_add_one, e]
  rfl
section
variable {P : Program} {w : World} {K : PySem.W.Frag} {mg : Str → Option Value} {base : Heap}
abbrev nsPivoted : List Str := ["lines", "at", "column", "divisor", "lead", "top", "out", "k", "line", "factor", "a", "b"]
abbrev psPivoted : List Str := ["lines", "at", "column", "divisor"]
theorem scPivoted : FnScope nsPivoted psPivoted (defScope sPivoted) := ⟨rfl, rfl, rfl, by decide +kernel, rfl, by decide +kernel, by decide +kernel⟩
theorem pg_tupK {X : Cx} {K : PySem.W.Frag} {es : List Expr} {k : Nat} {pos : Pos} {t : TGs} {n : Nat} (hK : X.K = K) (hc : X.calm = true) (h : PGs X es t)
    (hn : (assignEach es X.env).length = n := by rfl) (hst : (assignEach es X.env).findIdx? (·.1) = none := by rfl) : PG X (.Tuple es k pos) (gTup K n t) := by
  subst hK
  exact pg_tup hc h hn hst
theorem ok_pivoted {f : Addr} {fd : FuncData} (F : Fun K "pivoted" "pivoted" sPivoted f fd) (ml : mg "len" = none) (mr : mg "range" = none) (mz : mg "zip" = none) : FnOk P w K mg base CX0 1 f fd psPivoted spPivoted := by
  refine F.ok scPivoted (fun vs H Q E h => ?_) (fun cdv A outer s H vs Q E hr h => ?_)
  · obtain ⟨l, ls, lines, a, c, B, wd, D, rfl, _⟩ := h
    rfl
  · obtain ⟨l, ls, lines, a, c, B, wd, D, rfl, hl, hr', W, ha, hc, d0, k⟩ := h
    refine ⟨_, pss_cons (ps_set (i := 4) scPivoted.nd rfl (Or.inl rfl) (pe_ix ix_list (pv 0) (pv 1) (fun _ _ => rfl)))
      (pss_cons (ps_set (i := 5) scPivoted.nd rfl (Or.inr rfl) (pe_ix ix_list (pv 4) (pv 2) (fun _ _ => rfl)))
      (pss_cons (ps_set (i := 6) scPivoted.nd rfl (Or.inl rfl) (pe_lst pa_nil))
      (pss_cons (ps_for PassesOwn.never rfl (pi_range1 (by rfl) mr (pa_cons (pe_callB call_len_seq (by rfl) ml PySem.boot_len (pa_cons (pv 0) pa_nil)) pa_nil)) (pg_name (i := 7) scPivoted.nd rfl (Or.inl rfl))
        (pss_one (ps_if (pt_cmpR op_eq (pv 7) (pv 1) (nomark _))
          (pss_one (ps_expr (pe_bm PySem.F.plainAttrs_list PySem.F.slot_list_append PySem.F.type_list_append mt_append (pv 6) (pa_cons (pv 4) pa_nil))))
          (pss_cons (ps_set (i := 8) scPivoted.nd rfl (Or.inl rfl) (pe_ix ix_list (pv 0) (pv 7) (fun _ _ => rfl)))
          (pss_cons (ps_set (i := 9) scPivoted.nd rfl (Or.inr rfl) (pe_ix ix_list (pv 8) (pv 2) (fun _ _ => rfl)))
          (pss_one (ps_expr (pe_bm PySem.F.plainAttrs_list PySem.F.slot_list_append PySem.F.type_list_append mt_append (pv 6) (pa_cons
            (pe_lc (own := [("a", 10), ("b", 11)]) (g := gTup K 2 (gCons (gName 10) (gCons (gName 11) gNil))) (tt := tYes) rfl scPivoted.nd (RZ.pi_zipA (by rfl) mz (pa_cons (pv 8) (pa_cons (pv 4) pa_nil))) (blkOk_by (N := nsPivoted) (sc := defScope sPivoted) (by decide +kernel))
              (fun _ _ _ _ _ => pg_tupK (K := K) (n := 2) rfl rfl (pgs_cons (pg_name (i := 10) scPivoted.nd rfl (Or.inl rfl)) (pgs_cons (pg_name (i := 11) scPivoted.nd rfl (Or.inl rfl)) pgs_nil))) (fun _ _ _ _ _ => pts_nil)
              (fun _ _ _ _ _ => pe_op op_fdivN (pe_op op_sub (pe_op op_mulW (pv 5) (pv 10)) (pe_op op_mulW (pv 9) (pv 11))) (pv 3))) pa_nil)))))))))
      (pss_one (ps_ret (pv 6)))))), ?_⟩
    obtain ⟨p, hp, hpl⟩ := hr'.line ha
    have B5 : B ≤ 200000 := Nat.le_trans W.bB (by decide)
    have bB := W.bB
    have wB := W.wB
    have n4 := W.n
    have wl : ∀ {x : Nat}, x < lines.length → (gl lines x).length = wd := fun {x} hx => W.ll _ (gl_mem hx)
    have bd : ∀ {x y : Nat}, x < lines.length → y < wd → Bd B (gi (gl lines x) y) := fun {x y} hx hy => W.lb _ (gl_mem hx) _ (gi_mem (by rw [wl hx]; exact hy))
    refine ⟨_, rfl, _, rfl, l, rv ls, _, _, rfl, rfl, SqL.of hl, hp, ?_⟩
    refine ⟨_, rfl, _, rfl, p, iv (gl lines a), _, _, rfl, rfl, SqL.of hpl, iv_atI (by rw [wl ha]; exact hc), ?_⟩
    refine ⟨by show 0 ≤ sizeLine; decide, fun O hO => ?_⟩
    have s0 := same_new (o := .lst []) hO
    refine ⟨_, rfl, l, _, rfl, .inl (SqL.of (s0 _ _ hl)), ?_⟩
    rw [rv_len, hr'.1]
    refine ⟨_, rfl, by omega, by omega, for_range (fun i σ H' => Same H H' ∧ (∃ os, H' O = some (.lst (rv os)) ∧ LinesAt H' os ((List.range i).map (pivRow lines a c D)) ∧ O ∉ os ∧ ∀ q ∈ os, q ∈ ls ∨ H q = none) ∧
      ∃ v7 v8 v9 v10 v11 : Option V, σ = [some (.ref l), some (.int a), some (.int c), some (.int D), some (.ref p), some (.int (gi (gl lines a) c)), some (.ref O), v7, v8, v9, v10, v11]) ⟨s0, ⟨[], upd_same, ⟨rfl, fun i q r h _ => nomatch h⟩, fun h => (nomatch h), fun q h => nomatch h⟩, none, none, none, none, none, rfl⟩ ?_ ?_⟩
    · rintro i σ H1 hi ⟨s1, ⟨os, hO1, hL1, nO, hfr⟩, v7, v8, v9, v10, v11, rfl⟩
      have hi' : i < lines.length := by omega
      have e0 : (0 : Int) + (i : Int) = (i : Int) := Int.zero_add _
      have ol : os.length = i := by rw [hL1.1, List.length_map, List.length_range]
      have lt : (rv os).length < sizeLine := by rw [rv_len, ol]; exact small1000 (by omega)
      have er : (List.range (i + 1)).map (pivRow lines a c D) = (List.range i).map (pivRow lines a c D) ++ [pivRow lines a c D i] := by
        rw [List.range_succ, List.map_append]
        rfl
      have nOp : p ≠ O := fun e => by rw [e, hO] at hpl; cases hpl
      refine ⟨_, rfl, _, rfl, rfl, _, rfl, ite2 (fun h1 => ?_) (fun h1 => ?_)⟩
      · have ei : i = a := by
          have := keq h1
          omega
        have hr1 : pivRow lines a c D i = gl lines a := if_pos ei
        refine ⟨_, rfl, .inl ⟨rfl, _, SqL.of hO1⟩, _, rfl, O, _, _, rfl, rfl, hO1, lt, ?_⟩
        refine ⟨fun b o hb => by rw [upd_ne (ne_of_none hb hO)]; exact s1 _ _ hb, ⟨os ++ [p], ?_, ?_, ?_, ?_⟩, some (.int (0 + (i : Int))), v8, v9, v10, v11, rfl⟩
        · rw [upd_same]
          unfold rv
          rw [List.map_append]
          rfl
        · rw [er, hr1]
          exact hL1.add hO1 nO (s1 _ _ hpl) nOp _
        · intro z
          rcases List.mem_append.mp z with z | z
          · exact nO z
          · exact nOp (List.mem_singleton.mp z).symm
        · intro q hq
          rcases List.mem_append.mp hq with z | z
          · exact hfr q z
          · rw [List.mem_singleton.mp z]
            obtain ⟨j, hj⟩ : ∃ j, ls[j]? = some p := by
              have z := hp
              unfold atI at z
              cases e : ixN (rv ls).length (a : Int) with
              | none =>
                rw [e] at z
                cases z
              | some j =>
                rw [e] at z
                have z' : (rv ls)[j]? = some (.ref p) := z
                unfold rv at z'
                rw [List.getElem?_map] at z'
                cases q : ls[j]? with
                | none =>
                  rw [q] at z'
                  cases z'
                | some x =>
                  rw [q] at z'
                  cases z'
                  exact ⟨j, q⟩
            exact .inl (List.mem_of_getElem? hj)
      · have ei : ¬ i = a := fun e => h1 (by rw [e0, e]; exact decide_eq_true rfl)
        have hr1 : pivRow lines a c D i = elimF (gi (gl lines a) c) (gi (gl lines i) c) D (gl lines i) (gl lines a) := if_neg ei
        obtain ⟨p2, hp2, hpl2⟩ := hr'.line hi'
        refine ⟨_, rfl, _, rfl, l, rv ls, _, .ref p2, rfl, rfl, SqL.of (s1 _ _ hl), by rw [e0]; exact hp2, ?_⟩
        refine ⟨_, rfl, _, rfl, p2, iv (gl lines i), _, _, rfl, rfl, SqL.of (s1 _ _ hpl2), iv_atI (by rw [wl hi']; exact hc), ?_⟩
        refine ⟨_, rfl, .inl ⟨rfl, _, SqL.of hO1⟩, _, rfl, _, rfl, p2, p, iv (gl lines i), iv (gl lines a), rfl, .inl ⟨SqL.of (s1 _ _ hpl2), SqL.of (s1 _ _ hpl), fun D2 hD2 => ?_⟩⟩
        have nD : D2 ≠ O := fun e => by rw [e, hO1] at hD2; cases hD2
        refine wk (n := wd) (fun j H2 => Same H1 H2 ∧ H2 D2 = some (.lst (iv ((elimF (gi (gl lines a) c) (gi (gl lines i) c) D (gl lines i) (gl lines a)).take j)))) ⟨same_new hD2, upd_same⟩ ?_ ?_
        · rintro H2 ⟨s2, h2⟩
          have s12 := s1.trans s2
          refine ⟨⟨_, _, SqL.of (s12 _ _ hpl2), SqL.of (s12 _ _ hpl), .inl (by rw [iv_len, wl hi']; exact Nat.le_refl _)⟩, ?_⟩
          have el : (elimF (gi (gl lines a) c) (gi (gl lines i) c) D (gl lines i) (gl lines a)).length = wd := by
            unfold elimF
            rw [List.length_zipWith, wl hi', wl ha, Nat.min_self]
          rw [List.take_of_length_le (by omega)] at h2
          refine ⟨O, _, _, rfl, rfl, s2 _ _ hO1, lt, ?_⟩
          refine ⟨fun b o hb => by rw [upd_ne (ne_of_none hb hO)]; exact s12 _ _ hb, ⟨os ++ [D2], ?_, ?_, ?_, ?_⟩, some (.int (0 + (i : Int))), some (.ref p2), some (.int (gi (gl lines i) c)), v10, v11, rfl⟩
          · rw [upd_same]
            unfold rv
            rw [List.map_append]
            rfl
          · rw [er, hr1]
            exact (hL1.same s2).add (s2 _ _ hO1) nO h2 nD _
          · intro z
            rcases List.mem_append.mp z with z | z
            · exact nO z
            · exact nD (List.mem_singleton.mp z).symm
          · intro q hq
            rcases List.mem_append.mp hq with z | z
            · exact hfr q z
            · rw [List.mem_singleton.mp z]
              exact .inr (s1.free hD2)
        · rintro j H2 hj ⟨s2, h2⟩
          have s12 := s1.trans s2
          have q1 : (iv (gl lines i))[j]? = some (.int (gi (gl lines i) j)) := iv_get (gi_at (by rw [wl hi']; exact hj))
          have q2 : (iv (gl lines a))[j]? = some (.int (gi (gl lines a) j)) := iv_get (gi_at (by rw [wl ha]; exact hj))
          refine ⟨⟨_, _, _, _, SqL.of (s12 _ _ hpl2), SqL.of (s12 _ _ hpl), q1, q2⟩, ?_⟩
          rintro x H3 ⟨T, x', y', rfl, hT, rfl, f1, f2⟩
          have g1 := f1 _ (SqL.of (s12 _ _ hpl2))
          have g2 := f2 _ (SqL.of (s12 _ _ hpl))
          rw [q1] at g1
          rw [q2] at g2
          cases g1
          cases g2
          refine ⟨T, _, rfl, .inl (.inl upd_same), rfl, _, _, rfl, _, _, rfl, rfl, rfl, ?_⟩
          unfold tYes
          dsimp only
          rw [if_pos rfl]
          have m1 := bd ha hc
          have m2 := bd hi' hj
          have m3 := bd hi' hc
          have m4 := bd ha hj
          refine ⟨_, rfl, _, rfl, _, _, rfl, rfl, Bd.mul m1 m2 B5 B5, _, rfl, _, rfl, _, _, rfl, rfl, Bd.mul m3 m4 B5 B5, _, _, rfl, rfl, _, rfl, _, _, rfl, rfl, ⟨d0, (elim_bd m1 m3 m2 m4).mono (by omega)⟩, ?_⟩
          refine ⟨_, (same_new hT) _ _ h2, ?_, fun b o hb => ?_, ?_⟩
          · rw [iv_len]
            exact small1000 (Nat.le_trans (List.length_take_le _ _) (by omega))
          · rw [upd_ne (ne_of_none hb hD2)]
            exact (s2.trans (same_new hT)) _ _ hb
          · rw [upd_same, elim_at (by rw [wl hi']; exact hj) (by rw [wl ha]; exact hj)]
            unfold iv
            rw [List.map_append]
            rfl
    · rintro σ H1 ⟨s1, ⟨os, hO1, hL1, nO, hfr⟩, v7, v8, v9, v10, v11, rfl⟩
      exact ⟨_, rfl, k O os H1 s1 hO hO1 hL1 hfr⟩
end
end Fk

set_option Elab.async false
set_option maxRecDepth 100000
set_option maxHeartbeats 4000000
set_option exponentiation.threshold 20000
namespace Fk
open PySem L2
/-! ### whole rows -/
abbrev sWhole : Stmt := top 13
abbrev nsWhole : List Str := ["entries", "ratios", "scale", "value", "top", "bottom"]
def wholeR (fs : List (Int × Int)) : List Int := fs.map fun y => y.1 * (shF fs / y.2)
def spWhole (K : PySem.W.Frag) : Sp := fun vs H Q _ => ∃ (l : Addr) (us : List V) (fs : List (Int × Int)), vs = [.ref l] ∧ SqA K H l us ∧ PassAt H us fs ∧ (∀ x ∈ fs, Fit 600 210 x) ∧ fs.length ≤ 5 ∧ ∀ p H', Same H H' → H p = none → H' p = some (.lst (iv (wholeR fs))) → Q (.ref p) H'
/-- whether a line has an item in a column -/
inductive FirstE (lines : List (List Int)) (start col : Nat) : V → Prop
  | none (h : ∀ i, start ≤ i → i < lines.length → gi (gl lines i) col = 0) : FirstE lines start col .non
  | some (k : Nat) (h1 : start ≤ k) (h2 : k < lines.length) (h3 : gi (gl lines k) col ≠ 0) : FirstE lines start col (.int (k : Int))
abbrev sFirstE : Stmt := top 15
def spFirstE : Sp := fun vs H Q _ => ∃ (l : Addr) (ls : List Addr) (lines : List (List Int)) (start col wd : Nat), vs = [.ref l, .int start, .int col] ∧ H l = some (.lst (rv ls)) ∧ LinesAt H ls lines ∧ (∀ r ∈ lines, r.length = wd) ∧ col < wd ∧ start ≤ lines.length ∧ lines.length ≤ 6 ∧ ∀ v, FirstE lines start col v → Q v H
section
variable {P : Program} {w : World} {K : PySem.W.Frag} {mg : Str → Option Value} {base : Heap}
theorem scWhole : FnScope nsWhole ["entries"] (defScope sWhole) := ⟨rfl, rfl, rfl, by decide +kernel, rfl, by decide +kernel, by decide +kernel⟩
theorem ok_whole {f fA fS : Addr} {fd dA dS : FuncData} (F : Fun K "whole_row" "whole_row" sWhole f fd) (As : Cl P w K mg base "as_ratio" ["value"] 2 spAs fA dA) (Sh : Cl P w K mg base "shared_bottom" ["ratios"] 1 spShared fS dS) : FnOk P w K mg base CX0 3 f fd ["entries"] (spWhole K) := by
  refine F.ok scWhole (fun vs H Q E h => ?_) (fun cdv A outer s H vs Q E hr h => ?_)
  · obtain ⟨l, us, fs, rfl, _⟩ := h
    rfl
  · obtain ⟨l, us, fs, rfl, hl, hu, hf, l5, k⟩ := h
    have hr1 := hr.mono (show 1 ≤ 2 by decide)
    refine ⟨_, pss_cons (ps_setLc (i := 1) (own := [("value", 3)]) (g := gName 3) (tt := tYes) rfl scWhole.nd rfl rfl (sw_true rfl rfl rfl rfl) (pi_anyK (K := K) rfl (pv 0)) (blkOk_by (N := nsWhole) (sc := defScope sWhole) (by decide +kernel)) (fun _ _ _ _ _ => pg_name (i := 3) scWhole.nd rfl (Or.inl rfl)) (fun _ _ _ _ _ => pts_nil)
          (fun _ _ _ _ _ => pe_call As.G hr (by rfl) As.g As.kp As.b .nil pass0 (pa_cons (pv 3) pa_nil)))
      (pss_cons (ps_set (i := 2) scWhole.nd rfl (Or.inr rfl) (pe_call Sh.G hr1 (by rfl) Sh.g Sh.kp Sh.b .nil pass0 (pa_cons (pv 1) pa_nil)))
      (pss_one (ps_ret (pe_lc (own := [("top", 4), ("bottom", 5)]) (g := gTup K 2 (gCons (gName 4) (gCons (gName 5) gNil))) (tt := tYes) rfl scWhole.nd (pi_list (pv 1)) (blkOk_by (N := nsWhole) (sc := defScope sWhole) (by decide +kernel))
          (fun _ _ _ _ _ => pg_tupK (K := K) (n := 2) rfl rfl (pgs_cons (pg_name (i := 4) scWhole.nd rfl (Or.inl rfl)) (pgs_cons (pg_name (i := 5) scWhole.nd rfl (Or.inl rfl)) pgs_nil))) (fun _ _ _ _ _ => pts_nil)
          (fun _ _ _ _ _ => pe_op op_mulW (pv 4) (pe_op op_fdivB (pv 2) (pv 5))))))), ?_⟩
    dsimp only [tSeq, tAsg]
    refine lc_any (K := K) (a := l) (xs := us) (H1 := H) (fun P h => ⟨_, rfl, h⟩) hl fun D hD => ⟨fun i H' => Same H H' ∧ ∃ qs, H' D = some (.lst (rv qs)) ∧ PairsAt H' qs (fs.take i), ⟨same_new hD, [], upd_same, pairs_nil⟩, fun i H' _ z => z.1, ?_, ?_⟩
    · rintro i x H' hx ⟨s1, qs, hq, hQ⟩
      have hi : i < fs.length := by
        rw [← hu.1]
        exact (List.getElem?_eq_some_iff.mp hx).1
      have lw := (hu.same s1).2 i x _ hx (gp_at hi)
      refine ⟨rfl, yesT ?_⟩
      refine ⟨_, rfl, x, _, _, rfl, lw, fun r hr' => ?_⟩
      dsimp only
      rw [take_gp hi]
      exact grow hD s1 hq hQ (same_new hr') upd_same (by rw [List.length_take]; omega)
    · rintro H1 ⟨s1, qs, hq, hQ⟩
      rw [hu.1, List.take_length] at hQ
      have f210 : ∀ x ∈ fs, 0 < x.2 ∧ Bd 210 x.2 := fun x hx => ⟨(hf x hx).p, (hf x hx).b2⟩
      refine ⟨_, rfl, D, qs, fs, 210, rfl, hq, hQ, f210, by omega, by omega, ?_⟩
      have sf := shF_facts fs 1 (by decide) fun x hx => (hf x hx).p
      have sb := shF_bd (b := 210) fs 1 1 (by decide) one_bd f210
      have S0 : 0 < shF fs := sf.1
      have SB : Bd (1 + 210 * 5) (shF fs) := Bd.mono (show Bd (1 + 210 * fs.length) (shF fs) from sb) (by omega)
      refine ⟨_, rfl, D, rfl, ⟨_, SqL.of hq⟩, fun D2 hD2 => lc_list (K := K) (a := D) (xs := rv qs) (fun i H2 => Same H1 H2 ∧ H2 D2 = some (.lst (iv ((wholeR fs).take i)))) ⟨same_new hD2, upd_same⟩ (fun i H2 _ ⟨s2, _⟩ => SqL.of (s2 _ _ hq)) ?_ ?_⟩
      · rintro i x H2 hx ⟨s2, h2⟩
        obtain ⟨p, rfl, hi, hpr⟩ := (hQ.same s2).gp hx
        have fy := hf _ (gp_mem hi)
        refine ⟨p, _, rfl, .inl (.inl hpr), rfl, _, _, rfl, _, _, rfl, rfl, rfl, yesT ?_⟩
        have qb : Bd (1 + 210 * 5) (shF fs / (gp fs i).2) := by
          have d1 : shF fs / (gp fs i).2 ≤ shF fs := Int.ediv_le_self _ (by omega)
          have d2 : 0 ≤ shF fs / (gp fs i).2 := Int.ediv_nonneg (by omega) (by have := fy.p; omega)
          unfold Bd at *
          omega
        refine ⟨_, rfl, _, rfl, _, rfl, _, _, rfl, rfl, ⟨fy.p, SB.big (by decide)⟩, _, _, rfl, rfl, Bd.mul fy.b1 qb (by decide) (by decide), _, h2, ?_, fun b ob hb => ?_, ?_⟩
        · rw [iv_len, List.length_take]
          exact small1000 (by omega)
        · rw [upd_ne (ne_of_none hb hD2)]
          exact s2 _ _ hb
        · rw [upd_same]
          have e : (wholeR fs).take (i + 1) = (wholeR fs).take i ++ [(gp fs i).1 * (shF fs / (gp fs i).2)] := by
            unfold wholeR
            rw [List.take_add_one, List.getElem?_map, gp_at hi]
            rfl
          rw [e]
          unfold iv
          rw [List.map_append]
          rfl
      · rintro H2 ⟨s2, h2⟩
        have e : (wholeR fs).take (rv qs).length = wholeR fs := by
          rw [rv_len, hQ.1]
          exact List.take_of_length_le (by unfold wholeR; rw [List.length_map]; exact Nat.le_refl _)
        rw [e] at h2
        exact k D2 H2 (s1.trans s2) (s1.free hD2) h2
theorem scFirstE : FnScope ["lines", "start", "column", "k"] ["lines", "start", "column"] (defScope sFirstE) := ⟨rfl, rfl, rfl, by decide +kernel, rfl, by decide +kernel, by decide +kernel⟩
theorem ok_firste {f : Addr} {fd : FuncData} (F : Fun K "first_entry" "first_entry" sFirstE f fd) (ml : mg "len" = none) (mr : mg "range" = none) : FnOk P w K mg base CX0 1 f fd ["lines", "start", "column"] spFirstE := by
  refine F.ok scFirstE (fun vs H Q E h => ?_) (fun cdv A outer s H vs Q E hr h => ?_)
  · obtain ⟨l, ls, lines, start, col, wd, rfl, _⟩ := h
    rfl
  · obtain ⟨l, ls, lines, start, col, wd, rfl, hl, hL, wl, hc, hs, l6, k⟩ := h
    refine ⟨_, pss_cons (ps_for PassesOwn.never rfl (pi_range2 (by rfl) mr (pa_cons (pv 1) (pa_cons (pe_callB call_len_seq (by rfl) ml PySem.boot_len (pa_cons (pv 0) pa_nil)) pa_nil))) (pg_name (i := 3) scFirstE.nd rfl (Or.inl rfl))
        (pss_one (ps_if (pt_cmpR op_ne (pe_ix ix_list (pe_ix ix_list (pv 0) (pv 3) (fun _ _ => rfl)) (pv 2) (fun _ _ => rfl)) pe_int (nomark _)) (pss_one (ps_ret (pv 3))) pss_nil)))
      (pss_one (ps_ret pe_non)), ?_⟩
    refine ⟨_, rfl, _, rfl, l, rv ls, rfl, .inl (SqL.of hl), ?_⟩
    rw [rv_len, hL.1]
    refine ⟨start, lines.length, rfl, ⟨by omega, by omega, by omega, by omega⟩, ?_⟩
    have en : ((lines.length : Int) - (start : Int)).toNat = lines.length - start := by omega
    rw [en]
    refine for_range (lo := (start : Int)) (n := lines.length - start) (fun i σ' H' => H' = H ∧ (∀ j, start ≤ j → j < start + i → gi (gl lines j) col = 0) ∧ ∃ v3 : Option V, σ' = [some (.ref l), some (.int start), some (.int col), v3]) ⟨rfl, fun j h1 h2 => absurd h2 (by omega), none, rfl⟩ ?_ ?_
    · rintro i σ' H' hi ⟨rfl, hz, v3, rfl⟩
      have e0 : (start : Int) + (i : Int) = ((start + i : Nat) : Int) := by omega
      have hi' : start + i < lines.length := by omega
      obtain ⟨p, hp, hpl⟩ := hL.line hi'
      refine ⟨_, rfl, _, rfl, l, rv ls, _, .ref p, rfl, rfl, SqL.of hl, by rw [e0]; exact hp, _, rfl, p, iv (gl lines (start + i)), _, _, rfl, rfl, SqL.of hpl, iv_atI (by rw [wl _ (gl_mem hi')]; exact hc), rfl, _, rfl, ite2 (fun h1 => ?_) (fun h1 => ?_)⟩
      · refine ⟨_, rfl, ?_⟩
        rw [e0]
        refine k _ (.some (start + i) (by omega) hi' fun z => ?_)
        rw [z] at h1
        exact absurd h1 (by decide)
      · refine ⟨rfl, fun j j1 j2 => ?_, _, rfl⟩
        by_cases e : j = start + i
        · rw [e]
          refine Classical.byContradiction fun z => h1 ?_
          simp [z]
        · exact hz j j1 (by omega)
    · rintro σ' H' ⟨rfl, hz, v3, rfl⟩
      exact k _ (.none fun i h1 h2 => hz i h1 (by omega))
end
end Fk

set_option Elab.async false
set_option maxRecDepth 100000
set_option maxHeartbeats 8000000
set_option exponentiation.threshold 20000
namespace Fk
open PySem L2
/-! ### elimination -/
def TL (lines : List (List Int)) (N : Nat) : Nat → Nat → Int := fun j r => if j < N then gi (gl lines r) j else if j - N = r then 1 else 0
def swapL (lines : List (List Int)) (r a : Nat) : List (List Int) := (lines.set r (gl lines a)).set a (gl lines r)
structure ElSt' (m N : Nat) (T : Nat → Nat → Int) (k : Nat) (lines : List (List Int)) (δ : Int) (r : Nat) (b : Nat → Nat) (D e : Int) (L : Nat → Nat → Int) : Prop where
  E : La.Ech m N T b D L k
  he : e = 1 ∨ e = -1
  hd : δ = e * D
  lm : lines.length = m
  lw : ∀ x ∈ lines, x.length = N
  hl : ∀ i, i < m → ∀ j, j < N → gi (gl lines i) j = e * L i j
  rm : r ≤ m
  lo : ∀ i, i < r → b i < k
  hi : ∀ i, i < m → r ≤ i → N ≤ b i
  c : r = La.cnt (fun c => ¬ La.NPT m N T c) k
  id_ : r = k → ∀ i, i < k → b i = i
def ElSt (m N : Nat) (T : Nat → Nat → Int) (k : Nat) (lines : List (List Int)) (δ : Int) (r : Nat) : Prop := ∃ b D e L, ElSt' m N T k lines δ r b D e L
theorem gl_set {lines : List (List Int)} {a i : Nat} {x : List Int} (h : a < lines.length) : gl (lines.set a x) i = if i = a then x else gl lines i := by
  unfold gl
  rw [List.getD_eq_getElem?_getD, List.getD_eq_getElem?_getD, List.getElem?_set]
  by_cases e : a = i
  · rw [if_pos e, if_pos e.symm, if_pos h]
    rfl
  · rw [if_neg e, if_neg (Ne.symm e)]
theorem swapL_len {lines : List (List Int)} {r a : Nat} : (swapL lines r a).length = lines.length := by
  unfold swapL
  rw [List.length_set, List.length_set]
theorem gl_swapL {lines : List (List Int)} {r a i : Nat} (hr : r < lines.length) (ha : a < lines.length) : gl (swapL lines r a) i = gl lines (La.swp r a i) := by
  unfold swapL La.swp
  rw [gl_set (by rw [List.length_set]; exact ha), gl_set hr]
  by_cases h1 : i = a
  · rw [if_pos h1]
    by_cases h2 : i = r
    · rw [if_pos h2, ← h1, h2]
    · rw [if_neg h2, if_pos h1]
  · rw [if_neg h1]
    by_cases h2 : i = r
    · rw [if_pos h2, if_pos h2]
    · rw [if_neg h2, if_neg h2, if_neg h1]
theorem gl_pivotL {lines : List (List Int)} {a c i : Nat} {D : Int} (h : i < lines.length) : gl (pivotL lines a c D) i = pivRow lines a c D i := by
  unfold gl pivotL
  rw [List.getD_eq_getElem?_getD, List.getElem?_map, List.getElem?_range h]
  rfl
theorem gi_elim {tp fa D : Int} {line lead : List Int} {j : Nat} (h1 : j < line.length) (h2 : j < lead.length) : gi (elimF tp fa D line lead) j = (tp * gi line j - fa * gi lead j).fdiv D := by
  unfold gi elimF
  rw [List.getD_eq_getElem?_getD, List.getElem?_zipWith, List.getElem?_eq_getElem h1, List.getElem?_eq_getElem h2]
  rw [List.getD_eq_getElem?_getD, List.getD_eq_getElem?_getD, List.getElem?_eq_getElem h1, List.getElem?_eq_getElem h2]
  rfl
theorem sq_one {e : Int} (h : e = 1 ∨ e = -1) : e * e = 1 := by rcases h with rfl | rfl <;> rfl
theorem pm_mul {e s : Int} (h : e = 1 ∨ e = -1) (g : s = 1 ∨ s = -1) : e * s = 1 ∨ e * s = -1 := by rcases h with rfl | rfl <;> rcases g with rfl | rfl <;> simp
theorem sgn_of_ne {x : Int} (h : x ≠ 0) : ∃ s : Int, (s = 1 ∨ s = -1) ∧ 0 < s * x := by
  rcases Int.lt_or_gt_of_ne h with z | z
  · exact ⟨-1, .inr rfl, by omega⟩
  · exact ⟨1, .inl rfl, by omega⟩
section
variable {m N k r : Nat} {T : Nat → Nat → Int} {lines : List (List Int)} {δ : Int}
theorem ElSt.start (lm : lines.length = m) (lw : ∀ x ∈ lines, x.length = N) : ElSt m N (TL lines N) 0 lines 1 0 := by
  refine ⟨_, _, 1, _, La.Ech.start (fun i r hi hr => ?_), .inl rfl, rfl, lm, lw, fun i hi j hj => ?_, Nat.zero_le _, fun i h => absurd h (Nat.not_lt_zero i), fun i _ _ => Nat.le_add_right _ _, rfl, fun _ i h => absurd h (Nat.not_lt_zero i)⟩
  · unfold TL
    rw [if_neg (by omega), Nat.add_sub_cancel_left]
  · unfold TL
    rw [if_pos hj, Int.one_mul]
theorem ElSt.none (h : ElSt m N T k lines δ r) (kN : k < N) (hz : ∀ i, r ≤ i → i < m → gi (gl lines i) k = 0) : ElSt m N T (k + 1) lines δ r := by
  obtain ⟨b, D, e, L, S⟩ := h
  have z : ∀ i, i < m → N ≤ b i → L i k = 0 := fun i hi hn => by
    have ri : r ≤ i := Nat.not_lt.mp fun w => by
      have := S.lo i w
      omega
    have q := hz i ri hi
    rw [S.hl i hi k kN] at q
    rcases Int.mul_eq_zero.mp q with w | w
    · rcases S.he with x | x <;> omega
    · exact w
  have no := S.E.none kN z
  refine ⟨b, D, e, L, S.E.skip z, S.he, S.hd, S.lm, S.lw, S.hl, S.rm, fun i hi => Nat.lt_succ_of_lt (S.lo i hi), S.hi, by rw [La.cnt_no fun w => w no]; exact S.c, fun e => ?_⟩
  have := La.cnt_le (fun c => ¬ La.NPT m N T c) k
  have := S.c
  omega
theorem ElSt.found (h : ElSt m N T k lines δ r) (kN : k < N) {a : Nat} (ra : r ≤ a) (am : a < m) (nz : gi (gl lines a) k ≠ 0) : ElSt m N T (k + 1) (pivotL (swapL lines r a) r k δ) (gi (gl (swapL lines r a) r) k) (r + 1) := by
  obtain ⟨b, D, e, L, S⟩ := h
  have rm : r < m := by omega
  have lm := S.lm
  have ee := sq_one S.he
  have E' := S.E.swap rm am
  have gs : ∀ {i}, gl (swapL lines r a) i = gl lines (La.swp r a i) := fun {i} => gl_swapL (by omega) (by omega)
  have swr : La.swp r a r = a := if_pos rfl
  have swo : ∀ {i}, i < r → La.swp r a i = i := fun {i} hi => by
    unfold La.swp
    rw [if_neg (by omega), if_neg (by omega)]
  have hv : ∀ i, i < m → ∀ j, j < N → gi (gl (swapL lines r a) i) j = e * L (La.swp r a i) j := fun i hi j hj => by
    rw [gs]
    exact S.hl _ (La.swp_lt rm am hi) j hj
  have nr : L (La.swp r a r) k ≠ 0 := fun z => nz (by
    rw [swr] at z
    rw [S.hl a am k kN, z, Int.mul_zero])
  obtain ⟨s, hs, hp⟩ := sgn_of_ne nr
  have ss := sq_one hs
  have hbr : N ≤ b (La.swp r a r) := by
    rw [swr]
    exact S.hi a am ra
  have E2 := E'.pivot kN hs rm hbr hp
  have wl : ∀ {i}, i < m → (gl (swapL lines r a) i).length = N := fun {i} hi => by
    rw [gs]
    exact S.lw _ (gl_mem (by rw [lm]; exact La.swp_lt rm am hi))
  refine ⟨_, _, e * s, _, E2, pm_mul S.he hs, ?_, by unfold pivotL; rw [List.length_map, List.length_range, swapL_len]; exact lm, fun x hx => ?_, fun i hi j hj => ?_, rm, fun i hi => ?_, fun i hi hri => ?_, ?_, fun e1 i hi => ?_⟩
  · rw [hv r rm k kN]
    have : e * s * (s * L (La.swp r a r) k) = e * (s * s) * L (La.swp r a r) k := by ac_rfl
    rw [this, ss, Int.mul_one]
  · unfold pivotL at hx
    obtain ⟨i, hi, rfl⟩ := List.mem_map.mp hx
    have hi' := List.mem_range.mp hi
    rw [swapL_len, lm] at hi'
    unfold pivRow
    split
    · exact wl rm
    · unfold elimF
      rw [List.length_zipWith, wl hi', wl rm, Nat.min_self]
  · rw [gl_pivotL (by rw [swapL_len]; omega)]
    unfold pivRow La.LP
    by_cases z : i = r
    · rw [if_pos z, if_pos z, hv r rm j hj]
      have : e * s * (s * L (La.swp r a r) j) = e * (s * s) * L (La.swp r a r) j := by ac_rfl
      rw [this, ss, Int.mul_one]
    · rw [if_neg z, if_neg z, gi_elim (by rw [wl hi]; exact hj) (by rw [wl rm]; exact hj), hv r rm k kN, hv i hi j hj, hv i hi k kN, hv r rm j hj]
      have q := E'.I.LP_at (at' := r) (c := k) (k := i) (j := j) (s := s) rm hi z (by omega) (by omega)
      unfold La.LP at q
      rw [if_neg z] at q
      generalize (s * L (La.swp r a r) k * L (La.swp r a i) j - L (La.swp r a i) k * (s * L (La.swp r a r) j)) / D = x at q ⊢
      have d0 := S.E.I.d0
      have num : e * L (La.swp r a r) k * (e * L (La.swp r a i) j) - e * L (La.swp r a i) k * (e * L (La.swp r a r) j) = e * D * (e * s * x) := by
        have t1 : e * L (La.swp r a r) k * (e * L (La.swp r a i) j) = e * e * (L (La.swp r a r) k * L (La.swp r a i) j) := by ac_rfl
        have t2 : e * L (La.swp r a i) k * (e * L (La.swp r a r) j) = e * e * (L (La.swp r a i) k * L (La.swp r a r) j) := by ac_rfl
        have t3 : e * D * (e * s * x) = e * e * (s * (D * x)) := by ac_rfl
        rw [t1, t2, t3, ee, q, Int.one_mul, Int.one_mul, Int.one_mul, Int.mul_sub]
        have t4 : s * (s * L (La.swp r a r) k * L (La.swp r a i) j) = s * s * (L (La.swp r a r) k * L (La.swp r a i) j) := by ac_rfl
        have t5 : s * (L (La.swp r a i) k * (s * L (La.swp r a r) j)) = s * s * (L (La.swp r a i) k * L (La.swp r a r) j) := by ac_rfl
        rw [t4, t5, ss, Int.one_mul, Int.one_mul]
      rw [num, S.hd, Int.mul_fdiv_cancel_left _ (by rcases S.he with w | w <;> rw [w] <;> omega)]
  · unfold La.bP
    split
    · exact Nat.lt_succ_self k
    · show b (La.swp r a i) < k + 1
      rw [swo (by omega)]
      exact Nat.lt_succ_of_lt (S.lo i (by omega))
  · unfold La.bP
    rw [if_neg (by omega)]
    show N ≤ b (La.swp r a i)
    unfold La.swp
    rw [if_neg (by omega)]
    split
    · exact S.hi r rm (Nat.le_refl _)
    · exact S.hi i hi (by omega)
  · rw [La.cnt_yes (E'.found kN rm hbr nr), ← S.c]
  · have rk : r = k := by omega
    unfold La.bP
    split
    · next w => rw [w, rk]
    · show b (La.swp r a i) = i
      rw [swo (by omega)]
      exact S.id_ rk i (by omega)
theorem fact6 : ∀ {m : Nat}, m ≤ 6 → La.fact m ≤ 2 ^ 10
  | 0, _ => by decide
  | 1, _ => by decide
  | 2, _ => by decide
  | 3, _ => by decide
  | 4, _ => by decide
  | 5, _ => by decide
  | 6, _ => by decide
/-- how great the columns are that it began with -/
structure TBd (m N W : Nat) (T : Nat → Nat → Int) : Prop where
  m6 : m ≤ 6
  wN : W ≤ N
  a : ∀ j, j < W → ∀ r, r < m → (T j r).natAbs ≤ 2 ^ 549
  b : ∀ j, j < N → ∀ r, r < m → (T j r).natAbs ≤ 2 ^ 862
  h : ∀ i r, i < m → r < m → T (N + i) r = if i = r then 1 else 0
theorem inv_bd {W : Nat} {b : Nat → Nat} {D : Int} {L : Nat → Nat → Int} (B : TBd m N W T) (E : La.Ech m N T b D L k) (kW : k ≤ W) {i j : Nat} (hi : i < m) (hj : j < N) : (L i j).natAbs ≤ 2 ^ 4166 ∧ D.natAbs ≤ 2 ^ 3304 := by
  have hT : ∀ i r, i < m → r < m → (T (b i) r).natAbs ≤ 2 ^ 549 := fun i r hi hr => by
    rcases E.hb i hi with z | z
    · exact B.a _ (by omega) r hr
    · have lt := E.I.bN i hi
      have q := B.h (b i - N) r (by omega) hr
      rw [show N + (b i - N) = b i by omega] at q
      rw [q]
      split
      · exact Nat.one_le_two_pow
      · exact Nat.zero_le _
  have h1 := E.I.bound2 (c := 2 ^ 549) (d := 2 ^ 862) Nat.one_le_two_pow hT hi (by omega) fun r hr => B.b j hj r hr
  have h2 := E.I.boundB hT
  have f := fact6 B.m6
  have p : (2 ^ 549) ^ m ≤ 2 ^ 3294 := by
    rw [← Nat.pow_mul]
    exact Nat.pow_le_pow_right (by decide) (by have := B.m6; omega)
  have p2 : La.fact m * (2 ^ 549) ^ m ≤ 2 ^ 10 * 2 ^ 3294 := Nat.mul_le_mul f p
  refine ⟨Nat.le_trans h1 ?_, Nat.le_trans h2 ?_⟩
  · have : La.fact m * (2 ^ 549) ^ m * 2 ^ 862 ≤ 2 ^ 10 * 2 ^ 3294 * 2 ^ 862 := Nat.mul_le_mul_right _ p2
    rw [← Nat.pow_add, ← Nat.pow_add] at this
    exact this
  · rw [← Nat.pow_add] at p2
    exact p2
theorem ElSt.bd {W : Nat} (h : ElSt m N T k lines δ r) (B : TBd m N W T) (kW : k ≤ W) {i j : Nat} (hi : i < m) (hj : j < N) : Bd 4200 (gi (gl lines i) j) := by
  obtain ⟨b, D, e, L, S⟩ := h
  have z := (inv_bd B S.E kW hi hj).1
  rw [S.hl i hi j hj]
  unfold Bd
  rw [Int.natAbs_mul]
  have : e.natAbs = 1 := by rcases S.he with w | w <;> rw [w] <;> rfl
  rw [this, Nat.one_mul]
  exact Nat.lt_of_le_of_lt z (Nat.pow_lt_pow_right (by decide) (by decide))
theorem ElSt.dne (h : ElSt m N T k lines δ r) : δ ≠ 0 := by
  obtain ⟨b, D, e, L, S⟩ := h
  have d0 := S.E.I.d0
  rw [S.hd]
  rcases S.he with w | w <;> rw [w] <;> omega
theorem ElSt.lnok {W : Nat} (h : ElSt m N T k lines δ r) (B : TBd m N W T) (kW : k ≤ W) (n5 : N ≤ 5) : LnOk 4200 N lines := by
  obtain ⟨b, D, e, L, S⟩ := id h
  refine ⟨Nat.le_refl _, by omega, by rw [S.lm]; exact B.m6, S.lw, fun x hx y hy => ?_⟩
  obtain ⟨i, hi, e1⟩ := List.getElem_of_mem hx
  obtain ⟨j, hj, e2⟩ := List.getElem_of_mem hy
  have g1 : gl lines i = x := by
    unfold gl
    rw [List.getD_eq_getElem?_getD, List.getElem?_eq_getElem hi, e1]
    rfl
  have g2 : gi x j = y := by
    unfold gi
    rw [List.getD_eq_getElem?_getD, List.getElem?_eq_getElem hj, e2]
    rfl
  have z := h.bd B kW (i := i) (j := j) (by rw [← S.lm]; exact hi) (by rw [← S.lw x hx]; exact hj)
  rwa [g1, g2] at z
end
theorem lnok_swap {B wd r a : Nat} {lines : List (List Int)} (h : LnOk B wd lines) (hr : r < lines.length) (ha : a < lines.length) : LnOk B wd (swapL lines r a) := by
  have mem : ∀ x ∈ swapL lines r a, x ∈ lines := fun x hx => by
    unfold swapL at hx
    rcases List.mem_or_eq_of_mem_set hx with z | z
    · rcases List.mem_or_eq_of_mem_set z with w | w
      · exact w
      · rw [w]
        exact gl_mem ha
    · rw [z]
      exact gl_mem hr
  exact ⟨h.bB, h.wB, by rw [swapL_len]; exact h.n, fun x hx => h.ll x (mem x hx), fun x hx => h.lb x (mem x hx)⟩
end Fk

set_option Elab.async false
set_option maxRecDepth 100000
set_option maxHeartbeats 8000000
set_option exponentiation.threshold 20000
namespace Fk
open PySem L2
/-! ### eliminated -/
theorem call_list_ofK {X : Cx} {K : PySem.W.Frag} (hK : X.K = K) : CallR X (.type "list") (fun xs H Q => ∃ p ys, xs = [.ref p] ∧ (SqL K H p ys ∨ SqT K H p ys) ∧ ∀ l, H l = none → Q (.ref l) (upd H l (.lst ys))) := by
  subst hK
  exact call_list_of
theorem pi_listK {X : Cx} {K : PySem.W.Frag} {tg l : Expr} {tl : TE} (hK : X.K = K) (hl : PE X l tl) : PI X tg l (iList K tl) := by
  subst hK
  exact pi_list hl
abbrev sElim : Stmt := top 16
abbrev nsElim : List Str := ["lines", "many", "columns", "divisor", "column", "done", "at", "swapped"]
def spElim (K : PySem.W.Frag) : Sp := fun vs H Q _ => ∃ (l : Addr) (ls : List Addr) (lines : List (List Int)) (m N W : Nat), vs = [.ref l, .int (W : Nat)] ∧ H l = some (.lst (rv ls)) ∧ LinesAt H ls lines ∧ lines.length = m ∧ (∀ x ∈ lines, x.length = N) ∧ N ≤ 5 ∧ TBd m N W (TL lines N) ∧
  ∀ t l' ls' lines' cl cols δ H', Same H H' → H' t = some (.tup [.ref l', .ref cl]) → H' l' = some (.lst (rv ls')) → LinesAt H' ls' lines' → H' cl = some (.lst (iv cols)) → ElSt m N (TL lines N) W lines' δ cols.length → Q (.ref t) H'
theorem getElem_rv {ls : List Addr} {i : Nat} {p : Addr} (h : ls[i]? = some p) : (rv ls)[i]? = some (.ref p) := by
  unfold rv
  rw [List.getElem?_map, h]
  rfl
theorem LinesAt.at_ {H : Hp} {ls : List Addr} {lines : List (List Int)} (h : LinesAt H ls lines) {k : Nat} (hk : k < lines.length) : ∃ p, ls[k]? = some p ∧ H p = some (.lst (iv (gl lines k))) := by
  have hl : k < ls.length := by rw [h.1]; exact hk
  exact ⟨ls[k], List.getElem?_eq_getElem hl, h.2 k _ _ (List.getElem?_eq_getElem hl) (gl_at hk)⟩
theorem LinesAt.swap {H : Hp} {ls : List Addr} {lines : List (List Int)} (h : LinesAt H ls lines) {r a : Nat} {p q : Addr} (hr : r < lines.length) (ha : a < lines.length) (hp : ls[r]? = some p) (hq : ls[a]? = some q) : LinesAt H ((ls.set r q).set a p) (swapL lines r a) := by
  obtain ⟨p', ep, gp'⟩ := h.at_ hr
  obtain ⟨q', eq, gq'⟩ := h.at_ ha
  rw [hp] at ep
  rw [hq] at eq
  cases ep
  cases eq
  have l := h.1
  refine ⟨by rw [List.length_set, List.length_set, swapL_len, l], fun i z row hz hrow => ?_⟩
  unfold swapL at hrow
  by_cases h1 : i = a
  · rw [h1, List.getElem?_set_self (by rw [List.length_set]; omega)] at hz hrow
    cases hz
    cases hrow
    exact gp'
  · rw [List.getElem?_set_ne (Ne.symm h1)] at hz hrow
    by_cases h2 : i = r
    · rw [h2, List.getElem?_set_self (by omega)] at hz hrow
      cases hz
      cases hrow
      exact gq'
    · rw [List.getElem?_set_ne (Ne.symm h2)] at hz hrow
      exact h.2 i z row hz hrow
theorem ixN_nat {n i : Nat} (h : i < n) : ixN n (i : Int) = some i := by
  unfold ixN
  rw [if_pos (by omega), if_pos (by omega)]
  rfl
theorem LinesAt.off {H : Hp} {ls : List Addr} {lines : List (List Int)} (h : LinesAt H ls lines) {D : Addr} (hn : D ∉ ls) (o : HO) : LinesAt (upd H D o) ls lines := ⟨h.1, fun i p row hp hr => by
  rw [upd_ne (fun e => hn (by rw [← e]; exact List.mem_of_getElem? hp))]
  exact h.2 i p row hp hr⟩
section
variable {P : Program} {w : World} {K : PySem.W.Frag} {mg : Str → Option Value} {base : Heap}
theorem scElim : FnScope nsElim ["lines", "many"] (defScope sElim) := ⟨rfl, rfl, rfl, by decide +kernel, rfl, by decide +kernel, by decide +kernel⟩
theorem ok_elim {f fF fP : Addr} {fd dF dP : FuncData} (F : Fun K "eliminated" "eliminated" sElim f fd) (ml : mg "len" = none) (mr : mg "range" = none) (mli : mg "list" = none) (Fe : Cl P w K mg base "first_entry" ["lines", "start", "column"] 1 spFirstE fF dF) (Pi : Cl P w K mg base "pivoted" psPivoted 1 spPivoted fP dP) : FnOk P w K mg base CX0 2 f fd ["lines", "many"] (spElim K) := by
  refine F.ok scElim (fun vs H Q E h => ?_) (fun cdv A outer s H vs Q E hr h => ?_)
  · obtain ⟨l, ls, lines, m, N, W, rfl, _⟩ := h
    rfl
  · obtain ⟨l, ls, lines, m, N, W, rfl, hl, hL, lm, lw, n5, B, k⟩ := h
    refine ⟨_, pss_cons (ps_set (i := 2) scElim.nd rfl (Or.inl rfl) (pe_lst pa_nil))
      (pss_cons (ps_set (i := 3) scElim.nd rfl (Or.inl rfl) pe_int)
      (pss_cons (ps_for PassesOwn.never rfl (pi_range1 (by rfl) mr (pa_cons (pv 1) pa_nil)) (pg_name (i := 4) scElim.nd rfl (Or.inl rfl))
        (pss_cons (ps_set (i := 5) scElim.nd rfl (Or.inl rfl) (pe_callB call_len_seq (by rfl) ml PySem.boot_len (pa_cons (pv 2) pa_nil)))
        (pss_cons (ps_set (i := 6) scElim.nd rfl (Or.inl rfl) (pe_call Fe.G hr (by rfl) Fe.g Fe.kp Fe.b .nil pass0 (pa_cons (pv 0) (pa_cons (pv 5) (pa_cons (pv 4) pa_nil)))))
        (pss_one (ps_if (pt_cmpR op_notN (pv 6) pe_non (nomark _))
          (pss_cons (ps_set (i := 7) scElim.nd rfl (Or.inl rfl) (pe_callTy (call_list_ofK (K := K) rfl) (by rfl) mli (by decide +kernel) (pa_cons (pv 0) pa_nil)))
          (pss_cons (ps_asg (pe_tup (pa_cons (pe_ix ix_list (pv 0) (pv 6) (fun _ _ => rfl)) (pa_cons (pe_ix ix_list (pv 0) (pv 5) (fun _ _ => rfl)) pa_nil))) (pg_tup (by rfl) (pgs_cons (pg_sub (pv 7) (pv 5) set_list) (pgs_cons (pg_sub (pv 7) (pv 6) set_list) pgs_nil))))
          (pss_cons (ps_set (i := 0) scElim.nd rfl (Or.inl rfl) (pe_call Pi.G hr (by rfl) Pi.g Pi.kp Pi.b .nil pass0 (pa_cons (pv 7) (pa_cons (pv 5) (pa_cons (pv 4) (pa_cons (pv 3) pa_nil))))))
          (pss_cons (ps_set (i := 3) scElim.nd rfl (Or.inl rfl) (pe_ix ix_list (pe_ix ix_list (pv 0) (pv 5) (fun _ _ => rfl)) (pv 4) (fun _ _ => rfl)))
          (pss_one (ps_expr (pe_bm PySem.F.plainAttrs_list PySem.F.slot_list_append PySem.F.type_list_append mt_append (pv 2) (pa_cons (pv 4) pa_nil)))))))) pss_nil)))))
      (pss_one (ps_ret (pe_tup (pa_cons (pv 0) (pa_cons (pv 2) pa_nil))))))), ?_⟩
    refine ⟨by show 0 ≤ sizeLine; decide, fun D hD => ?_⟩
    have s0 := same_new (o := .lst []) hD
    have nD0 : D ∉ ls := fun z => by
      obtain ⟨i, hi, e⟩ := List.getElem_of_mem z
      obtain ⟨p, h1, h2⟩ := hL.at_ (k := i) (by rw [← hL.1]; exact hi)
      rw [List.getElem?_eq_getElem hi, e] at h1
      cases h1
      rw [hD] at h2
      cases h2
    refine ⟨_, rfl, (W : Int), rfl, by have := B.wN; omega, by have := B.wN; omega, for_range (lo := 0) (n := W) (fun c σ' H' => ∃ (l' : Addr) (ls' : List Addr) (lines' : List (List Int)) (cols : List Int) (δ : Int) (v4 v5 v6 v7 : Option V), σ' = [some (.ref l'), some (.int (W : Nat)), some (.ref D), some (.int δ), v4, v5, v6, v7] ∧ Same H H' ∧ H' l' = some (.lst (rv ls')) ∧ LinesAt H' ls' lines' ∧ D ∉ ls' ∧ l' ≠ D ∧ H' D = some (.lst (iv cols)) ∧ ElSt m N (TL lines N) c lines' δ cols.length)
      ⟨l, ls, lines, [], 1, none, none, none, none, rfl, s0, s0 _ _ hl, hL.same s0, nD0, (fun e => by rw [e, hD] at hl; cases hl), upd_same, ElSt.start lm lw⟩ ?_ ?_⟩
    · rintro c σ' H1 hc ⟨l', ls', lines', cols, δ, v4, v5, v6, v7, rfl, s1, hl1, hL1, nD, lD, hD1, S⟩
      have e0 : (0 : Int) + (c : Int) = (c : Int) := Int.zero_add _
      have cN : c < N := by have := B.wN; omega
      have m6 := B.m6
      obtain ⟨b', D', ee, LL, S'⟩ := id S
      have lm' := S'.lm
      have rm := S'.rm
      refine ⟨_, rfl, D, _, rfl, .inl (SqL.of hD1), ?_⟩
      rw [iv_len]
      refine ⟨_, rfl, _, rfl, _, rfl, l', ls', lines', cols.length, c, N, congrArg (fun z : Int => [V.ref l', V.int ((cols.length : Nat) : Int), V.int z]) e0, hl1, hL1, S'.lw, cN, by omega, by omega, fun v hv => ?_⟩
      cases hv with
      | none hz =>
        refine ⟨_, rfl, rfl, _, rfl, iteF ⟨l', ls', lines', cols, δ, _, _, _, _, rfl, s1, hl1, hL1, nD, lD, hD1, S.none cN fun i h1 h2 => hz i h1 (by omega)⟩⟩
      | some a h1 h2 h3 =>
        have rl : cols.length < lines'.length := by omega
        obtain ⟨p, hp, hpl⟩ := hL1.at_ rl
        obtain ⟨q, hq, hql⟩ := hL1.at_ h2
        refine ⟨_, rfl, rfl, _, rfl, iteT ?_⟩
        refine ⟨_, rfl, l', rv ls', rfl, .inl (SqL.of hl1), fun sw hsw => ?_⟩
        have s2 := same_new (o := .lst (rv ls')) hsw
        refine ⟨_, rfl, _, rfl, l', rv ls', _, .ref q, rfl, rfl, SqL.of (s2 _ _ hl1), atI_nat (getElem_rv hq), _, rfl, _, rfl, l', rv ls', _, .ref p, rfl, rfl, SqL.of (s2 _ _ hl1), atI_nat (getElem_rv hp), by show 2 ≤ sizeLine; decide, fun T hT => ?_⟩
        have s3 := same_new (o := .tup [.ref q, .ref p]) hT
        have eT : (upd (upd H1 sw (.lst (rv ls'))) T (.tup [.ref q, .ref p])) T = some (.tup [.ref q, .ref p]) := upd_same
        have esw := s3 _ _ (upd_same (H := H1) (a := sw) (o := .lst (rv ls')))
        have s13 := s2.trans s3
        have ll : ls'.length = lines'.length := hL1.1
        refine ⟨T, _, rfl, .inl (.inl eT), rfl, _, _, rfl, _, rfl, _, rfl, sw, rv ls', _, cols.length, rfl, rfl, esw, by rw [rv_len]; exact ixN_nat (by omega), ?_⟩
        rw [rv_set]
        refine ⟨_, _, rfl, _, rfl, _, rfl, sw, rv (ls'.set cols.length q), _, a, rfl, rfl, upd_same, by rw [rv_len, List.length_set]; exact ixN_nat (by omega), rfl, ?_⟩
        rw [rv_set]
        have nsw : ∀ {x : Addr} {o : HO}, H1 x = some o → x ≠ sw := fun hx e => by
          rw [e, hsw] at hx
          cases hx
        have keep : Same H1 (upd (upd (upd (upd H1 sw (.lst (rv ls'))) T (.tup [.ref q, .ref p])) sw (.lst (rv (ls'.set cols.length q)))) sw (.lst (rv ((ls'.set cols.length q).set a p)))) := fun x o hx => by
          rw [upd_ne (nsw hx), upd_ne (nsw hx)]
          exact s13 _ _ hx
        have esw2 : (upd (upd (upd (upd H1 sw (.lst (rv ls'))) T (.tup [.ref q, .ref p])) sw (.lst (rv (ls'.set cols.length q)))) sw (.lst (rv ((ls'.set cols.length q).set a p)))) sw = some (.lst (rv ((ls'.set cols.length q).set a p))) := upd_same
        generalize upd (upd (upd (upd H1 sw (.lst (rv ls'))) T (.tup [.ref q, .ref p])) sw (.lst (rv (ls'.set cols.length q)))) sw (.lst (rv ((ls'.set cols.length q).set a p))) = H2 at keep esw2 ⊢
        have hL2 := (hL1.same keep).swap rl h2 hp hq
        have S2 := S.found cN h1 (by omega) h3
        have ok := lnok_swap (S.lnok B (Nat.le_of_lt hc) n5) rl h2
        refine ⟨_, rfl, _, rfl, _, rfl, _, rfl, sw, _, swapL lines' cols.length a, cols.length, c, 4200, N, δ, congrArg (fun z : Int => [V.ref sw, V.int ((cols.length : Nat) : Int), V.int z, V.int δ]) e0, esw2, hL2, ok, by rw [swapL_len]; exact rl, cN, S.dne, fun l3 ls3 H3 s4 f3 hl3 hL3 hls3 => ?_⟩
        have keep3 := keep.trans s4
        have hD3 := keep3 _ _ hD1
        have hD2 := keep _ _ hD1
        have nD3 : D ∉ ls3 := fun z => by
          rcases hls3 D z with w | w
          · rcases List.mem_or_eq_of_mem_set w with w | w
            · rcases List.mem_or_eq_of_mem_set w with w | w
              · exact nD w
              · exact nD (by rw [w]; exact List.mem_of_getElem? hq)
            · exact nD (by rw [w]; exact List.mem_of_getElem? hp)
          · rw [hD2] at w
            cases w
        have lD3 : l3 ≠ D := fun e => by
          rw [e, hD2] at f3
          cases f3
        have pl : (pivotL (swapL lines' cols.length a) cols.length c δ).length = lines'.length := by
          unfold pivotL
          rw [List.length_map, List.length_range, swapL_len]
        obtain ⟨p3, hp3, hpl3⟩ := hL3.at_ (k := cols.length) (by rw [pl]; exact rl)
        have g3 : gl (pivotL (swapL lines' cols.length a) cols.length c δ) cols.length = gl (swapL lines' cols.length a) cols.length := by
          rw [gl_pivotL (by rw [swapL_len]; exact rl)]
          unfold pivRow
          rw [if_pos rfl]
        rw [g3] at hpl3
        have w3 : c < (gl (swapL lines' cols.length a) cols.length).length := by
          rw [ok.ll _ (gl_mem (by rw [swapL_len]; exact rl))]
          exact cN
        refine ⟨_, rfl, _, rfl, l3, rv ls3, _, .ref p3, rfl, rfl, SqL.of hl3, atI_nat (getElem_rv hp3), _, rfl, p3, _, _, _, rfl, rfl, SqL.of hpl3, by rw [e0]; exact iv_atI w3, ?_⟩
        refine ⟨_, rfl, .inl ⟨rfl, _, SqL.of hD3⟩, _, rfl, D, iv cols, _, rfl, rfl, hD3, by rw [iv_len]; exact small1000 (by omega), ?_⟩
        refine ⟨l3, ls3, _, cols ++ [(c : Int)], _, _, _, _, _, rfl, fun x o hx => ?_, ?_, hL3.off nD3 _, nD3, lD3, ?_, ?_⟩
        · rw [upd_ne (ne_of_none hx hD)]
          exact (s1.trans keep3) _ _ hx
        · rw [upd_ne lD3]
          exact hl3
        · rw [upd_same, e0]
          unfold iv
          rw [List.map_append]
          rfl
        · rw [List.length_append]
          exact S2
    · rintro σ' H1 ⟨l', ls', lines', cols, δ, v4, v5, v6, v7, rfl, s1, hl1, hL1, nD, lD, hD1, S⟩
      refine ⟨_, rfl, _, rfl, by show 2 ≤ sizeLine; decide, fun t ht => ?_⟩
      have s2 := same_new (o := .tup [.ref l', .ref D]) ht
      exact k t l' ls' lines' D cols δ _ (s1.trans s2) upd_same (s2 _ _ hl1) (hL1.same s2) (s2 _ _ hD1) S
end
end Fk

set_option Elab.async false
set_option maxRecDepth 100000
set_option maxHeartbeats 4000000
set_option exponentiation.threshold 20000
namespace La
theorem sm_tail {n c : Nat} {f : Nat → Int} (hc : c < n) (h : ∀ j, c < j → j < n → f j = 0) : sm n f = sm (c + 1) f := by
  have e : n = (c + 1) + (n - (c + 1)) := by omega
  rw [e, sm_app, sm_zero (n := n - (c + 1)) fun i hi => h _ (by omega) (by omega), Int.add_zero]
end La
namespace Fk
open PySem L2
/-! ### columns that those ahead tell, over fractions -/
def NPQ (mx : List (List (Int × Int))) (c : Nat) : Prop := ∃ y : Nat → Int, y c ≠ 0 ∧ ∀ r, r < mx.length → rs (c + 1) (fun j => (y j : Rat) * qv (gp (gm mx r) j)) = 0
theorem npq_congr {mx mx' : List (List (Int × Int))} {c : Nat} (hl : mx.length = mx'.length) (h : ∀ r, r < mx.length → ∀ j, j ≤ c → gp (gm mx r) j = gp (gm mx' r) j) : NPQ mx c ↔ NPQ mx' c := by
  constructor
  · rintro ⟨y, y0, y1⟩
    refine ⟨y, y0, fun r hr => ?_⟩
    rw [← y1 r (by omega)]
    exact rs_congr fun j hj => by rw [h r (by omega) j (by omega)]
  · rintro ⟨y, y0, y1⟩
    refine ⟨y, y0, fun r hr => ?_⟩
    rw [← y1 r (by omega)]
    exact rs_congr fun j hj => by rw [h r (by omega) j (by omega)]
def wls (mx : List (List (Int × Int))) : List (List Int) := mx.map wholeR
theorem wls_len {mx : List (List (Int × Int))} : (wls mx).length = mx.length := List.length_map ..
theorem gl_wls {mx : List (List (Int × Int))} {r : Nat} (h : r < mx.length) : gl (wls mx) r = wholeR (gm mx r) := by
  unfold gl wls
  rw [List.getD_eq_getElem?_getD, List.getElem?_map, gm_at h]
  rfl
theorem whole_len (fs : List (Int × Int)) : (wholeR fs).length = fs.length := List.length_map ..
theorem gi_whole {fs : List (Int × Int)} {j : Nat} (h : j < fs.length) : gi (wholeR fs) j = (gp fs j).1 * (shF fs / (gp fs j).2) := by
  unfold gi wholeR
  rw [List.getD_eq_getElem?_getD, List.getElem?_map, gp_at h]
  rfl
theorem shF_pos {fs : List (Int × Int)} (p : ∀ x ∈ fs, 0 < x.2) : 0 < shF fs := (shF_facts fs 1 (by decide) p).1
theorem whole_qv {fs : List (Int × Int)} (p : ∀ x ∈ fs, 0 < x.2) {j : Nat} (h : j < fs.length) : ((gi (wholeR fs) j : Int) : Rat) = (shF fs : Rat) * qv (gp fs j) := by
  have hm := gp_mem h
  have p1 := p _ hm
  obtain ⟨u, hu⟩ := (shF_facts fs 1 (by decide) p).2.2 _ hm
  have hu' : shF fs = (gp fs j).2 * u := hu
  rw [gi_whole h, hu', Int.mul_ediv_cancel_left _ (by omega), Rat.intCast_mul, Rat.intCast_mul, ← qv_mul p1]
  grind
theorem whole_bd {fs : List (Int × Int)} {A B : Nat} (p : ∀ x ∈ fs, 0 < x.2) {j : Nat} (h : j < fs.length) (hS : Bd B (shF fs)) (ha : Bd A (gp fs j).1) : (gi (wholeR fs) j).natAbs ≤ 2 ^ (A + B) := by
  rw [gi_whole h]
  have S0 := shF_pos p
  have p1 := p _ (gp_mem h)
  have qb : Bd B (shF fs / (gp fs j).2) := by
    have d1 : shF fs / (gp fs j).2 ≤ shF fs := Int.ediv_le_self _ (by omega)
    have d2 : 0 ≤ shF fs / (gp fs j).2 := Int.ediv_nonneg (by omega) (by omega)
    unfold Bd at *
    omega
  exact Nat.le_of_lt (ha.mulB qb)
structure MxOk (mx : List (List (Int × Int))) (N : Nat) : Prop where
  l : ∀ r, r < mx.length → (gm mx r).length = N
  p : ∀ r, r < mx.length → ∀ x ∈ gm mx r, 0 < x.2
theorem tl_wls {mx : List (List (Int × Int))} {N r j : Nat} (h : MxOk mx N) (hr : r < mx.length) (hj : j < N) : ((TL (wls mx) N j r : Int) : Rat) = (shF (gm mx r) : Rat) * qv (gp (gm mx r) j) := by
  unfold TL
  rw [if_pos hj, gl_wls hr]
  exact whole_qv (h.p r hr) (by rw [h.l r hr]; exact hj)
theorem npt_npq {mx : List (List (Int × Int))} {N c : Nat} (h : MxOk mx N) (hc : c < N) : La.NPT mx.length N (TL (wls mx) N) c ↔ NPQ mx c := by
  have key : ∀ (y : Nat → Int) (r : Nat), r < mx.length → ((La.sm (c + 1) (fun j => y j * TL (wls mx) N j r) : Int) : Rat) = (shF (gm mx r) : Rat) * rs (c + 1) fun j => (y j : Rat) * qv (gp (gm mx r) j) := fun y r hr => by
    rw [rs_cast, ← rs_mul]
    refine rs_congr fun j hj => ?_
    rw [Rat.intCast_mul, tl_wls h hr (by omega)]
    grind
  constructor
  · rintro ⟨y, y0, y1, y2⟩
    refine ⟨y, y0, fun r hr => ?_⟩
    have z := key y r hr
    have z2 := y2 r hr
    rw [La.sm_tail hc fun j hj _ => by rw [y1 j hj, Int.zero_mul]] at z2
    rw [z2] at z
    have S0 := cast_ne (shF_pos (h.p r hr))
    have z3 : (shF (gm mx r) : Rat) * (rs (c + 1) fun j => (y j : Rat) * qv (gp (gm mx r) j)) = 0 := by
      rw [← z]
      rfl
    rcases Rat.mul_eq_zero.mp z3 with w | w
    · exact absurd w S0
    · exact w
  · rintro ⟨y, y0, y1⟩
    refine ⟨fun j => if j ≤ c then y j else 0, by show (if c ≤ c then y c else 0) ≠ 0; rw [if_pos (Nat.le_refl c)]; exact y0, fun j hj => if_neg (by omega), fun r hr => ?_⟩
    rw [La.sm_tail hc fun j hj _ => by show (if j ≤ c then y j else 0) * _ = 0; rw [if_neg (by omega), Int.zero_mul], La.sm_congr (g := fun j => y j * TL (wls mx) N j r) fun j hj => by show (if j ≤ c then y j else 0) * _ = _; rw [if_pos (by omega)]]
    have z := key y r hr
    rw [y1 r hr, Rat.mul_zero] at z
    exact_mod_cast z
theorem cnt_npq {mx : List (List (Int × Int))} {N W : Nat} (h : MxOk mx N) (hW : W ≤ N) : La.cnt (fun c => ¬ La.NPT mx.length N (TL (wls mx) N) c) W = La.cnt (fun c => ¬ NPQ mx c) W :=
  La.cnt_congr fun c hc => not_congr (npt_npq h (by omega))
/-! ### what is left behind all columns -/
def lowS (a b : Int) : Int × Int := if b < 0 then lowI (-a) (-b) else lowI a b
theorem qv_lowS {a b : Int} (b0 : b ≠ 0) : qv (lowS a b) = (a : Rat) / (b : Rat) := by
  unfold lowS
  by_cases h : b < 0
  · rw [if_pos h, qv_low (by omega), Rat.intCast_neg, Rat.intCast_neg]
    grind
  · rw [if_neg h, qv_low (by omega)]
theorem red_lowS {a b : Int} (b0 : b ≠ 0) : Red (lowS a b) := by
  unfold lowS
  by_cases h : b < 0
  · rw [if_pos h]
    exact low_red (by omega)
  · rw [if_neg h]
    exact low_red (by omega)
theorem bd_lowS {A B : Nat} {a b : Int} (b0 : b ≠ 0) (ha : Bd A a) (hb : Bd B b) : Fit A B (lowS a b) := by
  have na : Bd A (-a) := by unfold Bd at *; rw [Int.natAbs_neg]; exact ha
  have nb : Bd B (-b) := by unfold Bd at *; rw [Int.natAbs_neg]; exact hb
  unfold lowS
  by_cases h : b < 0
  · rw [if_pos h]
    have z := low_bd (a := -a) (b := -b) (by omega) na nb
    have r := low_red (a := -a) (b := -b) (by omega)
    exact ⟨r.p, r.g, z.1, z.2⟩
  · rw [if_neg h]
    have z := low_bd (a := a) (b := b) (by omega) ha hb
    have r := low_red (a := a) (b := b) (by omega)
    exact ⟨r.p, r.g, z.1, z.2⟩
section
variable {m W : Nat} {T : Nat → Nat → Int} {lines : List (List Int)} {δ : Int}
theorem ElSt.diag {N : Nat} (h : ElSt m N T W lines δ W) (hW : W ≤ N) : ∃ D e : Int, 0 < D ∧ (e = 1 ∨ e = -1) ∧ W ≤ m ∧ ∀ k, k < W → gi (gl lines k) k = e * D := by
  obtain ⟨b, D, e, L, S⟩ := h
  refine ⟨D, e, S.E.I.d0, S.he, S.rm, fun k hk => ?_⟩
  have z := S.E.I.unit (k := k) (i := k) (by have := S.rm; omega) (by have := S.rm; omega)
  rw [if_pos rfl, S.id_ rfl k hk] at z
  rw [S.hl k (by have := S.rm; omega) k (by omega), z]
theorem ElSt.more (h : ElSt m (W + 1) T W lines δ W) {i : Nat} (hi : W ≤ i) (hm : i < m) (nz : gi (gl lines i) W ≠ 0) : ¬ La.NPT m (W + 1) T W := by
  obtain ⟨b, D, e, L, S⟩ := h
  refine S.E.found (Nat.lt_succ_self W) hm (S.hi i hm hi) fun z => nz ?_
  rw [S.hl i hm W (Nat.lt_succ_self W), z, Int.mul_zero]
theorem ElSt.told (h : ElSt m (W + 1) T W lines δ W) (hz : ∀ i, W ≤ i → i < m → gi (gl lines i) W = 0) : La.NPT m (W + 1) T W ∧ ∃ (D e : Int) (l : Nat → Int), 0 < D ∧ (e = 1 ∨ e = -1) ∧ (∀ k, k < W → gi (gl lines k) k = e * D ∧ gi (gl lines k) W = e * l k) ∧ ∀ r, r < m → La.sm W (fun k => l k * T k r) = D * T W r := by
  obtain ⟨D0, e0, _, _, Wm, _⟩ := h.diag (Nat.le_succ W)
  obtain ⟨b, D, e, L, S⟩ := h
  have z : ∀ i, i < m → W + 1 ≤ b i → L i W = 0 := fun i hi hn => by
    have ri : W ≤ i := Nat.not_lt.mp fun w => by
      have := S.lo i w
      omega
    have q := hz i ri hi
    rw [S.hl i hi W (Nat.lt_succ_self W)] at q
    rcases Int.mul_eq_zero.mp q with w | w
    · rcases S.he with x | x <;> omega
    · exact w
  refine ⟨S.E.none (Nat.lt_succ_self W) z, D, e, fun k => L k W, S.E.I.d0, S.he, fun k hk => ⟨?_, S.hl k (by omega) W (Nat.lt_succ_self W)⟩, fun r hr => ?_⟩
  · have z := S.E.I.unit (k := k) (i := k) (by omega) (by omega)
    rw [if_pos rfl, S.id_ rfl k hk] at z
    rw [S.hl k (by omega) k (by omega), z]
  · have sp := S.E.I.span W (by omega) r hr
    have em : m = W + (m - W) := by omega
    rw [em, La.sm_app, La.sm_zero (n := m - W) fun i hi => by rw [z (W + i) (by omega) (S.hi _ (by omega) (by omega)), Int.zero_mul], Int.add_zero] at sp
    rw [← sp]
    exact La.sm_congr fun k hk => by rw [S.id_ rfl k hk]
end
end Fk

set_option Elab.async false
set_option maxRecDepth 100000
set_option maxHeartbeats 8000000
set_option exponentiation.threshold 20000
namespace Fk
open PySem L2 PySem.Spec PyProof.Rows
/-! ### an own exception class without arguments; lowest over any number but 0 -/
theorem pmk_own0 {X : Cx} {C : Addr} {bmB : List Value} {B newId initId : String} {x : Str} {p pos : Pos} (F : ExcBaseFacts B newId initId bmB) (q : PySem.W.excIn X.K C bmB newId = true) (gC : X.mg x = some (.ref C)) (kC : PySem.W.keepIn X.K (.ref C) = true) (r : Raises X (.ref C)) (hg : Gl X x)
    (hdb : (x == ("__debug__" : Str)) = false := by decide) : PMk X (.Call (.Name x p) [] [] pos) (fun _ H Q => Q (.ref C) none H) := by
  intro pins s σ H Q I h
  refine wpAny_Call_Name_kw (ld_glob I hg gC ?_ hdb)
  refine PySem.W.callWith_K0 I.kIn kC ?_
  obtain ⟨bm, N, nm, qn, bs, hdct, sn, sub, ab, col, dd, k0, k1, k2, k3, k5, mN, hC, hN, hni, T⟩ := exc_obj I.kIn q
  refine wpAny_call_exc_subT F T hC hN hni (fun h' e hm => ?_) (by show 0 ≤ sizeLine; exact Nat.zero_le _)
  exact mk_of I hm r h (I.hok.gone hm.new)
/-- what is known of NoSolution -/
structure NoS (K : PySem.W.Frag) (mg : Str → Option Value) (C : Addr) : Prop where
  q : PySem.W.excIn K C [.type "ValueError", .type "Exception", .type "BaseException", .type "object"] "ValueError.__new__" = true
  g : mg "NoSolution" = some (.ref C)
  k : PySem.W.keepIn K (.ref C) = true
  s : PySem.W.subIn K (.ref C) (.type "BaseException") = some true
  t : PySem.W.typeIn K (.ref C) = some (.type "type")
theorem fdiv_neg2 (a g : Int) : a.fdiv (-g) = (-a).fdiv g := by
  have := Int.neg_fdiv_neg (-a) g
  rwa [Int.neg_neg] at this
theorem fdiv_lowS {a b : Int} (b0 : b ≠ 0) : (lowS a b).1 = a.fdiv (if b < 0 then -((Nat.gcd a.natAbs b.natAbs : Nat) : Int) else ((Nat.gcd a.natAbs b.natAbs : Nat) : Int)) ∧ (lowS a b).2 = b.fdiv (if b < 0 then -((Nat.gcd a.natAbs b.natAbs : Nat) : Int) else ((Nat.gcd a.natAbs b.natAbs : Nat) : Int)) := by
  unfold lowS lowI
  by_cases h : b < 0
  · simp only [if_pos h, Int.natAbs_neg]
    rw [fdiv_neg2, fdiv_neg2]
    exact ⟨(Int.fdiv_eq_ediv_of_nonneg _ (by omega)).symm, (Int.fdiv_eq_ediv_of_nonneg _ (by omega)).symm⟩
  · simp only [if_neg h]
    exact ⟨(Int.fdiv_eq_ediv_of_nonneg _ (by omega)).symm, (Int.fdiv_eq_ediv_of_nonneg _ (by omega)).symm⟩
def spLowS : Sp := fun vs H Q _ => ∃ (a b : Int), vs = [.int a, .int b] ∧ b ≠ 0 ∧ a.natAbs < 2 ^ 13400 ∧ b.natAbs < 2 ^ 13400 ∧ ∀ p H', Same H H' → RatAt H' p (lowS a b) → Q (.ref p) H'
section
variable {P : Program} {w : World} {K : PySem.W.Frag} {mg : Str → Option Value} {base : Heap}
theorem ok_lows {f : Addr} {fd : FuncData} (F : Fun K "lowest" "lowest" sLowest f fd) (mgc : mg "gcd" = some (.builtin "math.gcd")) : FnOk P w K mg base CX0 1 f fd ["top", "bottom"] spLowS := by
  refine F.ok scLowest (fun vs H Q E h => ?_) (fun cdv A outer s H vs Q E hr h => ?_)
  · obtain ⟨a, b, rfl, _⟩ := h
    rfl
  · obtain ⟨a, b, rfl, b0, a1, b1, k⟩ := h
    refine ⟨_, pss_cons (ps_set (i := 2) scLowest.nd rfl (Or.inl rfl) (pe_callBfun cr_gcd (by rfl) mgc (pa_cons (pv 0) (pa_cons (pv 1) pa_nil))))
      (C8.pss_cut (ps_if (pt_cmpR op_lt (pv 1) pe_int (nomark _)) (pss_one (ps_set (i := 2) scLowest.nd rfl (Or.inl rfl) (pe_un un_neg (pv 2)))) pss_nil)
      (pss_one (ps_ret (pe_tup (pa_cons (pe_op op_fdivN (pv 0) (pv 2)) (pa_cons (pe_op op_fdivN (pv 1) (pv 2)) pa_nil)))))), ?_⟩
    have g0 : (0 : Int) < (Nat.gcd a.natAbs b.natAbs : Nat) := by
      have : 0 < Nat.gcd a.natAbs b.natAbs := Nat.gcd_pos_of_pos_right _ (by omega)
      omega
    obtain ⟨l1, l2⟩ := fdiv_lowS (a := a) b0
    generalize hg : ((Nat.gcd a.natAbs b.natAbs : Nat) : Int) = g at g0 l1 l2
    refine ⟨_, rfl, _, rfl, a, b, rfl, ?_⟩
    refine ⟨fun σ' H' => σ' = [some (.int a), some (.int b), some (.int (if b < 0 then -g else g))] ∧ H' = H, ?_, ?_⟩
    · refine ⟨_, rfl, _, _, rfl, rfl, _, rfl, ite2 (fun h => ?_) (fun h => ?_)⟩
      · have h' : b < 0 := of_decide_eq_true h
        rw [if_pos h', ← hg]
        exact ⟨_, rfl, _, rfl, rfl, rfl⟩
      · have h' : ¬ b < 0 := fun z => h (decide_eq_true z)
        rw [if_neg h', ← hg]
        exact ⟨rfl, rfl⟩
    rintro σ' H' ⟨rfl, rfl⟩
    have gne : (if b < 0 then -g else g) ≠ 0 := by split <;> omega
    refine ⟨_, rfl, _, rfl, _, _, rfl, rfl, ⟨gne, a1⟩, _, rfl, _, rfl, _, _, rfl, rfl, ⟨gne, b1⟩, by show 2 ≤ sizeLine; decide, fun p hp => k p _ (same_new hp) ?_⟩
    unfold RatAt
    rw [l1, l2]
    exact upd_same
end
end Fk

set_option Elab.async false
set_option maxRecDepth 100000
set_option maxHeartbeats 4000000
set_option exponentiation.threshold 20000
namespace Fk
open PySem L2
/-! ### the rows with their right sides -/
def bothM (mat : List (List (Int × Int))) (right : List (Int × Int)) : List (List (Int × Int)) := (List.range mat.length).map fun k => gm mat k ++ [gp right k]
theorem both_len {mat : List (List (Int × Int))} {right : List (Int × Int)} : (bothM mat right).length = mat.length := by
  unfold bothM
  rw [List.length_map, List.length_range]
theorem gm_both {mat : List (List (Int × Int))} {right : List (Int × Int)} {k : Nat} (h : k < mat.length) : gm (bothM mat right) k = gm mat k ++ [gp right k] := by
  unfold gm bothM
  rw [List.getD_eq_getElem?_getD, List.getElem?_map, List.getElem?_range h]
  rfl
theorem gpA_lt {xs : List (Int × Int)} {x : Int × Int} {j : Nat} (h : j < xs.length) : gp (xs ++ [x]) j = gp xs j := by
  unfold gp
  rw [List.getD_eq_getElem?_getD, List.getD_eq_getElem?_getD, List.getElem?_append_left h]
theorem gpA_last {xs : List (Int × Int)} {x : Int × Int} : gp (xs ++ [x]) xs.length = x := by
  unfold gp
  rw [List.getD_eq_getElem?_getD, List.getElem?_append_right (Nat.le_refl _), Nat.sub_self]
  rfl
/-- rows, and what stands right of them -/
structure EqOk (mat : List (List (Int × Int))) (right : List (Int × Int)) (W : Nat) : Prop where
  l : ∀ r, r < mat.length → (gm mat r).length = W
  f : ∀ r, r < mat.length → ∀ x ∈ gm mat r, Fit 163 43 x
  rl : right.length = mat.length
  rf : ∀ x ∈ right, Fit 473 205 x
  w1 : 1 ≤ W
  w4 : W ≤ 4
  m1 : 1 ≤ mat.length
  m6 : mat.length ≤ 6
structure RkOk (mat : List (List (Int × Int))) (W : Nat) : Prop where
  l : ∀ r, r < mat.length → (gm mat r).length = W
  f : ∀ r, r < mat.length → ∀ x ∈ gm mat r, Fit 163 43 x
  w1 : 1 ≤ W
  w4 : W ≤ 4
  m1 : 1 ≤ mat.length
  m6 : mat.length ≤ 6
def Solv (mat : List (List (Int × Int))) (right : List (Int × Int)) (W : Nat) : Prop := La.cnt (fun c => ¬ NPQ (bothM mat right) c) W = W ∧ NPQ (bothM mat right) W
structure SolAns (mat : List (List (Int × Int))) (right : List (Int × Int)) (W : Nat) (xs : List (Int × Int)) : Prop where
  l : xs.length = W
  a : AllQ xs W
  d : ∀ r, r < mat.length → DotOk (gm mat r) xs W ∧ dotT (gm mat r) xs W = gp right r
theorem shF_row {fs : List (Int × Int)} (h : ∀ x ∈ fs, Fit 163 43 x) (l : fs.length ≤ 4) : 0 < shF fs ∧ Bd 173 (shF fs) := by
  refine ⟨shF_pos fun x hx => (h x hx).p, ?_⟩
  have z := shF_bd (b := 43) fs 1 1 (by decide) one_bd fun x hx => ⟨(h x hx).p, (h x hx).b2⟩
  exact Bd.mono (show Bd (1 + 43 * fs.length) (shF fs) from z) (by omega)
section
variable {mat : List (List (Int × Int))} {right : List (Int × Int)} {W : Nat}
theorem RkOk.mx (h : RkOk mat W) : MxOk mat W := ⟨h.l, fun r hr x hx => (h.f r hr x hx).p⟩
theorem EqOk.rk (h : EqOk mat right W) : RkOk mat W := ⟨h.l, h.f, h.w1, h.w4, h.m1, h.m6⟩
theorem EqOk.bmem (h : EqOk mat right W) {r : Nat} (hr : r < mat.length) {x : Int × Int} (hx : x ∈ gm mat r ++ [gp right r]) : Fit 473 205 x := by
  rcases List.mem_append.mp hx with z | z
  · exact (h.f r hr x z).mono (by decide) (by decide)
  · rw [List.mem_singleton.mp z]
    exact h.rf _ (gp_mem (by rw [h.rl]; exact hr))
theorem EqOk.mx (h : EqOk mat right W) : MxOk (bothM mat right) (W + 1) := ⟨fun r hr => by
  rw [both_len] at hr
  rw [gm_both hr, List.length_append, h.l r hr]
  rfl, fun r hr x hx => by
  rw [both_len] at hr
  rw [gm_both hr] at hx
  exact (h.bmem hr hx).p⟩
theorem RkOk.bd (h : RkOk mat W) : TBd mat.length W W (TL (wls mat) W) := by
  have one : ∀ j, j < W → ∀ r, r < mat.length → (TL (wls mat) W j r).natAbs ≤ 2 ^ 336 := fun j hj r hr => by
    unfold TL
    rw [if_pos hj, gl_wls hr]
    have l := h.l r hr
    have z := shF_row (h.f r hr) (by have := h.w4; omega)
    exact whole_bd (fun x hx => (h.f r hr x hx).p) (by omega) z.2 (h.f r hr _ (gp_mem (by omega))).b1
  refine ⟨h.m6, Nat.le_refl _, fun j hj r hr => Nat.le_trans (one j hj r hr) (Nat.pow_le_pow_right (by decide) (by decide)), fun j hj r hr => Nat.le_trans (one j hj r hr) (Nat.pow_le_pow_right (by decide) (by decide)), fun i r hi hr => ?_⟩
  unfold TL
  rw [if_neg (by omega), Nat.add_sub_cancel_left]
theorem EqOk.bd (h : EqOk mat right W) : TBd mat.length (W + 1) W (TL (wls (bothM mat right)) (W + 1)) := by
  have sb : ∀ r, r < mat.length → Bd 378 (shF (gm mat r ++ [gp right r])) := fun r hr => by
    have z := shF_row (h.f r hr) (by have := h.l r hr; have := h.w4; omega)
    have f := h.rf _ (gp_mem (show r < right.length by rw [h.rl]; exact hr))
    rw [shF_snoc]
    exact (shStep_bd z.2 z.1 f.p f.b2).mono (by decide)
  have pos : ∀ r, r < mat.length → ∀ x ∈ gm mat r ++ [gp right r], 0 < x.2 := fun r hr x hx => (h.bmem hr hx).p
  refine ⟨h.m6, Nat.le_succ _, fun j hj r hr => ?_, fun j hj r hr => ?_, fun i r hi hr => ?_⟩
  · unfold TL
    rw [if_pos (by omega), gl_wls (by rw [both_len]; exact hr), gm_both hr]
    have l := h.l r hr
    refine Nat.le_trans (whole_bd (A := 163) (pos r hr) (by rw [List.length_append, l]; exact Nat.lt_of_lt_of_le hj (Nat.le_succ _)) (sb r hr) ?_) (Nat.pow_le_pow_right (by decide) (by decide))
    rw [gpA_lt (by omega)]
    exact (h.f r hr _ (gp_mem (by omega))).b1
  · unfold TL
    rw [if_pos (by omega), gl_wls (by rw [both_len]; exact hr), gm_both hr]
    have l := h.l r hr
    have lt : j < (gm mat r ++ [gp right r]).length := by
      rw [List.length_append, l]
      exact hj
    refine Nat.le_trans (whole_bd (A := 473) (pos r hr) lt (sb r hr) ?_) (Nat.pow_le_pow_right (by decide) (by decide))
    exact (h.bmem hr (gp_mem lt)).b1
  · unfold TL
    rw [if_neg (by omega), Nat.add_sub_cancel_left]
def ansL (lines : List (List Int)) (W : Nat) : List (Int × Int) := (List.range W).map fun k => lowS (gi (gl lines k) W) (gi (gl lines k) k)
theorem ans_at {lines : List (List Int)} {k : Nat} (h : k < W) : gp (ansL lines W) k = lowS (gi (gl lines k) W) (gi (gl lines k) k) := by
  have : (List.range W)[k]? = some k := List.getElem?_range h
  exact gp_map this
theorem unit_bd {e D : Int} {B : Nat} (he : e = 1 ∨ e = -1) (h : Bd B (e * D)) : Bd B D := by
  unfold Bd at *
  rw [Int.natAbs_mul] at h
  have : e.natAbs = 1 := by rcases he with w | w <;> rw [w] <;> rfl
  rwa [this, Nat.one_mul] at h
theorem sol_ans {lines : List (List Int)} {δ : Int} (h : EqOk mat right W) (S : ElSt mat.length (W + 1) (TL (wls (bothM mat right)) (W + 1)) W lines δ W) (hz : ∀ i, W ≤ i → i < mat.length → gi (gl lines i) W = 0) : NPQ (bothM mat right) W ∧ SolAns mat right W (ansL lines W) := by
  obtain ⟨np, D, e, l, D0, he, hk, hs⟩ := S.told hz
  have Wm : W ≤ mat.length := by
    obtain ⟨_, _, _, _, z, _⟩ := S.diag (Nat.le_succ W)
    exact z
  have mx := h.mx
  have np' : NPQ (bothM mat right) W := (npt_npq (c := W) mx (Nat.lt_succ_self W)).mp (by rw [both_len]; exact np)
  have e0 : e ≠ 0 := by rcases he with w | w <;> rw [w] <;> decide
  have ne : ∀ k, k < W → gi (gl lines k) k ≠ 0 := fun k hk' => by
    rw [(hk k hk').1]
    exact Int.mul_ne_zero e0 (by omega)
  have bD : ∀ k, k < W → Bd 4200 (gi (gl lines k) k) ∧ Bd 4200 (gi (gl lines k) W) := fun k hk' => ⟨S.bd h.bd (Nat.le_refl _) (by omega) (by omega), S.bd h.bd (Nat.le_refl _) (by omega) (by omega)⟩
  have DB : Bd 4200 D := by
    have z := (bD 0 h.w1).1
    rw [(hk 0 h.w1).1] at z
    exact unit_bd he z
  have lB : ∀ k, k < W → Bd 4200 (l k) := fun k hk' => by
    have z := (bD k hk').2
    rw [(hk k hk').2] at z
    exact unit_bd he z
  have dn : (D : Rat) ≠ 0 := cast_ne D0
  have en : (e : Rat) ≠ 0 := by
    rcases he with w | w <;> rw [w] <;> decide
  have val : ∀ k, k < W → qv (gp (ansL lines W) k) * (D : Rat) = (l k : Rat) := fun k hk' => by
    rw [ans_at hk', qv_lowS (ne k hk'), (hk k hk').1, (hk k hk').2, Rat.intCast_mul, Rat.intCast_mul]
    grind
  have red : ∀ k, k < W → Fit 4200 4200 (gp (ansL lines W) k) := fun k hk' => by
    rw [ans_at hk']
    exact bd_lowS (ne k hk') (bD k hk').2 (bD k hk').1
  have fine : ∀ k, k < W → Fine 6600 (gp (ansL lines W) k) := fun k hk' => ⟨(red k hk').p, (red k hk').b1.mono (by decide), (red k hk').b2.mono (by decide)⟩
  refine ⟨np', by unfold ansL; rw [List.length_map, List.length_range], ⟨by unfold ansL; rw [List.length_map, List.length_range], fun k hk' => ⟨(red k hk').red, fine k hk'⟩⟩, fun r hr => ?_⟩
  have l0 := h.l r hr
  have fx : ∀ i, i < W → Fit 163 43 (gp (gm mat r) i) := fun i hi => h.f r hr _ (gp_mem (by omega))
  have ok : DotOk (gm mat r) (ansL lines W) W := by
    refine dot_ok (k := W) (α := 4363) (γ := 43) (μ := 4200) (M := D) (P := fun i => (gp (gm mat r) i).1 * l i) (c := fun i => (gp (gm mat r) i).2) (fun i hi => ⟨(fx i hi).p, (fx i hi).b1.mono (by decide), (fx i hi).b2.mono (by decide)⟩) fine D0 DB (fun i hi => ⟨(fx i hi).p, (fx i hi).b2⟩) (fun i hi => ((fx i hi).b1.mulB (lB i hi)).mono (by decide)) (fun i hi => ?_) (by have := h.w4; omega) (by have := h.w4; omega)
    rw [Rat.intCast_mul, Rat.intCast_mul, ← val i hi, ← qv_mul (fx i hi).p]
    grind
  refine ⟨ok, ?_⟩
  have rr := h.rf _ (gp_mem (show r < right.length by rw [h.rl]; exact hr))
  refine qv_inj (dot_red fun i hi => ok.pos i hi) rr.red ?_
  rw [dot_qv fun i hi => ok.pos i hi]
  have S0 := shF_pos (mx.p r (by rw [both_len]; exact hr))
  have sn : ((shF (gm (bothM mat right) r) : Int) : Rat) ≠ 0 := cast_ne S0
  have key := congrArg (fun z : Int => (z : Rat)) (hs r hr)
  rw [rs_cast, Rat.intCast_mul, tl_wls mx (by rw [both_len]; exact hr) (Nat.lt_succ_self W)] at key
  have gl' : gp (gm (bothM mat right) r) W = gp right r := by
    rw [gm_both hr]
    have := gpA_last (xs := gm mat r) (x := gp right r)
    rwa [l0] at this
  rw [gl'] at key
  have e1 : (rs W fun k => ((l k * TL (wls (bothM mat right)) (W + 1) k r : Int) : Rat)) = (shF (gm (bothM mat right) r) : Rat) * ((D : Rat) * rs W fun i => qv (gp (gm mat r) i) * qv (gp (ansL lines W) i)) := by
    rw [← rs_mul, ← rs_mul]
    refine rs_congr fun k hk' => ?_
    rw [Rat.intCast_mul, tl_wls mx (by rw [both_len]; exact hr) (by omega), ← val k hk', gm_both hr, gpA_lt (by omega)]
    grind
  rw [e1] at key
  generalize (rs W fun i => qv (gp (gm mat r) i) * qv (gp (ansL lines W) i)) = z at key ⊢
  generalize qv (gp right r) = u at key ⊢
  grind
end
end Fk

set_option Elab.async false
set_option maxRecDepth 100000
set_option maxHeartbeats 4000000
namespace Fk
open PySem L2
/-! ### checks, in another heap -/
theorem first_app {K : PySem.W.Frag} {H : Hp} {rs : List Addr} {q : Addr} {ys : List V} (hq : SqA K H q ys) {r : Option V} (h : (∃ v, r = some v ∧ First K H rs (some v)) ∨ (First K H rs none ∧ Chk K H ys r)) : First K H (rs ++ [q]) r := by
  rcases h with ⟨v, rfl, i, p, xs, h1, h2, h3, h4⟩ | ⟨h1, h2⟩
  · have hi := (List.getElem?_eq_some_iff.mp h1).1
    refine ⟨i, p, xs, by rw [List.getElem?_append_left hi]; exact h1, h2, h3, fun j z hj hz => h4 j z hj ?_⟩
    rwa [List.getElem?_append_left (by omega)] at hz
  · have old : ∀ (j : Nat) (z : Addr), j < rs.length → (rs ++ [q])[j]? = some z → ∃ xs, SqA K H z xs ∧ Chk K H xs none := fun j z hj hz => h1 j z (by rwa [List.getElem?_append_left hj] at hz)
    cases r with
    | some v => exact ⟨rs.length, q, ys, by rw [List.getElem?_append_right (Nat.le_refl _), Nat.sub_self]; rfl, hq, h2, fun j z hj hz => old j z hj hz⟩
    | none =>
      intro j z hz
      by_cases hj : j < rs.length
      · exact old j z hj hz
      · have e : j = rs.length := by
          have := (List.getElem?_eq_some_iff.mp hz).1
          rw [List.length_append, List.length_singleton] at this
          omega
        rw [e, List.getElem?_append_right (Nat.le_refl _), Nat.sub_self] at hz
        cases hz
        exact ⟨ys, hq, h2⟩
theorem First.same {K : PySem.W.Frag} {H H' : Hp} {rs : List Addr} {r : Option V} (c : ∀ xs r, Chk K H xs r → Chk K H' xs r) (h : First K H rs r) (s : Same H H') : First K H' rs r := by
  have one : ∀ {p : Addr} {r : Option V}, (∃ xs, SqA K H p xs ∧ Chk K H xs r) → ∃ xs, SqA K H' p xs ∧ Chk K H' xs r := fun ⟨xs, h1, h2⟩ => ⟨xs, h1.same s, c _ _ h2⟩
  cases r with
  | none => exact fun i p hp => one (h i p hp)
  | some v =>
    obtain ⟨i, p, xs, h1, h2, h3, h4⟩ := h
    exact ⟨i, p, xs, h1, h2.same s, c _ _ h3, fun j q hj hq => one (h4 j q hj hq)⟩
theorem TyOf.same {K : PySem.W.Frag} {H H' : Hp} {v : V} {t : Value} (h : TyOf K H v t) (s : Same H H') : TyOf K H' v t := by
  cases h with
  | non => exact .non
  | bl x => exact .bl x
  | int i => exact .int i
  | str x => exact .str x
  | flt x => exact .flt x
  | lst e => exact .lst (s _ _ e)
  | frz e => exact .frz (s _ _ e)
  | tup e => exact .tup (s _ _ e)
  | dK e => exact .dK (s _ _ e)
  | dT e => exact .dT (s _ _ e)
  | ins e cl ha hn htk hm => exact .ins (s _ _ e) cl ha hn htk hm
theorem TyX.same {K : PySem.W.Frag} {H H' : Hp} {v : V} {t : Value} (h : TyX K H v t) (s : Same H H') : TyX K H' v t := by
  cases h with
  | base h => exact .base (TyOf.same h s)
  | byt b => exact .byt b
  | set e => exact .set (s _ _ e)
  | kList e c => exact .kList e c
  | kTuple e c => exact .kTuple e c
  | kDict e c => exact .kDict e c
  | fTuple e => exact .fTuple (s _ _ e)
  | fDict e => exact .fDict (s _ _ e)
theorem IntV.same {K : PySem.W.Frag} {H H' : Hp} {v : V} {b : Bool} (h : IntV K H v b) (s : Same H H') : IntV K H' v b := by
  obtain ⟨ty, b1, b2, h1, h2⟩ := h
  exact ⟨ty, b1, b2, TyX.same h1 s, h2⟩
theorem Val.same {K : PySem.W.Frag} {H H' : Hp} {v : V} {b : Bool} (h : Val K H v b) (s : Same H H') : Val K H' v b := by
  cases h with
  | int i => exact .int i
  | other h t n => exact .other (h.same s) (TyX.same t s) n
  | len h n => exact .len (s _ _ h) n
  | rat h => exact .rat (s _ _ h)
  | one h x => exact .one (s _ _ h) (x.same s)
  | two h x => exact .two (s _ _ h) (x.same s)
theorem Chk.same {K : PySem.W.Frag} {H H' : Hp} {xs : List V} {r : Option V} (h : Chk K H xs r) (s : Same H H') : Chk K H' xs r := by
  cases r with
  | none => exact fun i x hx => (h i x hx).same s
  | some v =>
    obtain ⟨i, h1, h2, h3⟩ := h
    exact ⟨i, h1, h2.same s, fun j x hj hx => (h3 j x hj hx).same s⟩
theorem RowsP.gm {K : PySem.W.Frag} {H : Hp} {rs : List Addr} {mat : List (List (Int × Int))} (h : RowsP K H rs mat) {i : Nat} {v : V} (hv : (rv rs)[i]? = some v) : ∃ q us, v = .ref q ∧ i < mat.length ∧ SqA K H q us ∧ PassAt H us (Fk.gm mat i) := by
  have hi : i < rs.length := by
    have := (List.getElem?_eq_some_iff.mp hv).1
    rwa [rv_len] at this
  have hm : i < mat.length := by rw [← h.1]; exact hi
  have e := List.getElem?_eq_getElem hi
  obtain ⟨us, h1, h2⟩ := h.2 i _ _ e (gm_at hm)
  refine ⟨rs[i], us, ?_, hm, h1, h2⟩
  unfold rv at hv
  rw [List.getElem?_map, e] at hv
  exact (Option.some.inj hv).symm
theorem low_one {H : Hp} : Low H (.int 1) (1, 1).1 (1, 1).2 := .inl ⟨rfl, rfl⟩
theorem low_nought {H : Hp} : Low H (.int 0) (0, 1).1 (0, 1).2 := .inl ⟨rfl, rfl⟩
theorem pass_rep {H : Hp} {v : V} {x : Int × Int} (h : Low H v x.1 x.2) (n : Nat) : PassAt H (List.replicate n v) (List.replicate n x) := by
  refine ⟨by rw [List.length_replicate, List.length_replicate], fun i y z a b => ?_⟩
  rw [List.eq_of_mem_replicate (List.mem_of_getElem? a), List.eq_of_mem_replicate (List.mem_of_getElem? b)]
  exact h
theorem PassAt.app1 {H : Hp} {v : V} {us : List V} {fs : List (Int × Int)} {x : Int × Int} (h : PassAt H us fs) (hv : Low H v x.1 x.2) : PassAt H (us ++ [v]) (fs ++ [x]) := by
  refine ⟨by rw [List.length_append, List.length_append, h.1]; rfl, fun i y z hy hz => ?_⟩
  by_cases hi : i < us.length
  · rw [List.getElem?_append_left hi] at hy
    rw [List.getElem?_append_left (by rw [← h.1]; exact hi)] at hz
    exact h.2 i y z hy hz
  · have e : i = us.length := by
      have := (List.getElem?_eq_some_iff.mp hy).1
      rw [List.length_append, List.length_singleton] at this
      omega
    rw [e, List.getElem?_append_right (Nat.le_refl _), Nat.sub_self] at hy
    rw [e, h.1, List.getElem?_append_right (Nat.le_refl _), Nat.sub_self] at hz
    cases hy
    cases hz
    exact hv
theorem rep_flat {α : Type} (v : α) (n : Nat) : (List.replicate n [v]).flatten = List.replicate n v := by
  induction n with
  | zero => rfl
  | succ n ih => rw [List.replicate_succ, List.flatten_cons, ih, List.replicate_succ]; rfl
end Fk

set_option Elab.async false
set_option maxRecDepth 100000
set_option maxHeartbeats 8000000
set_option exponentiation.threshold 20000
namespace Fk
open PySem L2
/-! ### solved, rank -/
abbrev sSolved : Stmt := top 17
abbrev sRank : Stmt := top 18
abbrev nsSolved : List Str := ["rows", "right", "row", "many", "lines", "columns", "line", "k"]
abbrev nsRank : List Str := ["rows", "row", "lines", "_", "columns"]
def spSolved (K : PySem.W.Frag) (CN CS : Addr) : Sp := fun vs H Q E => ∃ (rl q : Addr) (rs : List Addr) (ys : List V), vs = [.ref rl, .ref q] ∧ SqA K H rl (rv rs) ∧ SqA K H q ys ∧
  ((∃ v, (First K H rs (some v) ∨ (First K H rs none ∧ Chk K H ys (some v))) ∧ Said CN H Q E (some v)) ∨
   ∃ (mat : List (List (Int × Int))) (right : List (Int × Int)) (W : Nat), RowsP K H rs mat ∧ PassAt H ys right ∧ EqOk mat right W ∧ (¬ Solv mat right W → ∀ H', Same H H' → E (.ref CS) none H') ∧ ∀ p xs H', Same H H' → Solv mat right W → SolAns mat right W xs → TupAt H' p xs → Q (.ref p) H')
def spRank (K : PySem.W.Frag) (CN : Addr) : Sp := fun vs H Q E => ∃ (rl : Addr) (rs : List Addr), vs = [.ref rl] ∧ SqA K H rl (rv rs) ∧
  ((∃ v, First K H rs (some v) ∧ Said CN H Q E (some v)) ∨
   ∃ (mat : List (List (Int × Int))) (W : Nat), RowsP K H rs mat ∧ RkOk mat W ∧ ∀ H', Same H H' → Q (.int (La.cnt (fun c => ¬ NPQ mat c) W : Nat)) H')
structure SC (P : Program) (w : World) (K : PySem.W.Frag) (mg : Str → Option Value) (base : Heap) (CN CS fCh fW fE fL : Addr) (dCh dW dE dL : FuncData) : Prop where
  cg : mg "check_entries" = some (.ref fCh)
  ck : PySem.W.keepIn K (.ref fCh) = true
  cb : Binds K dCh ["entries"] []
  cG : FnOk P w K mg base (L2.CX P w) 3 fCh dCh ["entries"] (spCheck K CN)
  W : Cl P w K mg base "whole_row" ["entries"] 3 (spWhole K) fW dW
  El : Cl P w K mg base "eliminated" ["lines", "many"] 2 (spElim K) fE dE
  Lo : Cl P w K mg base "lowest" ["top", "bottom"] 1 spLowS fL dL
  NS : NoS K mg CS
  mr : mg "range" = none
  ml : mg "len" = none
  mli : mg "list" = none
  mt : mg "tuple" = none
/-- the state of the loop that checks rows -/
def ChkSt (K : PySem.W.Frag) (H1 : Hp) (rs : List Addr) (r : Option V) (i : Nat) : Prop := match r with
  | none => True
  | some v => ∃ (m : Nat) (p : Addr) (xs : List V), i ≤ m ∧ rs[m]? = some p ∧ SqA K H1 p xs ∧ Chk K H1 xs (some v) ∧ ∀ (j : Nat) (z : Addr), j < m → rs[j]? = some z → ∃ xs, SqA K H1 z xs ∧ Chk K H1 xs none
theorem chkst_start {K : PySem.W.Frag} {H1 : Hp} {rs : List Addr} {r : Option V} (hF : First K H1 rs r) : ChkSt K H1 rs r 0 := by
  cases r with
  | none => trivial
  | some v =>
    obtain ⟨m, p, xs, h1, h2, h3, h4⟩ := hF
    exact ⟨m, p, xs, Nat.zero_le _, h1, h2, h3, h4⟩
theorem chkst_step {K : PySem.W.Frag} {H1 : Hp} {rs : List Addr} {r : Option V} {i : Nat} {x : V} (hF : First K H1 rs r) (h : ChkSt K H1 rs r i) (hx : (rv rs)[i]? = some x) : ∃ (p : Addr) (xs : List V), x = .ref p ∧ SqA K H1 p xs ∧ ((Chk K H1 xs none ∧ ChkSt K H1 rs r (i + 1)) ∨ ∃ v, r = some v ∧ Chk K H1 xs (some v)) := by
  obtain ⟨p, hp, rfl⟩ : ∃ p, rs[i]? = some p ∧ x = .ref p := by
    unfold rv at hx
    rw [List.getElem?_map] at hx
    cases e : rs[i]? with
    | none =>
      rw [e] at hx
      cases hx
    | some u =>
      rw [e] at hx
      exact ⟨u, rfl, (Option.some.inj hx).symm⟩
  cases r with
  | none =>
    obtain ⟨xs, h1, h2⟩ := hF i p hp
    exact ⟨p, xs, rfl, h1, .inl ⟨h2, trivial⟩⟩
  | some v0 =>
    obtain ⟨m, p2, xs, im, h1, h2, h3, h4⟩ := h
    rcases Nat.lt_or_eq_of_le im with lt | rfl
    · obtain ⟨xs2, h5, h6⟩ := h4 i p lt hp
      exact ⟨p, xs2, rfl, h5, .inl ⟨h6, m, p2, xs, lt, h1, h2, h3, h4⟩⟩
    · rw [hp] at h1
      cases h1
      exact ⟨p, xs, rfl, h2, .inr ⟨v0, rfl, h3⟩⟩
theorem chkst_end {K : PySem.W.Frag} {H1 : Hp} {rs : List Addr} {r : Option V} (h : ChkSt K H1 rs r (rv rs).length) : r = none := by
  cases r with
  | none => rfl
  | some v0 =>
    obtain ⟨m, p2, xs, im, h1, _⟩ := h
    have := (List.getElem?_eq_some_iff.mp h1).1
    rw [rv_len] at im
    omega
/-- the loop's first reading, any context -/
theorem lines_made {H : Hp} {D t : Addr} {ls : List Addr} {mx : List (List (Int × Int))} {k : Nat} {xs : List V} (hD : H D = some (.lst xs)) (h : LinesAt H ls ((wls mx).take k)) (hn : D ∉ ls) (ht : H t = some (.lst (iv (wholeR (gm mx k))))) (nt : t ≠ D) (hk : k < mx.length) (o : HO) : LinesAt (upd H D o) (ls ++ [t]) ((wls mx).take (k + 1)) := by
  have e : (wls mx).take (k + 1) = (wls mx).take k ++ [wholeR (gm mx k)] := by
    unfold wls
    rw [List.take_add_one, List.getElem?_map, gm_at hk]
    rfl
  rw [e]
  exact h.add hD hn ht nt o
section
variable {P : Program} {w : World} {K : PySem.W.Frag} {mg : Str → Option Value} {base : Heap}
theorem scRank : FnScope nsRank ["rows"] (defScope sRank) := ⟨rfl, rfl, rfl, by decide +kernel, rfl, by decide +kernel, by decide +kernel⟩
theorem ok_rank {f CN CS fCh fW fE fL : Addr} {fd dCh dW dE dL : FuncData} (F : Fun K "rank" "rank" sRank f fd) (S : SC P w K mg base CN CS fCh fW fE fL dCh dW dE dL) : FnOk P w K mg base (L2.CX P w) 4 f fd ["rows"] (spRank K CN) := by
  refine F.okX scRank (fun vs H Q E h => ?_) (fun cdv A outer s H vs Q E hr h => ?_)
  · obtain ⟨rl, rs, rfl, _⟩ := h
    rfl
  · obtain ⟨rl, rs, rfl, hrl, hcase⟩ := h
    have hr2 := hr.mono (show 2 ≤ 3 by decide)
    refine ⟨_, pss_cons (ps_for (passes_of rfl) rfl (pi_anyK (K := K) rfl (pv 0)) (pg_name (i := 1) scRank.nd rfl (Or.inl rfl)) (pss_one (ps_expr (pe_callS S.cG hr (by rfl) S.cg S.ck S.cb (passAt (takes_of rfl rfl rfl rfl)) (pa_cons (pv 1) pa_nil)))))
      (pss_cons (ps_setLc (i := 2) (own := [("row", 1)]) (g := gName 1) (tt := tYes) rfl scRank.nd rfl rfl (sw_true rfl rfl rfl rfl) (pi_anyK (K := K) rfl (pv 0)) (blkOk_by (N := nsRank) (sc := defScope sRank) (by decide +kernel)) (fun _ _ _ _ _ => pg_name (i := 1) scRank.nd rfl (Or.inl rfl)) (fun _ _ _ _ _ => pts_nil)
          (fun _ _ _ _ _ => pe_call S.W.G hr (by rfl) S.W.g S.W.kp S.W.b .nil pass0 (pa_cons (pv 1) pa_nil)))
      (pss_cons (ps_asg (pe_call S.El.G hr2 (by rfl) S.El.g S.El.kp S.El.b .nil pass0 (pa_cons (pv 2) (pa_cons (pe_callB call_len_seq (by rfl) S.ml PySem.boot_len (pa_cons (pe_ix (ix_anyK (K := K) rfl) (pv 0) pe_int (fun _ _ => rfl)) pa_nil)) pa_nil))) (pg_tupK (K := K) (n := 2) rfl (by rfl) (pgs_cons (pg_name (i := 3) scRank.nd rfl (Or.inl rfl)) (pgs_cons (pg_name (i := 4) scRank.nd rfl (Or.inl rfl)) pgs_nil))))
      (pss_one (ps_ret (pe_callB call_len_seq (by rfl) S.ml PySem.boot_len (pa_cons (pv 4) pa_nil)))))), ?_⟩
    obtain ⟨r, hF, rest⟩ : ∃ r, First K H rs r ∧ (match r with
        | some v => Said CN H Q E (some v)
        | none => ∃ (mat : List (List (Int × Int))) (W : Nat), RowsP K H rs mat ∧ RkOk mat W ∧ ∀ H', Same H H' → Q (.int (La.cnt (fun c => ¬ NPQ mat c) W : Nat)) H') := by
      rcases hcase with ⟨v, z, sd⟩ | good
      · exact ⟨some v, z, sd⟩
      · refine ⟨none, ?_, good⟩
        obtain ⟨mat, W, h1, _⟩ := good
        exact first_rows h1
    refine for_any (K := K) (a := rl) (xs := rv rs) (H1 := H) (fun i σ H' => H' = H ∧ ChkSt K H rs r i ∧ ∃ v : Option V, σ = [some (.ref rl), v, none, none, none]) (fun P h => ⟨_, rfl, h⟩) hrl ⟨rfl, chkst_start hF, none, rfl⟩ (fun i σ H' _ ⟨e, _⟩ => e ▸ Same.refl _) ?_ ?_
    · rintro i x σ H' hx ⟨rfl, hm, v, rfl⟩
      obtain ⟨p, xs, rfl, h1, z⟩ := chkst_step hF hm hx
      rcases z with ⟨z1, z2⟩ | ⟨v0, rfl, z1⟩
      · exact ⟨_, rfl, p, xs, none, rfl, h1, z1, rfl, z2, some (.ref p), rfl⟩
      · exact ⟨_, rfl, p, xs, some v0, rfl, h1, z1, rest⟩
    rintro σ H' ⟨rfl, hl, v2, rfl⟩
    have e := chkst_end hl
    subst e
    obtain ⟨mat, W, hrs, ok, k⟩ := rest
    have lm : rs.length = mat.length := hrs.1
    have m6 := ok.m6
    dsimp only [tSeq, tAsg]
    refine lc_any (K := K) (a := rl) (xs := rv rs) (H1 := H') (fun P h => ⟨_, rfl, h⟩) hrl fun D hD => ⟨fun i H2 => Same H' H2 ∧ ∃ ls, H2 D = some (.lst (rv ls)) ∧ LinesAt H2 ls ((wls mat).take i) ∧ D ∉ ls, ⟨same_new hD, [], upd_same, ⟨rfl, fun i p x hp _ => nomatch hp⟩, fun z => nomatch z⟩, fun i H2 _ z => z.1, ?_, ?_⟩
    · rintro i x H2 hx ⟨s2, ls, hls, hL, nD⟩
      obtain ⟨p, us, rfl, hi, hp, hus⟩ := (hrs.same s2).gm hx
      have li := ok.l i hi
      refine ⟨rfl, yesT ?_⟩
      refine ⟨_, rfl, p, us, _, rfl, hp, hus, fun x hx => (ok.f i hi x hx).mono (by decide) (by decide), by have := ok.w4; omega, fun t H3 s3 nt ht => ?_⟩
      have hls3 := s3 _ _ hls
      have tD : t ≠ D := fun e => by
        rw [e, hls] at nt
        cases nt
      refine ⟨rv ls, hls3, ?_, fun b o hb => ?_, ls ++ [t], ?_, lines_made hls3 (hL.same s3) nD ht tD hi _, fun z => ?_⟩
      · rw [rv_len, hL.1, List.length_take, wls_len]
        exact small1000 (by omega)
      · rw [upd_ne (ne_of_none hb hD)]
        exact (s2.trans s3) _ _ hb
      · rw [upd_same]
        unfold rv
        rw [List.map_append]
        rfl
      · rcases List.mem_append.mp z with z | z
        · exact nD z
        · exact tD (List.mem_singleton.mp z).symm
    rintro H2 ⟨s2, ls, hls, hL, nD⟩
    rw [rv_len, lm, List.take_of_length_le (by rw [wls_len]; exact Nat.le_refl _)] at hL
    obtain ⟨p0, us0, hp0, hpq, hus0⟩ := (hrs.same s2).at_ (i := 0) (by have := ok.m1; omega)
    have W1 := ok.w1
    have W4 := ok.w4
    have l0 : us0.length = W := by rw [hus0.1, ok.l 0 (by have := ok.m1; omega)]
    refine ⟨_, rfl, _, rfl, rl, rv rs, _, _, rfl, rfl, hrl.same s2, hp0, p0, us0, rfl, hpq.imp id id, ?_⟩
    rw [l0]
    refine ⟨D, ls, wls mat, mat.length, W, W, rfl, hls, hL, wls_len, fun x hx => ?_, by omega, ok.bd, fun t l' ls' lines' cl cols δ H3 s3 ht hl' hL' hcl St => ?_⟩
    · obtain ⟨y, hy, rfl⟩ := List.mem_map.mp hx
      obtain ⟨i, hi, rfl⟩ := List.getElem_of_mem hy
      have e : gm mat i = mat[i] := by
        have z := gm_at hi
        rw [List.getElem?_eq_getElem hi] at z
        exact (Option.some.inj z).symm
      rw [whole_len, ← e]
      exact ok.l i hi
    · refine ⟨t, _, rfl, .inl (.inl ht), rfl, _, _, rfl, _, _, rfl, rfl, ?_⟩
      refine ⟨_, rfl, cl, _, rfl, .inl (SqL.of hcl), ?_⟩
      obtain ⟨b, Dd, e, L, S'⟩ := St
      rw [iv_len, S'.c, cnt_npq ok.mx (Nat.le_refl _)]
      exact k H3 (s2.trans s3)
end
end Fk

set_option Elab.async false
set_option maxRecDepth 100000
set_option maxHeartbeats 8000000
set_option exponentiation.threshold 20000
namespace Fk
open PySem L2
theorem cut_from {xs : List V} {W : Nat} (h : W ≤ xs.length) : cutV xs (some (W : Int)) none = xs.drop W := by
  unfold cutV
  rw [HT.sIx_nat, HT.sIx_none, Nat.min_eq_left h, ← List.length_drop, List.take_length]
section
variable {P : Program} {w : World} {K : PySem.W.Frag} {mg : Str → Option Value} {base : Heap}
theorem scSolved : FnScope nsSolved ["rows", "right"] (defScope sSolved) := ⟨rfl, rfl, rfl, by decide +kernel, rfl, by decide +kernel, by decide +kernel⟩
theorem ok_solved {f CN CS fCh fW fE fL : Addr} {fd dCh dW dE dL : FuncData} (F : Fun K "solved" "solved" sSolved f fd) (S : SC P w K mg base CN CS fCh fW fE fL dCh dW dE dL) : FnOk P w K mg base (L2.CX P w) 4 f fd ["rows", "right"] (spSolved K CN CS) := by
  refine F.okX scSolved (fun vs H Q E h => ?_) (fun cdv A outer s H vs Q E hr h => ?_)
  · obtain ⟨rl, q, rs, ys, rfl, _⟩ := h
    rfl
  · obtain ⟨rl, q, rs, ys, rfl, hrl, hq, hcase⟩ := h
    have hr2 := hr.mono (show 2 ≤ 3 by decide)
    have hr1 := hr.mono (show 1 ≤ 3 by decide)
    refine ⟨_, pss_cons (ps_for (passes_of rfl) rfl (pi_anyK (K := K) rfl (pv 0)) (pg_name (i := 2) scSolved.nd rfl (Or.inl rfl)) (pss_one (ps_expr (pe_callS S.cG hr (by rfl) S.cg S.ck S.cb (passAt (takes_of rfl rfl rfl rfl)) (pa_cons (pv 2) pa_nil)))))
      (pss_cons (ps_expr (pe_callS S.cG hr (by rfl) S.cg S.ck S.cb (passAt (takes_of rfl rfl rfl rfl)) (pa_cons (pv 1) pa_nil)))
      (pss_cons (ps_set (i := 3) scSolved.nd rfl (Or.inr rfl) (pe_callB call_len_seq (by rfl) S.ml PySem.boot_len (pa_cons (pe_ix (ix_anyK (K := K) rfl) (pv 0) pe_int (fun _ _ => rfl)) pa_nil)))
      (pss_cons (ps_set (i := 4) scSolved.nd rfl (Or.inr rfl) (pe_lc (own := [("k", 7)]) (g := gName 7) (tt := tYes) rfl scSolved.nd (pi_range1 (by rfl) S.mr (pa_cons (pe_callB call_len_seq (by rfl) S.ml PySem.boot_len (pa_cons (pv 0) pa_nil)) pa_nil)) (blkOk_by (N := nsSolved) (sc := defScope sSolved) (by decide +kernel)) (fun _ _ _ _ _ => pg_name (i := 7) scSolved.nd rfl (Or.inl rfl)) (fun _ _ _ _ _ => pts_nil)
          (fun _ _ _ _ _ => pe_call S.W.G hr (by rfl) S.W.g S.W.kp S.W.b .nil pass0 (pa_cons (pe_op op_cat (pe_callTy (call_list_ofK (K := K) rfl) (by rfl) S.mli (by decide +kernel) (pa_cons (pe_ix (ix_anyK (K := K) rfl) (pv 0) (pv 7) (fun _ _ => rfl)) pa_nil)) (pe_lst (pa_cons (pe_ix (ix_anyK (K := K) rfl) (pv 1) (pv 7) (fun _ _ => rfl)) pa_nil))) pa_nil))))
      (pss_cons (ps_asg (pe_call S.El.G hr2 (by rfl) S.El.g S.El.kp S.El.b .nil pass0 (pa_cons (pv 4) (pa_cons (pv 3) pa_nil))) (pg_tupK (K := K) (n := 2) rfl (by rfl) (pgs_cons (pg_name (i := 4) scSolved.nd rfl (Or.inr rfl)) (pgs_cons (pg_name (i := 5) scSolved.nd rfl (Or.inl rfl)) pgs_nil))))
      (pss_cons (ps_if (pt_cmpR op_lt (pe_callB call_len_seq (by rfl) S.ml PySem.boot_len (pa_cons (pv 5) pa_nil)) (pv 3) (nomark _)) (pss_one (ps_raise rfl (takes_of rfl rfl rfl rfl) (pmk_own0 PySem.F.excBase_ValueError S.NS.q S.NS.g S.NS.k (raises_own S.NS.s S.NS.t) (by rfl)))) pss_nil)
      (pss_cons (ps_for (passes_of rfl) rfl (pi_listK (K := K) rfl (pe_slice sl_list (pv 4) (po_some (pv 3)) po_none)) (pg_name (i := 6) scSolved.nd rfl (Or.inl rfl)) (pss_one (ps_if (pt_cmpR op_ne (pe_ix ix_list (pv 6) (pv 3) (fun _ _ => rfl)) pe_int (nomark _)) (pss_one (ps_raise rfl (takes_of rfl rfl rfl rfl) (pmk_own0 PySem.F.excBase_ValueError S.NS.q S.NS.g S.NS.k (raises_own S.NS.s S.NS.t) (by rfl)))) pss_nil)))
      (pss_one (ps_ret (pe_callTy call_tuple_of (by rfl) S.mt (by decide +kernel) (pa_cons (pe_lc (own := [("k", 7)]) (g := gName 7) (tt := tYes) rfl scSolved.nd (pi_range1 (by rfl) S.mr (pa_cons (pv 3) pa_nil)) (blkOk_by (N := nsSolved) (sc := defScope sSolved) (by decide +kernel)) (fun _ _ _ _ _ => pg_name (i := 7) scSolved.nd rfl (Or.inl rfl)) (fun _ _ _ _ _ => pts_nil)
          (fun _ _ _ _ _ => pe_call S.Lo.G hr1 (by rfl) S.Lo.g S.Lo.kp S.Lo.b .nil pass0 (pa_cons (pe_ix (ix_anyK (K := K) rfl) (pe_ix (ix_anyK (K := K) rfl) (pv 4) (pv 7) (fun _ _ => rfl)) (pv 3) (fun _ _ => rfl)) (pa_cons (pe_ix (ix_anyK (K := K) rfl) (pe_ix (ix_anyK (K := K) rfl) (pv 4) (pv 7) (fun _ _ => rfl)) (pv 7) (fun _ _ => rfl)) pa_nil)))) pa_nil)))))))))), ?_⟩
    obtain ⟨r, hF, rest⟩ : ∃ r, First K H rs r ∧ (match r with
        | some v => Said CN H Q E (some v)
        | none => (∃ v, Chk K H ys (some v) ∧ Said CN H Q E (some v)) ∨ ∃ (mat : List (List (Int × Int))) (right : List (Int × Int)) (W : Nat), RowsP K H rs mat ∧ PassAt H ys right ∧ EqOk mat right W ∧ (¬ Solv mat right W → ∀ H', Same H H' → E (.ref CS) none H') ∧ ∀ p xs H', Same H H' → Solv mat right W → SolAns mat right W xs → TupAt H' p xs → Q (.ref p) H') := by
      rcases hcase with ⟨v, z, sd⟩ | good
      · rcases z with z | ⟨z1, z2⟩
        · exact ⟨some v, z, sd⟩
        · exact ⟨none, z1, .inl ⟨v, z2, sd⟩⟩
      · refine ⟨none, ?_, .inr good⟩
        obtain ⟨mat, right, W, h1, _⟩ := good
        exact first_rows h1
    refine for_any (K := K) (a := rl) (xs := rv rs) (H1 := H) (fun i σ H' => H' = H ∧ ChkSt K H rs r i ∧ ∃ v : Option V, σ = [some (.ref rl), some (.ref q), v, none, none, none, none, none]) (fun P h => ⟨_, rfl, h⟩) hrl ⟨rfl, chkst_start hF, none, rfl⟩ (fun i σ H' _ ⟨e, _⟩ => e ▸ Same.refl _) ?_ ?_
    · rintro i x σ H' hx ⟨rfl, hm, v, rfl⟩
      obtain ⟨p, xs, rfl, h1, z⟩ := chkst_step hF hm hx
      rcases z with ⟨z1, z2⟩ | ⟨v0, rfl, z1⟩
      · exact ⟨_, rfl, p, xs, none, rfl, h1, z1, rfl, z2, some (.ref p), rfl⟩
      · exact ⟨_, rfl, p, xs, some v0, rfl, h1, z1, rest⟩
    rintro σ H' ⟨rfl, hl, v2, rfl⟩
    have e := chkst_end hl
    subst e
    rcases rest with ⟨v, c1, sd⟩ | ⟨mat, right, W, hrs, hys, ok, kE, k⟩
    · exact ⟨_, rfl, q, ys, some v, rfl, hq, c1, sd⟩
    have lm : rs.length = mat.length := hrs.1
    have ly : ys.length = right.length := hys.1
    have m6 := ok.m6
    have m1 := ok.m1
    have W1 := ok.w1
    have W4 := ok.w4
    have rl' := ok.rl
    refine ⟨_, rfl, q, ys, none, rfl, hq, chk_pass hys, ?_⟩
    obtain ⟨p0, us0, hp0, hpq, hus0⟩ := hrs.at_ (i := 0) (by omega)
    have l0 : us0.length = W := by rw [hus0.1, ok.l 0 (by omega)]
    refine ⟨_, rfl, rl, rv rs, _, _, rfl, rfl, hrl, hp0, p0, us0, rfl, hpq.imp id id, ?_⟩
    rw [l0]
    -- the lines
    refine ⟨_, rfl, rl, rv rs, rfl, hrl.imp id id, ?_⟩
    rw [rv_len, lm]
    refine ⟨_, rfl, by omega, by omega, fun D hD => lc_range (lo := 0) (n := mat.length) (fun i H2 => Same H' H2 ∧ ∃ ls, H2 D = some (.lst (rv ls)) ∧ LinesAt H2 ls ((wls (bothM mat right)).take i) ∧ D ∉ ls) ⟨same_new hD, [], upd_same, ⟨rfl, fun i p x hp _ => nomatch hp⟩, fun z => nomatch z⟩ ?_ ?_⟩
    · rintro i H2 hi ⟨s2, ls, hls, hL, nD⟩
      have e0 : (0 : Int) + (i : Int) = (i : Int) := Int.zero_add _
      obtain ⟨p, us, hp, hpl, hus⟩ := (hrs.same s2).at_ hi
      obtain ⟨y, hy1, hy2⟩ := (hys.same s2).at_ (i := i) (by omega)
      have li := ok.l i hi
      refine ⟨rfl, yesT ?_⟩
      refine ⟨_, rfl, _, rfl, rl, rv rs, _, _, rfl, rfl, hrl.same s2, by rw [e0]; exact hp, p, us, rfl, hpl.imp id id, fun c hc => ?_⟩
      have s3 := same_new (o := .lst us) hc
      have ec : (upd H2 c (.lst us)) c = some (.lst us) := upd_same
      have ncD : c ≠ D := fun e => by
        rw [e, hls] at hc
        cases hc
      generalize upd H2 c (.lst us) = H3 at s3 ec ⊢
      refine ⟨_, rfl, _, rfl, q, ys, _, y, rfl, rfl, hq.same (s2.trans s3), by rw [e0]; exact hy1, by show 1 ≤ sizeLine; decide, fun d hd => ?_⟩
      have s4 := same_new (o := .lst [y]) hd
      have ed : (upd H3 d (.lst [y])) d = some (.lst [y]) := upd_same
      generalize upd H3 d (.lst [y]) = H4 at s4 ed ⊢
      have lu : us.length = W := by rw [hus.1, li]
      refine ⟨c, d, us, [y], rfl, rfl, s4 _ _ ec, ed, Nat.le_of_lt (small1000 (by rw [lu]; show W + 1 ≤ 1000; omega)), fun u hu => ?_⟩
      have s5 := same_new (o := .lst (us ++ [y])) hu
      have eu : (upd H4 u (.lst (us ++ [y]))) u = some (.lst (us ++ [y])) := upd_same
      generalize upd H4 u (.lst (us ++ [y])) = H5 at s5 eu ⊢
      have s25 := s3.trans (s4.trans s5)
      have hb : i < (bothM mat right).length := by rw [both_len]; exact hi
      have eg := gm_both (right := right) hi
      refine ⟨u, us ++ [y], gm (bothM mat right) i, rfl, .lst eu, ?_, fun x hx => ?_, ?_, fun t H6 s6 nt ht => ?_⟩
      · rw [eg]
        exact (hus.same s25).app1 (hy2.same s25)
      · rw [eg] at hx
        exact (ok.bmem hi hx).mono (by decide) (by decide)
      · rw [eg, List.length_append, li]
        show W + 1 ≤ 5
        omega
      · have hls5 := s25 _ _ hls
        have hls6 := s6 _ _ hls5
        have tD : t ≠ D := fun e => by
          rw [e, hls5] at nt
          cases nt
        refine ⟨rv ls, hls6, ?_, fun b o hb => ?_, ls ++ [t], ?_, lines_made hls6 (hL.same (s25.trans s6)) nD ht tD hb _, fun z => ?_⟩
        · rw [rv_len, hL.1, List.length_take, wls_len, both_len]
          exact small1000 (by omega)
        · rw [upd_ne (ne_of_none hb hD)]
          exact (s2.trans (s25.trans s6)) _ _ hb
        · rw [upd_same]
          unfold rv
          rw [List.map_append]
          rfl
        · rcases List.mem_append.mp z with z | z
          · exact nD z
          · exact tD (List.mem_singleton.mp z).symm
    rintro H2 ⟨s2, ls, hls, hL, nD⟩
    rw [List.take_of_length_le (by rw [wls_len, both_len]; exact Nat.le_refl _)] at hL
    refine ⟨_, rfl, _, rfl, D, ls, wls (bothM mat right), mat.length, W + 1, W, rfl, hls, hL, by rw [wls_len, both_len], fun x hx => ?_, by omega, ok.bd, fun t l' ls' lines' cl cols δ H3 s3 ht hl' hL' hcl St => ?_⟩
    · obtain ⟨y, hy, rfl⟩ := List.mem_map.mp hx
      obtain ⟨i, hi, rfl⟩ := List.getElem_of_mem hy
      have e : gm (bothM mat right) i = (bothM mat right)[i] := by
        have z := gm_at hi
        rw [List.getElem?_eq_getElem hi] at z
        exact (Option.some.inj z).symm
      rw [whole_len, ← e]
      exact ok.mx.l i hi
    · have s23 := s2.trans s3
      obtain ⟨b', D', e', LL, S'⟩ := id St
      have lm' : lines'.length = mat.length := S'.lm
      have lw' := S'.lw
      have rc := S'.c
      have hnpt := cnt_npq ok.mx (Nat.le_succ W)
      rw [both_len] at hnpt
      rw [hnpt] at rc
      refine ⟨t, _, rfl, .inl (.inl ht), rfl, _, _, rfl, _, _, rfl, rfl, ?_⟩
      refine ⟨_, rfl, cl, _, rfl, .inl (SqL.of hcl), ?_⟩
      rw [iv_len]
      refine ⟨_, rfl, _, _, rfl, rfl, _, rfl, ite2 (fun h => ?_) fun h => ?_⟩
      · have h' : ((cols.length : Nat) : Int) < (W : Int) := of_decide_eq_true h
        exact kE (fun z => by
          have := z.1
          omega) _ s23
      have hc : cols.length = W := by
        have h' : ¬ ((cols.length : Nat) : Int) < (W : Int) := fun z => h (decide_eq_true z)
        have := La.cnt_le (fun c => ¬ NPQ (bothM mat right) c) W
        omega
      rw [hc] at St rc
      have Wm : W ≤ mat.length := by
        obtain ⟨_, _, _, _, z, _⟩ := St.diag (Nat.le_succ W)
        exact z
      have lls : ls'.length = mat.length := by rw [hL'.1, lm']
      refine ⟨_, rfl, _, rfl, _, rfl, l', rv ls', rfl, SqL.of hl', fun g hg => ?_⟩
      rw [cut_from (by rw [rv_len, lls]; exact Wm)]
      have s4 := same_new (o := .lst ((rv ls').drop W)) hg
      have eg : (upd H3 g (.lst ((rv ls').drop W))) g = some (.lst ((rv ls').drop W)) := upd_same
      generalize upd H3 g (.lst ((rv ls').drop W)) = H4 at s4 eg ⊢
      have hL4 := hL'.same s4
      have s24 := s23.trans s4
      refine ⟨g, rfl, ⟨_, SqL.of eg⟩, for_list (K := K) (a := g) (xs := (rv ls').drop W) (fun i σ H' => H' = H4 ∧ (∀ j, W ≤ j → j < W + i → gi (gl lines' j) W = 0) ∧ ∃ v : Option V, σ = [some (.ref rl), some (.ref q), v2, some (.int (W : Nat)), some (.ref l'), some (.ref cl), v, none]) ⟨rfl, fun j h1 h2 => absurd h2 (by omega), none, rfl⟩ (fun i σ H' _ ⟨e, _⟩ => e ▸ SqL.of eg) ?_ ?_⟩
      · rintro i x σ H5 hx ⟨rfl, hz, v, rfl⟩
        have hi : W + i < lines'.length := by
          have := (List.getElem?_eq_some_iff.mp hx).1
          rw [List.length_drop, rv_len] at this
          omega
        obtain ⟨p, hp, hpl⟩ := hL4.at_ hi
        rw [List.getElem?_drop, getElem_rv hp] at hx
        cases hx
        refine ⟨_, rfl, _, rfl, p, iv (gl lines' (W + i)), _, _, rfl, rfl, SqL.of hpl, iv_atI (by rw [lw' _ (gl_mem hi)]; exact Nat.lt_succ_self W), rfl, _, rfl, ite2 (fun h1 => ?_) (fun h1 => ?_)⟩
        · refine kE (fun z => ?_) _ s24
          have nz : gi (gl lines' (W + i)) W ≠ 0 := fun z => by
            rw [z] at h1
            exact absurd h1 (by decide)
          refine St.more (i := W + i) (by omega) (by omega) nz ?_
          have := (npt_npq (c := W) ok.mx (Nat.lt_succ_self W)).mpr z.2
          rwa [both_len] at this
        · refine ⟨rfl, fun j j1 j2 => ?_, _, rfl⟩
          by_cases e : j = W + i
          · rw [e]
            refine Classical.byContradiction fun z => h1 ?_
            simp [z]
          · exact hz j j1 (by omega)
      · rintro σ H5 ⟨rfl, hz, v, rfl⟩
        rw [List.length_drop, rv_len, lls] at hz
        obtain ⟨np, ans⟩ := sol_ans ok St fun i h1 h2 => hz i h1 (by omega)
        refine ⟨_, rfl, _, rfl, by omega, by omega, fun D2 hD2 => lc_range (lo := 0) (n := W) (fun i H6 => Same H5 H6 ∧ ∃ qs, H6 D2 = some (.lst (rv qs)) ∧ PairsAt H6 qs ((ansL lines' W).take i)) ⟨same_new hD2, [], upd_same, pairs_nil⟩ ?_ ?_⟩
        · rintro i H6 hi ⟨s6, qs, hqs, hQ⟩
          have e0 : (0 : Int) + (i : Int) = (i : Int) := Int.zero_add _
          have hi' : i < lines'.length := by omega
          obtain ⟨p, hp, hpl⟩ := (hL4.same s6).at_ hi'
          have hl6 := (s4.trans s6) _ _ hl'
          have w1 := lw' _ (gl_mem hi')
          refine ⟨rfl, yesT ?_⟩
          obtain ⟨D0, e1, D1, e2, _, dg⟩ := St.diag (Nat.le_succ W)
          have b1 := St.bd ok.bd (Nat.le_refl _) (i := i) (j := W) (by omega) (by omega)
          have b2 := St.bd ok.bd (Nat.le_refl _) (i := i) (j := i) (by omega) (by omega)
          refine ⟨_, rfl, _, rfl, l', rv ls', _, .ref p, rfl, rfl, .lst hl6, by rw [e0]; exact atI_nat (getElem_rv hp), _, rfl, p, _, _, _, rfl, rfl, .lst hpl, iv_atI (by rw [w1]; omega), _, rfl, _, rfl, l', rv ls', _, .ref p, rfl, rfl, .lst hl6, by rw [e0]; exact atI_nat (getElem_rv hp), _, rfl, p, _, _, _, rfl, rfl, .lst hpl, by rw [e0]; exact iv_atI (by rw [w1]; omega), _, _, rfl, ?_, b1.big (by decide), b2.big (by decide), fun u H7 s7 hu => ?_⟩
          · rw [dg i hi]
            rcases e2 with z | z <;> rw [z] <;> omega
          · rw [take_gp (by rw [ans.l]; exact hi)]
            rw [← ans_at hi] at hu
            exact grow hD2 s6 hqs hQ s7 hu (by rw [List.length_take]; omega)
        · rintro H6 ⟨s6, qs, hqs, hQ⟩
          rw [List.take_of_length_le (by rw [ans.l]; exact Nat.le_refl _)] at hQ
          refine ⟨D2, _, rfl, .inl ⟨SqL.of hqs, fun u hu => ?_⟩⟩
          have s7 := same_new (o := .tup (rv qs)) hu
          exact k u _ _ (s24.trans (s6.trans s7)) ⟨rc.symm, np⟩ ans ⟨qs, upd_same, hQ.same s7⟩
end
end Fk

set_option Elab.async false
set_option maxRecDepth 100000
set_option maxHeartbeats 4000000
set_option exponentiation.threshold 20000
namespace Fk
open PySem L2
/-! ### the promise's own minus, over -/
def spQS : Sp := fun vs H Q _ => ∃ (a b : Int), vs = [.int a, .int b] ∧ b ≠ 0 ∧ a.natAbs < 2 ^ 13400 ∧ b.natAbs < 2 ^ 13400 ∧ ∀ p H', Same H H' → RatAt H' p (lowS a b) → Q (.ref p) H'
def minF (x y : Int × Int) : Int × Int := lowI (x.1 * y.2 - y.1 * x.2) (x.2 * y.2)
def ovF (x y : Int × Int) : Int × Int := lowS (x.1 * y.2) (x.2 * y.1)
theorem qv_minF {x y : Int × Int} (hx : 0 < x.2) (hy : 0 < y.2) : qv (minF x y) = qv x - qv y := by
  unfold minF
  rw [qv_low (Int.mul_pos hx hy), Rat.intCast_sub, Rat.intCast_mul, Rat.intCast_mul, Rat.intCast_mul]
  unfold qv
  have := cast_ne hx
  have := cast_ne hy
  grind
theorem qv_ovF {x y : Int × Int} (hx : 0 < x.2) (hy : 0 < y.2) (y0 : y.1 ≠ 0) : qv (ovF x y) * qv y = qv x := by
  unfold ovF
  rw [qv_lowS (Int.mul_ne_zero (by omega) y0), Rat.intCast_mul, Rat.intCast_mul]
  unfold qv
  have := cast_ne hx
  have := cast_ne hy
  have : (y.1 : Rat) ≠ 0 := by exact_mod_cast y0
  grind
theorem red_minF {x y : Int × Int} (hx : 0 < x.2) (hy : 0 < y.2) : Red (minF x y) := low_red (Int.mul_pos hx hy)
theorem red_ovF {x y : Int × Int} (hx : 0 < x.2) (y0 : y.1 ≠ 0) : Red (ovF x y) := red_lowS (Int.mul_ne_zero (by omega) y0)
abbrev sMinus : Stmt := top 27
abbrev sOver : Stmt := top 29
/-- numbers that a sum may take -/
def spMinus : Sp := fun vs H Q _ => ∃ (p q : Addr) (x y : Int × Int), vs = [.ref p, .ref q] ∧ RatAt H p x ∧ RatAt H q y ∧ Fine 4700 x ∧ Fine 8500 y ∧ ∀ r H', Same H H' → RatAt H' r (minF x y) → Q (.ref r) H'
def spOver : Sp := fun vs H Q _ => ∃ (p q : Addr) (x y : Int × Int), vs = [.ref p, .ref q] ∧ RatAt H p x ∧ RatAt H q y ∧ Fine 6600 x ∧ Fine 6600 y ∧ y.1 ≠ 0 ∧ ∀ r H', Same H H' → RatAt H' r (ovF x y) → Q (.ref r) H'
section
variable {P : Program} {w : World} {K : PySem.W.Frag} {mg : Str → Option Value} {base : Heap}
theorem ok_qs {f fG : Addr} {fd dG : FuncData} (F : Fun K "_law_q" "_law_q" sQ f fd) (G : Cl P w K mg base "_law_gcd" psGcd 1 spGcd fG dG) : FnOk P w K mg base CX0 2 f fd psQ spQS := by
  refine F.ok scQ (fun vs H Q E h => ?_) (fun cdv A outer s H vs Q E hr h => ?_)
  · obtain ⟨a, b, rfl, _⟩ := h
    rfl
  · obtain ⟨a, b, rfl, b0, a1, b1, k⟩ := h
    refine ⟨_, pss_cons (ps_set (i := 2) scQ.nd rfl (Or.inl rfl) (pe_call G.G hr (by rfl) G.g G.kp G.b .nil pass0 (pa_cons (pv 0) (pa_cons (pv 1) pa_nil))))
      (C8.pss_cut (ps_if (pt_cmpR op_lt (pv 1) pe_int (nomark _)) (pss_one (ps_set (i := 2) scQ.nd rfl (Or.inl rfl) (pe_un un_neg (pv 2)))) pss_nil)
      (pss_one (ps_ret (pe_tup (pa_cons (pe_op op_fdivN (pv 0) (pv 2)) (pa_cons (pe_op op_fdivN (pv 1) (pv 2)) pa_nil)))))), ?_⟩
    have g0 : (0 : Int) < (Nat.gcd a.natAbs b.natAbs : Nat) := by
      have : 0 < Nat.gcd a.natAbs b.natAbs := Nat.gcd_pos_of_pos_right _ (by omega)
      omega
    obtain ⟨l1, l2⟩ := fdiv_lowS (a := a) b0
    refine ⟨_, rfl, _, rfl, a, b, rfl, a1, b1, ?_⟩
    generalize hg : ((Nat.gcd a.natAbs b.natAbs : Nat) : Int) = g at g0 l1 l2
    refine ⟨fun σ' H' => σ' = [some (.int a), some (.int b), some (.int (if b < 0 then -g else g))] ∧ H' = H, ?_, ?_⟩
    · refine ⟨_, rfl, _, _, rfl, rfl, _, rfl, ite2 (fun h => ?_) (fun h => ?_)⟩
      · have h' : b < 0 := of_decide_eq_true h
        rw [if_pos h', ← hg]
        exact ⟨_, rfl, _, rfl, rfl, rfl⟩
      · have h' : ¬ b < 0 := fun z => h (decide_eq_true z)
        rw [if_neg h', ← hg]
        exact ⟨rfl, rfl⟩
    rintro σ' H' ⟨rfl, rfl⟩
    have gne : (if b < 0 then -g else g) ≠ 0 := by split <;> omega
    refine ⟨_, rfl, _, rfl, _, _, rfl, rfl, ⟨gne, a1⟩, _, rfl, _, rfl, _, _, rfl, rfl, ⟨gne, b1⟩, by show 2 ≤ sizeLine; decide, fun p hp => k p _ (same_new hp) ?_⟩
    unfold RatAt
    rw [l1, l2]
    exact upd_same
theorem scMinus : FnScope psOT psOT (defScope sMinus) := ⟨rfl, rfl, rfl, by decide +kernel, rfl, by decide +kernel, by decide +kernel⟩
theorem scOver : FnScope psOT psOT (defScope sOver) := ⟨rfl, rfl, rfl, by decide +kernel, rfl, by decide +kernel, by decide +kernel⟩
theorem ok_minus {f fQ : Addr} {fd dQ : FuncData} (F : Fun K "_law_minus" "_law_minus" sMinus f fd) (L : Cl P w K mg base "_law_q" psQ 2 spQ fQ dQ) : FnOk P w K mg base CX0 3 f fd psOT spMinus := by
  refine F.ok scMinus (fun vs H Q E h => ?_) (fun cdv A outer s H vs Q E hr h => ?_)
  · obtain ⟨p, q, x, y, rfl, _⟩ := h
    rfl
  · obtain ⟨p, q, x, y, rfl, hp, hq, ⟨x0, x1, x2⟩, ⟨y0, y1, y2⟩, k⟩ := h
    refine ⟨_, pss_one (ps_ret (pe_call L.G hr (by rfl) L.g L.kp L.b .nil pass0 (pa_cons (pe_op op_sub (pe_op op_mulW (pe_ix ix_tup (pv 0) pe_int (fun _ _ => rfl)) (pe_ix ix_tup (pv 1) pe_int (fun _ _ => rfl))) (pe_op op_mulW (pe_ix ix_tup (pv 1) pe_int (fun _ _ => rfl)) (pe_ix ix_tup (pv 0) pe_int (fun _ _ => rfl))))
      (pa_cons (pe_op op_mulW (pe_ix ix_tup (pv 0) pe_int (fun _ _ => rfl)) (pe_ix ix_tup (pv 1) pe_int (fun _ _ => rfl))) pa_nil)))), ?_⟩
    have a4 : 4700 ≤ 200000 := by decide
    have a5 : 8500 ≤ 200000 := by decide
    refine ⟨_, rfl, p, _, 0, _, rfl, rfl, .inl (.inl hp), rfl, _, rfl, q, _, 1, _, rfl, rfl, .inl (.inl hq), rfl, _, _, rfl, rfl, Bd.mul x1 y2 a4 a5, _, rfl, q, _, 0, _, rfl, rfl, .inl (.inl hq), rfl, _, rfl, p, _, 1, _, rfl, rfl, .inl (.inl hp), rfl, _, _, rfl, rfl, Bd.mul y1 x2 a5 a4, _, _, rfl, rfl, ?_⟩
    have s1 : Bd (4700 + 8500 + 1) (x.1 * y.2 - y.1 * x.2) := by
      have m1 := x1.mulB y2
      have m2 : Bd (4700 + 8500) (y.1 * x.2) := (y1.mulB x2).mono (by decide)
      have : Bd (4700 + 8500) (-(y.1 * x.2)) := by unfold Bd at *; rw [Int.natAbs_neg]; exact m2
      rw [Int.sub_eq_add_neg]
      exact m1.addB this
    exact ⟨_, rfl, p, _, 1, _, rfl, rfl, .inl (.inl hp), rfl, _, rfl, q, _, 1, _, rfl, rfl, .inl (.inl hq), rfl, _, _, rfl, rfl, Bd.mul x2 y2 a4 a5, _, _, rfl, Int.mul_pos x0 y0, s1.big (by decide), (x2.mulB y2).big (by decide), k⟩
theorem ok_over {f fQ : Addr} {fd dQ : FuncData} (F : Fun K "_law_over" "_law_over" sOver f fd) (L : Cl P w K mg base "_law_q" psQ 2 spQS fQ dQ) : FnOk P w K mg base CX0 3 f fd psOT spOver := by
  refine F.ok scOver (fun vs H Q E h => ?_) (fun cdv A outer s H vs Q E hr h => ?_)
  · obtain ⟨p, q, x, y, rfl, _⟩ := h
    rfl
  · obtain ⟨p, q, x, y, rfl, hp, hq, ⟨x0, x1, x2⟩, ⟨y0, y1, y2⟩, yn, k⟩ := h
    refine ⟨_, pss_one (ps_ret (pe_call L.G hr (by rfl) L.g L.kp L.b .nil pass0 (pa_cons (pe_op op_mulW (pe_ix ix_tup (pv 0) pe_int (fun _ _ => rfl)) (pe_ix ix_tup (pv 1) pe_int (fun _ _ => rfl)))
      (pa_cons (pe_op op_mulW (pe_ix ix_tup (pv 0) pe_int (fun _ _ => rfl)) (pe_ix ix_tup (pv 1) pe_int (fun _ _ => rfl))) pa_nil)))), ?_⟩
    have a5 : 6600 ≤ 200000 := by decide
    exact ⟨_, rfl, p, _, 0, _, rfl, rfl, .inl (.inl hp), rfl, _, rfl, q, _, 1, _, rfl, rfl, .inl (.inl hq), rfl, _, _, rfl, rfl, Bd.mul x1 y2 a5 a5, _, rfl, p, _, 1, _, rfl, rfl, .inl (.inl hp), rfl, _, rfl, q, _, 0, _, rfl, rfl, .inl (.inl hq), rfl, _, _, rfl, rfl, Bd.mul x2 y1 a5 a5, _, _, rfl, Int.mul_ne_zero (by omega) yn, (x1.mulB y2).big (by decide), (x2.mulB y1).big (by decide), k⟩
end
end Fk

set_option Elab.async false
set_option maxRecDepth 100000
set_option maxHeartbeats 4000000
set_option exponentiation.threshold 20000
namespace Fk
open PySem L2
/-! ### the promise's own elimination -/
def gN (xs : List Nat) (i : Nat) : Nat := xs.getD i 0
theorem gN_at {xs : List Nat} {i : Nat} (h : i < xs.length) : xs[i]? = some (gN xs i) := by
  unfold gN
  rw [List.getD_eq_getElem?_getD, List.getElem?_eq_getElem h]
  rfl
structure LwSt' (mx : List (List (Int × Int))) (N k : Nat) (left : List (List (Int × Int))) (r : Nat) (b : Nat → Nat) (D : Int) (L : Nat → Nat → Int) (ids : List Nat) : Prop where
  E : La.Ech mx.length N (TL (wls mx) N) b D L k
  nd : ids.Nodup
  len : left.length = ids.length
  mem : ∀ i, i < mx.length → (N ≤ b i ↔ i ∈ ids)
  lt : ∀ t, t < ids.length → gN ids t < mx.length
  row : ∀ t, t < ids.length → (gm left t).length = N ∧ ∀ j, j < N → Red (gp (gm left t) j) ∧ qv (gp (gm left t) j) * ((D : Rat) * (shF (gm mx (gN ids t)) : Rat)) = (L (gN ids t) j : Rat)
  c : r = La.cnt (fun c => ¬ NPQ mx c) k
def LwSt (mx : List (List (Int × Int))) (N k : Nat) (left : List (List (Int × Int))) (r : Nat) : Prop := ∃ b D L ids, LwSt' mx N k left r b D L ids
def stepRow (k : Nat) (lead row : List (Int × Int)) : List (Int × Int) := List.zipWith (fun one two => minF one (timF (ovF (gp row k) (gp lead k)) two)) row lead
theorem gp_step {k j : Nat} {lead row : List (Int × Int)} (h1 : j < row.length) (h2 : j < lead.length) : gp (stepRow k lead row) j = minF (gp row j) (timF (ovF (gp row k) (gp lead k)) (gp lead j)) := by
  unfold stepRow
  generalize ovF (gp row k) (gp lead k) = z
  unfold gp
  rw [List.getD_eq_getElem?_getD, List.getElem?_zipWith, List.getElem?_eq_getElem h1, List.getElem?_eq_getElem h2]
  rw [List.getD_eq_getElem?_getD, List.getD_eq_getElem?_getD, List.getElem?_eq_getElem h1, List.getElem?_eq_getElem h2]
  rfl
theorem piv_q {xij xik xlk xlj D Si Sl Lij Lik Llk Llj s P y : Rat} (h1 : xij * (D * Si) = Lij) (h2 : xik * (D * Si) = Lik) (h3 : xlk * (D * Sl) = Llk) (h4 : xlj * (D * Sl) = Llj) (hb : y * xlk = xik) (hP : D * P = s * Llk * Lij - Lik * (s * Llj)) (D0 : D ≠ 0) : (xij - y * xlj) * (s * Llk * Si) = P := by
  have e : D * ((xij - y * xlj) * (s * Llk * Si)) = D * P := by
    rw [hP, ← h1, ← h2, ← h4, ← h3, ← hb]
    grind
  grind
def skp (t0 t : Nat) : Nat := if t < t0 then t else t + 1
theorem gm_erase {left : List (List (Int × Int))} {t0 t : Nat} : gm (left.eraseIdx t0) t = gm left (skp t0 t) := by
  unfold gm skp
  rw [List.getD_eq_getElem?_getD, List.getElem?_eraseIdx]
  split <;> rw [List.getD_eq_getElem?_getD]
theorem gN_erase {xs : List Nat} {t0 t : Nat} : gN (xs.eraseIdx t0) t = gN xs (skp t0 t) := by
  unfold gN skp
  rw [List.getD_eq_getElem?_getD, List.getElem?_eraseIdx]
  split <;> rw [List.getD_eq_getElem?_getD]
theorem gm_map {f : List (Int × Int) → List (Int × Int)} {left : List (List (Int × Int))} {t : Nat} (h : t < left.length) : gm (left.map f) t = f (gm left t) := by
  unfold gm
  rw [List.getD_eq_getElem?_getD, List.getElem?_map, List.getD_eq_getElem?_getD, List.getElem?_eq_getElem h]
  rfl
theorem mem_at {xs : List Nat} {i : Nat} (h : i ∈ xs) : ∃ t, t < xs.length ∧ gN xs t = i := by
  obtain ⟨t, ht, e⟩ := List.getElem_of_mem h
  refine ⟨t, ht, ?_⟩
  have z := gN_at ht
  rw [List.getElem?_eq_getElem ht, e] at z
  exact (Option.some.inj z).symm
theorem nd_inj {xs : List Nat} (nd : xs.Nodup) {s t : Nat} (hs : s < xs.length) (ht : t < xs.length) (e : gN xs s = gN xs t) : s = t := by
  have h1 := gN_at hs
  have h2 := gN_at ht
  rw [e, ← h2] at h1
  exact (List.getElem?_inj hs nd).mp h1
theorem mem_erase {xs : List Nat} (nd : xs.Nodup) {t0 i : Nat} (h0 : t0 < xs.length) : i ∈ xs.eraseIdx t0 ↔ i ∈ xs ∧ i ≠ gN xs t0 := by
  rw [List.mem_eraseIdx_iff_getElem?]
  constructor
  · rintro ⟨t, n, e⟩
    have ht := (List.getElem?_eq_some_iff.mp e).1
    refine ⟨List.mem_of_getElem? e, fun z => n ?_⟩
    rw [gN_at ht] at e
    exact nd_inj nd ht h0 ((Option.some.inj e).trans z)
  · rintro ⟨h, n⟩
    obtain ⟨t, ht, rfl⟩ := mem_at h
    exact ⟨t, fun z => n (by rw [z]), gN_at ht⟩
theorem gN_mem {xs : List Nat} {t : Nat} (h : t < xs.length) : gN xs t ∈ xs := List.mem_of_getElem? (gN_at h)
section
variable {mx left : List (List (Int × Int))} {N k r : Nat}
theorem LwSt.start (h : MxOk mx N) (hr : ∀ r, r < mx.length → ∀ x ∈ gm mx r, Red x) : LwSt mx N 0 mx 0 := by
  have gr : ∀ t, t < mx.length → gN (List.range mx.length) t = t := fun t ht => by
    unfold gN
    rw [List.getD_eq_getElem?_getD, List.getElem?_range ht]
    rfl
  refine ⟨_, _, _, List.range mx.length, La.Ech.start (fun i r hi hr => ?_), List.nodup_range, by rw [List.length_range], fun i hi => ⟨fun _ => List.mem_range.mpr hi, fun _ => Nat.le_add_right _ _⟩, fun t ht => ?_, fun t ht => ?_, rfl⟩
  · unfold TL
    rw [if_neg (by omega), Nat.add_sub_cancel_left]
  · rw [List.length_range] at ht
    rw [gr t ht]
    exact ht
  · rw [List.length_range] at ht
    rw [gr t ht]
    refine ⟨h.l t ht, fun j hj => ⟨hr t ht _ (gp_mem (by rw [h.l t ht]; exact hj)), ?_⟩⟩
    rw [tl_wls h ht hj]
    have : ((1 : Int) : Rat) = 1 := rfl
    rw [this]
    grind
theorem LwSt.none (h : LwSt mx N k left r) (M : MxOk mx N) (kN : k < N) (hz : ∀ t, t < left.length → (gp (gm left t) k).1 = 0) : LwSt mx N (k + 1) left r := by
  obtain ⟨b, D, L, ids, S⟩ := h
  have z : ∀ i, i < mx.length → N ≤ b i → L i k = 0 := fun i hi hn => by
    obtain ⟨t, ht, rfl⟩ := mem_at ((S.mem i hi).mp hn)
    have e := ((S.row t ht).2 k kN).2
    have z := hz t (by rw [S.len]; exact ht)
    have q0 : qv (gp (gm left t) k) = 0 := by
      unfold qv
      rw [z]
      show ((0 : Int) : Rat) / _ = 0
      rw [show ((0 : Int) : Rat) = 0 from rfl]
      grind
    rw [q0, Rat.zero_mul] at e
    exact_mod_cast e.symm
  have no := S.E.none kN z
  refine ⟨b, D, L, ids, S.E.skip z, S.nd, S.len, S.mem, S.lt, S.row, ?_⟩
  rw [La.cnt_no fun w => w ((npt_npq M kN).mp no)]
  exact S.c
theorem LwSt.rest (M : MxOk mx N) : ∀ (n : Nat) {k : Nat}, n + k = N → LwSt mx N k [] r → r = La.cnt (fun c => ¬ NPQ mx c) N
  | 0, k, e, ⟨_, _, _, _, S⟩ => by
    have : k = N := by omega
    rw [← this]
    exact S.c
  | n + 1, k, e, h => LwSt.rest M n (k := k + 1) (by omega) (h.none M (by omega) fun t ht => absurd ht (Nat.not_lt_zero t))
theorem LwSt.cnt_end (h : LwSt mx N N left r) : r = La.cnt (fun c => ¬ NPQ mx c) N := by
  obtain ⟨_, _, _, _, S⟩ := h
  exact S.c
theorem LwSt.found (h : LwSt mx N k left r) (M : MxOk mx N) (kN : k < N) {t0 : Nat} (h0 : t0 < left.length) (nz : (gp (gm left t0) k).1 ≠ 0) : LwSt mx N (k + 1) ((left.eraseIdx t0).map (stepRow k (gm left t0))) (r + 1) := by
  obtain ⟨b, D, L, ids, S⟩ := h
  have h0' : t0 < ids.length := by rw [← S.len]; exact h0
  have lm := S.lt t0 h0'
  have hbl : N ≤ b (gN ids t0) := (S.mem _ lm).mpr (gN_mem h0')
  have d0 := S.E.I.d0
  have D0 : (D : Rat) ≠ 0 := cast_ne d0
  have Sp : ∀ t, t < ids.length → (0 : Int) < shF (gm mx (gN ids t)) := fun t ht => shF_pos (M.p _ (S.lt t ht))
  obtain ⟨l0, e0⟩ := S.row t0 h0'
  have red0 := (e0 k kN).1
  have Lne : L (gN ids t0) k ≠ 0 := fun z => nz (by
    have e := (e0 k kN).2
    rw [z] at e
    have s0 : (shF (gm mx (gN ids t0)) : Rat) ≠ 0 := cast_ne (Sp t0 h0')
    have q0 : qv (gp (gm left t0) k) = 0 := by
      have : ((0 : Int) : Rat) = 0 := rfl
      rw [this] at e
      rcases Rat.mul_eq_zero.mp e with w | w
      · exact w
      · rcases Rat.mul_eq_zero.mp w with w | w
        · exact absurd w D0
        · exact absurd w s0
    have z2 := qv_mul red0.p
    rw [q0, Rat.zero_mul] at z2
    exact_mod_cast z2.symm)
  obtain ⟨s, hs, hp⟩ := sgn_of_ne Lne
  have E2 := S.E.pivot kN hs lm hbl hp
  refine ⟨_, _, _, ids.eraseIdx t0, E2, S.nd.sublist (List.eraseIdx_sublist ..), ?_, fun i hi => ?_, fun t ht => ?_, fun t ht => ?_, ?_⟩
  · rw [List.length_map, List.length_eraseIdx, List.length_eraseIdx, S.len]
  · rw [mem_erase S.nd h0']
    unfold La.bP
    by_cases z : i = gN ids t0
    · rw [if_pos z]
      exact ⟨fun w => absurd w (by omega), fun w => absurd z w.2⟩
    · rw [if_neg z, S.mem i hi]
      exact ⟨fun w => ⟨w, z⟩, fun w => w.1⟩
  · rw [List.length_eraseIdx, if_pos h0'] at ht
    rw [gN_erase]
    exact S.lt _ (by unfold skp; split <;> omega)
  · rw [List.length_eraseIdx, if_pos h0'] at ht
    have ht' : skp t0 t < ids.length := by unfold skp; split <;> omega
    have ne : skp t0 t ≠ t0 := by unfold skp; split <;> omega
    have nid : gN ids (skp t0 t) ≠ gN ids t0 := fun z => ne (nd_inj S.nd ht' h0' z)
    obtain ⟨l1, e1⟩ := S.row _ ht'
    rw [gm_map (by rw [List.length_eraseIdx, if_pos h0, S.len]; exact ht), gm_erase, gN_erase]
    refine ⟨by unfold stepRow; rw [List.length_zipWith, l1, l0, Nat.min_self], fun j hj => ?_⟩
    rw [gp_step (by omega) (by omega)]
    obtain ⟨rij, eij⟩ := e1 j hj
    obtain ⟨rik, eik⟩ := e1 k kN
    obtain ⟨rlj, elj⟩ := e0 j hj
    obtain ⟨rlk, elk⟩ := e0 k kN
    have rby := red_ovF (y := gp (gm left t0) k) rik.p nz
    have rt := tim_red rby.p rlj.p
    refine ⟨red_minF rij.p rt.p, ?_⟩
    rw [qv_minF rij.p rt.p, qv_tim rby.p rlj.p]
    have q := S.E.I.LP_at (at' := gN ids t0) (c := k) (k := gN ids (skp t0 t)) (j := j) (s := s) lm (S.lt _ ht') nid (by omega) (by omega)
    have q' := congrArg (fun z : Int => (z : Rat)) q
    simp only [Rat.intCast_mul, Rat.intCast_sub] at q'
    rw [Rat.intCast_mul]
    exact piv_q eij eik elk elj (qv_ovF rik.p rlk.p nz) q' D0
  · rw [La.cnt_yes fun w => S.E.found kN lm hbl Lne ((npt_npq M kN).mpr w), ← S.c]
/-- how large what is reckoned becomes -/
structure LwFit (N k : Nat) (left : List (List (Int × Int))) : Prop where
  x : ∀ t, t < left.length → ∀ j, j < N → Fine 4700 (gp (gm left t) j)
  y : ∀ t, t < left.length → ∀ t0, t0 < left.length → (gp (gm left t0) k).1 ≠ 0 → Fine 6600 (ovF (gp (gm left t) k) (gp (gm left t0) k)) ∧ ∀ j, j < N → Fine 8500 (timF (ovF (gp (gm left t) k) (gp (gm left t0) k)) (gp (gm left t0) j))
theorem LwSt.fit {W : Nat} (h : LwSt mx N k left r) (M : MxOk mx N) (kN : k < N) (B : TBd mx.length N W (TL (wls mx) N)) (kW : k ≤ W) (hS : ∀ i, i < mx.length → Bd 378 (shF (gm mx i))) : LwFit N k left := by
  obtain ⟨b, D, L, ids, S⟩ := h
  have d0 := S.E.I.d0
  have D0 : (D : Rat) ≠ 0 := cast_ne d0
  have Sp : ∀ t, t < ids.length → (0 : Int) < shF (gm mx (gN ids t)) := fun t ht => shF_pos (M.p _ (S.lt t ht))
  have lb : ∀ t, t < ids.length → ∀ j, j < N → Bd 4167 (L (gN ids t) j) ∧ Bd 3305 D := fun t ht j hj => by
    have z := inv_bd B S.E kW (S.lt t ht) hj
    exact ⟨Nat.lt_of_le_of_lt z.1 (Nat.pow_lt_pow_right (by decide) (by decide)), Nat.lt_of_le_of_lt z.2 (Nat.pow_lt_pow_right (by decide) (by decide))⟩
  refine ⟨fun t ht j hj => ?_, fun t ht t0 h0 nz => ?_⟩
  · rw [S.len] at ht
    obtain ⟨r1, e1⟩ := (S.row t ht).2 j hj
    obtain ⟨b1, b2⟩ := lb t ht j hj
    have z := red_bd r1 (Int.mul_pos d0 (Sp t ht)) (by rw [Rat.intCast_mul]; exact e1) b1 (b2.mulB (hS _ (S.lt t ht)))
    exact ⟨r1.p, z.1.mono (by decide), z.2.mono (by decide)⟩
  · rw [S.len] at ht h0
    obtain ⟨rik, eik⟩ := (S.row t ht).2 k kN
    obtain ⟨rlk, elk⟩ := (S.row t0 h0).2 k kN
    have s0 : (shF (gm mx (gN ids t0)) : Rat) ≠ 0 := cast_ne (Sp t0 h0)
    have s1 : (shF (gm mx (gN ids t)) : Rat) ≠ 0 := cast_ne (Sp t ht)
    have Lne : L (gN ids t0) k ≠ 0 := fun z => nz (by
      rw [z] at elk
      have q0 : qv (gp (gm left t0) k) = 0 := by
        have : ((0 : Int) : Rat) = 0 := rfl
        rw [this] at elk
        rcases Rat.mul_eq_zero.mp elk with w | w
        · exact w
        · rcases Rat.mul_eq_zero.mp w with w | w
          · exact absurd w D0
          · exact absurd w s0
      have z2 := qv_mul rlk.p
      rw [q0, Rat.zero_mul] at z2
      exact_mod_cast z2.symm)
    have Lq : (L (gN ids t0) k : Rat) ≠ 0 := by exact_mod_cast Lne
    obtain ⟨s, hs, hp⟩ := sgn_of_ne Lne
    have sB : ∀ {A : Nat} {x : Int}, Bd A x → Bd A (s * x) := fun {A x} h => by
      unfold Bd at *
      rw [Int.natAbs_mul]
      have : s.natAbs = 1 := by rcases hs with w | w <;> rw [w] <;> rfl
      rwa [this, Nat.one_mul]
    have rby := red_ovF (y := gp (gm left t0) k) rik.p nz
    have eby := qv_ovF rik.p rlk.p nz
    have by1 : qv (ovF (gp (gm left t) k) (gp (gm left t0) k)) * ((s * L (gN ids t0) k * shF (gm mx (gN ids t)) : Int) : Rat) = ((s * L (gN ids t) k * shF (gm mx (gN ids t0)) : Int) : Rat) := by
      simp only [Rat.intCast_mul]
      rw [← eik, ← elk, ← eby]
      grind
    refine ⟨?_, fun j hj => ?_⟩
    · have z := red_bd rby (Int.mul_pos hp (Sp t ht)) by1 ((sB (lb t ht k kN).1).mulB (hS _ (S.lt t0 h0))) ((sB (lb t0 h0 k kN).1).mulB (hS _ (S.lt t ht)))
      exact ⟨rby.p, z.1.mono (by decide), z.2.mono (by decide)⟩
    · obtain ⟨rlj, elj⟩ := (S.row t0 h0).2 j hj
      have rt := tim_red rby.p rlj.p
      have e2 : qv (timF (ovF (gp (gm left t) k) (gp (gm left t0) k)) (gp (gm left t0) j)) * ((s * L (gN ids t0) k * (D * shF (gm mx (gN ids t))) : Int) : Rat) = ((s * L (gN ids t) k * L (gN ids t0) j : Int) : Rat) := by
        rw [qv_tim rby.p rlj.p]
        simp only [Rat.intCast_mul] at by1 ⊢
        rw [← elj]
        have : (qv (ovF (gp (gm left t) k) (gp (gm left t0) k)) * qv (gp (gm left t0) j)) * ((s : Rat) * (L (gN ids t0) k : Rat) * ((D : Rat) * (shF (gm mx (gN ids t)) : Rat))) = qv (gp (gm left t0) j) * (D : Rat) * (qv (ovF (gp (gm left t) k) (gp (gm left t0) k)) * ((s : Rat) * (L (gN ids t0) k : Rat) * (shF (gm mx (gN ids t)) : Rat))) := by grind
        rw [this, by1]
        grind
      have z := red_bd rt (Int.mul_pos hp (Int.mul_pos d0 (Sp t ht))) e2 ((sB (lb t ht k kN).1).mulB (lb t0 h0 j hj).1) ((sB (lb t0 h0 k kN).1).mulB ((lb t0 h0 j hj).2.mulB (hS _ (S.lt t ht))))
      exact ⟨rt.p, z.1.mono (by decide), z.2.mono (by decide)⟩
end
end Fk

set_option Elab.async false
set_option maxRecDepth 100000
set_option maxHeartbeats 8000000
set_option exponentiation.threshold 20000
namespace Fk
open PySem L2
/-! ### rank, as the promise reckons it -/
abbrev sLRank : Stmt := top 36
abbrev nsLRank : List Str := ["_law_rows_here", "_law_row", "_law_left", "_law_many", "_law_k", "_law_found", "_law_lead", "_law_rest", "_law_taken", "_law_by", "_law_one", "_law_two"]
def spLRank : Sp := fun vs H Q _ => ∃ (rl : Addr) (rs : List Addr) (mx : List (List (Int × Int))) (N W : Nat), vs = [.ref rl] ∧ H rl = some (.lst (rv rs)) ∧ RowsAt2 H rs mx ∧ MxOk mx N ∧ (∀ r, r < mx.length → ∀ x ∈ gm mx r, Red x) ∧ TBd mx.length N W (TL (wls mx) N) ∧ N ≤ W + 1 ∧ N ≤ 5 ∧ 1 ≤ mx.length ∧ (∀ i, i < mx.length → Bd 378 (shF (gm mx i))) ∧
  ∀ H', Same H H' → Q (.int (La.cnt (fun c => ¬ NPQ mx c) N : Nat)) H'
def rowsD (mat : List (List (Int × Int))) : List PyData := mat.map fun r => .list (r.map datP)
theorem dp_rows {K : PySem.W.Frag} {H : Hp} : ∀ {rs : List Addr} {mat : List (List (Int × Int))}, RowsAt2 H rs mat → DpAll K H (rv rs) (rowsD mat)
  | [], [], _ => .nil
  | [], _ :: _, h => nomatch h.1
  | _ :: _, [], h => nomatch h.1
  | p :: rs, r :: mat, h => by
    obtain ⟨ps, h1, h2⟩ := h.2 0 p r rfl rfl
    exact .cons (.lst (SqL.of h1) (dp_pairs h2)) (dp_rows ⟨Nat.succ.inj h.1, fun i q y a b => h.2 (i + 1) q y a b⟩)
theorem rows_lay : ∀ mat : List (List (Int × Int)), PyData.canLayAll0 (rowsD mat) = true
  | [] => rfl
  | r :: mat => by
    show (PyData.canLayAll0 (r.map datP) && PyData.canLayAll0 (rowsD mat)) = true
    rw [dats_lay, rows_lay mat]
    rfl
theorem rows_dep : ∀ mat : List (List (Int × Int)), PyData.depthAll (rowsD mat) ≤ 3
  | [] => by show (0 : Nat) ≤ 3; decide
  | r :: mat => by
    have ih := rows_dep mat
    have h := dats_dep r
    show PyData.depthAll (.list (r.map datP) :: rowsD mat) ≤ 3
    simp only [PyData.depthAll, PyData.depth] at ih ⊢
    omega
theorem rows_shaped (mat : List (List (Int × Int))) : SeqAt.shaped (.list (rowsD mat)) = true := by
  have h := rows_dep mat
  have l := rows_lay mat
  refine Bool.and_eq_true_iff.mpr ⟨l, decide_eq_true ?_⟩
  simp only [PyData.depth]
  omega
theorem eqv_nil (mat : List (List (Int × Int))) : PyData.eqv (.list (rowsD mat)) (.list []) = decide (mat.length = 0) := by
  cases mat with
  | nil => rfl
  | cons r mat =>
    show PyData.eqv (.list (.list (r.map datP) :: rowsD mat)) (.list []) = false
    simp only [PyData.eqv, PyData.eqvAll]
theorem dats_inj : ∀ {xs ys : List (Int × Int)}, PyData.eqvAll (xs.map datP) (ys.map datP) = true → xs = ys
  | [], [], _ => rfl
  | [], _ :: _, h => by simp [PyData.eqvAll] at h
  | _ :: _, [], h => by simp [PyData.eqvAll] at h
  | x :: xs, y :: ys, h => by
    simp only [List.map_cons, PyData.eqvAll, datP, PyData.eqv, Bool.and_eq_true, beq_iff_eq, and_true] at h
    obtain ⟨⟨h1, h2⟩, h3⟩ := h
    have e : x = y := Prod.ext h1 h2
    rw [e, dats_inj h3]
theorem dats_ne {xs ys : List (Int × Int)} {k : Nat} (h : gp xs k ≠ gp ys k) : PyData.eqv (.list (xs.map datP)) (.list (ys.map datP)) = false := by
  cases e : PyData.eqv (.list (xs.map datP)) (.list (ys.map datP)) with
  | false => rfl
  | true =>
    have z : PyData.eqvAll (xs.map datP) (ys.map datP) = true := by
      rw [← e]
      simp only [PyData.eqv]
    exact absurd (by rw [dats_inj z]) h
/-- rows whose item of the column is not 0, as far as the first i go -/
def FndI (ls : List Addr) (left : List (List (Int × Int))) (k i : Nat) (fs : List Addr) : Prop := (fs = [] ∧ ∀ t, t < i → (gp (gm left t) k).1 = 0) ∨ ∃ (t0 : Nat) (q : Addr) (r : List Addr), t0 < i ∧ fs = q :: r ∧ ls[t0]? = some q ∧ (gp (gm left t0) k).1 ≠ 0 ∧ ∀ t, t < t0 → (gp (gm left t) k).1 = 0
theorem FndI.add {ls : List Addr} {left : List (List (Int × Int))} {k i : Nat} {fs : List Addr} {q : Addr} (h : FndI ls left k i fs) (hq : ls[i]? = some q) (nz : (gp (gm left i) k).1 ≠ 0) : FndI ls left k (i + 1) (fs ++ [q]) := by
  rcases h with ⟨rfl, z⟩ | ⟨t0, q0, r, h1, rfl, h2, h3, h4⟩
  · exact .inr ⟨i, q, [], Nat.lt_succ_self i, rfl, hq, nz, z⟩
  · exact .inr ⟨t0, q0, r ++ [q], Nat.lt_succ_of_lt h1, rfl, h2, h3, h4⟩
theorem FndI.skip {ls : List Addr} {left : List (List (Int × Int))} {k i : Nat} {fs : List Addr} (h : FndI ls left k i fs) (z : (gp (gm left i) k).1 = 0) : FndI ls left k (i + 1) fs := by
  rcases h with ⟨rfl, z'⟩ | ⟨t0, q0, r, h1, h⟩
  · refine .inl ⟨rfl, fun t ht => ?_⟩
    rcases Nat.lt_or_eq_of_le (Nat.le_of_lt_succ ht) with w | rfl
    · exact z' t w
    · exact z
  · exact .inr ⟨t0, q0, r, Nat.lt_succ_of_lt h1, h⟩
theorem erase_before {α : Type} {xs : List α} {t0 i : Nat} (h : i ≤ t0) : (xs.take i).eraseIdx t0 = xs.take i := List.eraseIdx_of_length_le (by rw [List.length_take]; omega)
theorem erase_at {left : List (List (Int × Int))} {t0 : Nat} (h : t0 < left.length) : (left.take (t0 + 1)).eraseIdx t0 = left.take t0 := by
  rw [List.take_add_one, gm_at h]
  have l : (left.take t0).length = t0 := by rw [List.length_take]; omega
  rw [List.eraseIdx_append_of_length_le (by omega), l, Nat.sub_self]
  simp
theorem erase_next {left : List (List (Int × Int))} {t0 i : Nat} (h : i < left.length) (ne : i ≠ t0) : (left.take (i + 1)).eraseIdx t0 = (left.take i).eraseIdx t0 ++ [gm left i] := by
  have e : left.take (i + 1) = left.take i ++ [gm left i] := by
    rw [List.take_add_one, gm_at h]
    rfl
  have l : (left.take i).length = i := by rw [List.length_take]; omega
  rw [e]
  by_cases z : i < t0
  · rw [List.eraseIdx_of_length_le (by rw [List.length_append, l]; simp; omega), erase_before (by omega)]
  · rw [List.eraseIdx_append_of_lt_length (by omega)]
theorem stepRow_take {k i : Nat} {lead row : List (Int × Int)} (h1 : i < row.length) (h2 : i < lead.length) : (stepRow k lead row).take (i + 1) = (stepRow k lead row).take i ++ [minF (gp row i) (timF (ovF (gp row k) (gp lead k)) (gp lead i))] := by
  have l : i < (stepRow k lead row).length := by
    unfold stepRow
    rw [List.length_zipWith]
    omega
  rw [take_gp l, gp_step h1 h2]
end Fk

set_option Elab.async false
set_option maxRecDepth 100000
set_option maxHeartbeats 8000000
set_option exponentiation.threshold 20000
namespace Fk
open PySem L2
section
variable {P : Program} {w : World} {K : PySem.W.Frag} {mg : Str → Option Value} {base : Heap}
theorem scLRank : FnScope nsLRank ["_law_rows_here"] (defScope sLRank) := ⟨rfl, rfl, rfl, by decide +kernel, rfl, by decide +kernel, by decide +kernel⟩
theorem ok_lrank {f fO fM fT : Addr} {fd dO dM dT : FuncData} (F : Fun K "_law_rank" "_law_rank" sLRank f fd) (Ov : Cl P w K mg base "_law_over" psOT 3 spOver fO dO) (Mi : Cl P w K mg base "_law_minus" psOT 3 spMinus fM dM) (Ti : Cl P w K mg base "_law_times" psOT 3 (spTwo timF) fT dT) (mz : mg "zip" = none) (ml : mg "len" = none) (mr : mg "range" = none) (mli : mg "list" = none) : FnOk P w K mg base CX0 4 f fd ["_law_rows_here"] spLRank := by
  refine F.ok scLRank (fun vs H Q E h => ?_) (fun cdv A outer s H vs Q E hr h => ?_)
  · obtain ⟨rl, rs, mx, N, W, rfl, _⟩ := h
    rfl
  · obtain ⟨rl, rs, mx, N, W, rfl, hrl, hrs, M, hred, B, NW, N5, m1, hS, k⟩ := h
    have m6 := B.m6
    refine ⟨_, pss_cons (ps_par (i := 2) (j := 3) (by rfl) scLRank.nd rfl rfl (by decide) rfl rfl (pa_cons (pe_lc (own := [("_law_row", 1)]) (g := gName 1) (tt := tYes) rfl scLRank.nd (pi_listK (K := K) rfl (pv 0)) (blkOk_by (N := nsLRank) (sc := defScope sLRank) (by decide +kernel)) (fun _ _ _ _ _ => pg_name (i := 1) scLRank.nd rfl (Or.inl rfl)) (fun _ _ _ _ _ => pts_nil)
          (fun _ _ _ _ _ => pe_callTy (call_list_ofK (K := K) rfl) (by rfl) mli (by decide +kernel) (pa_cons (pv 1) pa_nil))) (pa_cons pe_int pa_nil)) (by rfl))
      (pss_cons (ps_for PassesOwn.never rfl (pi_range1 (by rfl) mr (pa_cons (pe_callB call_len_seq (by rfl) ml PySem.boot_len (pa_cons (pe_ix ix_list (pv 2) pe_int (fun _ _ => rfl)) pa_nil)) pa_nil)) (pg_name (i := 4) scLRank.nd rfl (Or.inr rfl))
        (pss_cons (ps_setLc (i := 5) (own := [("_law_row", 1)]) (g := gName 1) rfl scLRank.nd rfl rfl (sw_true rfl rfl rfl rfl) (pi_listK (K := K) rfl (pv 2)) (blkOk_by (N := nsLRank) (sc := defScope sLRank) (by decide +kernel)) (fun _ _ _ _ _ => pg_name (i := 1) scLRank.nd rfl (Or.inl rfl)) (fun _ _ _ _ _ => pts_one (pt_cmpR op_ne (pe_ix (ix_anyK (K := K) rfl) (pe_ix (ix_anyK (K := K) rfl) (pv 1) (pv 4) (fun _ _ => rfl)) pe_int (fun _ _ => rfl)) pe_int (nomark _)))
          (fun _ _ _ _ _ => pv 1))
        (pss_cons (ps_if (pt_cmpR (op_eqDK (K := K) rfl hr.units) (pv 5) (pe_lst pa_nil) (nomark _)) (pss_one ps_continue) pss_nil)
        (pss_cons (ps_par3 (i := 6) (j := 3) (l := 7) (by rfl) scLRank.nd rfl rfl rfl (by decide) (by decide) (by decide) rfl rfl rfl (pa_cons (pe_ix ix_list (pv 5) pe_int (fun _ _ => rfl)) (pa_cons (pe_op op_add (pv 3) pe_int) (pa_cons (pe_lst pa_nil) pa_nil))) (by rfl))
        (pss_cons (ps_set (i := 8) scLRank.nd rfl (Or.inl rfl) pe_bl)
        (pss_cons (ps_for PassesOwn.never rfl (pi_listK (K := K) rfl (pv 2)) (pg_name (i := 1) scLRank.nd rfl (Or.inl rfl))
          (C8.pss_cut (ps_if (PW.pt (pw_and (pt_cmpR (op_eqDK (K := K) rfl hr.units) (pv 1) (pv 6) (nomark _)) (pw_and1 (pt_not (pt_val (pv 8)))))) (pss_cons (ps_set (i := 8) scLRank.nd rfl (Or.inl rfl) pe_bl) (pss_one ps_continue)) pss_nil)
          (pss_cons (ps_set (i := 9) scLRank.nd rfl (Or.inr rfl) (pe_call Ov.G hr (by rfl) Ov.g Ov.kp Ov.b .nil pass0 (pa_cons (pe_ix ix_list (pv 1) (pv 4) (fun _ _ => rfl)) (pa_cons (pe_ix ix_list (pv 6) (pv 4) (fun _ _ => rfl)) pa_nil))))
          (pss_one (ps_expr (pe_bm PySem.F.plainAttrs_list PySem.F.slot_list_append PySem.F.type_list_append mt_append (pv 7) (pa_cons (pe_lc (own := [("_law_one", 10), ("_law_two", 11)]) (g := gTup K 2 (gCons (gName 10) (gCons (gName 11) gNil))) (tt := tYes) rfl scLRank.nd (pi_zipBK (K := K) rfl (by rfl) mz (pa_cons (pv 1) (pa_cons (pv 6) pa_nil))) (blkOk_by (N := nsLRank) (sc := defScope sLRank) (by decide +kernel)) (fun _ _ _ _ _ => pg_tupK (K := K) (n := 2) rfl rfl (pgs_cons (pg_name (i := 10) scLRank.nd rfl (Or.inl rfl)) (pgs_cons (pg_name (i := 11) scLRank.nd rfl (Or.inl rfl)) pgs_nil))) (fun _ _ _ _ _ => pts_nil)
              (fun _ _ _ _ _ => pe_call Mi.G hr (by rfl) Mi.g Mi.kp Mi.b .nil pass0 (pa_cons (pv 10) (pa_cons (pe_call Ti.G hr (by rfl) Ti.g Ti.kp Ti.b .nil pass0 (pa_cons (pv 9) (pa_cons (pv 11) pa_nil))) pa_nil)))) pa_nil)))))))
        (pss_cons (ps_set (i := 2) scLRank.nd rfl (Or.inl rfl) (pv 7))
        (pss_one (ps_if (pt_cmpR (op_eqDK (K := K) rfl hr.units) (pv 2) (pe_lst pa_nil) (nomark _)) (pss_one ps_break) pss_nil)))))))))
      (pss_one (ps_ret (pv 3)))), ?_⟩
    -- the copies
    refine ⟨_, rfl, rl, rfl, ⟨_, SqL.of hrl⟩, fun D0 hD0 => lc_list (K := K) (a := rl) (xs := rv rs) (fun i H2 => Same H H2 ∧ ∃ cs, H2 D0 = some (.lst (rv cs)) ∧ RowsAt2 H2 cs (mx.take i) ∧ D0 ∉ cs) ⟨same_new hD0, [], upd_same, ⟨rfl, fun i p x hp _ => nomatch hp⟩, fun z => nomatch z⟩ (fun i H2 _ ⟨s, _⟩ => SqL.of (s _ _ hrl)) ?_ ?_⟩
    · rintro i x H2 hx ⟨s2, cs, hcs, hC, nC⟩
      obtain ⟨q, ps, rfl, hi, hq, hps⟩ := (hrs.same s2).gm hx
      refine ⟨rfl, yesT ?_⟩
      refine ⟨_, rfl, q, rv ps, rfl, .inl (SqL.of hq), fun c hc => ?_⟩
      have s3 := same_new (o := .lst (rv ps)) hc
      have cD : c ≠ D0 := fun e => by
        rw [e, hcs] at hc
        cases hc
      have hcs3 := s3 _ _ hcs
      refine ⟨rv cs, hcs3, by rw [rv_len, hC.1, List.length_take]; exact small1000 (by omega), fun b o hb => ?_, cs ++ [c], ?_, ?_, fun z => ?_⟩
      · rw [upd_ne (ne_of_none hb hD0)]
        exact (s2.trans s3) _ _ hb
      · rw [upd_same]
        unfold rv
        rw [List.map_append]
        rfl
      · have e : mx.take (i + 1) = mx.take i ++ [gm mx i] := by
          rw [List.take_add_one, gm_at hi]
          rfl
        rw [e]
        exact (hC.same s3).add hcs3 nC upd_same (hps.same s3) cD _
      · rcases List.mem_append.mp z with z | z
        · exact nC z
        · exact cD (List.mem_singleton.mp z).symm
    rintro H1 ⟨s1, cs, hcs, hC, nC⟩
    rw [rv_len, hrs.1, List.take_length] at hC
    refine ⟨_, _, rfl, ?_⟩
    obtain ⟨q0, ps0, a0, b0, c0⟩ := hC.at_ (i := 0) (by omega)
    refine ⟨_, rfl, D0, rv cs, _, _, rfl, rfl, SqL.of hcs, a0, q0, rv ps0, rfl, .inl (SqL.of b0), ?_⟩
    rw [rv_len, c0.1, M.l 0 (by omega)]
    refine ⟨_, rfl, by omega, by omega, for_range (lo := 0) (n := N) (fun c σ' H' => ∃ (Dl : Addr) (ls : List Addr) (left : List (List (Int × Int))) (r : Nat) (v1 v4 v5 v6 v7 v8 v9 : Option V), σ' = [some (.ref rl), v1, some (.ref Dl), some (.int (r : Nat)), v4, v5, v6, v7, v8, v9, none, none] ∧ Same H H' ∧ H' Dl = some (.lst (rv ls)) ∧ RowsAt2 H' ls left ∧ left.length ≤ 6 ∧ LwSt mx N c left r)
      ⟨D0, cs, mx, 0, none, none, none, none, none, none, none, rfl, s1, hcs, hC, m6, LwSt.start M hred⟩ ?_ ?_⟩
    · rintro c σ' H2 hc ⟨Dl, ls, left, r, v1, v4, v5, v6, v7, v8, v9, rfl, s2, hls, hL, l6, S⟩
      have e0 : (0 : Int) + (c : Int) = (c : Int) := Int.zero_add _
      have ft := S.fit M hc B (by omega) hS
      have lw : ∀ t, t < left.length → (gm left t).length = N := fun t ht => by
        obtain ⟨b, D, L, ids, S'⟩ := S
        exact (S'.row t (by rw [← S'.len]; exact ht)).1
      have rd : ∀ t, t < left.length → ∀ j, j < N → Red (gp (gm left t) j) := fun t ht j hj => by
        obtain ⟨b, D, L, ids, S'⟩ := S
        exact ((S'.row t (by rw [← S'.len]; exact ht)).2 j hj).1
      have lls : (rv ls).length = left.length := by rw [rv_len, hL.1]
      -- the rows that are found
      dsimp only [tSeq, tAsg]
      refine ⟨_, rfl, ?_⟩
      refine ⟨Dl, rfl, ⟨_, SqL.of hls⟩, fun D hD => lc_list (K := K) (a := Dl) (xs := rv ls) (fun i H3 => Same H2 H3 ∧ ∃ fs mf, H3 D = some (.lst (rv fs)) ∧ RowsAt2 H3 fs mf ∧ D ∉ fs ∧ mf.length ≤ i ∧ FndI ls left c i fs) ⟨same_new hD, [], [], upd_same, ⟨rfl, fun i p x hp _ => nomatch hp⟩, (fun z => nomatch z), Nat.zero_le _, .inl ⟨rfl, fun t ht => absurd ht (Nat.not_lt_zero t)⟩⟩ (fun i H3 _ ⟨s, _⟩ => SqL.of (s _ _ hls)) ?_ ?_⟩
      · rintro i x H3 hx ⟨s3, fs, mf, hfs, hF, nD, lf, fi⟩
        obtain ⟨q, ps, rfl, hi, hq, hps⟩ := (hL.same s3).gm hx
        obtain ⟨p, hp, hpr⟩ := hps.at_ (i := c) (by rw [lw i hi]; exact hc)
        have hqi : ls[i]? = some q := by
          unfold rv at hx
          rw [List.getElem?_map] at hx
          cases e : ls[i]? with
          | none =>
            rw [e] at hx
            cases hx
          | some u =>
            rw [e] at hx
            cases hx
            rfl
        refine ⟨rfl, ?_⟩
        refine ⟨_, rfl, _, rfl, q, rv ps, _, .ref p, rfl, rfl, .lst hq, by rw [e0]; exact hp, p, _, 0, _, rfl, rfl, .tup hpr, rfl, rfl, _, rfl, ite2 (fun h1 => ?_) (fun h1 => ?_)⟩
        · have nz : (gp (gm left i) c).1 ≠ 0 := fun z => by
            rw [z] at h1
            exact absurd h1 (by decide)
          have qD : q ≠ D := fun e => by
            obtain ⟨ps', z, _⟩ := hL.2 i q _ hqi (gm_at hi)
            rw [e, hD] at z
            cases z
          refine ⟨_, rfl, rv fs, hfs, by rw [rv_len, hF.1]; exact small1000 (by omega), fun b o hb => ?_, fs ++ [q], mf ++ [gm left i], ?_, hF.add hfs nD hq hps qD _, fun z => ?_, by rw [List.length_append]; simp; omega, fi.add hqi nz⟩
          · rw [upd_ne (ne_of_none hb hD)]
            exact s3 _ _ hb
          · rw [upd_same]
            unfold rv
            rw [List.map_append]
            rfl
          · rcases List.mem_append.mp z with z | z
            · exact nD z
            · exact qD (List.mem_singleton.mp z).symm
        · refine ⟨s3, fs, mf, hfs, hF, nD, Nat.le_succ_of_le lf, fi.skip ?_⟩
          refine Classical.byContradiction fun z => h1 ?_
          simp [z]
      rintro H3 ⟨s3, fs, mf, hfs, hF, nD, lf, fi⟩
      rw [lls] at fi lf
      have s03 := s2.trans s3
      have hls3 := s3 _ _ hls
      have hL3 := hL.same s3
      -- none?
      refine ⟨_, rfl, by show 0 ≤ sizeLine; decide, fun e1 he1 => ?_⟩
      have s4 := same_new (o := .lst []) he1
      have ee1 : (upd H3 e1 (.lst [])) e1 = some (.lst []) := upd_same
      generalize upd H3 e1 (.lst []) = H4 at s4 ee1 ⊢
      refine ⟨.list (rowsD mf), .list [], .lst (SqL.of (s4 _ _ hfs)) (dp_rows (hF.same s4)), .lst (SqL.of ee1) .nil, rows_shaped mf, rfl, _, rfl, ?_⟩
      rw [eqv_nil]
      refine ite2 (fun h0 => ?_) (fun h0 => ?_)
      · have h0' : fs = [] := List.length_eq_zero_iff.mp (hF.1.trans (of_decide_eq_true h0))
        have z : ∀ t, t < left.length → (gp (gm left t) c).1 = 0 := by
          rcases fi with ⟨_, z⟩ | ⟨t0, q, r', _, e, _⟩
          · exact z
          · rw [h0'] at e
            cases e
        exact ⟨Dl, ls, left, r, _, _, _, _, _, _, _, rfl, s03.trans s4, s4 _ _ hls3, hL3.same s4, l6, S.none M hc z⟩
      obtain ⟨t0, q, r', ht0, rfl, hq0, nz, hz⟩ : ∃ (t0 : Nat) (q : Addr) (r' : List Addr), t0 < left.length ∧ fs = q :: r' ∧ ls[t0]? = some q ∧ (gp (gm left t0) c).1 ≠ 0 ∧ ∀ t, t < t0 → (gp (gm left t) c).1 = 0 := by
        rcases fi with ⟨e, _⟩ | h
        · exact absurd (decide_eq_true (by rw [← hF.1, e]; rfl)) h0
        · exact h
      have hfs4 := s4 _ _ hfs
      refine ⟨_, rfl, D, rv (q :: r'), _, .ref q, rfl, rfl, SqL.of hfs4, atI_nat (j := 0) rfl, ?_⟩
      refine ⟨_, rfl, _, _, rfl, rfl, by show 0 ≤ sizeLine; decide, fun R hR => ⟨_, _, _, rfl, ?_⟩⟩
      have hls4 := s4 _ _ hls3
      have hL4 := hL3.same s4
      have s04 := s03.trans s4
      have lead0 := lw t0 ht0
      have hlsR := same_new (o := .lst []) hR _ _ hls4
      refine ⟨_, rfl, Dl, rfl, ⟨_, SqL.of hlsR⟩, for_list (K := K) (a := Dl) (xs := rv ls) (fun i σ' H' => ∃ (rs' : List Addr) (w1 w9 : Option V), σ' = [some (.ref rl), w1, some (.ref Dl), some (.int ((r : Int) + 1)), some (.int (0 + (c : Int))), some (.ref D), some (.ref q), some (.ref R), some (.bl (decide (t0 < i))), w9, none, none] ∧ Same H4 H' ∧ H' R = some (.lst (rv rs')) ∧ RowsAt2 H' rs' (((left.take i).eraseIdx t0).map (stepRow c (gm left t0))) ∧ R ∉ rs')
        ⟨[], _, _, rfl, same_new hR, upd_same, ⟨rfl, fun i p x hp _ => nomatch hp⟩, fun z => nomatch z⟩ (fun i σ' H' _ ⟨_, _, _, _, z, _⟩ => SqL.of (z _ _ hls4)) ?_ ?_⟩
      · rintro i x σ' H5 hx ⟨rs', w1, w9, rfl, s5, hR5, hRR, nR⟩
        have hL5 := hL4.same s5
        obtain ⟨qi, psi, rfl, hi, hqi, hpsi⟩ := hL5.gm hx
        obtain ⟨ps0', hq5, hps5⟩ := hL5.2 t0 q _ hq0 (gm_at ht0)
        refine ⟨fun σ'' H'' => σ'' = [some (.ref rl), some (.ref qi), some (.ref Dl), some (.int ((r : Int) + 1)), some (.int (0 + (c : Int))), some (.ref D), some (.ref q), some (.ref R), some (.bl (decide (t0 < i))), w9, none, none] ∧ H'' = H5 ∧ i ≠ t0, ?_, ?_⟩
        · refine ⟨_, rfl, _, rfl, .list ((gm left i).map datP), .list ((gm left t0).map datP), .lst (SqL.of hqi) (dp_pairs hpsi), .lst (SqL.of hq5) (dp_pairs hps5), dats_shaped _, dats_shaped _, _, rfl, ?_⟩
          rcases Nat.lt_trichotomy i t0 with lt | rfl | gt
          · rw [dats_ne (k := c) fun e => nz (by rw [← e]; exact hz i lt)]
            exact iteF (iteF ⟨rfl, rfl, by omega⟩)
          · rw [dats_refl]
            have e1 : decide (i < i) = false := decide_eq_false (Nat.lt_irrefl i)
            refine iteT ⟨_, rfl, decide (i < i), rfl, ?_⟩
            rw [e1]
            refine iteT ⟨rs', some (.ref qi), w9, ?_, s5, hR5, ?_, nR⟩
            · have e2 : decide (i < i + 1) = true := decide_eq_true (Nat.lt_succ_self i)
              rw [e2]
              rfl
            · rw [erase_at hi]
              rw [erase_before (Nat.le_refl i)] at hRR
              exact hRR
          · cases PyData.eqv (.list ((gm left i).map datP)) (.list ((gm left t0).map datP)) with
            | false => exact iteF (iteF ⟨rfl, rfl, by omega⟩)
            | true =>
              have e1 : decide (t0 < i) = true := decide_eq_true gt
              refine iteT ⟨_, rfl, decide (t0 < i), rfl, ?_⟩
              rw [e1]
              exact iteF ⟨rfl, rfl, by omega⟩
        rintro σ'' H'' ⟨rfl, rfl, ne⟩
        have li := lw i hi
        obtain ⟨p1, hp1, hpr1⟩ := hpsi.at_ (i := c) (by rw [li]; exact hc)
        obtain ⟨p2, hp2, hpr2⟩ := hps5.at_ (i := c) (by rw [lead0]; exact hc)
        have fx := ft.x i hi c hc
        have fy := ft.x t0 ht0 c hc
        obtain ⟨fb, ftt⟩ := ft.y i hi t0 ht0 nz
        refine ⟨_, rfl, _, rfl, qi, rv psi, _, _, rfl, rfl, SqL.of hqi, by rw [e0]; exact hp1, _, rfl, _, rfl, q, rv ps0', _, _, rfl, rfl, SqL.of hq5, by rw [e0]; exact hp2, p1, p2, _, _, rfl, hpr1, hpr2, ⟨fx.1, fx.2.1.mono (by decide), fx.2.2.mono (by decide)⟩, ⟨fy.1, fy.2.1.mono (by decide), fy.2.2.mono (by decide)⟩, nz, fun y H6 s6 hy => ?_⟩
        have hR6 := s6 _ _ hR5
        have hqi6 := s6 _ _ hqi
        have hq6 := s6 _ _ hq5
        have lsr : (stepRow c (gm left t0) (gm left i)).length = N := by
          unfold stepRow
          rw [List.length_zipWith, li, lead0, Nat.min_self]
        refine ⟨_, rfl, .inl ⟨rfl, _, SqL.of hR6⟩, _, rfl, _, rfl, true, true, qi, q, rv psi, rv ps0', rfl, SqL.of hqi6, SqL.of hq6, fun Dx hDx => ?_⟩
        refine lc_zipB (K := K) (k := true) (l := true) (a := qi) (b := q) (D := Dx) (xs := rv psi) (ys := rv ps0') (by rw [rv_len, rv_len, hpsi.1, hps5.1, li, lead0]) (fun j H' => Same H6 H' ∧ ∃ us, H' Dx = some (.lst (rv us)) ∧ PairsAt H' us ((stepRow c (gm left t0) (gm left i)).take j)) ⟨same_new hDx, [], upd_same, pairs_nil⟩ (fun j H' ⟨z, _⟩ => ⟨SqL.of (z _ _ hqi6), SqL.of (z _ _ hq6)⟩) ?_ ?_
        · rintro m x y' T H9 hx hy' ⟨s9, us, hus, hU⟩ hT
          obtain ⟨a1, rfl, hm, r1⟩ := (hpsi.same (s6.trans s9)).gp hx
          obtain ⟨a2, rfl, hm2, r2⟩ := (hps5.same (s6.trans s9)).gp hy'
          have hmN : m < N := by omega
          have s10 := same_new (o := .tup [.ref a1, .ref a2]) hT
          have g1 := ft.x i hi m hmN
          have g2 := ft.x t0 ht0 m hmN
          refine ⟨T, _, rfl, .inl (.inl upd_same), rfl, _, _, rfl, _, _, rfl, rfl, rfl, yesT ?_⟩
          refine ⟨_, rfl, _, rfl, _, rfl, y, a2, _, _, rfl, (s9.trans s10) _ _ hy, s10 _ _ r2, fb, ⟨g2.1, g2.2.1.mono (by decide), g2.2.2.mono (by decide)⟩, fun r3 H11 s11 hr3' => ?_⟩
          refine ⟨a1, r3, _, _, rfl, (s10.trans s11) _ _ r1, hr3', g1, ftt m hmN, fun r4 H12 s12 hr4' => ?_⟩
          rw [stepRow_take (by omega) (by omega)]
          exact grow hDx s9 hus hU (s10.trans (s11.trans s12)) hr4' (by rw [List.length_take]; omega)
        · rintro H9 ⟨s9, us, hus, hU⟩
          have e : (stepRow c (gm left t0) (gm left i)).take (rv psi).length = stepRow c (gm left t0) (gm left i) := by
            rw [rv_len, hpsi.1, li]
            exact List.take_of_length_le (by rw [lsr]; exact Nat.le_refl _)
          rw [e] at hU
          have hR9 := s9 _ _ hR6
          have DxR : Dx ≠ R := fun e => by
            rw [e, hR6] at hDx
            cases hDx
          refine ⟨R, rv rs', _, rfl, rfl, hR9, ?_, ?_⟩
          · have : rs'.length ≤ 6 := by
              rw [hRR.1, List.length_map]
              refine Nat.le_trans (List.length_eraseIdx_le _ _) ?_
              rw [List.length_take]
              omega
            rw [rv_len]
            exact small1000 (by omega)
          · refine ⟨rs' ++ [Dx], some (.ref qi), some (.ref y), ?_, fun b o hb => ?_, ?_, ?_, fun z => ?_⟩
            · have e2 : decide (t0 < i + 1) = decide (t0 < i) := by
                by_cases z : t0 < i
                · rw [decide_eq_true z, decide_eq_true (by omega)]
                · rw [decide_eq_false z, decide_eq_false (by omega)]
              rw [e2]
              rfl
            · rw [upd_ne (ne_of_none hb hR)]
              exact (s5.trans (s6.trans s9)) _ _ hb
            · rw [upd_same]
              unfold rv
              rw [List.map_append]
              rfl
            · rw [erase_next hi ne, List.map_append]
              exact (hRR.same (s6.trans s9)).add hR9 nR hus hU DxR _
            · rcases List.mem_append.mp z with z | z
              · exact nR z
              · exact DxR (List.mem_singleton.mp z).symm
      · rintro σ' H5 ⟨rs', w1, w9, rfl, s5, hR5, hRR, nR⟩
        rw [lls, List.take_length] at hRR
        have Sn := S.found M hc ht0 nz
        have ln : ((left.eraseIdx t0).map (stepRow c (gm left t0))).length ≤ 6 := by
          rw [List.length_map]
          exact Nat.le_trans (List.length_eraseIdx_le _ _) l6
        refine ⟨_, rfl, _, rfl, by show 0 ≤ sizeLine; decide, fun e2 he2 => ?_⟩
        have s6 := same_new (o := .lst []) he2
        have ee2 : (upd H5 e2 (.lst [])) e2 = some (.lst []) := upd_same
        generalize upd H5 e2 (.lst []) = H6 at s6 ee2 ⊢
        have hR6 := s6 _ _ hR5
        have hRR6 := hRR.same s6
        generalize hnl : (left.eraseIdx t0).map (stepRow c (gm left t0)) = nl at Sn ln hRR6
        refine ⟨.list (rowsD nl), .list [], .lst (SqL.of hR6) (dp_rows hRR6), .lst (SqL.of ee2) .nil, rows_shaped nl, rfl, _, rfl, ?_⟩
        rw [eqv_nil]
        have s26 := s04.trans (s5.trans s6)
        refine ite2 (fun hb => ?_) (fun hb => ?_)
        · have hb' : nl = [] := List.length_eq_zero_iff.mp (of_decide_eq_true hb)
          rw [hb'] at Sn
          have e := LwSt.rest M (N - (c + 1)) (k := c + 1) (by omega) Sn
          refine ⟨_, rfl, ?_⟩
          have z := k H6 s26
          rw [← e] at z
          exact z
        · exact ⟨R, rs', nl, r + 1, _, _, _, _, _, _, _, rfl, s26, hR6, hRR6, ln, Sn⟩
    · rintro σ' H2 ⟨Dl, ls, left, r, v1, v4, v5, v6, v7, v8, v9, rfl, s2, hls, hL, l6, S⟩
      refine ⟨_, rfl, ?_⟩
      rw [S.cnt_end]
      exact k H2 s2
end
end Fk

set_option Elab.async false
set_option maxRecDepth 100000
set_option maxHeartbeats 8000000
set_option exponentiation.threshold 20000
namespace Fk
open PySem L2
/-! ### rows that are drawn, over common bottoms -/
theorem gm_app1 {pts qs : List (List (Int × Int))} {i : Nat} (h : i < pts.length) : gm (pts ++ qs) i = gm pts i := by
  unfold gm
  rw [List.getD_eq_getElem?_getD, List.getD_eq_getElem?_getD, List.getElem?_append_left h]
theorem gm_last {pts : List (List (Int × Int))} {p : List (Int × Int)} : gm (pts ++ [p]) pts.length = p := by
  unfold gm
  rw [List.getD_eq_getElem?_getD, List.getElem?_append_right (Nat.le_refl _), Nat.sub_self]
  rfl
def CoQ (e B : Nat) (pts : List (List (Int × Int))) (j : Nat) : Prop := ∃ M : Int, 0 < M ∧ Bd e M ∧ ∀ i, i < pts.length → Red (gp (gm pts i) j) ∧ ∃ N : Int, qv (gp (gm pts i) j) * (M : Rat) = (N : Rat) ∧ N.natAbs ≤ 2 ^ B * M.natAbs
theorem coq_nil (j : Nat) : CoQ 1 96 [] j := ⟨1, by decide, by unfold Bd; decide, fun i hi => absurd hi (Nat.not_lt_zero i)⟩
theorem coq_more {e d B C : Nat} {pts : List (List (Int × Int))} {p : List (Int × Int)} {j : Nat} {c : Int} {M : Int} (BC : B ≤ C) (c0 : 0 < c) (hc : Bd d c) (M0 : 0 < M) (hM : Bd e M) (h : ∀ i, i < pts.length → Red (gp (gm pts i) j) ∧ ∃ N : Int, qv (gp (gm pts i) j) * (M : Rat) = (N : Rat) ∧ N.natAbs ≤ 2 ^ B * M.natAbs)
    (hr : Red (gp p j)) {N : Int} (hN : qv (gp p j) * ((M * c : Int) : Rat) = (N : Rat)) (bN : N.natAbs ≤ 2 ^ C * (M * c).natAbs) : CoQ (e + d) C (pts ++ [p]) j := by
  refine ⟨M * c, Int.mul_pos M0 c0, hM.mulB hc, fun i hi => ?_⟩
  rw [List.length_append, List.length_singleton] at hi
  by_cases z : i < pts.length
  · rw [gm_app1 z]
    obtain ⟨h1, N', h2, h3⟩ := h i z
    refine ⟨h1, N' * c, ?_, ?_⟩
    · rw [Rat.intCast_mul, Rat.intCast_mul, ← h2]
      grind
    · rw [Int.natAbs_mul, Int.natAbs_mul, ← Nat.mul_assoc]
      exact Nat.mul_le_mul_right _ (Nat.le_trans h3 (Nat.mul_le_mul_right _ (Nat.pow_le_pow_right (by decide) BC)))
  · have e' : i = pts.length := by omega
    rw [e', gm_last]
    exact ⟨hr, N, hN, bN⟩
theorem coq_fresh {e B : Nat} {pts : List (List (Int × Int))} {p : List (Int × Int)} {j : Nat} (h : CoQ e B pts j) (hB : 96 ≤ B) (f : Fit 100 7 (gp p j)) : CoQ (e + 7) (B + 4) (pts ++ [p]) j := by
  obtain ⟨M, M0, hM, h⟩ := h
  refine coq_more (Nat.le_add_right _ _) f.p f.b2 M0 hM h f.red (N := (gp p j).1 * M) ?_ ?_
  · have z := qv_mul f.p
    rw [Rat.intCast_mul, Rat.intCast_mul, ← z]
    grind
  · rw [Int.natAbs_mul, Int.natAbs_mul]
    have b1 := f.b1
    unfold Bd at b1
    have p2 : 1 ≤ (gp p j).2.natAbs := by have := f.p; omega
    calc (gp p j).1.natAbs * M.natAbs ≤ 2 ^ (B + 4) * M.natAbs := Nat.mul_le_mul_right _ (Nat.le_trans (Nat.le_of_lt b1) (Nat.pow_le_pow_right (by decide) (by omega)))
      _ ≤ 2 ^ (B + 4) * (M.natAbs * (gp p j).2.natAbs) := Nat.mul_le_mul_left _ (Nat.le_mul_of_pos_right _ p2)
theorem coq_sum {e B a b : Nat} {pts : List (List (Int × Int))} {p : List (Int × Int)} {j : Nat} {y : Int × Int} (h : CoQ e B pts j) (ha : a < pts.length) (hb : b < pts.length) (fy : Fit 4 7 y) (f : gp p j = pluF (timF y (gp (gm pts a) j)) (gp (gm pts b) j)) : CoQ (e + 7) (B + 4) (pts ++ [p]) j := by
  obtain ⟨M, M0, hM, h⟩ := h
  obtain ⟨r1, N1, e1, b1⟩ := h a ha
  obtain ⟨r2, N2, e2, b2⟩ := h b hb
  have rt := tim_red fy.p r1.p
  refine coq_more (c := y.2) (d := 7) (Nat.le_add_right _ _) fy.p fy.b2 M0 hM h (by rw [f]; exact low_red (Int.mul_pos rt.p r2.p)) (N := y.1 * N1 + y.2 * N2) ?_ ?_
  · rw [f, qv_plu rt.p r2.p, qv_tim fy.p r1.p]
    simp only [Rat.intCast_mul, Rat.intCast_add]
    rw [← e1, ← e2, ← qv_mul fy.p]
    grind
  · rw [Int.natAbs_mul]
    have t := Int.natAbs_add_le (y.1 * N1) (y.2 * N2)
    rw [Int.natAbs_mul, Int.natAbs_mul] at t
    have y1 := fy.b1
    have y2 : 1 ≤ y.2.natAbs := by have := fy.p; omega
    unfold Bd at y1
    have s1 : y.1.natAbs * N1.natAbs ≤ 15 * y.2.natAbs * (2 ^ B * M.natAbs) := Nat.mul_le_mul (by omega) b1
    have s2 : y.2.natAbs * N2.natAbs ≤ y.2.natAbs * (2 ^ B * M.natAbs) := Nat.mul_le_mul_left _ b2
    have e3 : 2 ^ (B + 4) * (M.natAbs * y.2.natAbs) = 16 * (y.2.natAbs * (2 ^ B * M.natAbs)) := by
      rw [Nat.pow_add]
      have : (2 : Nat) ^ 4 = 16 := by decide
      rw [this]
      ac_rfl
    rw [e3]
    have e4 : 15 * y.2.natAbs * (2 ^ B * M.natAbs) = 15 * (y.2.natAbs * (2 ^ B * M.natAbs)) := Nat.mul_assoc _ _ _
    omega
theorem coq_fit {e B : Nat} {pts : List (List (Int × Int))} {j : Nat} (h : CoQ e B pts j) (he : e ≤ 43) (hB : B ≤ 120) {i : Nat} (hi : i < pts.length) : Fit 163 43 (gp (gm pts i) j) := by
  obtain ⟨M, M0, hM, h⟩ := h
  obtain ⟨r, N, h1, h2⟩ := h i hi
  have bN : Bd 163 N := by
    unfold Bd at *
    have m1 : M.natAbs < 2 ^ 43 := Nat.lt_of_lt_of_le hM (Nat.pow_le_pow_right (by decide) he)
    calc N.natAbs ≤ 2 ^ B * M.natAbs := h2
      _ ≤ 2 ^ 120 * M.natAbs := Nat.mul_le_mul_right _ (Nat.pow_le_pow_right (by decide) hB)
      _ < 2 ^ 120 * 2 ^ 43 := Nat.mul_lt_mul_of_pos_left m1 (by decide)
      _ = 2 ^ 163 := by rw [← Nat.pow_add]
  have z := red_bd r M0 h1 bN (hM.mono he)
  exact ⟨r.p, r.g, z.1, z.2⟩
def comF (y : Int × Int) (a b : List (Int × Int)) (W : Nat) : List (Int × Int) := (List.range W).map fun j => pluF (timF y (gp a j)) (gp b j)
end Fk

set_option Elab.async false
set_option maxRecDepth 100000
set_option maxHeartbeats 8000000
set_option exponentiation.threshold 20000
namespace Fk
open PySem L2
/-! ### rows are drawn -/
abbrev sLRows : Stmt := top 37
abbrev psLRows : List Str := ["_law_pen_here", "_law_wide", "_law_many"]
abbrev nsLRows : List Str := ["_law_pen_here", "_law_wide", "_law_many", "_law_rows_here", "_law_k", "_law_row", "_law_by", "_law_one", "_law_other", "_law_j", "_law_a", "_law_b"]
structure Rows (H : Hp) (D : Addr) (rs : List Addr) (mat : List (List (Int × Int))) (W n : Nat) : Prop where
  hD : H D = some (.lst (rv rs))
  hrs : RowsAt2 H rs mat
  nD : D ∉ rs
  ln : mat.length = n
  lw : ∀ i, i < n → (gm mat i).length = W
  f : ∀ i, i < n → ∀ j, j < W → Fit 163 43 (gp (gm mat i) j)
def spLRows : Sp := fun vs H Q _ => ∃ (p l : Addr) (c Wi ni : Int) (W n : Nat), vs = [.ref p, .int Wi, .int ni] ∧ Wi = (W : Int) ∧ ni = (n : Int) ∧ PenAt H p l c ∧ c < 600000000 ∧ W ≤ 4 ∧ n ≤ 6 ∧ ∀ D rs mat c' H', Keep p H H' → PenAt H' p l c' → c ≤ c' → c' ≤ c + 4000 → Rows H' D rs mat W n → Q (.ref D) H'
/-- the rows so far -/
structure LoopR (p l D3 : Addr) (H2 : Hp) (c : Int) (W k : Nat) (H' : Hp) (c' : Int) (rs : List Addr) (mat : List (List (Int × Int))) : Prop where
  kp : Keep p H2 H'
  P : PenAt H' p l c'
  ca : c ≤ c'
  cb : c' ≤ c + 500 * k
  hD : H' D3 = some (.lst (rv rs))
  hrs : RowsAt2 H' rs mat
  nD : D3 ∉ rs
  ln : mat.length = k
  lw : ∀ i, i < k → (gm mat i).length = W
  c : ∀ j, j < W → CoQ (1 + 7 * k) (96 + 4 * k) mat j
/-- one row -/
structure OneR (p l D3 : Addr) (H1 : Hp) (c1 : Int) (W e B : Nat) (mat : List (List (Int × Int))) (d : Int) (t : Addr) (H' : Hp) (c' : Int) (fs : List (Int × Int)) : Prop where
  kp : Keep p H1 H'
  P : PenAt H' p l c'
  ca : c1 ≤ c'
  cb : c' ≤ c1 + d
  ht : ∃ ps, H' t = some (.lst (rv ps)) ∧ PairsAt H' ps fs
  nt : t ≠ D3
  lf : fs.length = W
  c : ∀ j, j < W → CoQ e B (mat ++ [fs]) j
section
variable {P : Program} {w : World} {K : PySem.W.Frag} {mg : Str → Option Value} {base : Heap}
theorem scLRows : FnScope nsLRows psLRows (defScope sLRows) := ⟨rfl, rfl, rfl, by decide +kernel, rfl, by decide +kernel, by decide +kernel⟩
theorem ok_lrows {f fD fP fR fPl fT : Addr} {fd dD dP dR dPl dT : FuncData} (F : Fun K "_law_rows" "_law_rows" sLRows f fd) (D : Cl P w K mg base "_law_draw" psDraw 1 spDraw fD dD) (C : Cl P w K mg base "_law_pick" psPick 2 spPick fP dP) (R : Cl P w K mg base "_law_ratio" psBig 4 spLRatio fR dR) (Pl : Cl P w K mg base "_law_plus" psOT 3 (spTwo pluF) fPl dPl) (Ti : Cl P w K mg base "_law_times" psOT 3 (spTwo timF) fT dT)
    (mr : mg "range" = none) (mz : mg "zip" = none) : FnOk P w K mg base CX0 5 f fd psLRows spLRows := by
  refine F.ok scLRows (fun vs H Q E h => ?_) (fun cdv A outer s H vs Q E hr h => ?_)
  · obtain ⟨p, l, c, Wi, ni, W, n, rfl, _⟩ := h
    rfl
  · obtain ⟨p, l, c, Wi, ni, W, n, rfl, rfl, rfl, hp, c1, w4, n6, k⟩ := h
    have hr1 := hr.mono (show 1 ≤ 4 by decide)
    have hr2 := hr.mono (show 2 ≤ 4 by decide)
    have hr3 := hr.mono (show 3 ≤ 4 by decide)
    refine ⟨_, pss_cons (ps_set (i := 3) scLRows.nd rfl (Or.inl rfl) (pe_lst pa_nil))
      (pss_cons (ps_for PassesOwn.never rfl (pi_range1 (by rfl) mr (pa_cons (pv 2) pa_nil)) (pg_name (i := 4) scLRows.nd rfl (Or.inl rfl))
        (C8.pss_cut (ps_setLc (i := 5) (own := [("_law_j", 9)]) (g := gName 9) (tt := tYes) rfl scLRows.nd rfl rfl (sw_true rfl rfl rfl rfl) (pi_range1 (by rfl) mr (pa_cons (pv 1) pa_nil)) (blkOk_by (N := nsLRows) (sc := defScope sLRows) (by decide +kernel)) (fun _ _ _ _ _ => pg_name (i := 9) scLRows.nd rfl (Or.inl rfl)) (fun _ _ _ _ _ => pts_nil)
            (fun _ _ _ _ _ => pe_call R.G hr (by rfl) R.g R.kp R.b .nil pass0 (pa_cons (pv 0) (pa_cons (pe_call C.G hr2 (by rfl) C.g C.kp C.b .nil pass0 (pa_cons (pv 0) (pa_cons (pe_lst (pa_cons pe_int (pa_cons pe_int (pa_cons pe_int (pa_cons pe_int pa_nil))))) pa_nil))) pa_nil))))
        (C8.pss_cut (ps_if (PW.pt (pw_and (pt_cmpR op_gt (pv 4) pe_int (nomark _)) (pw_and1 (pt_cmpR op_eq (pe_call D.G hr1 (by rfl) D.g D.kp D.b .nil pass0 (pa_cons (pv 0) (pa_cons pe_int pa_nil))) pe_int (nomark _)))))
            (pss_cons (ps_asg (pe_tup (pa_cons (pe_call R.G hr (by rfl) R.g R.kp R.b .nil pass0 (pa_cons (pv 0) (pa_cons pe_int pa_nil))) (pa_cons (pe_call C.G hr2 (by rfl) C.g C.kp C.b .nil pass0 (pa_cons (pv 0) (pa_cons (pv 3) pa_nil))) (pa_cons (pe_call C.G hr2 (by rfl) C.g C.kp C.b .nil pass0 (pa_cons (pv 0) (pa_cons (pv 3) pa_nil))) pa_nil)))) (pg_tup (by rfl) (pgs_cons (pg_name (i := 6) scLRows.nd rfl (Or.inr rfl)) (pgs_cons (pg_name (i := 7) scLRows.nd rfl (Or.inl rfl)) (pgs_cons (pg_name (i := 8) scLRows.nd rfl (Or.inl rfl)) pgs_nil)))))
            (pss_one (ps_setLc (i := 5) (own := [("_law_a", 10), ("_law_b", 11)]) (g := gTup K 2 (gCons (gName 10) (gCons (gName 11) gNil))) (tt := tYes) rfl scLRows.nd rfl rfl (sw_true rfl rfl rfl rfl) (pi_zipBK (K := K) rfl (by rfl) mz (pa_cons (pv 7) (pa_cons (pv 8) pa_nil))) (blkOk_by (N := nsLRows) (sc := defScope sLRows) (by decide +kernel)) (fun _ _ _ _ _ => pg_tupK (K := K) (n := 2) rfl rfl (pgs_cons (pg_name (i := 10) scLRows.nd rfl (Or.inl rfl)) (pgs_cons (pg_name (i := 11) scLRows.nd rfl (Or.inl rfl)) pgs_nil))) (fun _ _ _ _ _ => pts_nil)
              (fun _ _ _ _ _ => pe_call Pl.G hr3 (by rfl) Pl.g Pl.kp Pl.b .nil pass0 (pa_cons (pe_call Ti.G hr3 (by rfl) Ti.g Ti.kp Ti.b .nil pass0 (pa_cons (pv 6) (pa_cons (pv 10) pa_nil))) (pa_cons (pv 11) pa_nil)))))) pss_nil)
        (pss_one (ps_expr (pe_bm PySem.F.plainAttrs_list PySem.F.slot_list_append PySem.F.type_list_append mt_append (pv 3) (pa_cons (pv 5) pa_nil)))))))
      (pss_one (ps_ret (pv 3)))), ?_⟩
    refine ⟨by show 0 ≤ sizeLine; decide, fun D3 hD3 => ?_⟩
    have nD3 := new_ne hp hD3
    refine ⟨_, rfl, (n : Int), rfl, by omega, by omega, for_range (lo := 0) (n := n) (fun k σ' H' => ∃ (rs : List Addr) (mat : List (List (Int × Int))) (c' : Int) (v4 v5 v6 v7 v8 : Option V), σ' = [some (.ref p), some (.int (W : Int)), some (.int (n : Int)), some (.ref D3), v4, v5, v6, v7, v8, none, none, none] ∧ LoopR p l D3 H c W k H' c' rs mat)
        ⟨[], [], c, none, none, none, none, none, rfl, ⟨Keep.new hD3, hp.upd hD3, by omega, by omega, upd_same, ⟨rfl, fun i p x hp _ => nomatch hp⟩, (fun z => nomatch z), rfl, fun i h => absurd h (Nat.not_lt_zero i), fun j _ => coq_nil j⟩⟩ ?_ ?_⟩
    · rintro k σ' H3 hk ⟨rs, mat, c3, v4, v5, v6, v7, v8, rfl, L⟩
      have cb := L.cb
      have ca := L.ca
      -- a fresh row
      refine ⟨fun σ' H' => ∃ (t : Addr) (fs : List (Int × Int)) (c' : Int), σ' = [some (.ref p), some (.int (W : Int)), some (.int (n : Int)), some (.ref D3), some (.int (0 + (k : Int))), some (.ref t), v6, v7, v8, none, none, none] ∧ OneR p l D3 H3 c3 W (1 + 7 * k + 7) (96 + 4 * k + 4) mat 210 t H' c' fs, ?_, ?_⟩
      · refine ⟨_, rfl, (W : Int), rfl, by omega, by omega, fun Dn hDn => ?_⟩
        have nDl := new_ne L.P hDn
        refine lc_range (lo := 0) (n := W) (fun j H' => NumL p l Dn H3 c3 100 7 j H') (NumL.start L.P hDn) ?_ ?_
        · rintro j H9 hj ⟨qs, fs, c9, k9, P9, a1, a2, hq, hQ, hl, hf⟩
          refine ⟨rfl, yesT ?_⟩
          refine ⟨_, rfl, _, rfl, by show 4 ≤ sizeLine; decide, fun u hu => ?_⟩
          refine ⟨p, l, u, c9, _, rfl, P9.upd hu, by omega, upd_same, by show 0 < 4; decide, by show 4 ≤ 1000; decide, fun i x H10 hx P10 k10 => ?_⟩
          obtain ⟨fg, rfl, f1, f2⟩ : ∃ fg : Int, x = .int fg ∧ 1 ≤ fg ∧ fg ≤ 30 := by
            have hm := List.mem_of_getElem? hx
            simp only [List.mem_cons, List.not_mem_nil, or_false] at hm
            rcases hm with e | e | e | e
            · exact ⟨1, e, by decide, by decide⟩
            · exact ⟨1, e, by decide, by decide⟩
            · exact ⟨2, e, by decide, by decide⟩
            · exact ⟨30, e, by decide, by decide⟩
          exact ⟨p, l, c9 + 1, fg, rfl, P10, by omega, f1, f2, fun q x c11 H11 k11 P11 b1 b2 hx fx _ => NumL.step hDn nDl k9 P9 a1 a2 hq hQ hl hf ((Keep.new hu).trans (k10.trans k11)) P11 (by omega) (by omega) hx fx (by omega)⟩
        · rintro H9 ⟨qs, fs, c9, k9, P9, a1, a2, hq, hQ, hl, hf⟩
          have nt : Dn ≠ D3 := fun e => by
            rw [e, L.hD] at hDn
            cases hDn
          exact ⟨Dn, fs, c9, rfl, k9, P9, a1, by omega, ⟨qs, hq, hQ⟩, nt, hl, fun j hj => coq_fresh (L.c j hj) (by omega) (hf _ (gp_mem (by omega)))⟩
      rintro σ4 H4 ⟨t, fs, c4, rfl, R4⟩
      -- a sum of multiples
      refine ⟨fun σ' H' => ∃ (t : Addr) (fs : List (Int × Int)) (c' : Int) (v6 v7 v8 : Option V), σ' = [some (.ref p), some (.int (W : Int)), some (.int (n : Int)), some (.ref D3), some (.int (0 + (k : Int))), some (.ref t), v6, v7, v8, none, none, none] ∧ OneR p l D3 H3 c3 W (1 + 7 * k + 7) (96 + 4 * k + 4) mat 300 t H' c' fs, ?_, ?_⟩
      · have cc := R4.cb
        have cd := R4.ca
        refine ⟨_, rfl, _, _, rfl, rfl, _, rfl, ite2 (fun hz => ?_) fun _ => iteF ⟨t, fs, c4, v6, v7, v8, rfl, R4.kp, R4.P, R4.ca, by omega, R4.ht, R4.nt, R4.lf, R4.c⟩⟩
        have k0 : 0 < k := by
          have := of_decide_eq_true hz
          omega
        refine ⟨_, rfl, p, l, c4, 3, rfl, R4.P, by omega, by decide, by decide, fun d H5 d0 d1 P5 k5 => ⟨rfl, _, rfl, ite2 (fun _ => ?_) fun _ => ⟨t, fs, c4 + 1, v6, v7, v8, rfl, R4.kp.trans k5, P5, by omega, by omega, (by obtain ⟨ps, h1, h2⟩ := R4.ht; exact ⟨ps, k5.lst R4.P h1, k5.pairs R4.P h2⟩), R4.nt, R4.lf, R4.c⟩⟩⟩
        have k35 := R4.kp.trans k5
        refine ⟨_, rfl, p, l, c4 + 1, 1, rfl, P5, by omega, by decide, by decide, fun y0 y c5 H6 k6 P6 b1 b2 hy _ fy' => ?_⟩
        have fy := fy' rfl
        have k36 := k35.trans k6
        have hD6 := k36.lst L.P L.hD
        have lr : (rv rs).length = k := by rw [rv_len, L.hrs.1, L.ln]
        refine ⟨_, rfl, _, rfl, p, l, D3, c5, _, rfl, P6, by omega, hD6, by omega, by omega, fun i z H7 hz1 P7 k7 => ?_⟩
        have k37 := k36.trans k7
        refine ⟨_, rfl, _, rfl, p, l, D3, c5 + 1, _, rfl, P7, by omega, k7.lst P6 hD6, by omega, by omega, fun i2 z2 H8 hz2 P8 k8 => ?_⟩
        have k38 := k37.trans k8
        have hrs8 := k38.rows L.P L.hrs
        obtain ⟨q1, ps1, rfl, hi1, hq1, hps1⟩ := hrs8.gm hz1
        obtain ⟨q2, ps2, rfl, hi2, hq2, hps2⟩ := hrs8.gm hz2
        have hy8 := k8.rat P7 (k7.rat P6 hy)
        have l1 := L.lw i (by rw [← L.ln]; exact hi1)
        have l2 := L.lw i2 (by rw [← L.ln]; exact hi2)
        refine ⟨by show 3 ≤ sizeLine; decide, fun T0 hT0 => ⟨T0, _, rfl, .inl (.inl upd_same), rfl, _, _, rfl, _, _, rfl, _, _, rfl, rfl, ?_⟩⟩
        have sT := same_new (o := .tup [.ref y0, .ref q1, .ref q2]) hT0
        have PT := P8.upd (o := .tup [.ref y0, .ref q1, .ref q2]) hT0
        generalize upd H8 T0 (.tup [.ref y0, .ref q1, .ref q2]) = HT at sT PT ⊢
        have hq1' := sT _ _ hq1
        have hq2' := sT _ _ hq2
        dsimp only [tSeq, tAsg]
        refine ⟨_, rfl, _, rfl, true, true, q1, q2, rv ps1, rv ps2, rfl, SqL.of hq1', SqL.of hq2', fun Dn hDn => ?_⟩
        have lm : (comF y (gm mat i) (gm mat i2) W).length = W := by unfold comF; rw [List.length_map, List.length_range]
        refine lc_zipB (K := K) (k := true) (l := true) (a := q1) (b := q2) (D := Dn) (xs := rv ps1) (ys := rv ps2) (by rw [rv_len, rv_len, hps1.1, hps2.1, l1, l2]) (fun j H' => Same HT H' ∧ ∃ us, H' Dn = some (.lst (rv us)) ∧ PairsAt H' us ((comF y (gm mat i) (gm mat i2) W).take j)) ⟨same_new hDn, [], upd_same, pairs_nil⟩ (fun j H' ⟨z, _⟩ => ⟨SqL.of (z _ _ hq1'), SqL.of (z _ _ hq2')⟩) ?_ ?_
        · rintro j x y' T H9 hx hy' ⟨s9, us, hus, hU⟩ hT
          obtain ⟨p1, rfl, hj, r1⟩ := (hps1.same (sT.trans s9)).gp hx
          obtain ⟨p2, rfl, hj2, r2⟩ := (hps2.same (sT.trans s9)).gp hy'
          rw [l1] at hj
          have s10 := same_new (o := .tup [.ref p1, .ref p2]) hT
          have f1 := coq_fit (L.c j hj) (by omega) (by omega) hi1
          have f2 := coq_fit (L.c j hj) (by omega) (by omega) hi2
          refine ⟨T, _, rfl, .inl (.inl upd_same), rfl, _, _, rfl, _, _, rfl, rfl, rfl, yesT ?_⟩
          refine ⟨_, rfl, _, rfl, y0, p1, _, _, rfl, (sT.trans (s9.trans s10)) _ _ hy8, s10 _ _ r1, fy.fine (by decide) (by decide), f1.fine (by decide) (by decide), fun r H11 s11 hr11 => ?_⟩
          refine ⟨_, rfl, r, p2, _, _, rfl, hr11, (s10.trans s11) _ _ r2, (tim_fit fy f1).fine (by decide) (by decide), f2.fine (by decide) (by decide), fun r3 H12 s12 hr12 => ?_⟩
          rw [take_gp (show j < (comF y (gm mat i) (gm mat i2) W).length by rw [lm]; exact hj), show gp (comF y (gm mat i) (gm mat i2) W) j = pluF (timF y (gp (gm mat i) j)) (gp (gm mat i2) j) from gp_map (List.getElem?_range hj)]
          exact grow hDn s9 hus hU (s10.trans (s11.trans s12)) hr12 (by rw [List.length_take]; omega)
        · rintro H9 ⟨s9, us, hus, hU⟩
          have e : (comF y (gm mat i) (gm mat i2) W).take (rv ps1).length = comF y (gm mat i) (gm mat i2) W := by
            rw [rv_len, hps1.1, l1]
            exact List.take_of_length_le (by rw [lm]; exact Nat.le_refl _)
          rw [e] at hU
          have nt : Dn ≠ D3 := fun e => by
            have z := sT _ _ (k38.lst L.P L.hD)
            rw [← e, hDn] at z
            cases z
          exact ⟨Dn, _, c5 + 1 + 1, _, _, _, rfl, k38.trans ((Same.keep sT).trans (Same.keep s9)), PT.same s9, by omega, by omega, ⟨us, hus, hU⟩, nt, lm, fun j hj => coq_sum (L.c j hj) hi1 hi2 fy (gp_map (List.getElem?_range hj))⟩
      rintro σ6 H6 ⟨t, fs, c6, v6, v7, v8, rfl, R6⟩
      have hD6 := R6.kp.lst L.P L.hD
      have hrs6 := R6.kp.rows L.P L.hrs
      have cc := R6.cb
      have cd := R6.ca
      obtain ⟨pst, ht1, ht2⟩ := R6.ht
      refine ⟨_, rfl, .inl ⟨rfl, _, SqL.of hD6⟩, _, rfl, D3, rv rs, .ref t, rfl, rfl, hD6, by rw [rv_len, L.hrs.1, L.ln]; exact small1000 (by omega), ?_⟩
      refine ⟨rs ++ [t], mat ++ [fs], c6, _, _, v6, v7, v8, rfl, fun b o nb hb => ?_, R6.P.set hD6 nD3, by omega, by omega, ?_, hrs6.add hD6 L.nD ht1 ht2 R6.nt _, fun z => ?_, by rw [List.length_append, L.ln]; rfl, fun i hi => ?_, fun j hj => ?_⟩
      · rw [upd_ne (ne_of_none hb hD3)]
        exact (L.kp.trans R6.kp) _ _ nb hb
      · rw [upd_same]
        unfold rv
        rw [List.map_append]
        rfl
      · rcases List.mem_append.mp z with z | z
        · exact L.nD z
        · exact R6.nt (List.mem_singleton.mp z).symm
      · by_cases z : i < mat.length
        · rw [gm_app1 z]
          exact L.lw i (by rw [← L.ln]; exact z)
        · have e : i = mat.length := by
            have := L.ln
            omega
          rw [e, gm_last]
          exact R6.lf
      · have e : 1 + 7 * (k + 1) = 1 + 7 * k + 7 := by omega
        have e2 : 96 + 4 * (k + 1) = 96 + 4 * k + 4 := by omega
        rw [e, e2]
        exact R6.c j hj
    · rintro σ' H3 ⟨rs, mat, c3, v4, v5, v6, v7, v8, rfl, L⟩
      have cb := L.cb
      exact ⟨_, rfl, k D3 rs mat c3 H3 L.kp L.P L.ca (by omega) ⟨L.hD, L.hrs, L.nD, L.ln, L.lw, fun i hi j hj => coq_fit (L.c j hj) (by omega) (by omega) (by rw [L.ln]; exact hi)⟩⟩
end
end Fk

set_option Elab.async false
set_option maxRecDepth 100000
set_option maxHeartbeats 4000000
set_option exponentiation.threshold 20000
namespace Fk
open PySem PySem.Spec L2 PyProof.Rows
/-! ### a try whose first clause takes all that comes -/
section
variable {X : Cx} {body : List Stmt} {pos : Pos} {tb : WX → TS}
theorem ps_try_first {x n : Str} {c : Value} {i : Nat} {ts : Addr → Value → Option Addr → TS} {b : Stmt} {suite : List Stmt} {np hpos : Pos} {hs2 : List ExceptHandler} (hs : X.stack = X.env :: X.outer) (hf : X.env.frame = some X.env.locals) (hN : X.N.Nodup)
    (hb : ∀ (W : WX) (pn : List (Addr × Obj)) (xe : Value → Shared → Prop), Takes (X.tr pn xe) W → PassesOwn (model X.prog X.w) X.A X.env xe → PSs (X.tr pn xe) body (tb W))
    (hc : Names X x c) (hi : X.N[i]? = some n) (hln : X.env.kindOf n = some .local)
    (hsu : ∀ (a : Addr) (oe : Obj) (cls : Value) (d : Option Addr) (pn : List (Addr × Obj)), Zc cls d oe → (∃ vs, oe.data = .fields vs) → PSs (X.suite a ((a, oe) :: pn)) (b :: suite) (ts a cls d)) : PS X (.Try body (.ExceptHandler (some (.Name x np)) (some n) (b :: suite) hpos :: hs2) [] [] pos) (fun D σ H => tb (wAs X.K c i ts (fun _ _ _ _ => False) D) D σ H) := by
  refine ⟨fun pins s σ H D I h => ?_⟩
  have ok := I.ok
  have fr : X.A.frames = some (X.env :: X.outer) := hs ▸ ok.frames
  refine wpAny_Try_except ?_
  refine wpAny_mono ((hb (wAs X.K c i ts (fun _ _ _ _ => False) D) (X.pn ++ pins) (fun e s₁ => wpAny (model X.prog X.w) X.A (noteFrame e X.env) (fun _ s₂ => wpAny (model X.prog X.w) X.A (setFlight e none) (fun _ s₃ =>
    wpAny (model X.prog X.w) X.A (handleBy e X.env (.ExceptHandler (some (.Name x np)) (some n) (b :: suite) hpos :: hs2)) (SP X pins D) X.xe s₃) X.xe s₂) X.xe s₁) (fun u s' xx => ?_) PassesOwn.looking).run [] s σ H D (I.toTry _) h) (fun f s1 q => ?_) (fun e s1 z => z)
  · obtain ⟨a, B, sI, pj, σ', H', cls, d, rfl, J', nb, up, sky, na, os, ag, w⟩ := xx
    have J : Inv X pins σ' H' sI := J'.ofTry ok
    rw [hs] at sky
    show wpAny (model X.prog X.w) X.A (noteFrame (.ref a) X.env) _ _ _
    refine Sky.land Zc.steady fr hf sky fun h3 fl3 up3 => ?_
    have J3 : Inv X pins σ' H' { s' with heap := h3 } := J.landed nb fl3.1 (up.trans up3) os ag
    obtain ⟨oe3, vs3, he3, hz3, hd3⟩ := fl3.there
    have notIn : a ∉ frs (X.env :: X.outer) := fun hm => by
      obtain ⟨_, o', e', nf⟩ := fl3.2.2.1.mem hm
      rw [he3] at e'
      cases e'
      exact nf _ hd3
    have nL : a ≠ X.env.locals := fun z => notIn (List.mem_filterMap.mpr ⟨X.env, List.mem_cons_self, hf.trans (congrArg some z.symm)⟩)
    have nF : a ∉ X.fs := fun hm => by
      obtain ⟨e, he, z⟩ := List.mem_filterMap.mp hm
      exact notIn (List.mem_filterMap.mpr ⟨e, List.mem_cons_of_mem _ he, z⟩)
    have S3 := J3.suite he3 hd3 na nL nF
    have LT : PySem.W.Looks (model X.prog X.w) h3 (typeOf (.ref a)) cls := fun A Q E s k q => wpAny_typeOf_ref (k _ _ he3) (hz3.1.symm ▸ q)
    obtain ⟨yes, hy, h1, h2⟩ := w
    refine wpAny_handleBy_cons (codeAny_handlers_test ?_) (fun z => nomatch z)
    have LM := PySem.W.exm_one (M := model X.prog X.w) J3.kIn LT hy
    have test : ∀ {Q : Value → Shared → Prop} {E : Value → Shared → Prop}, Q c { s' with heap := h3 } → wpAny (model X.prog X.w) (X.A.mark (some (.ref a))) (eval (.Name x np) X.env) Q E { s' with heap := h3 } := fun {Q E} q => by
      obtain ⟨g1, g2, hm | ⟨hm, hv, hnn⟩⟩ := hc
      · exact ld_glob (X := X.suite a ((a, oe3) :: (X.pn ++ pins))) S3 g1 hm q g2
      · exact ld_blt (X := X.suite a ((a, oe3) :: (X.pn ++ pins))) S3 g1 hm hv q hnn g2
    refine test (LM.here ?_)
    cases yes with
    | false => exact False.elim (h2 rfl)
    | true =>
      refine codeAny_handlers_suite_as ?_
      refine HandSPX.lands_againZ fl3 fun h4 fl4 up4 => ?_
      have J4 : Inv X pins σ' H' { s' with heap := h4 } := J.landed nb fl4.1 ((up.trans up3).trans up4) os ag
      obtain ⟨oe4, vs4, he4, hz4, hd4⟩ := fl4.there
      refine store_ok (X := X.suite a ((a, oe4) :: (X.pn ++ pins))) (v := .ref a) (J4.suite he4 hd4 na nL nF) hN hi (.inl hln) rfl (fun s5 S5 => ?_) (.inr hln)
      refine wpAny_mono ((hsu a oe4 cls d (X.pn ++ pins) hz4 ⟨_, hd4⟩).run [] s5 _ H' _ S5 (h1 rfl a na)) (fun f s6 q => ?_) (fun _ _ z => False.elim z)
      have gone : ∀ {σ6 : L2.St} {H6 : Hp} {Q : Shared → Prop}, Inv (X.suite a ((a, oe4) :: (X.pn ++ pins))) [] σ6 H6 s6 → (∀ s7, Inv X pins (σ6.set i none) H6 s7 → Q s7) →
          wpAny (model X.prog X.w) X.A (do bindName X.env n .none; unbindBehindTheSuite X.env n hpos) (fun _ s7 => Q s7) X.xe s6 := fun {σ6 H6 Q} S6 hq => gone_ok (S6.unsuite ok) hN hi hln hq
      cases f with
      | next =>
        obtain ⟨σ6, H6, S6, q6⟩ := q
        exact gone S6 fun s7 J7 => ⟨_, _, J7, q6⟩
      | brk =>
        obtain ⟨σ6, H6, S6, q6⟩ := q
        exact gone S6 fun s7 J7 => ⟨_, _, J7, q6⟩
      | cont =>
        obtain ⟨σ6, H6, S6, q6⟩ := q
        exact gone S6 fun s7 J7 => ⟨_, _, J7, q6⟩
      | ret u =>
        obtain ⟨v6, σ6, H6, S6, r6, q6⟩ := q
        exact gone S6 fun s7 J7 => ⟨_, _, _, J7, r6, q6⟩
  · cases f with
    | ret u =>
      obtain ⟨v, σ', H', J', r, z⟩ := q
      exact ⟨v, σ', H', J'.ofTry ok, r, z⟩
    | next =>
      obtain ⟨σ', H', J', z⟩ := q
      exact wpAny_execs_nil ⟨σ', H', J'.ofTry ok, z⟩
    | brk =>
      obtain ⟨σ', H', J', z⟩ := q
      exact ⟨σ', H', J'.ofTry ok, z⟩
    | cont =>
      obtain ⟨σ', H', J', z⟩ := q
      exact ⟨σ', H', J'.ofTry ok, z⟩
end
/-! ### isinstance(e, C) -/
def rIsED (K : PySem.W.Frag) (cls : Value) (d : Option Addr) (D a : Addr) : List V → Hp → VK → Prop := fun xs H Q => ∃ (c : V) (cv : Value) (b : Bool) (dd : Addr) (fs : List (Str × V)), xs = [.ref a, c] ∧ cls = .ref D ∧ d = some dd ∧ H dd = some (.xd fs) ∧ (∀ u, RelV c u → u = cv) ∧ PySem.W.kitOne K (.ref D) cv = some b ∧ Q (.bl b) H
theorem call_isED {X : Cx} {a D : Addr} {oe : Obj} {cls : Value} {d : Option Addr} {pn : List (Addr × Obj)} (C : ExcC X.K D) (hz : Zc cls d oe) (hf : ∃ vs, oe.data = .fields vs) : CallR (X.suite a ((a, oe) :: pn)) (.builtin "isinstance") (rIsED X.K cls d D a) := by
  intro pins s σ H xs us Q I r h
  obtain ⟨c, cv, b, dd, fs, rfl, ec, ed, ea, hcv, e, q⟩ := h
  subst ec
  subst ed
  cases r with
  | cons rx rr =>
    cases rr with
    | cons rt rr =>
      cases rr
      cases rx
      have ec := hcv _ rt
      subst ec
      obtain ⟨hget, _⟩ := I.pin (a, oe) (List.mem_append.mpr (.inl List.mem_cons_self))
      obtain ⟨vs, hv⟩ := hf
      have hx : ObjOk X.prog X.w H s.heap dd (.xd fs) := I.hok dd _ ea
      obtain ⟨mA, hns, hr⟩ := hx
      obtain ⟨od, ho, hl⟩ := lookIn_ns hns
      have J : PySem.W.InstAt s.heap a oe D (some od) := ⟨hget, hz.1, by unfold PySem.W.notCls; rw [hv] <;> rfl, by rw [hz.2]; exact ho⟩
      have hcl : (PySem.W.clsIn X.K D).isSome = true := by
        have z := C.hd
        unfold PySem.W.hasDictIn at z
        cases q : PySem.W.clsIn X.K D with
        | none =>
          rw [q] at z
          cases z
        | some cd => rfl
      exact PySem.W.kia_one (PySem.W.kitx_exc hcl C.hg C.hk C.hs C.ha C.hn C.ht C.hm) I.kIn J e (fun z => nomatch z) fun tk => ⟨.bl b, H, I.kept (t' := tk) fun _ _ z => z, rfl, q⟩
def rRepr (K : PySem.W.Frag) : List V → Hp → VK → Prop := fun xs H Q => ∃ (v : V) (d : PyData), xs = [v] ∧ Dp K H v d ∧ d.showable = true ∧ d.hasDict = false ∧ d.depth ≤ 10 ∧ d.shown.length ≤ sizeLine ∧ Q (.str d.shown) H
theorem call_reprVK {X : Cx} {K : PySem.W.Frag} (hK : X.K = K) (hg : X.A.guards = some []) (hu : X.A.units + 64 < cLine) : CallR X (.builtin "repr") (rRepr K) := hK ▸ call_reprV hg hu

theorem call_isEN {X : Cx} {a D : Addr} {oe : Obj} {cls : Value} {d : Option Addr} {pn : List (Addr × Obj)} (C : ExcC X.K D) (hz : Zc cls d oe) (hf : ∃ vs, oe.data = .fields vs) : CallR (X.suite a ((a, oe) :: pn)) (.builtin "isinstance") (fun xs H Q => cls = .ref D ∧ d = none ∧ rIsE X.K D a xs H Q) := by
  intro pins s σ H xs us Q I r h
  obtain ⟨ec, ed, h⟩ := h
  subst ec
  subst ed
  exact call_isE C hz hf pins s σ H xs us Q I r h
end Fk

set_option Elab.async false
set_option maxRecDepth 100000
set_option maxHeartbeats 4000000
set_option exponentiation.threshold 20000
namespace Fk
open PySem PySem.Spec L2 PyProof.Rows
/-! ### answer, refused -/
abbrev sAnswer : Stmt := top 38
abbrev sRefused : Stmt := top 39
abbrev psAnswer : List Str := ["_law_rows_here", "_law_right"]
abbrev psRefused : List Str := ["_law_kind", "_law_rows_here", "_law_right"]
theorem look_nw (v : V) : (numD v).lookup ("what" : Str) = some (V.str "entry") := by
  unfold numD
  rw [List.lookup_cons, show (("what" : Str) == "number") = false by decide +kernel, List.lookup_cons, show (("what" : Str) == "what") = true by decide +kernel]
theorem look_nn (v : V) : (numD v).lookup ("number" : Str) = some v := by
  unfold numD
  rw [List.lookup_cons, show (("number" : Str) == "number") = true by decide +kernel]
structure Kin (K : PySem.W.Frag) (mg : Str → Option Value) (CF CN CS : Addr) : Prop where
  gF : mg "FoeError" = some (.ref CF)
  gi : mg "isinstance" = none
  gr : mg "repr" = none
  nF : PySem.W.kitOne K (.ref CN) (.ref CF) = some true
  nS : PySem.W.kitOne K (.ref CN) (.ref CS) = some false
  sF : PySem.W.kitOne K (.ref CS) (.ref CF) = some true
  eN : ExcC K CN
  eS : ExcC K CS
  xN : XfC K CN
  nw : PySem.W.findIn K (.ref CN) "what" = some none
  nn : PySem.W.findIn K (.ref CN) "number" = some none
  mNN : PySem.W.exmOne K (.ref CN) (.ref CN) = some true
  mSS : PySem.W.exmOne K (.ref CS) (.ref CS) = some true
/-- data that can be shown -/
def Shows (K : PySem.W.Frag) (H : Hp) (v : V) (d : PyData) : Prop := (∀ H', Same H H' → Dp K H' v d) ∧ d.showable = true ∧ d.hasDict = false ∧ d.depth ≤ 10 ∧ d.shown.length ≤ sizeLine
def spAnswer (K : PySem.W.Frag) : Sp := fun vs H Q _ => ∃ (rl q : Addr) (rs : List Addr) (ys : List V) (mat : List (List (Int × Int))) (right : List (Int × Int)) (W : Nat), vs = [.ref rl, .ref q] ∧ SqA K H rl (rv rs) ∧ SqA K H q ys ∧ RowsP K H rs mat ∧ PassAt H ys right ∧ EqOk mat right W ∧
  (¬ Solv mat right W → ∀ H', Same H H' → Q (.str "none") H') ∧ ∀ p xs H', Same H H' → Solv mat right W → SolAns mat right W xs → TupAt H' p xs → Q (.ref p) H'
def spRefused (K : PySem.W.Frag) : Sp := fun vs H Q _ => ∃ (rl : Addr) (rs : List Addr) (v : V) (d : PyData), SqA K H rl (rv rs) ∧ ((∃ q ys, vs = [.int 0, .ref rl, .ref q] ∧ SqA K H q ys ∧ (First K H rs (some v) ∨ (First K H rs none ∧ Chk K H ys (some v)))) ∨ (∃ x, vs = [.int 1, .ref rl, x] ∧ First K H rs (some v))) ∧ Shows K H v d ∧
  ∀ p H', Same H H' → H' p = some (.tup [.str "entry", .str d.shown]) → Q (.ref p) H'
section
variable {P : Program} {w : World} {K : PySem.W.Frag} {mg : Str → Option Value} {base : Heap}
theorem scAnswer : FnScope ["_law_rows_here", "_law_right", "e"] psAnswer (defScope sAnswer) := ⟨rfl, rfl, rfl, by decide +kernel, rfl, by decide +kernel, by decide +kernel⟩
theorem ok_answer {f CF CN CS fT : Addr} {fd dT : FuncData} (F : Fun K "_law_answer" "_law_answer" sAnswer f fd) (T : Kin K mg CF CN CS) (NS : NoS K mg CS)
    (TG : FnOk P w K mg base (L2.CX P w) 4 fT dT ["rows", "right"] (spSolved K CN CS)) (Tg : mg "solved" = some (.ref fT)) (Tk : PySem.W.keepIn K (.ref fT) = true) (Tb : Binds K dT ["rows", "right"] []) : FnOk P w K mg base CX0 5 f fd psAnswer (spAnswer K) := by
  refine F.ok scAnswer (fun vs H Q E h => ?_) (fun cdv A outer s H vs Q E hr h => ?_)
  · obtain ⟨rl, q, rs, ys, mat, right, W, rfl, _⟩ := h
    rfl
  · obtain ⟨rl, q, rs, ys, mat, right, W, rfl, hrl, hq, hrs, hys, ok, k1, k2⟩ := h
    refine ⟨_, pss_one (ps_try_each rfl rfl scAnswer.nd takes0
        (fun W pn xe tk _ => pss_one (ps_ret (pe_callS TG hr (by rfl) Tg Tk Tb (passAt tk) (pa_cons (pv 0) (pa_cons (pv 1) pa_nil)))))
        (Clauses.cons (i := 2) ⟨by rfl, by decide +kernel, Or.inl NS.g⟩ rfl rfl (fun a oe cls d pn hz hf =>
            pss_one (ps_ret (pe_ifExp (pt_val (pe_callB (call_isEN T.eS hz hf) (by rfl) T.gi (by decide +kernel) (pa_cons (pv 2) (pa_cons (pe_glob (v := .ref CF) (by rfl) T.gF rfl) pa_nil)))) pe_str pe_str))) Clauses.nil)), ?_⟩
    refine ⟨_, rfl, _, rfl, rl, q, rs, ys, rfl, hrl, hq, .inr ⟨mat, right, W, hrs, hys, ok, fun ns H' s => ?_, fun p xs H' s sv an ht => k2 p xs H' s sv an ht⟩⟩
    refine ⟨true, T.mSS, fun _ a ha => ?_, (fun q => nomatch q)⟩
    exact ⟨_, rfl, rfl, rfl, _, .ref CF, true, rfl, (fun u r => r), T.sF, true, rfl, iteT (k1 ns H' s)⟩
theorem scRefused : FnScope ["_law_kind", "_law_rows_here", "_law_right", "e"] psRefused (defScope sRefused) := ⟨rfl, rfl, rfl, by decide +kernel, rfl, by decide +kernel, by decide +kernel⟩
theorem ok_refused {f CF CN CS gN fT fR : Addr} {fd dN dT dR : FuncData} (F : Fun K "_law_refused" "_law_refused" sRefused f fd) (T : Kin K mg CF CN CS) (EN : Err P w K mg base "BadNumber" numFs CN gN dN) (NS : NoS K mg CS)
    (TG : FnOk P w K mg base (L2.CX P w) 4 fT dT ["rows", "right"] (spSolved K CN CS)) (Tg : mg "solved" = some (.ref fT)) (Tk : PySem.W.keepIn K (.ref fT) = true) (Tb : Binds K dT ["rows", "right"] [])
    (RG : FnOk P w K mg base (L2.CX P w) 4 fR dR ["rows"] (spRank K CN)) (Rg : mg "rank" = some (.ref fR)) (Rk : PySem.W.keepIn K (.ref fR) = true) (Rb : Binds K dR ["rows"] []) : FnG P w K mg base 5 f fd psRefused (spRefused K) := by
  refine fun_okG F scRefused (fun vs H Q E h => ?_) (fun cdv A outer s H vs Q E hG hr h => ?_)
  · obtain ⟨rl, rs, v, d, _, ⟨q, ys, rfl, _⟩ | ⟨x, rfl, _⟩, _⟩ := h
    · rfl
    · rfl
  · obtain ⟨rl, rs, v, d, hrl, hc, ⟨s1, s2, s3, s4, s5⟩, k⟩ := h
    obtain ⟨kd, x, rfl, hbody⟩ : ∃ (kd : Int) (x : V), vs = [.int kd, .ref rl, x] ∧ ((kd = 0 ∧ ∃ q ys, x = .ref q ∧ SqA K H q ys ∧ (First K H rs (some v) ∨ (First K H rs none ∧ Chk K H ys (some v)))) ∨ (kd = 1 ∧ First K H rs (some v))) := by
      rcases hc with ⟨q, ys, rfl, h1, h2⟩ | ⟨x, rfl, h1⟩
      · exact ⟨0, .ref q, rfl, .inl ⟨rfl, q, ys, rfl, h1, h2⟩⟩
      · exact ⟨1, x, rfl, .inr ⟨rfl, h1⟩⟩
    refine ⟨_, pss_cons (ps_try_first rfl rfl scRefused.nd
        (fun W pn xe tk _ => pss_one (ps_if (pt_cmpR op_eq (pv 0) pe_int (nomark _)) (pss_one (ps_expr (pe_callS TG hr (by rfl) Tg Tk Tb (passAt tk) (pa_cons (pv 1) (pa_cons (pv 2) pa_nil))))) (pss_one (ps_expr (pe_callS RG hr (by rfl) Rg Rk Rb (passAt tk) (pa_cons (pv 1) pa_nil))))))
        ⟨by rfl, by decide +kernel, Or.inl EN.g⟩ (i := 3) rfl rfl (fun a oe cls d pn hz hf =>
            pss_one (ps_ret (pe_ifExp (PW.pt (pw_and (pt_val (pe_callB (call_isED T.eN hz hf) (by rfl) T.gi (by decide +kernel) (pa_cons (pv 3) (pa_cons (pe_glob (v := .ref CF) (by rfl) T.gF rfl) pa_nil)))) (pw_and1 (pt_not (pt_val (pe_callB (call_isED T.eN hz hf) (by rfl) T.gi (by decide +kernel) (pa_cons (pv 3) (pa_cons (pe_glob (v := .ref CS) (by rfl) NS.g rfl) pa_nil))))))))
              (pe_tup (pa_cons (pe_xf T.xN T.nw hz hf (pv 3)) (pa_cons (pe_callB (call_reprVK (K := K) rfl hG hr.units) (by rfl) T.gr (by decide +kernel) (pa_cons (pe_xf T.xN T.nn hz hf (pv 3)) pa_nil)) pa_nil))) pe_non))))
      (pss_one (ps_ret pe_non)), ?_⟩
    rcases hbody with ⟨rfl, q, ys, rfl, hq, hbad⟩ | ⟨rfl, hbad⟩
    · refine ⟨_, rfl, rfl, _, rfl, iteT ⟨_, rfl, _, rfl, rl, q, rs, ys, rfl, hrl, hq, .inl ⟨v, hbad, fun dd H' hd hs he => ?_⟩⟩⟩
      refine ⟨true, T.mNN, fun _ a ha => ?_, (fun q => nomatch q)⟩
      refine ⟨_, rfl, _, .ref CF, true, dd, _, rfl, rfl, rfl, he, (fun u r => r), T.nF, true, rfl, iteT ?_⟩
      refine ⟨_, rfl, _, .ref CS, false, dd, _, rfl, rfl, rfl, he, (fun u r => r), T.nS, false, rfl, iteT ?_⟩
      exact ⟨_, rfl, rfl, rfl, dd, _, _, rfl, he, look_nw _, _, rfl, rfl, rfl, dd, _, _, rfl, he, look_nn _, v, d, rfl, s1 _ hs, s2, s3, s4, s5, by show 2 ≤ sizeLine; decide, fun p hp => k p _ (hs.trans (same_new hp)) upd_same⟩
    · refine ⟨_, rfl, rfl, _, rfl, iteF ⟨_, rfl, rl, rs, rfl, hrl, .inl ⟨v, hbad, fun dd H' hd hs he => ?_⟩⟩⟩
      refine ⟨true, T.mNN, fun _ a ha => ?_, (fun q => nomatch q)⟩
      refine ⟨_, rfl, _, .ref CF, true, dd, _, rfl, rfl, rfl, he, (fun u r => r), T.nF, true, rfl, iteT ?_⟩
      refine ⟨_, rfl, _, .ref CS, false, dd, _, rfl, rfl, rfl, he, (fun u r => r), T.nS, false, rfl, iteT ?_⟩
      exact ⟨_, rfl, rfl, rfl, dd, _, _, rfl, he, look_nw _, _, rfl, rfl, rfl, dd, _, _, rfl, he, look_nn _, v, d, rfl, s1 _ hs, s2, s3, s4, s5, by show 2 ≤ sizeLine; decide, fun p hp => k p _ (hs.trans (same_new hp)) upd_same⟩
end
/-! ### odd values -/
theorem cutV_m1 (xs : List V) (h : 1 ≤ xs.length) : cutV xs none (some (-1)) = xs.take (xs.length - 1) := by
  unfold cutV
  have e : HT.sIx xs.length xs.length (some (-1)) = xs.length - 1 := by
    show (if (-1 : Int) < 0 then ((-1 : Int) + (xs.length : Int)).toNat else min (-1 : Int).toNat xs.length) = _
    rw [if_pos (by decide)]
    omega
  rw [e, HT.sIx_none, List.drop_zero, Nat.sub_zero]
def OddAt (H : Hp) (v : V) : Prop := v = .non ∨ v = .str "1" ∨ v = .str "x" ∨ (∃ t, v = .ref t ∧ H t = some (.tup [.int 1, .int 0])) ∨ (∃ t, v = .ref t ∧ H t = some (.tup [.int 3, .int 0])) ∨ (∃ t, v = .ref t ∧ H t = some (.lst [.int 1, .int 2])) ∨ (∃ t, v = .ref t ∧ H t = some (.tup [.int 1, .int (-3)])) ∨ (∃ t, v = .ref t ∧ H t = some (.tup [.int 1, .int 2, .int 3])) ∨ v = .bl true
theorem OddAt.same {H H' : Hp} {v : V} (h : OddAt H v) (s : Same H H') : OddAt H' v := by
  rcases h with rfl | rfl | rfl | ⟨t, rfl, h⟩ | ⟨t, rfl, h⟩ | ⟨t, rfl, h⟩ | ⟨t, rfl, h⟩ | ⟨t, rfl, h⟩ | rfl
  · exact (.inl rfl)
  · exact (.inr (.inl rfl))
  · exact (.inr (.inr (.inl rfl)))
  · exact (.inr (.inr (.inr (.inl ⟨t, rfl, s _ _ h⟩))))
  · exact (.inr (.inr (.inr (.inr (.inl ⟨t, rfl, s _ _ h⟩)))))
  · exact (.inr (.inr (.inr (.inr (.inr (.inl ⟨t, rfl, s _ _ h⟩))))))
  · exact (.inr (.inr (.inr (.inr (.inr (.inr (.inl ⟨t, rfl, s _ _ h⟩)))))))
  · exact (.inr (.inr (.inr (.inr (.inr (.inr (.inr (.inl ⟨t, rfl, s _ _ h⟩))))))))
  · exact (.inr (.inr (.inr (.inr (.inr (.inr (.inr (.inr rfl))))))))
theorem OddAt.keep {H H' : Hp} {p l : Addr} {c : Int} {v : V} (h : OddAt H v) (P : PenAt H p l c) (k : Keep p H H') : OddAt H' v := by
  obtain ⟨u, hu, hl, ht, _⟩ := P.dk
  rcases h with rfl | rfl | rfl | ⟨t, rfl, h⟩ | ⟨t, rfl, h⟩ | ⟨t, rfl, h⟩ | ⟨t, rfl, h⟩ | ⟨t, rfl, h⟩ | rfl
  · exact (.inl rfl)
  · exact (.inr (.inl rfl))
  · exact (.inr (.inr (.inl rfl)))
  · exact (.inr (.inr (.inr (.inl ⟨t, rfl, k.there hu h (ht _)⟩))))
  · exact (.inr (.inr (.inr (.inr (.inl ⟨t, rfl, k.there hu h (ht _)⟩)))))
  · exact (.inr (.inr (.inr (.inr (.inr (.inl ⟨t, rfl, k.there hu h (hl _)⟩))))))
  · exact (.inr (.inr (.inr (.inr (.inr (.inr (.inl ⟨t, rfl, k.there hu h (ht _)⟩)))))))
  · exact (.inr (.inr (.inr (.inr (.inr (.inr (.inr (.inl ⟨t, rfl, k.there hu h (ht _)⟩))))))))
  · exact (.inr (.inr (.inr (.inr (.inr (.inr (.inr (.inr rfl))))))))
theorem odd_val {K : PySem.W.Frag} {H : Hp} {v : V} (h : OddAt H v) : Val K H v false := by
  rcases h with rfl | rfl | rfl | ⟨t, rfl, h⟩ | ⟨t, rfl, h⟩ | ⟨t, rfl, h⟩ | ⟨t, rfl, h⟩ | ⟨t, rfl, h⟩ | rfl
  · exact .other (.non K H) (.base .non) (kit_ty (by decide))
  · exact .other (.str K H _) (.base (.str _)) (kit_ty (by decide))
  · exact .other (.str K H _) (.base (.str _)) (kit_ty (by decide))
  · exact (show Val K H (.ref t) (decide ((0 : Int) < 0)) from .rat h)
  · exact (show Val K H (.ref t) (decide ((0 : Int) < 0)) from .rat h)
  · exact .other (.lst h) (.base (.lst h)) (kit_ty (by decide))
  · exact (show Val K H (.ref t) (decide ((0 : Int) < -3)) from .rat h)
  · exact .len h (by decide)
  · exact .other (.bl K H _) (.base (.bl _)) (kit_ty (by decide))
theorem odd_shows {K : PySem.W.Frag} {H : Hp} {v : V} (h : OddAt H v) : ∃ d, Shows K H v d ∧ PyData.strOk d.shown = true := by
  rcases h with rfl | rfl | rfl | ⟨t, rfl, h⟩ | ⟨t, rfl, h⟩ | ⟨t, rfl, h⟩ | ⟨t, rfl, h⟩ | ⟨t, rfl, h⟩ | rfl
  · exact ⟨.none, ⟨fun _ _ => .non, by decide +kernel, by decide +kernel, by decide +kernel, by decide +kernel⟩, by decide +kernel⟩
  · exact ⟨.str "1", ⟨fun _ _ => .str _, by decide +kernel, by decide +kernel, by decide +kernel, by decide +kernel⟩, by decide +kernel⟩
  · exact ⟨.str "x", ⟨fun _ _ => .str _, by decide +kernel, by decide +kernel, by decide +kernel, by decide +kernel⟩, by decide +kernel⟩
  · exact ⟨.tuple [.int 1, .int 0], ⟨fun _ s => .tup (.inl (.inl (s _ _ h))) (.cons (.int _) (.cons (.int _) .nil)), by decide +kernel, by decide +kernel, by decide +kernel, by decide +kernel⟩, by decide +kernel⟩
  · exact ⟨.tuple [.int 3, .int 0], ⟨fun _ s => .tup (.inl (.inl (s _ _ h))) (.cons (.int _) (.cons (.int _) .nil)), by decide +kernel, by decide +kernel, by decide +kernel, by decide +kernel⟩, by decide +kernel⟩
  · exact ⟨.list [.int 1, .int 2], ⟨fun _ s => .lst (SqL.of (s _ _ h)) (.cons (.int _) (.cons (.int _) .nil)), by decide +kernel, by decide +kernel, by decide +kernel, by decide +kernel⟩, by decide +kernel⟩
  · exact ⟨.tuple [.int 1, .int (-3)], ⟨fun _ s => .tup (.inl (.inl (s _ _ h))) (.cons (.int _) (.cons (.int _) .nil)), by decide +kernel, by decide +kernel, by decide +kernel, by decide +kernel⟩, by decide +kernel⟩
  · exact ⟨.tuple [.int 1, .int 2, .int 3], ⟨fun _ s => .tup (.inl (.inl (s _ _ h))) (.cons (.int _) (.cons (.int _) (.cons (.int _) .nil))), by decide +kernel, by decide +kernel, by decide +kernel, by decide +kernel⟩, by decide +kernel⟩
  · exact ⟨.bool true, ⟨fun _ _ => .bl _, by decide +kernel, by decide +kernel, by decide +kernel, by decide +kernel⟩, by decide +kernel⟩
theorem Shows.same {K : PySem.W.Frag} {H H' : Hp} {v : V} {d : PyData} (h : Shows K H v d) (s : Same H H') : Shows K H' v d := ⟨fun H2 s2 => h.1 H2 (s.trans s2), h.2⟩
/-- pairs, and one that is none behind them -/
def datE (z : Str) : PyData := .tuple [.str "entry", .str z]
theorem dp_entry {K : PySem.W.Frag} {H : Hp} {p : Addr} {z : Str} (h : H p = some (.tup [.str "entry", .str z])) : Dp K H (.ref p) (datE z) := .tup (.inl (.inl h)) (.cons (.str _) (.cons (.str _) .nil))
theorem datE_shaped {z : Str} (h : PyData.strOk z = true) : SeqAt.shaped (datE z) = true := by
  have h1 : PyData.strOk "entry" = true := by decide +kernel
  simp [datE, SeqAt.shaped, PyData.canLay0, PyData.canLayAll0, h1, h, PyData.depth, PyData.depthAll]
theorem datE_refl {z : Str} (h : PyData.strOk z = true) : PyData.eqv (datE z) (datE z) = true := SeqAt.eqv_refl _ (SeqAt.canLay_of_shaped (datE_shaped h))
end Fk

set_option Elab.async false
set_option maxRecDepth 100000
set_option maxHeartbeats 8000000
set_option exponentiation.threshold 20000
namespace Fk
open PySem PySem.Spec L2 PyProof.Rows
/-! ### refusals -/
def CopN (H0 : Hp) (D : Addr) (cs : List Addr) (j : Nat) (H' : Hp) : Prop := Same H0 H' ∧ ∃ ks : List Addr, H' D = some (.lst (rv ks)) ∧ ks.length = j ∧ D ∉ ks ∧ ks.Nodup ∧ (∀ (i : Nat) (k : Addr), ks[i]? = some k → ∃ p us, cs[i]? = some p ∧ H0 p = some (.lst us) ∧ H' k = some (.lst us)) ∧ ∀ k, k ∈ ks → H0 k = none
theorem CopN.start {H0 : Hp} {D : Addr} {cs : List Addr} (hD : H0 D = none) : CopN H0 D cs 0 (upd H0 D (.lst [])) := ⟨same_new hD, [], upd_same, rfl, (fun z => nomatch z), List.nodup_nil, (fun i k h => nomatch h), fun k h => nomatch h⟩
theorem CopN.step {H0 H2 : Hp} {D p m : Addr} {cs : List Addr} {j : Nat} {us : List V} (hD : H0 D = none) (h : CopN H0 D cs j H2) (hp : cs[j]? = some p) (hus : H0 p = some (.lst us)) (hm : H2 m = none) (lt : j ≤ 1000) :
    ∃ acc, (upd H2 m (.lst us)) D = some (.lst acc) ∧ acc.length < sizeLine ∧ CopN H0 D cs (j + 1) (upd (upd H2 m (.lst us)) D (.lst (acc ++ [.ref m]))) := by
  obtain ⟨s, ks, hq, hl, nD, nd, hk, hf⟩ := h
  have s1 := same_new (o := .lst us) hm
  have nm : m ≠ D := fun e => by
    rw [e, hq] at hm
    cases hm
  have mk : m ∉ ks := fun z => by
    obtain ⟨i, hi, e⟩ := List.getElem_of_mem z
    obtain ⟨_, _, _, _, h3⟩ := hk i m (by rw [List.getElem?_eq_getElem hi, e])
    rw [hm] at h3
    cases h3
  have m0 : H0 m = none := by
    cases e : H0 m with
    | none => rfl
    | some o =>
      have := s _ _ e
      rw [hm] at this
      cases this
  refine ⟨rv ks, s1 _ _ hq, by rw [rv_len, hl]; exact small1000 lt, fun b x hb => ?_, ks ++ [m], ?_, by rw [List.length_append, hl]; rfl, fun z => ?_, ?_, fun i k h => ?_, fun k h => ?_⟩
  · rw [upd_ne (ne_of_none hb hD)]
    exact (s.trans s1) _ _ hb
  · rw [upd_same]
    unfold rv
    rw [List.map_append]
    rfl
  · rcases List.mem_append.mp z with z | z
    · exact nD z
    · exact nm (List.mem_singleton.mp z).symm
  · rw [List.nodup_append]
    refine ⟨nd, by simp, fun a ha b hb => ?_⟩
    rw [List.mem_singleton.mp hb]
    exact fun e => mk (e ▸ ha)
  · by_cases hi : i < ks.length
    · rw [List.getElem?_append_left hi] at h
      obtain ⟨p', us', h1, h2, h3⟩ := hk i k h
      refine ⟨p', us', h1, h2, ?_⟩
      rw [upd_ne (fun e => nD (by rw [← e]; exact List.mem_of_getElem? h))]
      exact s1 _ _ h3
    · have e : i = ks.length := by
        have := (List.getElem?_eq_some_iff.mp h).1
        rw [List.length_append, List.length_singleton] at this
        omega
      rw [e, List.getElem?_append_right (Nat.le_refl _), Nat.sub_self] at h
      cases h
      refine ⟨p, us, by rw [e, hl]; exact hp, hus, ?_⟩
      rw [upd_ne nm]
      exact upd_same
  · rcases List.mem_append.mp h with z | z
    · exact hf k z
    · rw [List.mem_singleton.mp z]
      exact m0
theorem chk_set {K : PySem.W.Frag} {H : Hp} {us : List V} {fs : List (Int × Int)} {v : V} {j : Nat} (h : PassAt H us fs) (hj : j < us.length) (hv : Val K H v false) : Chk K H (us.set j v) (some v) := by
  refine ⟨j, List.getElem?_set_self hj, hv, fun i x hi hx => ?_⟩
  rw [List.getElem?_set_ne (by omega)] at hx
  exact chk_pass h i x hx
theorem chk_last {K : PySem.W.Frag} {H : Hp} {us : List V} {fs : List (Int × Int)} {v : V} {j : Nat} (h : PassAt H us fs) (hj : j ≤ us.length) (hv : Val K H v false) : Chk K H (us.take j ++ [v]) (some v) := by
  have l : (us.take j).length = j := by rw [List.length_take]; omega
  refine ⟨j, by rw [List.getElem?_append_right (by omega), l, Nat.sub_self]; rfl, hv, fun i x hi hx => ?_⟩
  rw [List.getElem?_append_left (by omega), List.getElem?_take, if_pos hi] at hx
  exact chk_pass h i x hx
abbrev sRefR : Stmt := top 40
abbrev psRefR : List Str := ["_law_pen_here", "_law_rows_here", "_law_right"]
abbrev nsRefR : List Str := ["_law_pen_here", "_law_rows_here", "_law_right", "_law_odd", "_law_last", "_law_at", "_law_place", "_law_spoilt", "_law_line", "_law_row"]
def spRefR : Sp := fun vs H Q _ => ∃ (p l rl q : Addr) (c : Int) (rs : List Addr) (ys : List V) (mat : List (List (Int × Int))) (right : List (Int × Int)) (W : Nat), vs = [.ref p, .ref rl, .ref q] ∧ PenAt H p l c ∧ c < 700000000 ∧ H rl = some (.lst (rv rs)) ∧ RowsL H rs mat ∧ H q = some (.lst ys) ∧ PassAt H ys right ∧ (∀ r, r < mat.length → (gm mat r).length = W) ∧ right.length = mat.length ∧ 1 ≤ W ∧ W ≤ 4 ∧ 1 ≤ mat.length ∧ mat.length ≤ 6 ∧
  ∀ c' H', Keep p H H' → PenAt H' p l c' → c ≤ c' → c' ≤ c + 4 → Q (.bl true) H'
section
variable {P : Program} {w : World} {K : PySem.W.Frag} {mg : Str → Option Value} {base : Heap}
theorem scRefR : FnScope nsRefR psRefR (defScope sRefR) := ⟨rfl, rfl, rfl, by decide +kernel, rfl, by decide +kernel, by decide +kernel⟩
theorem ok_refr {f fD fR : Addr} {fd dD dR : FuncData} (F : Fun K "_law_refusals_right" "_law_refusals_right" sRefR f fd) (D : Cl P w K mg base "_law_draw" psDraw 1 spDraw fD dD) (rG : FnG P w K mg base 5 fR dR psRefused (spRefused K)) (rg : mg "_law_refused" = some (.ref fR)) (rk : PySem.W.keepIn K (.ref fR) = true) (rb : Binds K dR psRefused [])
    (ml : mg "len" = none) (mli : mg "list" = none) (mp : mg "repr" = none) : FnG P w K mg base 6 f fd psRefR spRefR := by
  refine fun_okG F scRefR (fun vs H Q E h => ?_) (fun cdv A outer s H vs Q E hG hr h => ?_)
  · obtain ⟨p, l, rl, q, c, rs, ys, mat, right, W, rfl, _⟩ := h
    rfl
  · obtain ⟨p, l, rl, q, c, rs, ys, mat, right, W, rfl, hp, c1, hrl, hrs, hq, hys, lw, rlen, w1, w4, m1, m6, k⟩ := h
    have hr1 := hr.mono (show 1 ≤ 5 by decide)
    refine ⟨_, C8.pss_cut (ps_set (i := 3) scRefR.nd rfl (Or.inl rfl) (pe_ix ix_list (pe_lst (pa_cons pe_non (pa_cons pe_str (pa_cons (pe_tup (pa_cons pe_int (pa_cons pe_int pa_nil))) (pa_cons (pe_lst (pa_cons pe_int (pa_cons pe_int pa_nil))) (pa_cons (pe_tup (pa_cons pe_int (pa_cons (pe_un un_neg pe_int) pa_nil))) (pa_cons pe_bl (pa_cons (pe_tup (pa_cons pe_int (pa_cons pe_int (pa_cons pe_int pa_nil)))) pa_nil)))))))) (pe_call D.G hr1 (by rfl) D.g D.kp D.b .nil pass0 (pa_cons (pv 0) (pa_cons pe_int pa_nil))) (fun _ _ => rfl)))
      (C8.pss_cut (ps_set (i := 4) scRefR.nd rfl (Or.inl rfl) (pe_ix ix_list (pe_lst (pa_cons pe_non (pa_cons pe_str (pa_cons (pe_tup (pa_cons pe_int (pa_cons pe_int pa_nil))) pa_nil)))) (pe_call D.G hr1 (by rfl) D.g D.kp D.b .nil pass0 (pa_cons (pv 0) (pa_cons pe_int pa_nil))) (fun _ _ => rfl)))
      (pss_cons (ps_par (i := 5) (j := 6) (by rfl) scRefR.nd rfl rfl (by decide) rfl rfl (pa_cons (pe_call D.G hr1 (by rfl) D.g D.kp D.b .nil pass0 (pa_cons (pv 0) (pa_cons (pe_callB call_len_seq (by rfl) ml PySem.boot_len (pa_cons (pv 1) pa_nil)) pa_nil))) (pa_cons (pe_call D.G hr1 (by rfl) D.g D.kp D.b .nil pass0 (pa_cons (pv 0) (pa_cons (pe_callB call_len_seq (by rfl) ml PySem.boot_len (pa_cons (pe_ix ix_list (pv 1) pe_int (fun _ _ => rfl)) pa_nil)) pa_nil))) pa_nil)) (by rfl))
      (pss_cons (ps_setLc (i := 7) (own := [("_law_row", 9)]) (g := gName 9) (tt := tYes) rfl scRefR.nd rfl rfl (sw_true rfl rfl rfl rfl) (pi_listK (K := K) rfl (pv 1)) (blkOk_by (N := nsRefR) (sc := defScope sRefR) (by decide +kernel)) (fun _ _ _ _ _ => pg_name (i := 9) scRefR.nd rfl (Or.inl rfl)) (fun _ _ _ _ _ => pts_nil)
          (fun _ _ _ _ _ => pe_callTy (call_list_ofK (K := K) rfl) (by rfl) mli (by decide +kernel) (pa_cons (pv 9) pa_nil)))
      (pss_cons (ps_set (i := 8) scRefR.nd rfl (Or.inl rfl) (pe_ix ix_list (pv 7) (pv 5) (fun _ _ => rfl)))
      (pss_cons (ps_asg (pv 3) (pg_sub (pv 8) (pv 6) set_list))
      (C8.pss_cut (ps_if (pt_cmpR (op_neDK (K := K) rfl hr.units) (pe_callGd rG hG hr (by rfl) rg rk rb (pa_cons pe_int (pa_cons (pv 7) (pa_cons (pe_op op_cat (pe_slice sl_list (pv 2) po_none (po_some (pe_un un_neg pe_int))) (pe_lst (pa_cons (pv 4) pa_nil))) pa_nil)))) (pe_tup (pa_cons pe_str (pa_cons (pe_callB (call_reprVK (K := K) rfl hG hr.units) (by rfl) mp (by decide +kernel) (pa_cons (pv 3) pa_nil)) pa_nil))) (nomark _)) (pss_one (ps_ret pe_bl)) pss_nil)
      (C8.pss_cut (ps_if (pt_cmpR (op_neDK (K := K) rfl hr.units) (pe_callGd rG hG hr (by rfl) rg rk rb (pa_cons pe_int (pa_cons (pv 7) (pa_cons pe_non pa_nil)))) (pe_tup (pa_cons pe_str (pa_cons (pe_callB (call_reprVK (K := K) rfl hG hr.units) (by rfl) mp (by decide +kernel) (pa_cons (pv 3) pa_nil)) pa_nil))) (nomark _)) (pss_one (ps_ret pe_bl)) pss_nil)
      (pss_one (ps_ret (pe_cmpR (op_eqDK (K := K) rfl hr.units) (pe_callGd rG hG hr (by rfl) rg rk rb (pa_cons pe_int (pa_cons (pv 1) (pa_cons (pe_op op_cat (pe_slice sl_list (pv 2) po_none (po_some (pe_un un_neg pe_int))) (pe_lst (pa_cons (pv 4) pa_nil))) pa_nil)))) (pe_tup (pa_cons pe_str (pa_cons (pe_callB (call_reprVK (K := K) rfl hG hr.units) (by rfl) mp (by decide +kernel) (pa_cons (pv 4) pa_nil)) pa_nil))) (nomark _))))))))))), ?_⟩
    have lrs : rs.length = mat.length := hrs.1
    have lys : ys.length = mat.length := by rw [hys.1, rlen]
    -- a value that is no ratio
    refine ⟨fun σ' H' => ∃ (v : V), σ' = [some (.ref p), some (.ref rl), some (.ref q), some v, none, none, none, none, none, none] ∧ Keep p H H' ∧ PenAt H' p l (c + 1) ∧ OddAt H' v, ?_, ?_⟩
    · refine ⟨by show 2 ≤ sizeLine; decide, fun t1 ht1 => ⟨by show 2 ≤ sizeLine; decide, fun t2 ht2 => ⟨_, rfl, by show 2 ≤ sizeLine; decide, fun t3 ht3 => ⟨by show 3 ≤ sizeLine; decide, fun t4 ht4 => ⟨by show 7 ≤ sizeLine; decide, fun u hu => ?_⟩⟩⟩⟩⟩
      have e1 := same_new (o := .tup [.int 1, .int 0]) ht1
      have e2 := same_new (o := .lst [.int 1, .int 2]) ht2
      have e3 := same_new (o := .tup [.int 1, .int (-3)]) ht3
      have e4 := same_new (o := .tup [.int 1, .int 2, .int 3]) ht4
      have e5 := same_new (o := .lst [.non, .str "1", .ref t1, .ref t2, .ref t3, .bl true, .ref t4]) hu
      have sA := e1.trans (e2.trans (e3.trans (e4.trans e5)))
      have PA := hp.same sA
      have g1 := (e2.trans (e3.trans (e4.trans e5))) t1 _ upd_same
      have g2 := (e3.trans (e4.trans e5)) t2 _ upd_same
      have g3 := (e4.trans e5) t3 _ upd_same
      have g4 := e5 t4 _ upd_same
      have g5 : (upd (upd (upd (upd (upd H t1 (.tup [.int 1, .int 0])) t2 (.lst [.int 1, .int 2])) t3 (.tup [.int 1, .int (-3)])) t4 (.tup [.int 1, .int 2, .int 3])) u (.lst [.non, .str "1", .ref t1, .ref t2, .ref t3, .bl true, .ref t4])) u = some (.lst [.non, .str "1", .ref t1, .ref t2, .ref t3, .bl true, .ref t4]) := upd_same
      generalize upd (upd (upd (upd (upd H t1 (.tup [.int 1, .int 0])) t2 (.lst [.int 1, .int 2])) t3 (.tup [.int 1, .int (-3)])) t4 (.tup [.int 1, .int 2, .int 3])) u (.lst [.non, .str "1", .ref t1, .ref t2, .ref t3, .bl true, .ref t4]) = Hz at sA PA g1 g2 g3 g4 g5 ⊢
      refine ⟨_, rfl, p, l, c, 7, rfl, PA, by omega, by decide, by decide, fun r Hy q0 q1 Py ky => ?_⟩
      have gu := ky.lst PA g5
      have k17 : Keep p H Hy := (Same.keep sA).trans ky
      have hr7 : r = 0 ∨ r = 1 ∨ r = 2 ∨ r = 3 ∨ r = 4 ∨ r = 5 ∨ r = 6 := by omega
      rcases hr7 with rfl | rfl | rfl | rfl | rfl | rfl | rfl
      · exact ⟨u, _, 0, .non, rfl, rfl, SqL.of gu, rfl, .non, rfl, k17, Py, OddAt.keep (.inl rfl) PA ky⟩
      · exact ⟨u, _, 1, .str "1", rfl, rfl, SqL.of gu, rfl, .str "1", rfl, k17, Py, OddAt.keep (.inr (.inl rfl)) PA ky⟩
      · exact ⟨u, _, 2, .ref t1, rfl, rfl, SqL.of gu, rfl, .ref t1, rfl, k17, Py, OddAt.keep (.inr (.inr (.inr (.inl ⟨t1, rfl, g1⟩)))) PA ky⟩
      · exact ⟨u, _, 3, .ref t2, rfl, rfl, SqL.of gu, rfl, .ref t2, rfl, k17, Py, OddAt.keep (.inr (.inr (.inr (.inr (.inr (.inl ⟨t2, rfl, g2⟩)))))) PA ky⟩
      · exact ⟨u, _, 4, .ref t3, rfl, rfl, SqL.of gu, rfl, .ref t3, rfl, k17, Py, OddAt.keep (.inr (.inr (.inr (.inr (.inr (.inr (.inl ⟨t3, rfl, g3⟩))))))) PA ky⟩
      · exact ⟨u, _, 5, .bl true, rfl, rfl, SqL.of gu, rfl, .bl true, rfl, k17, Py, OddAt.keep (.inr (.inr (.inr (.inr (.inr (.inr (.inr (.inr rfl)))))))) PA ky⟩
      · exact ⟨u, _, 6, .ref t4, rfl, rfl, SqL.of gu, rfl, .ref t4, rfl, k17, Py, OddAt.keep (.inr (.inr (.inr (.inr (.inr (.inr (.inr (.inl ⟨t4, rfl, g4⟩)))))))) PA ky⟩
    rintro σ1 H1 ⟨v, rfl, k1, P1, odd1⟩
    -- another one
    refine ⟨fun σ' H' => ∃ (z : V), σ' = [some (.ref p), some (.ref rl), some (.ref q), some v, some z, none, none, none, none, none] ∧ Keep p H1 H' ∧ PenAt H' p l (c + 2) ∧ OddAt H' z, ?_, ?_⟩
    · refine ⟨by show 2 ≤ sizeLine; decide, fun t1 ht1 => ⟨by show 3 ≤ sizeLine; decide, fun u hu => ?_⟩⟩
      have e1 := same_new (o := .tup [.int 3, .int 0]) ht1
      have e2 := same_new (o := .lst [.non, .str "x", .ref t1]) hu
      have sA := e1.trans e2
      have PA := P1.same sA
      have g1 := e2 t1 _ upd_same
      have g5 : (upd (upd H1 t1 (.tup [.int 3, .int 0])) u (.lst [.non, .str "x", .ref t1])) u = some (.lst [.non, .str "x", .ref t1]) := upd_same
      generalize upd (upd H1 t1 (.tup [.int 3, .int 0])) u (.lst [.non, .str "x", .ref t1]) = Hz at sA PA g1 g5 ⊢
      refine ⟨_, rfl, p, l, c + 1, 3, rfl, PA, by omega, by decide, by decide, fun r Hy q0 q1 Py ky => ?_⟩
      have gu := ky.lst PA g5
      have k17 : Keep p H1 Hy := (Same.keep sA).trans ky
      have Py' : PenAt Hy p l (c + 2) := by
        have e : c + 1 + 1 = c + 2 := by omega
        rwa [e] at Py
      have hr3 : r = 0 ∨ r = 1 ∨ r = 2 := by omega
      rcases hr3 with rfl | rfl | rfl
      · exact ⟨u, _, 0, .non, rfl, rfl, SqL.of gu, rfl, .non, rfl, k17, Py', OddAt.keep (.inl rfl) PA ky⟩
      · exact ⟨u, _, 1, .str "x", rfl, rfl, SqL.of gu, rfl, .str "x", rfl, k17, Py', OddAt.keep (.inr (.inr (.inl rfl))) PA ky⟩
      · exact ⟨u, _, 2, .ref t1, rfl, rfl, SqL.of gu, rfl, .ref t1, rfl, k17, Py', OddAt.keep (.inr (.inr (.inr (.inr (.inl ⟨t1, rfl, g1⟩))))) PA ky⟩
    rintro σ2 H2 ⟨z, rfl, k2, P2, oddz⟩
    have k02 := k1.trans k2
    have oddv := odd1.keep P1 k2
    have hrl2 := k02.lst hp hrl
    have hrs2 := k02.rowsL hp hrs
    have hq2 := k02.lst hp hq
    have hys2 := k02.pass hp hys
    -- where
    refine ⟨_, rfl, _, rfl, rl, rv rs, rfl, .inl (SqL.of hrl2), ?_⟩
    rw [rv_len, lrs]
    refine ⟨p, l, c + 2, _, rfl, P2, by omega, by omega, by omega, fun at0 H3 a0 a1 P3 k3 => ?_⟩
    have hrl3 := k3.lst P2 hrl2
    have hrs3 := k3.rowsL P2 hrs2
    obtain ⟨p0, hp0r, us0, hp0, hus0⟩ : ∃ p0, rs[0]? = some p0 ∧ ∃ us, H3 p0 = some (.lst us) ∧ PassAt H3 us (gm mat 0) := by
      have hl : 0 < rs.length := by omega
      obtain ⟨us, h1, h2⟩ := hrs3.2 0 _ _ (List.getElem?_eq_getElem hl) (gm_at (by omega))
      exact ⟨rs[0], List.getElem?_eq_getElem hl, us, h1, h2⟩
    refine ⟨_, rfl, _, rfl, rl, rv rs, 0, .ref p0, rfl, rfl, SqL.of hrl3, atI_nat (j := 0) (getElem_rv hp0r), p0, us0, rfl, .inl (SqL.of hp0), ?_⟩
    rw [hus0.1, lw 0 (by omega)]
    refine ⟨p, l, c + 2 + 1, _, rfl, P3, by omega, by omega, by omega, fun pl0 H4 b0 b1 P4 k4 => ⟨_, _, rfl, ?_⟩⟩
    obtain ⟨at', rfl⟩ : ∃ at' : Nat, at0 = (at' : Int) := ⟨at0.toNat, by omega⟩
    obtain ⟨pl', rfl⟩ : ∃ pl' : Nat, pl0 = (pl' : Int) := ⟨pl0.toNat, by omega⟩
    have k24 := k3.trans k4
    have hrl4 := k24.lst P2 hrl2
    have hrs4 := k24.rowsL P2 hrs2
    have hq4 := k24.lst P2 hq2
    have hys4 := k24.pass P2 hys2
    have oddv4 := oddv.keep P2 k24
    have oddz4 := oddz.keep P2 k24
    have k04 := k02.trans k24
    clear hrl3 hrs3 hp0 hus0 k3 k4 P3
    -- the copies
    refine ⟨_, rfl, rl, rfl, ⟨_, SqL.of hrl4⟩, fun Dc hDc => lc_list (K := K) (a := rl) (xs := rv rs) (fun i H' => CopN H4 Dc rs i H') (CopN.start hDc) (fun i H' _ ⟨s, _⟩ => SqL.of (s _ _ hrl4)) ?_ ?_⟩
    · rintro i x H5 hx h
      obtain ⟨s5, _⟩ := id h
      obtain ⟨m, us, rfl, hm, hi, hm4, hus⟩ := hrs4.gm hx
      refine ⟨rfl, yesT ?_⟩
      exact ⟨_, rfl, m, us, rfl, .inl (SqL.of (s5 _ _ hm4)), fun cc hcc => CopN.step hDc h hm hm4 hcc (by omega)⟩
    rintro H5 ⟨s5, ks, hks, lks, nD, nd, hk, hf⟩
    rw [rv_len] at lks
    have kl : at' < ks.length := by omega
    obtain ⟨line, hline⟩ : ∃ line, ks[at']? = some line := ⟨ks[at'], List.getElem?_eq_getElem kl⟩
    obtain ⟨m0, us0', hm0, hm04, hl5⟩ := hk at' line hline
    have hmat : at' < mat.length := by omega
    obtain ⟨us, z1, z2⟩ := hrs4.2 at' m0 _ hm0 (gm_at hmat)
    rw [hm04] at z1
    cases z1
    have lus : us0'.length = W := by rw [z2.1, lw at' hmat]
    refine ⟨_, rfl, _, rfl, Dc, rv ks, _, .ref line, rfl, rfl, SqL.of hks, atI_nat (getElem_rv hline), ?_⟩
    refine ⟨_, rfl, _, rfl, _, rfl, line, us0', _, pl', rfl, rfl, hl5, by rw [lus]; exact ixN_nat (by omega), ?_⟩
    have line0 : H4 line = none := hf line (List.mem_of_getElem? hline)
    have lineD : line ≠ Dc := fun e => nD (by rw [← e]; exact List.mem_of_getElem? hline)
    have s6 : Same H4 (upd H5 line (.lst (us0'.set pl' v))) := fun b o hb => by
      rw [upd_ne (ne_of_none hb line0)]
      exact s5 _ _ hb
    have hks6 : (upd H5 line (.lst (us0'.set pl' v))) Dc = some (.lst (rv ks)) := by
      rw [upd_ne lineD.symm]
      exact hks
    have first6 : First K (upd H5 line (.lst (us0'.set pl' v))) ks (some v) := by
      refine ⟨at', line, us0'.set pl' v, hline, .lst upd_same, chk_set (z2.same s6) (by omega) (odd_val (oddv4.same s6)), fun j x hj hx => ?_⟩
      obtain ⟨mm, us', h1, h2, h3⟩ := hk j x hx
      obtain ⟨us2, y1, y2⟩ := hrs4.2 j mm _ h1 (gm_at (by omega))
      rw [h2] at y1
      cases y1
      have nx : x ≠ line := fun e => by
        rw [e] at hx
        have := (List.getElem?_inj (by omega) nd).mp (hx.trans hline.symm)
        omega
      refine ⟨us', .lst ?_, chk_pass (y2.same s6)⟩
      rw [upd_ne nx]
      exact h3
    generalize upd H5 line (.lst (us0'.set pl' v)) = H6 at s6 hks6 first6 ⊢
    have P6 := P4.same s6
    have k06 := k04.trans (Same.keep s6)
    -- refused: the rows
    refine ⟨fun σ' H' => σ' = [some (.ref p), some (.ref rl), some (.ref q), some v, some z, some (.int (at' : Nat)), some (.int (pl' : Nat)), some (.ref Dc), some (.ref line), none] ∧ Same H6 H', ?_, ?_⟩
    · refine ⟨_, rfl, _, rfl, 1, rfl, _, rfl, q, ys, rfl, SqL.of (s6 _ _ hq4), fun p1 hp1 => ?_⟩
      rw [show (-(1 : Int)) = -1 from rfl, cutV_m1 _ (by omega)]
      have e1 := same_new (o := .lst (ys.take (ys.length - 1))) hp1
      have g1 : (upd H6 p1 (.lst (ys.take (ys.length - 1)))) p1 = some (.lst (ys.take (ys.length - 1))) := upd_same
      generalize upd H6 p1 (.lst (ys.take (ys.length - 1))) = Ha at e1 g1 ⊢
      refine ⟨_, rfl, by show 1 ≤ sizeLine; decide, fun p2 hp2 => ?_⟩
      have e2 := same_new (o := .lst [z]) hp2
      have g2 : (upd Ha p2 (.lst [z])) p2 = some (.lst [z]) := upd_same
      generalize upd Ha p2 (.lst [z]) = Hb at e2 g2 ⊢
      refine ⟨p1, p2, _, _, rfl, rfl, e2 _ _ g1, g2, ?_, fun p3 hp3 => ?_⟩
      · rw [List.length_take, List.length_singleton]
        exact Nat.le_trans (show _ ≤ 1000 by omega) (show 1000 ≤ sizeLine by decide)
      have e3 := same_new (o := .lst (ys.take (ys.length - 1) ++ [z])) hp3
      have g3 : (upd Hb p3 (.lst (ys.take (ys.length - 1) ++ [z]))) p3 = some (.lst (ys.take (ys.length - 1) ++ [z])) := upd_same
      generalize upd Hb p3 (.lst (ys.take (ys.length - 1) ++ [z])) = Hc at e3 g3 ⊢
      have e13 := e1.trans (e2.trans e3)
      have ho := (oddv4.same s6).same e13
      obtain ⟨d, hd, hdo⟩ := odd_shows (K := K) ho
      refine ⟨Dc, ks, v, d, .lst (e13 _ _ hks6), .inl ⟨p3, _, rfl, .lst g3, .inl (First.same (fun xs r c => c.same e13) first6 e13)⟩, hd, fun p5 H5' s5' h5 => ?_⟩
      have hd5 := hd.same s5'
      refine ⟨_, rfl, v, d, rfl, hd5.1 _ (fun _ _ e => e), hd5.2.1, hd5.2.2.1, hd5.2.2.2.1, hd5.2.2.2.2, by show 2 ≤ sizeLine; decide, fun p6 hp6 => ?_⟩
      refine ⟨_, _, dp_entry ((same_new hp6) _ _ h5), dp_entry upd_same, datE_shaped hdo, datE_shaped hdo, ?_⟩
      rw [datE_refl hdo]
      exact ⟨_, rfl, iteF ⟨rfl, e13.trans (s5'.trans (same_new hp6))⟩⟩
    rintro σ7 H7 ⟨rfl, s7⟩
    have oddv7 := (oddv4.same s6).same s7
    -- refused: the rows alone
    refine ⟨fun σ' H' => σ' = [some (.ref p), some (.ref rl), some (.ref q), some v, some z, some (.int (at' : Nat)), some (.int (pl' : Nat)), some (.ref Dc), some (.ref line), none] ∧ Same H7 H', ?_, ?_⟩
    · refine ⟨_, rfl, ?_⟩
      obtain ⟨d, hd, hdo⟩ := odd_shows (K := K) oddv7
      refine ⟨Dc, ks, v, d, .lst (s7 _ _ hks6), .inr ⟨_, rfl, First.same (fun xs r c => c.same s7) first6 s7⟩, hd, fun p5 H5' s5' h5 => ?_⟩
      have hd5 := hd.same s5'
      refine ⟨_, rfl, v, d, rfl, hd5.1 _ (fun _ _ e => e), hd5.2.1, hd5.2.2.1, hd5.2.2.2.1, hd5.2.2.2.2, by show 2 ≤ sizeLine; decide, fun p6 hp6 => ?_⟩
      refine ⟨_, _, dp_entry ((same_new hp6) _ _ h5), dp_entry upd_same, datE_shaped hdo, datE_shaped hdo, ?_⟩
      rw [datE_refl hdo]
      exact ⟨_, rfl, iteF ⟨rfl, s5'.trans (same_new hp6)⟩⟩
    rintro σ8 H8 ⟨rfl, s8⟩
    have s48 := s6.trans (s7.trans s8)
    have oddz8 := oddz4.same s48
    have hq8 := s48 _ _ hq4
    have hrl8 := s48 _ _ hrl4
    have hrs8 := hrs4.same s48
    have hys8 := hys4.same s48
    -- refused: the right side
    refine ⟨_, rfl, _, rfl, 1, rfl, _, rfl, q, ys, rfl, SqL.of hq8, fun p1 hp1 => ?_⟩
    rw [show (-(1 : Int)) = -1 from rfl, cutV_m1 _ (by omega)]
    have e1 := same_new (o := .lst (ys.take (ys.length - 1))) hp1
    have g1 : (upd H8 p1 (.lst (ys.take (ys.length - 1)))) p1 = some (.lst (ys.take (ys.length - 1))) := upd_same
    generalize upd H8 p1 (.lst (ys.take (ys.length - 1))) = Ha at e1 g1 ⊢
    refine ⟨_, rfl, by show 1 ≤ sizeLine; decide, fun p2 hp2 => ?_⟩
    have e2 := same_new (o := .lst [z]) hp2
    have g2 : (upd Ha p2 (.lst [z])) p2 = some (.lst [z]) := upd_same
    generalize upd Ha p2 (.lst [z]) = Hb at e2 g2 ⊢
    refine ⟨p1, p2, _, _, rfl, rfl, e2 _ _ g1, g2, ?_, fun p3 hp3 => ?_⟩
    · rw [List.length_take, List.length_singleton]
      exact Nat.le_trans (show _ ≤ 1000 by omega) (show 1000 ≤ sizeLine by decide)
    have e3 := same_new (o := .lst (ys.take (ys.length - 1) ++ [z])) hp3
    have g3 : (upd Hb p3 (.lst (ys.take (ys.length - 1) ++ [z]))) p3 = some (.lst (ys.take (ys.length - 1) ++ [z])) := upd_same
    generalize upd Hb p3 (.lst (ys.take (ys.length - 1) ++ [z])) = Hc at e3 g3 ⊢
    have e13 := e1.trans (e2.trans e3)
    have ho := oddz8.same e13
    obtain ⟨d, hd, hdo⟩ := odd_shows (K := K) ho
    refine ⟨rl, rs, z, d, .lst (e13 _ _ hrl8), .inl ⟨p3, _, rfl, .lst g3, .inr ⟨first_rows (K := K) (hrs8.same e13).p, chk_last (hys8.same e13) (by omega) (odd_val ho)⟩⟩, hd, fun p5 H5' s5' h5 => ?_⟩
    have hd5 := hd.same s5'
    refine ⟨_, rfl, z, d, rfl, hd5.1 _ (fun _ _ e => e), hd5.2.1, hd5.2.2.1, hd5.2.2.2.1, hd5.2.2.2.2, by show 2 ≤ sizeLine; decide, fun p6 hp6 => ?_⟩
    refine ⟨_, _, dp_entry ((same_new hp6) _ _ h5), dp_entry upd_same, datE_shaped hdo, datE_shaped hdo, ?_⟩
    rw [datE_refl hdo]
    exact k (c + 2 + 1 + 1) _ (k04.trans (Same.keep (s48.trans (e13.trans (s5'.trans (same_new hp6)))))) (P4.same (s48.trans (e13.trans (s5'.trans (same_new hp6))))) (by omega) (by omega)
end
end Fk

set_option Elab.async false
set_option maxRecDepth 100000
set_option maxHeartbeats 4000000
set_option exponentiation.threshold 20000
namespace Fk
open PySem PySem.Spec L2 PyProof.Rows
theorem dot_gen {a b c d : Nat} {xs ys : List (Int × Int)} {k : Nat} (hx : ∀ i, i < k → Fit a b (gp xs i)) (hy : ∀ i, i < k → Fit c d (gp ys i)) : ∀ j, j ≤ k → Fit (a + c + 1 + (b + d + 1) * j) (1 + (b + d) * j) (dotT xs ys j)
  | 0, _ => ⟨by show (0 : Int) < 1; decide, by show Nat.gcd 0 1 = 1; decide, by show (0 : Nat) < 2 ^ _; exact Nat.pow_pos (by decide), by show (1 : Nat) < 2 ^ (1 + (b + d) * 0); rw [Nat.mul_zero]; decide⟩
  | j + 1, hj => by
    have ih := dot_gen hx hy j (by omega)
    have t := tim_fit (hx j (by omega)) (hy j (by omega))
    show Fit _ _ (pluF (dotT xs ys j) (timF (gp xs j) (gp ys j)))
    unfold pluF
    have e1 : (b + d + 1) * (j + 1) = (b + d + 1) * j + (b + d + 1) := Nat.mul_succ _ _
    have e2 : (b + d) * (j + 1) = (b + d) * j + (b + d) := Nat.mul_succ _ _
    have e3 : (b + d + 1) * j = (b + d) * j + j := by rw [Nat.add_mul, Nat.one_mul]
    have n1 : Bd (a + c + 1 + (b + d + 1) * j + (b + d)) ((dotT xs ys j).1 * (timF (gp xs j) (gp ys j)).2) := ih.b1.mulB t.b2
    have n2 : Bd (a + c + 1 + (b + d + 1) * j + (b + d)) ((timF (gp xs j) (gp ys j)).1 * (dotT xs ys j).2) := (t.b1.mulB ih.b2).mono (by omega)
    exact (low_fit (Int.mul_pos ih.p t.p) (n1.addB n2) (ih.b2.mulB t.b2)).mono (by omega) (by omega)
theorem dot_okG {a b c d : Nat} {xs ys : List (Int × Int)} {k : Nat} (hx : ∀ i, i < k → Fit a b (gp xs i)) (hy : ∀ i, i < k → Fit c d (gp ys i)) (k8 : k ≤ 8) (ha : a ≤ 500) (hb : b ≤ 200) (hc : c ≤ 500) (hd : d ≤ 200) : DotOk xs ys k :=
  ⟨fun i hi => (hx i hi).fine (by omega) (by omega), fun i hi => (hy i hi).fine (by omega) (by omega), fun i hi => (tim_fit (hx i hi) (hy i hi)).fine (by omega) (by omega), fun i hi => (dot_gen hx hy i hi).fine (by
    have : (b + d + 1) * i ≤ 401 * 8 := Nat.mul_le_mul (by omega) (by omega)
    omega) (by
    have : (b + d) * i ≤ 400 * 8 := Nat.mul_le_mul (by omega) (by omega)
    omega)⟩
theorem dry {P : Program} {w : World} {K : PySem.W.Frag} {mg : Str → Option Value} {base : Heap} {k : Nat} {f : Addr} {fd : FuncData} {ps : List Str} {sp : Sp} (F : FnOk P w K mg base (L2.CX P w) k f fd ps sp) : FnOk P w K mg base CX0 k f fd ps (fun vs H Q _ => sp vs H Q fun _ _ _ => False) :=
  ⟨fun vs H Q _ h => F.len vs H Q _ h, fun A outer s H args us vs Q E hr he hb hv hs => codeAny_mono (F.run A outer s H args us vs Q _ hr he hb hv hs) fun r s' hh => by
    cases r with
    | error e =>
      obtain ⟨_, _, _, _, _, _, _, _, _, _, _, _, h⟩ := hh
      exact h.elim
    | ok fl => cases fl <;> exact hh⟩
theorem Keep.tup {H H' : Hp} {p l q : Addr} {c : Int} {xs : List V} (k : Keep p H H') (P : PenAt H p l c) (h : H q = some (.tup xs)) : H' q = some (.tup xs) := by
  obtain ⟨u, hu, _, h3, _⟩ := P.dk
  exact k.there hu h (h3 _)
theorem Keep.tupAt {H H' : Hp} {p l q : Addr} {c : Int} {fs : List (Int × Int)} (k : Keep p H H') (P : PenAt H p l c) (h : TupAt H q fs) : TupAt H' q fs := by
  obtain ⟨ps, h1, h2⟩ := h
  obtain ⟨u, hu, _, h3, _⟩ := P.dk
  exact ⟨ps, k.there hu h1 (h3 _), k.pairs P h2⟩

theorem pairs_pass {H : Hp} {ps : List Addr} {fs : List (Int × Int)} (h : PairsAt H ps fs) (f : ∀ x ∈ fs, Fit 600 600 x) : PassAt H (rv ps) fs := by
  refine ⟨by rw [rv_len, h.1], fun i v x a b => ?_⟩
  obtain ⟨p, y, rfl, _, hy, hr⟩ := h.get a
  rw [b] at hy
  cases hy
  exact low_self hr (f _ (List.mem_of_getElem? b))
/-! ### rows of lists or of tuples -/
def RowsO (o : List V → HO) (H : Hp) (rs : List Addr) (mat : List (List (Int × Int))) : Prop := rs.length = mat.length ∧ ∀ (i : Nat) (p : Addr) (fs : List (Int × Int)), rs[i]? = some p → mat[i]? = some fs → ∃ us, H p = some (o us) ∧ PassAt H us fs
theorem RowsO.same {o : List V → HO} {H H' : Hp} {rs : List Addr} {mat : List (List (Int × Int))} (h : RowsO o H rs mat) (s : Same H H') : RowsO o H' rs mat := ⟨h.1, fun i p fs a b => by
  obtain ⟨us, h1, h2⟩ := h.2 i p fs a b
  exact ⟨us, s _ _ h1, h2.same s⟩⟩
def LT (o : List V → HO) : Prop := o = .lst ∨ o = .tup
theorem LT.sq {o : List V → HO} (h : LT o) {K : PySem.W.Frag} {H : Hp} {p : Addr} {us : List V} (e : H p = some (o us)) : SqA K H p us := by
  rcases h with rfl | rfl
  · exact .lst e
  · exact .tup e
theorem LT.inj {o : List V → HO} (h : LT o) {us ws : List V} (e : o us = o ws) : us = ws := by
  rcases h with rfl | rfl
  · exact HO.lst.inj e
  · exact HO.tup.inj e
theorem RowsO.p {o : List V → HO} (ho : LT o) {K : PySem.W.Frag} {H : Hp} {rs : List Addr} {mat : List (List (Int × Int))} (h : RowsO o H rs mat) : RowsP K H rs mat := ⟨h.1, fun i p fs a b => by
  obtain ⟨us, h1, h2⟩ := h.2 i p fs a b
  exact ⟨us, ho.sq h1, h2⟩⟩
/-- copies as lists -/
def CopO (o : List V → HO) (H0 : Hp) (D : Addr) (cs : List Addr) (j : Nat) (H' : Hp) : Prop := Same H0 H' ∧ ∃ ks : List Addr, H' D = some (.lst (rv ks)) ∧ ks.length = j ∧ D ∉ ks ∧ ∀ (i : Nat) (k : Addr), ks[i]? = some k → ∃ p us, cs[i]? = some p ∧ H0 p = some (o us) ∧ H' k = some (.lst us)
theorem CopO.start {o : List V → HO} {H0 : Hp} {D : Addr} {cs : List Addr} (hD : H0 D = none) : CopO o H0 D cs 0 (upd H0 D (.lst [])) := ⟨same_new hD, [], upd_same, rfl, fun z => (nomatch z), fun i k h => nomatch h⟩
theorem CopO.step {o : List V → HO} {H0 H2 : Hp} {D p m : Addr} {cs : List Addr} {j : Nat} {us : List V} (hD : H0 D = none) (h : CopO o H0 D cs j H2) (hp : cs[j]? = some p) (hus : H0 p = some (o us)) (hm : H2 m = none) (lt : j ≤ 1000) :
    ∃ acc, (upd H2 m (.lst us)) D = some (.lst acc) ∧ acc.length < sizeLine ∧ CopO o H0 D cs (j + 1) (upd (upd H2 m (.lst us)) D (.lst (acc ++ [.ref m]))) := by
  obtain ⟨s, ks, hq, hl, nD, hk⟩ := h
  have s1 := same_new (o := .lst us) hm
  have nm : m ≠ D := fun e => by
    rw [e, hq] at hm
    cases hm
  refine ⟨rv ks, s1 _ _ hq, by rw [rv_len, hl]; exact small1000 lt, fun b x hb => ?_, ks ++ [m], ?_, by rw [List.length_append, hl]; rfl, fun z => ?_, fun i k h => ?_⟩
  · rw [upd_ne (ne_of_none hb hD)]
    exact (s.trans s1) _ _ hb
  · rw [upd_same]
    unfold rv
    rw [List.map_append]
    rfl
  · rcases List.mem_append.mp z with z | z
    · exact nD z
    · exact nm (List.mem_singleton.mp z).symm
  · by_cases hi : i < ks.length
    · rw [List.getElem?_append_left hi] at h
      obtain ⟨p', us', h1, h2, h3⟩ := hk i k h
      refine ⟨p', us', h1, h2, ?_⟩
      rw [upd_ne (fun e => nD (by rw [← e]; exact List.mem_of_getElem? h))]
      exact s1 _ _ h3
    · have e : i = ks.length := by
        have := (List.getElem?_eq_some_iff.mp h).1
        rw [List.length_append, List.length_singleton] at this
        omega
      rw [e, List.getElem?_append_right (Nat.le_refl _), Nat.sub_self] at h
      cases h
      refine ⟨p, us, by rw [e, hl]; exact hp, hus, ?_⟩
      rw [upd_ne nm]
      exact upd_same
/-- copies that were made, and those that are made now -/
theorem twin_now {o : List V → HO} (ho : LT o) {Ha Ha' Hb Hb' : Hp} {cs ka kb : List Addr} {mat : List (List (Int × Int))} (hra : RowsO o Ha cs mat) (ea : ∀ (i : Nat) (k : Addr), ka[i]? = some k → ∃ p us, cs[i]? = some p ∧ Ha p = some (o us) ∧ Ha' k = some (.lst us)) (la : ka.length = cs.length) (sab : Same Ha Hb) (sab' : Same Ha' Hb')
    (eb : ∀ (i : Nat) (k : Addr), kb[i]? = some k → ∃ p us, cs[i]? = some p ∧ Hb p = some (o us) ∧ Hb' k = some (.lst us)) (lb : kb.length = cs.length) (sb : Same Hb Hb') : Twin Hb' kb ka := by
  refine ⟨by rw [la, lb], fun i p k h1 h2 => ?_⟩
  obtain ⟨p1, us1, a1, a2, a3⟩ := ea i k h2
  obtain ⟨p2, us2, b1, b2, b3⟩ := eb i p h1
  rw [a1] at b1
  cases b1
  rw [sab _ _ a2] at b2
  have e := ho.inj (Option.some.inj b2)
  subst e
  have hi : i < mat.length := by
    rw [← hra.1]
    exact (List.getElem?_eq_some_iff.mp a1).1
  obtain ⟨us, c1, c2⟩ := hra.2 i p1 _ a1 (gm_at hi)
  rw [a2] at c1
  have e := ho.inj (Option.some.inj c1)
  subst e
  exact ⟨_, _, b3, sab' _ _ a3, (c2.same sab).same sb⟩
theorem Rows.keep {H H' : Hp} {p l D : Addr} {c : Int} {rs : List Addr} {mat : List (List (Int × Int))} {W n : Nat} (h : Rows H D rs mat W n) (P : PenAt H p l c) (k : Keep p H H') : Rows H' D rs mat W n := ⟨k.lst P h.hD, k.rows P h.hrs, h.nD, h.ln, h.lw, h.f⟩
theorem Rows.same {H H' : Hp} {D : Addr} {rs : List Addr} {mat : List (List (Int × Int))} {W n : Nat} (h : Rows H D rs mat W n) (s : Same H H') : Rows H' D rs mat W n := ⟨s _ _ h.hD, h.hrs.same s, h.nD, h.ln, h.lw, h.f⟩
theorem Rows.rk {H : Hp} {D : Addr} {rs : List Addr} {mat : List (List (Int × Int))} {W n : Nat} (h : Rows H D rs mat W n) (w1 : 1 ≤ W) (w4 : W ≤ 4) (n1 : 1 ≤ n) (n6 : n ≤ 6) : RkOk mat W := by
  have e := h.ln
  refine ⟨fun r hr => h.lw r (by omega), fun r hr x hx => ?_, w1, w4, by omega, by omega⟩
  obtain ⟨j, hj, e2⟩ := List.getElem_of_mem hx
  have z := gp_at hj
  rw [List.getElem?_eq_getElem hj, e2] at z
  rw [Option.some.inj z]
  have := h.lw r (by omega)
  exact h.f r (by omega) j (by omega)
theorem EqOk.sb {mat : List (List (Int × Int))} {right : List (Int × Int)} {W : Nat} (h : EqOk mat right W) : ∀ r, r < (bothM mat right).length → Bd 378 (shF (gm (bothM mat right) r)) := fun r hr => by
  rw [both_len] at hr
  rw [gm_both hr]
  have z := shF_row (h.f r hr) (by have := h.l r hr; have := h.w4; omega)
  have f := h.rf _ (gp_mem (show r < right.length by rw [h.rl]; exact hr))
  rw [shF_snoc]
  exact (shStep_bd z.2 z.1 f.p f.b2).mono (by decide)
/-- when the promise takes it for solved -/
theorem solv_iff {mat : List (List (Int × Int))} {right : List (Int × Int)} {W : Nat} (h : EqOk mat right W) : (La.cnt (fun c => ¬ NPQ mat c) W < W ∨ La.cnt (fun c => ¬ NPQ mat c) W < La.cnt (fun c => ¬ NPQ (bothM mat right) c) (W + 1)) ↔ ¬ Solv mat right W := by
  have e : La.cnt (fun c => ¬ NPQ mat c) W = La.cnt (fun c => ¬ NPQ (bothM mat right) c) W := La.cnt_congr fun c hc => not_congr (npq_congr both_len.symm fun r hr j hj => by
    rw [gm_both hr, gpA_lt (by rw [h.l r hr]; omega)])
  have le := La.cnt_le (fun c => ¬ NPQ (bothM mat right) c) W
  unfold Solv
  rw [e]
  by_cases z : NPQ (bothM mat right) W
  · rw [La.cnt_no (p := fun c => ¬ NPQ (bothM mat right) c) fun w => w z]
    constructor
    · rintro (w | w) ⟨a, _⟩ <;> omega
    · intro w
      refine .inl (Nat.lt_of_le_of_ne le fun a => w ⟨a, z⟩)
  · rw [La.cnt_yes (p := fun c => ¬ NPQ (bothM mat right) c) z]
    exact ⟨fun _ w => z w.2, fun _ => .inr (Nat.lt_succ_self _)⟩
end Fk

set_option Elab.async false
set_option maxRecDepth 100000
set_option maxHeartbeats 8000000
set_option exponentiation.threshold 20000
namespace Fk
open PySem PySem.Spec L2 PyProof.Rows
/-! ### the law -/
theorem gp_ext {xs ys : List (Int × Int)} (l : xs.length = ys.length) (h : ∀ i, i < ys.length → gp xs i = gp ys i) : xs = ys := by
  refine List.ext_getElem? fun i => ?_
  by_cases hi : i < ys.length
  · rw [gp_at hi, gp_at (by omega), h i hi]
  · rw [List.getElem?_eq_none (by omega), List.getElem?_eq_none (by omega)]
theorem PairsAt.app1 {H : Hp} {ps : List Addr} {fs : List (Int × Int)} {q : Addr} {x : Int × Int} (h : PairsAt H ps fs) (hq : RatAt H q x) : PairsAt H (ps ++ [q]) (fs ++ [x]) := by
  refine ⟨by rw [List.length_append, List.length_append, h.1]; rfl, fun i y z hy hz => ?_⟩
  by_cases hi : i < ps.length
  · rw [List.getElem?_append_left hi] at hy
    rw [List.getElem?_append_left (by rw [← h.1]; exact hi)] at hz
    exact h.2 i y z hy hz
  · have e : i = ps.length := by
      have := (List.getElem?_eq_some_iff.mp hy).1
      rw [List.length_append, List.length_singleton] at this
      omega
    rw [e, List.getElem?_append_right (Nat.le_refl _), Nat.sub_self] at hy
    rw [e, h.1, List.getElem?_append_right (Nat.le_refl _), Nat.sub_self] at hz
    cases hy
    cases hz
    exact hq
abbrev sLaw : Stmt := top 41
abbrev nsLaw : List Str := ["_law_script", "_law_pen_here", "_law_turn", "_law_wide", "_law_rows_here", "_law_spots", "_law_right", "_law_at", "_law_full", "_law_both", "_law_passed_here", "_law_sides", "_law_kept", "_law_told", "_law_many", "_law_k", "_law_row", "_law_value"]
def spLaw (K : PySem.W.Frag) : Sp := fun vs H Q _ => ∃ (a : Addr) (ns : List Int), vs = [.ref a] ∧ SqL K H a (ns.map V.int) ∧ ns.length ≤ 63 ∧ ∀ H', Q (.bl true) H'
structure LC (P : Program) (w : World) (K : PySem.W.Frag) (mg : Str → Option Value) (base : Heap) (CN fN fD fC fRw fRt fO fPl fLr fS fA fAr fWh fX fR : Addr) (dN dD dC dRw dRt dO dPl dLr dS dA dAr dWh dX dR : FuncData) : Prop where
  N : Cl P w K mg base "_law_pen" ["_law_script"] 1 (spPen K) fN dN
  D : Cl P w K mg base "_law_draw" psDraw 1 spDraw fD dD
  C : Cl P w K mg base "_law_pick" psPick 2 spPick fC dC
  Rw : Cl P w K mg base "_law_rows" psLRows 5 spLRows fRw dRw
  Rt : Cl P w K mg base "_law_ratio" psBig 4 spLRatio fRt dRt
  O : Cl P w K mg base "_law_dot" psLDot 4 (spLDot K) fO dO
  Pl : Cl P w K mg base "_law_plus" psOT 3 (spTwo pluF) fPl dPl
  Lr : Cl P w K mg base "_law_rank" ["_law_rows_here"] 4 spLRank fLr dLr
  S : Cl P w K mg base "_law_passed" psLPassed 2 spLPassed fS dS
  An : Cl P w K mg base "_law_answer" psAnswer 5 (spAnswer K) fA dA
  Ar : Cl P w K mg base "_law_are_ratios" psLAre 3 spLAre fAr dAr
  Wh : Cl P w K mg base "_law_is_whole" psLv 1 (spIsInt K) fWh dWh
  gG : FnOk P w K mg base (L2.CX P w) 4 fX dX ["rows"] (spRank K CN)
  gg : mg "rank" = some (.ref fX)
  gk : PySem.W.keepIn K (.ref fX) = true
  gb : Binds K dX ["rows"] []
  rG : FnG P w K mg base 6 fR dR psRefR spRefR
  rg : mg "_law_refusals_right" = some (.ref fR)
  rk : PySem.W.keepIn K (.ref fR) = true
  rb : Binds K dR psRefR []
  mr : mg "range" = none
  mx : mg "max" = none
  ml : mg "len" = none
  mli : mg "list" = none
  mz : mg "zip" = none
  mt : mg "tuple" = none
section
variable {P : Program} {w : World} {K : PySem.W.Frag} {mg : Str → Option Value} {base : Heap}
theorem scLaw : FnScope nsLaw ["_law_script"] (defScope sLaw) := ⟨rfl, rfl, rfl, by decide +kernel, rfl, by decide +kernel, by decide +kernel⟩
theorem ok_law {f CN fN fD fC fRw fRt fO fPl fLr fS fA fAr fWh fX fR : Addr} {fd dN dD dC dRw dRt dO dPl dLr dS dA dAr dWh dX dR : FuncData} (F : Fun K "law" "law" sLaw f fd) (L : LC P w K mg base CN fN fD fC fRw fRt fO fPl fLr fS fA fAr fWh fX fR dN dD dC dRw dRt dO dPl dLr dS dA dAr dWh dX dR) : FnG P w K mg base 7 f fd ["_law_script"] (spLaw K) := by
  refine fun_okG F scLaw (fun vs H Q E h => ?_) (fun cdv A outer s H vs Q E hG hr h => ?_)
  · obtain ⟨a, ns, rfl, _⟩ := h
    rfl
  obtain ⟨a, ns, rfl, hS, hl, k⟩ := h
  have hr1 := hr.mono (show 1 ≤ 6 by decide)
  have hr2 := hr.mono (show 2 ≤ 6 by decide)
  have hr3 := hr.mono (show 3 ≤ 6 by decide)
  have hr4 := hr.mono (show 4 ≤ 6 by decide)
  have hr5 := hr.mono (show 5 ≤ 6 by decide)
  have dG := dry L.gG
  refine ⟨_, pss_cons (ps_set (i := 1) scLaw.nd rfl (Or.inr rfl) (pe_call L.N.G hr1 (by rfl) L.N.g L.N.kp L.N.b .nil pass0 (pa_cons (pv 0) pa_nil)))
    (pss_cons (ps_for PassesOwn.never rfl (pi_range1 (by rfl) L.mr (pa_cons pe_int pa_nil)) (pg_name (i := 2) scLaw.nd rfl (Or.inl rfl))
      (pss_cons (ps_set (i := 3) scLaw.nd rfl (Or.inl rfl) (pe_op op_add pe_int (pe_call L.D.G hr1 (by rfl) L.D.g L.D.kp L.D.b .nil pass0 (pa_cons (pv 1) (pa_cons pe_int pa_nil)))))
      (pss_cons (ps_set (i := 4) scLaw.nd rfl (Or.inl rfl) (pe_call L.Rw.G hr5 (by rfl) L.Rw.g L.Rw.kp L.Rw.b .nil pass0 (pa_cons (pv 1) (pa_cons (pv 3) (pa_cons (pe_callB (call_max2 rfl) (by rfl) L.mx (by decide +kernel) (pa_cons pe_int (pa_cons (pe_op op_add (pe_op op_sub (pv 3) pe_int) (pe_call L.D.G hr1 (by rfl) L.D.g L.D.kp L.D.b .nil pass0 (pa_cons (pv 1) (pa_cons pe_int pa_nil)))) pa_nil))) pa_nil)))))
      (C8.pss_cut (ps_set (i := 5) scLaw.nd rfl (Or.inr rfl) (pe_lc (own := [("_law_k", 15)]) (g := gName 15) (tt := tYes) rfl scLaw.nd (pi_range1 (by rfl) L.mr (pa_cons (pv 3) pa_nil)) (blkOk_by (N := nsLaw) (sc := defScope sLaw) (by decide +kernel)) (fun _ _ _ _ _ => pg_name (i := 15) scLaw.nd rfl (Or.inl rfl)) (fun _ _ _ _ _ => pts_nil)
          (fun _ _ _ _ _ => pe_call L.Rt.G hr4 (by rfl) L.Rt.g L.Rt.kp L.Rt.b .nil pass0 (pa_cons (pv 1) (pa_cons (pe_call L.C.G hr2 (by rfl) L.C.g L.C.kp L.C.b .nil pass0 (pa_cons (pv 1) (pa_cons (pe_lst (pa_cons pe_int (pa_cons pe_int (pa_cons pe_int pa_nil)))) pa_nil))) pa_nil)))))
      (C8.pss_cut (ps_setLc (i := 6) (own := [("_law_row", 16)]) (g := gName 16) (tt := tYes) rfl scLaw.nd rfl rfl (sw_true rfl rfl rfl rfl) (pi_listK (K := K) rfl (pv 4)) (blkOk_by (N := nsLaw) (sc := defScope sLaw) (by decide +kernel)) (fun _ _ _ _ _ => pg_name (i := 16) scLaw.nd rfl (Or.inl rfl)) (fun _ _ _ _ _ => pts_nil)
          (fun _ _ _ _ _ => pe_call L.O.G hr4 (by rfl) L.O.g L.O.kp L.O.b .nil pass0 (pa_cons (pv 16) (pa_cons (pv 5) pa_nil))))
      (C8.pss_cut (ps_if (pt_cmpR op_eq (pe_call L.D.G hr1 (by rfl) L.D.g L.D.kp L.D.b .nil pass0 (pa_cons (pv 1) (pa_cons pe_int pa_nil))) pe_int (nomark _))
          (pss_cons (ps_set (i := 7) scLaw.nd rfl (Or.inl rfl) (pe_call L.D.G hr1 (by rfl) L.D.g L.D.kp L.D.b .nil pass0 (pa_cons (pv 1) (pa_cons (pe_callB call_len_seq (by rfl) L.ml PySem.boot_len (pa_cons (pv 6) pa_nil)) pa_nil))))
          (pss_one (ps_asg (pe_call L.Pl.G hr3 (by rfl) L.Pl.g L.Pl.kp L.Pl.b .nil pass0 (pa_cons (pe_ix ix_list (pv 6) (pv 7) (fun _ _ => rfl)) (pa_cons (pe_tup (pa_cons pe_int (pa_cons (pe_op op_add pe_int (pe_call L.D.G hr1 (by rfl) L.D.g L.D.kp L.D.b .nil pass0 (pa_cons (pv 1) (pa_cons pe_int pa_nil)))) pa_nil))) pa_nil))) (pg_sub (pv 6) (pv 7) set_list)))) pss_nil)
      (C8.pss_cut (ps_set (i := 8) scLaw.nd rfl (Or.inl rfl) (pe_call L.Lr.G hr4 (by rfl) L.Lr.g L.Lr.kp L.Lr.b .nil pass0 (pa_cons (pv 4) pa_nil)))
      (C8.pss_cut (ps_set (i := 9) scLaw.nd rfl (Or.inl rfl) (pe_call L.Lr.G hr4 (by rfl) L.Lr.g L.Lr.kp L.Lr.b .nil pass0 (pa_cons (pe_lc (own := [("_law_row", 16), ("_law_value", 17)]) (g := gTup K 2 (gCons (gName 16) (gCons (gName 17) gNil))) (tt := tYes) rfl scLaw.nd (pi_zipBK (K := K) rfl (by rfl) L.mz (pa_cons (pv 4) (pa_cons (pv 6) pa_nil))) (blkOk_by (N := nsLaw) (sc := defScope sLaw) (by decide +kernel)) (fun _ _ _ _ _ => pg_tupK (K := K) (n := 2) rfl rfl (pgs_cons (pg_name (i := 16) scLaw.nd rfl (Or.inl rfl)) (pgs_cons (pg_name (i := 17) scLaw.nd rfl (Or.inl rfl)) pgs_nil))) (fun _ _ _ _ _ => pts_nil)
          (fun _ _ _ _ _ => pe_op op_cat (pv 16) (pe_lst (pa_cons (pv 17) pa_nil)))) pa_nil)))
      (C8.pss_cut (ps_setLc (i := 10) (own := [("_law_row", 16), ("_law_value", 17)]) (g := gName 16) (tt := tYes) rfl scLaw.nd rfl rfl (sw_true rfl rfl rfl rfl) (pi_listK (K := K) rfl (pv 4)) (blkOk_by (N := nsLaw) (sc := defScope sLaw) (by decide +kernel)) (fun _ _ _ _ _ => pg_name (i := 16) scLaw.nd rfl (Or.inl rfl)) (fun _ _ _ _ _ => pts_nil)
          (fun _ _ _ _ _ => pe_lc (own := [("_law_value", 17)]) (g := gName 17) (tt := tYes) rfl scLaw.nd (pi_listK (K := K) rfl (pv 16)) (blkOk_by (N := nsLaw) (by kernel_rfl)) (fun _ _ _ _ _ => pg_name (i := 17) scLaw.nd rfl (Or.inl rfl)) (fun _ _ _ _ _ => pts_nil)
            (fun _ _ _ _ _ => pe_call L.S.G hr2 (by rfl) L.S.g L.S.kp L.S.b .nil pass0 (pa_cons (pv 1) (pa_cons (pv 17) pa_nil)))))
      (C8.pss_cut (ps_setLc (i := 11) (own := [("_law_value", 17)]) (g := gName 17) (tt := tYes) rfl scLaw.nd rfl rfl (sw_true rfl rfl rfl rfl) (pi_listK (K := K) rfl (pv 6)) (blkOk_by (N := nsLaw) (sc := defScope sLaw) (by decide +kernel)) (fun _ _ _ _ _ => pg_name (i := 17) scLaw.nd rfl (Or.inl rfl)) (fun _ _ _ _ _ => pts_nil)
          (fun _ _ _ _ _ => pe_call L.S.G hr2 (by rfl) L.S.g L.S.kp L.S.b .nil pass0 (pa_cons (pv 1) (pa_cons (pv 17) pa_nil))))
      (C8.pss_cut (ps_if (pt_not (pt_val (pe_callGd L.rG hG hr (by rfl) L.rg L.rk L.rb (pa_cons (pv 1) (pa_cons (pv 10) (pa_cons (pv 11) pa_nil)))))) (pss_one (ps_ret pe_bl)) pss_nil)
      (C8.pss_cut (ps_if (pt_cmpR op_eq (pe_call L.D.G hr1 (by rfl) L.D.g L.D.kp L.D.b .nil pass0 (pa_cons (pv 1) (pa_cons pe_int pa_nil))) pe_int (nomark _))
          (pss_one (ps_par (i := 10) (j := 11) (by rfl) scLaw.nd rfl rfl (by decide) rfl rfl (pa_cons (pe_callTy (call_tuple_ofK (K := K) rfl) (by rfl) L.mt (by decide +kernel) (pa_cons (pe_lc (own := [("_law_row", 16)]) (g := gName 16) (tt := tYes) rfl scLaw.nd (pi_listK (K := K) rfl (pv 10)) (blkOk_by (N := nsLaw) (sc := defScope sLaw) (by decide +kernel)) (fun _ _ _ _ _ => pg_name (i := 16) scLaw.nd rfl (Or.inl rfl)) (fun _ _ _ _ _ => pts_nil)
            (fun _ _ _ _ _ => pe_callTy (call_tuple_ofK (K := K) rfl) (by rfl) L.mt (by decide +kernel) (pa_cons (pv 16) pa_nil))) pa_nil)) (pa_cons (pe_callTy (call_tuple_ofK (K := K) rfl) (by rfl) L.mt (by decide +kernel) (pa_cons (pv 11) pa_nil)) pa_nil)) (by rfl))) pss_nil)
      (C8.pss_cut (ps_setLc (i := 12) (own := [("_law_row", 16)]) (g := gName 16) (tt := tYes) rfl scLaw.nd rfl rfl (sw_true rfl rfl rfl rfl) (pi_anyK (K := K) rfl (pv 10)) (blkOk_by (N := nsLaw) (sc := defScope sLaw) (by decide +kernel)) (fun _ _ _ _ _ => pg_name (i := 16) scLaw.nd rfl (Or.inl rfl)) (fun _ _ _ _ _ => pts_nil)
          (fun _ _ _ _ _ => pe_callTy (call_list_ofK (K := K) rfl) (by rfl) L.mli (by decide +kernel) (pa_cons (pv 16) pa_nil)))
      (C8.pss_cut (ps_set (i := 13) scLaw.nd rfl (Or.inr rfl) (pe_call L.An.G hr5 (by rfl) L.An.g L.An.kp L.An.b .nil pass0 (pa_cons (pv 10) (pa_cons (pv 11) pa_nil))))
      (C8.pss_cut (ps_if (PW.pt (pw_or (pt_cmpR op_lt (pv 8) (pv 3) (nomark _)) (pw_or1 (pt_cmpR op_gt (pv 9) (pv 8) (nomark _)))))
          (pss_one (ps_if (pt_cmpR (op_neDK (K := K) rfl hr.units) (pv 13) pe_str (nomark _)) (pss_one (ps_ret pe_bl)) pss_nil))
          (pss_one (ps_if (PW.pt (pw_or (pt_not (pt_val (pe_call L.Ar.G hr3 (by rfl) L.Ar.g L.Ar.kp L.Ar.b .nil pass0 (pa_cons (pv 13) (pa_cons (pv 3) pa_nil))))) (pw_or1 (pt_cmpR (op_neDK (K := K) rfl hr.units) (pe_lc (own := [("_law_row", 16)]) (g := gName 16) (tt := tYes) rfl scLaw.nd (pi_listK (K := K) rfl (pv 4)) (blkOk_by (N := nsLaw) (sc := defScope sLaw) (by decide +kernel)) (fun _ _ _ _ _ => pg_name (i := 16) scLaw.nd rfl (Or.inl rfl)) (fun _ _ _ _ _ => pts_nil)
            (fun _ _ _ _ _ => pe_call L.O.G hr4 (by rfl) L.O.g L.O.kp L.O.b .nil pass0 (pa_cons (pv 16) (pa_cons (pv 13) pa_nil)))) (pv 6) (nomark _))))) (pss_one (ps_ret pe_bl)) pss_nil)))
      (C8.pss_cut (ps_set (i := 14) scLaw.nd rfl (Or.inl rfl) (pe_call dG hr4 (by rfl) L.gg L.gk L.gb .nil pass0 (pa_cons (pv 10) pa_nil)))
      (pss_one (ps_if (PW.pt (pw_or (pt_not (pt_val (pe_call L.Wh.G hr1 (by rfl) L.Wh.g L.Wh.kp L.Wh.b .nil pass0 (pa_cons (pv 14) pa_nil)))) (pw_or (pt_cmpR op_ne (pv 14) (pv 8) (nomark _)) (pw_or1 (pt_cmpR (op_neDK (K := K) rfl hr.units) (pe_lc (own := [("_law_row", 16)]) (g := gName 16) (tt := tYes) rfl scLaw.nd (pi_anyK (K := K) rfl (pv 10)) (blkOk_by (N := nsLaw) (sc := defScope sLaw) (by decide +kernel)) (fun _ _ _ _ _ => pg_name (i := 16) scLaw.nd rfl (Or.inl rfl)) (fun _ _ _ _ _ => pts_nil)
            (fun _ _ _ _ _ => pe_callTy (call_list_ofK (K := K) rfl) (by rfl) L.mli (by decide +kernel) (pa_cons (pv 16) pa_nil))) (pv 12) (nomark _)))))) (pss_one (ps_ret pe_bl)) pss_nil))))))))))))))))))
    (pss_one (ps_ret pe_bl))), ?_⟩
  refine ⟨_, rfl, a, ns, rfl, hS, hl, fun p l H1 s1 hp1 hl1 P1 => ?_⟩
  refine ⟨4, rfl, by decide, by decide, for_range (lo := 0) (n := 4) (fun i σ H2 => ∃ (c : Int) (v2 v3 v4 v5 v6 v7 v8 v9 v10 v11 v12 v13 v14 : Option V), σ = [some (.ref a), some (.ref p), v2, v3, v4, v5, v6, v7, v8, v9, v10, v11, v12, v13, v14, none, none, none] ∧ PenAt H2 p l c ∧ c ≤ 100000 * i) ⟨0, none, none, none, none, none, none, none, none, none, none, none, none, none, rfl, P1, by decide⟩ ?_ ?_⟩
  · rintro i σ H2 hi ⟨c, v2, v3, v4, v5, v6, v7, v8, v9, v10, v11, v12, v13, v14, rfl, P2, hc⟩
    have hi4 : i < 4 := hi
    refine ⟨_, rfl, p, l, c, 4, rfl, P2, by omega, by decide, by decide, fun r1 Ha a0 a1 Pa ka => ⟨_, _, rfl, rfl, ?_⟩⟩
    obtain ⟨W, hW⟩ : ∃ W : Nat, 1 + r1 = (W : Int) := ⟨(1 + r1).toNat, by omega⟩
    have w1 : 1 ≤ W := by omega
    have w4 : W ≤ 4 := by omega
    refine ⟨_, rfl, _, rfl, _, rfl, _, _, rfl, rfl, _, rfl, p, l, c + 1, 4, rfl, Pa, by omega, by decide, by decide, fun r2 Hb b0 b1 Pb kb => ⟨_, _, rfl, rfl, _, _, rfl, ?_⟩⟩
    obtain ⟨n, hn, n1, n6⟩ : ∃ n : Nat, (if 1 + r1 - 1 + r2 > 1 then 1 + r1 - 1 + r2 else 1) = (n : Int) ∧ 1 ≤ n ∧ n ≤ 6 := by
      refine ⟨(if 1 + r1 - 1 + r2 > 1 then 1 + r1 - 1 + r2 else 1).toNat, ?_, ?_, ?_⟩ <;> split <;> omega
    refine ⟨p, l, c + 1 + 1, 1 + r1, _, W, n, rfl, hW, hn, Pb, by omega, w4, n6, fun D rs' mat c3 H3 k3 P3 c3a c3b ro => ?_⟩
    have ln := ro.ln
    have rk := ro.rk w1 w4 n1 n6
    -- the unknowns
    refine ⟨fun σ' H' => ∃ (sl : Addr) (sps : List Addr) (sp : List (Int × Int)) (c' : Int), σ' = [some (.ref a), some (.ref p), some (.int (0 + (i : Int))), some (.int (1 + r1)), some (.ref D), some (.ref sl), v6, v7, v8, v9, v10, v11, v12, v13, v14, none, none, none] ∧ Keep p H3 H' ∧ PenAt H' p l c' ∧ c3 ≤ c' ∧ c' ≤ c3 + 210 ∧ H' sl = some (.lst (rv sps)) ∧ PairsAt H' sps sp ∧ sp.length = W ∧ ∀ x ∈ sp, Fit 100 7 x, ?_, ?_⟩
    · refine ⟨_, rfl, 1 + r1, rfl, by omega, by omega, fun Dn hDn => ?_⟩
      have nDl := new_ne P3 hDn
      refine lc_range (lo := 0) (n := (1 + r1).toNat) (fun j H' => NumL p l Dn H3 c3 100 7 j H') (NumL.start P3 hDn) ?_ ?_
      · rintro j H9 hj ⟨qs, fs, c9, k9, P9, e1, e2, hq, hQ, hl', hf⟩
        refine ⟨rfl, yesT ?_⟩
        refine ⟨_, rfl, _, rfl, by show 3 ≤ sizeLine; decide, fun u hu => ?_⟩
        refine ⟨p, l, u, c9, _, rfl, P9.upd hu, by omega, upd_same, by show 0 < 3; decide, by show 3 ≤ 1000; decide, fun m x H10 hx P10 k10 => ?_⟩
        obtain ⟨fg, rfl, f1, f2⟩ : ∃ fg : Int, x = .int fg ∧ 1 ≤ fg ∧ fg ≤ 30 := by
          have hm := List.mem_of_getElem? hx
          simp only [List.mem_cons, List.not_mem_nil, or_false] at hm
          rcases hm with e | e | e
          · exact ⟨1, e, by decide, by decide⟩
          · exact ⟨2, e, by decide, by decide⟩
          · exact ⟨30, e, by decide, by decide⟩
        exact ⟨p, l, c9 + 1, fg, rfl, P10, by omega, f1, f2, fun q x c11 H11 k11 P11 b1 b2 hx fx _ => NumL.step hDn nDl k9 P9 e1 e2 hq hQ hl' hf ((Keep.new hu).trans (k10.trans k11)) P11 (by omega) (by omega) hx fx (by omega)⟩
      · rintro H9 ⟨qs, fs, c9, k9, P9, e1, e2, hq, hQ, hl', hf⟩
        exact ⟨Dn, qs, fs, c9, rfl, k9, P9, e1, by omega, hq, hQ, by omega, hf⟩
    rintro σ4 H4 ⟨sl, sps, sp, c4, rfl, k4, P4, c4a, c4b, hsl4, hsp4, lsp, fsp⟩
    have ro4 := ro.keep P3 k4
    have ok1 : ∀ r, r < mat.length → DotOk (gm mat r) sp W ∧ Fit 468 201 (dotT (gm mat r) sp W) := fun r hr => by
      have hx : ∀ j, j < W → Fit 163 43 (gp (gm mat r) j) := fun j hj => ro.f r (by omega) j hj
      have hy : ∀ j, j < W → Fit 100 7 (gp sp j) := fun j hj => fsp _ (gp_mem (by omega))
      exact ⟨dot_okG hx hy (by omega) (by decide) (by decide) (by decide) (by decide), (dot_gen hx hy W (Nat.le_refl _)).mono (by omega) (by omega)⟩
    -- the right sides
    refine ⟨fun σ' H' => ∃ (Dr : Addr) (qs : List Addr), σ' = [some (.ref a), some (.ref p), some (.int (0 + (i : Int))), some (.int (1 + r1)), some (.ref D), some (.ref sl), some (.ref Dr), v7, v8, v9, v10, v11, v12, v13, v14, none, none, none] ∧ Same H4 H' ∧ H' Dr = some (.lst (rv qs)) ∧ PairsAt H' qs (mat.map fun r => dotT r sp W) ∧ H4 Dr = none, ?_, ?_⟩
    · refine ⟨_, rfl, D, rfl, ⟨_, SqL.of ro4.hD⟩, fun Dr hDr => lc_list (K := K) (a := D) (xs := rv rs') (fun j H' => Same H4 H' ∧ ∃ qs, H' Dr = some (.lst (rv qs)) ∧ PairsAt H' qs ((mat.map fun r => dotT r sp W).take j)) ⟨same_new hDr, [], upd_same, pairs_nil⟩ (fun j H' _ ⟨z, _⟩ => SqL.of (z _ _ ro4.hD)) ?_ ?_⟩
      · rintro j x H5 hx ⟨s5, qs, hq, hQ⟩
        obtain ⟨q, ps, rfl, hj, hqr, hps⟩ := (ro4.hrs.same s5).gm hx
        have lj := ro.lw j (by omega)
        refine ⟨rfl, yesT ?_⟩
        refine ⟨_, rfl, _, rfl, q, sl, ps, sps, gm mat j, sp, rfl, .lst hqr, .lst (s5 _ _ hsl4), hps, hsp4.same s5, by rw [lj, lsp], by rw [lj]; exact (ok1 j hj).1, fun r H6 s6 hr6 => ?_⟩
        rw [lj] at hr6
        rw [map_take_gp (f := fun r => dotT r sp W) (gm_at hj)]
        exact grow hDr s5 hq hQ s6 hr6 (by rw [List.length_take, List.length_map]; omega)
      · rintro H5 ⟨s5, qs, hq, hQ⟩
        rw [List.take_of_length_le (by rw [List.length_map, rv_len, ro4.hrs.1]; exact Nat.le_refl _)] at hQ
        exact ⟨Dr, qs, rfl, s5, hq, hQ, hDr⟩
    rintro σ5 H5 ⟨Dr, qs0, rfl, s5, hDr5, hQ5, fDr⟩
    have nDr := new_ne P4 fDr
    have P5 := P4.same s5
    have ro5 := ro4.same s5
    have fr0 : ∀ x ∈ (mat.map fun r => dotT r sp W), Fit 468 201 x := fun x hx => by
      obtain ⟨y, hy, rfl⟩ := List.mem_map.mp hx
      obtain ⟨j, hj, e⟩ := List.getElem_of_mem hy
      have z := gm_at hj
      rw [List.getElem?_eq_getElem hj, e] at z
      rw [Option.some.inj z]
      exact (ok1 j hj).2
    have lr0 : (mat.map fun r => dotT r sp W).length = n := by rw [List.length_map]; exact ln
    generalize (mat.map fun r => dotT r sp W) = right0 at hQ5 fr0 lr0
    -- one of them spoilt
    refine ⟨fun σ' H' => ∃ (w7 : Option V) (qs : List Addr) (right : List (Int × Int)) (c' : Int), σ' = [some (.ref a), some (.ref p), some (.int (0 + (i : Int))), some (.int (1 + r1)), some (.ref D), some (.ref sl), some (.ref Dr), w7, v8, v9, v10, v11, v12, v13, v14, none, none, none] ∧ Keep p H4 H' ∧ PenAt H' p l c' ∧ c4 ≤ c' ∧ c' ≤ c4 + 5 ∧ H' Dr = some (.lst (rv qs)) ∧ PairsAt H' qs right ∧ right.length = n ∧ ∀ x ∈ right, Fit 473 205 x, ?_, ?_⟩
    · refine ⟨_, rfl, p, l, c4, 2, rfl, P5, by omega, by decide, by decide, fun d H6 d0 d1 P6 k6 => ⟨rfl, _, rfl, ite2 (fun _ => ?_) fun _ => ⟨v7, qs0, right0, c4 + 1, rfl, (Same.keep s5).trans k6, P6, by omega, by omega, k6.lst P5 hDr5, k6.pairs P5 hQ5, lr0, fun x hx => (fr0 x hx).mono (by decide) (by decide)⟩⟩⟩
      have hDr6 := k6.lst P5 hDr5
      have hQ6 := k6.pairs P5 hQ5
      have lq : qs0.length = n := by rw [hQ5.1, lr0]
      refine ⟨_, rfl, _, rfl, Dr, rv qs0, rfl, .inl (SqL.of hDr6), ?_⟩
      rw [rv_len, lq]
      refine ⟨p, l, c4 + 1, _, rfl, P6, by omega, by omega, by omega, fun j0 H7 j1 j2 P7 k7 => ?_⟩
      obtain ⟨j, rfl⟩ : ∃ j : Nat, j0 = (j : Int) := ⟨j0.toNat, by omega⟩
      have hDr7 := k7.lst P6 hDr6
      have hQ7 := k7.pairs P6 hQ6
      obtain ⟨q, hq, hqr⟩ := hQ7.at_ (i := j) (by omega)
      refine ⟨_, rfl, _, rfl, Dr, rv qs0, _, .ref q, rfl, rfl, SqL.of hDr7, hq, _, rfl, p, l, c4 + 1 + 1, 9, rfl, P7, by omega, by decide, by decide, fun e H8 e0 e1 P8 k8 => ⟨_, _, rfl, rfl, by show 2 ≤ sizeLine; decide, fun t ht => ?_⟩⟩
      have s9 := same_new (o := .tup [.int 1, .int (1 + e)]) ht
      have fx := fr0 _ (gp_mem (show j < right0.length by omega))
      have fy : Fit 1 4 (1, 1 + e) := ⟨by show 0 < 1 + e; omega, Nat.gcd_one_left _, by show (1 : Nat) < 2 ^ 1; decide, by show (1 + e).natAbs < 2 ^ 4; omega⟩
      have k58 := k6.trans (k7.trans k8)
      have hqr9 := s9 _ _ (k8.rat P7 hqr)
      refine ⟨q, t, _, (1, 1 + e), rfl, hqr9, upd_same, fx.fine (by decide) (by decide), fy.fine (by decide) (by decide), fun r Hr sr hr' => ?_⟩
      have fz : Fit 473 205 (pluF (gp right0 j) (1, 1 + e)) := by
        have m1 : Bd 472 ((gp right0 j).1 * (1 + e)) := fx.b1.mulB fy.b2
        have m2 : Bd 472 (1 * (gp right0 j).2) := (fy.b1.mulB fx.b2).mono (by decide)
        exact low_fit (Int.mul_pos fx.p fy.p) (m1.addB m2) (fx.b2.mulB fy.b2)
      have k5r : Keep p H5 Hr := k58.trans (Same.keep (s9.trans sr))
      have Pr := (P8.same s9).same sr
      have hDrr := k5r.lst P5 hDr5
      have hQr := k5r.pairs P5 hQ5
      refine ⟨_, rfl, _, rfl, Dr, rv qs0, (j : Int), j, rfl, rfl, hDrr, by rw [rv_len]; exact ixN_nat (by omega), ?_⟩
      rw [rv_set]
      refine ⟨_, qs0.set j r, right0.set j (pluF (gp right0 j) (1, 1 + e)), c4 + 1 + 1 + 1, rfl, fun b o nb hb => ?_, Pr.set hDrr nDr, by omega, by omega, upd_same, hQr.set hDrr hr' _, by rw [List.length_set]; exact lr0, fun x hx => ?_⟩
      · rw [upd_ne (ne_of_none hb fDr)]
        exact k5r _ _ nb (s5 _ _ hb)
      · rcases List.mem_or_eq_of_mem_set hx with z | z
        · exact (fr0 x z).mono (by decide) (by decide)
        · rw [z]
          exact fz
    rintro σ6 H6 ⟨w7, qs, right, c6, rfl, k6, P6, c6a, c6b, hDr6, hQ6, lr, fr⟩
    clear fr0 lr0 hQ5 hDr5 ro5 P5 s5
    have ro6 := ro4.keep P4 k6
    have eq : EqOk mat right W := ⟨rk.l, rk.f, by omega, fr, w1, w4, rk.m1, rk.m6⟩
    -- the rank of the rows
    refine ⟨fun σ' H' => σ' = [some (.ref a), some (.ref p), some (.int (0 + (i : Int))), some (.int (1 + r1)), some (.ref D), some (.ref sl), some (.ref Dr), w7, some (.int (La.cnt (fun c => ¬ NPQ mat c) W : Nat)), v9, v10, v11, v12, v13, v14, none, none, none] ∧ Same H6 H', ?_, ?_⟩
    · exact ⟨_, rfl, D, rs', mat, W, W, rfl, ro6.hD, ro6.hrs, rk.mx, fun r hr x hx => (rk.f r hr x hx).red, rk.bd, by omega, by omega, rk.m1, fun r hr => (shF_row (rk.f r hr) (by have := rk.l r hr; omega)).2.mono (by decide), fun H' s => ⟨rfl, s⟩⟩
    rintro σ7 H7 ⟨rfl, s7⟩
    have ro7 := ro6.same s7
    have hDr7 := s7 _ _ hDr6
    have hQ7 := hQ6.same s7
    -- and with the right sides
    refine ⟨fun σ' H' => σ' = [some (.ref a), some (.ref p), some (.int (0 + (i : Int))), some (.int (1 + r1)), some (.ref D), some (.ref sl), some (.ref Dr), w7, some (.int (La.cnt (fun c => ¬ NPQ mat c) W : Nat)), some (.int (La.cnt (fun c => ¬ NPQ (bothM mat right) c) (W + 1) : Nat)), v10, v11, v12, v13, v14, none, none, none] ∧ Same H7 H', ?_, ?_⟩
    · refine ⟨_, rfl, _, rfl, true, true, D, Dr, rv rs', rv qs, rfl, SqL.of ro7.hD, SqL.of hDr7, fun Db hDb => ?_⟩
      have lrs : rs'.length = n := by rw [ro7.hrs.1, ln]
      refine lc_zipB (K := K) (k := true) (l := true) (a := D) (b := Dr) (D := Db) (xs := rv rs') (ys := rv qs) (by rw [rv_len, rv_len, lrs, hQ7.1, lr]) (fun j H' => Same H7 H' ∧ ∃ cs, H' Db = some (.lst (rv cs)) ∧ RowsAt2 H' cs ((bothM mat right).take j) ∧ Db ∉ cs) ⟨same_new hDb, [], upd_same, ⟨rfl, fun i p x hp _ => nomatch hp⟩, fun z => nomatch z⟩ (fun j H' ⟨z, _⟩ => ⟨SqL.of (z _ _ ro7.hD), SqL.of (z _ _ hDr7)⟩) ?_ ?_
      · rintro j x y T H8 hx hy ⟨s8, cs, hcs, hC, nC⟩ hT
        obtain ⟨q, ps, rfl, hj, hq, hps⟩ := (ro7.hrs.same s8).gm hx
        obtain ⟨y1, rfl, hj2, hy1⟩ := (hQ7.same s8).gp hy
        have s9 := same_new (o := .tup [.ref q, .ref y1]) hT
        refine ⟨T, _, rfl, .inl (.inl upd_same), rfl, _, _, rfl, _, _, rfl, rfl, rfl, yesT ?_⟩
        refine ⟨_, rfl, _, rfl, by show 1 ≤ sizeLine; decide, fun d hd => ?_⟩
        have s10 := same_new (o := .lst [.ref y1]) hd
        refine ⟨q, d, rv ps, [.ref y1], rfl, rfl, (s9.trans s10) _ _ hq, upd_same, ?_, fun t ht => ?_⟩
        · rw [rv_len, hps.1, ro.lw j (by omega)]
          exact Nat.le_trans (show W + 1 ≤ 1000 by omega) (show 1000 ≤ sizeLine by decide)
        have s11 := same_new (o := .lst (rv ps ++ [.ref y1])) ht
        have s8' := s9.trans (s10.trans s11)
        have hcs' := s8' _ _ hcs
        have tD : t ≠ Db := fun e => by
          have z := (s9.trans s10) _ _ hcs
          rw [← e, ht] at z
          cases z
        refine ⟨rv cs, hcs', by rw [rv_len, hC.1, List.length_take]; exact small1000 (by rw [both_len]; omega), fun b o hb => ?_, cs ++ [t], ?_, ?_, fun z => ?_⟩
        · rw [upd_ne (ne_of_none hb hDb)]
          exact (s8.trans s8') _ _ hb
        · rw [upd_same]
          unfold rv
          rw [List.map_append]
          rfl
        · have e : (bothM mat right).take (j + 1) = (bothM mat right).take j ++ [gm mat j ++ [gp right j]] := by
            rw [List.take_add_one, gm_at (by rw [both_len]; exact hj), gm_both hj]
            rfl
          rw [e]
          refine (hC.same s8').add hcs' nC (ps := ps ++ [y1]) ?_ ?_ tD _
          · have e2 : rv (ps ++ [y1]) = rv ps ++ [.ref y1] := by
              unfold rv
              rw [List.map_append]
              rfl
            rw [e2]
            exact upd_same
          · exact PairsAt.app1 (hps.same s8') (s8' _ _ hy1)
        · rcases List.mem_append.mp z with z | z
          · exact nC z
          · exact tD (List.mem_singleton.mp z).symm
      · rintro H8 ⟨s8, cs, hcs, hC, nC⟩
        rw [List.take_of_length_le (by rw [both_len, rv_len, lrs]; omega)] at hC
        refine ⟨Db, cs, bothM mat right, W + 1, W, rfl, hcs, hC, eq.mx, fun r hr x hx => ?_, ?_, Nat.le_refl _, by omega, by rw [both_len]; exact rk.m1, eq.sb, fun H' s => ⟨rfl, s8.trans s⟩⟩
        · rw [both_len] at hr
          rw [gm_both hr] at hx
          exact (eq.bmem hr hx).red
        · rw [both_len]
          exact eq.bd
    rintro σ8 H8 ⟨rfl, s8⟩
    have P8 := (P6.same s7).same s8
    have ro8 := ro7.same s8
    have hDr8 := s8 _ _ hDr7
    have hQ8 := hQ7.same s8
    have lrs : (rv rs').length = mat.length := by rw [rv_len, ro7.hrs.1]
    have lqs : (rv qs).length = right.length := by rw [rv_len, hQ7.1]
    -- the rows as they are passed
    refine ⟨fun σ' H' => ∃ (pl : Addr) (cs : List Addr) (c' : Int), σ' = [some (.ref a), some (.ref p), some (.int (0 + (i : Int))), some (.int (1 + r1)), some (.ref D), some (.ref sl), some (.ref Dr), w7, some (.int (La.cnt (fun c => ¬ NPQ mat c) W : Nat)), some (.int (La.cnt (fun c => ¬ NPQ (bothM mat right) c) (W + 1) : Nat)), some (.ref pl), v11, v12, v13, v14, none, none, none] ∧ Keep p H8 H' ∧ PenAt H' p l c' ∧ c6 ≤ c' ∧ c' ≤ c6 + 120 ∧ H' pl = some (.lst (rv cs)) ∧ RowsL H' cs mat, ?_, ?_⟩
    · refine ⟨_, rfl, D, rfl, ⟨_, SqL.of ro8.hD⟩, fun Dp hDp => ?_⟩
      have nDl := new_ne P8 hDp
      refine lc_list (K := K) (a := D) (xs := rv rs') (fun j H' => PasL p l Dp H8 c6 mat j H') (PasL.start P8 hDp) (fun j H' _ ⟨_, _, z, _⟩ => SqL.of (z.lst P8 ro8.hD)) ?_ ?_
      · rintro j y H9 hy ⟨cs, c9, k9, P9, e1, e2, hq, hQ, nD⟩
        obtain ⟨q, ps, rfl, hj, hqt, hps⟩ := (k9.rows P8 ro8.hrs).gm hy
        have lg := ro.lw j (by omega)
        refine ⟨rfl, yesT ?_⟩
        refine ⟨_, rfl, q, rfl, ⟨_, SqL.of hqt⟩, fun D2 hD2 => ?_⟩
        have nDl2 := new_ne P9 hD2
        have lu : (rv ps).length = (gm mat j).length := by rw [rv_len, hps.1]
        refine lc_list (K := K) (a := q) (xs := rv ps) (fun m H' => ValL p l D2 H9 c9 (gm mat j) m H') (ValL.start P9 hD2) (fun m H' _ ⟨_, _, z, _⟩ => SqL.of (z.lst P9 hqt)) ?_ ?_
        · rintro m y2 H10 hy2 ⟨us, c10, k10, P10, f1, f2, hq10, hQ10⟩
          obtain ⟨r, rfl, hm, hr10⟩ := (k10.pairs P9 hps).gp hy2
          refine ⟨rfl, yesT ?_⟩
          exact ⟨_, rfl, _, rfl, p, l, r, c10, _, rfl, P10, by omega, hr10, (rk.f j hj _ (gp_mem hm)).mono (by decide) (by decide), fun v c11 H11 k11 P11 d1 d2 hv => ValL.step hD2 nDl2 k10 P10 f1 f2 hq10 hQ10 hm k11 P11 d1 d2 hv (by omega)⟩
        · rintro H10 ⟨us, c10, k10, P10, f1, f2, hq10, hQ10⟩
          rw [lu] at f2 hQ10
          rw [List.take_length] at hQ10
          have nt : D2 ≠ Dp := fun e => by
            rw [e, hq] at hD2
            cases hD2
          exact PasL.step hDp nDl k9 P9 e1 e2 hq hQ nD hj k10 P10 f1 (by omega) hq10 hQ10 nt (by omega)
      · rintro H9 ⟨cs, c9, k9, P9, e1, e2, hq, hQ, nD⟩
        rw [lrs] at e2 hQ
        rw [List.take_length] at hQ
        exact ⟨Dp, cs, c9, rfl, k9, P9, e1, by omega, hq, hQ⟩
    rintro σ9 H9 ⟨pl, cs, c9, rfl, k9, P9, c9a, c9b, hpl9, hcs9⟩
    have hDr9 := k9.lst P8 hDr8
    have hQ9 := k9.pairs P8 hQ8
    have ro9 := ro8.keep P8 k9
    -- the sides as they are passed
    refine ⟨fun σ' H' => ∃ (sd : Addr) (ys : List V) (c' : Int), σ' = [some (.ref a), some (.ref p), some (.int (0 + (i : Int))), some (.int (1 + r1)), some (.ref D), some (.ref sl), some (.ref Dr), w7, some (.int (La.cnt (fun c => ¬ NPQ mat c) W : Nat)), some (.int (La.cnt (fun c => ¬ NPQ (bothM mat right) c) (W + 1) : Nat)), some (.ref pl), some (.ref sd), v12, v13, v14, none, none, none] ∧ Keep p H9 H' ∧ PenAt H' p l c' ∧ c9 ≤ c' ∧ c' ≤ c9 + 12 ∧ H' sd = some (.lst ys) ∧ PassAt H' ys right, ?_, ?_⟩
    · refine ⟨_, rfl, Dr, rfl, ⟨_, SqL.of hDr9⟩, fun D2 hD2 => ?_⟩
      have nDl2 := new_ne P9 hD2
      refine lc_list (K := K) (a := Dr) (xs := rv qs) (fun m H' => ValL p l D2 H9 c9 right m H') (ValL.start P9 hD2) (fun m H' _ ⟨_, _, z, _⟩ => SqL.of (z.lst P9 hDr9)) ?_ ?_
      · rintro m y2 H10 hy2 ⟨us, c10, k10, P10, f1, f2, hq10, hQ10⟩
        obtain ⟨r, rfl, hm, hr10⟩ := (k10.pairs P9 hQ9).gp hy2
        refine ⟨rfl, yesT ?_⟩
        exact ⟨_, rfl, _, rfl, p, l, r, c10, _, rfl, P10, by omega, hr10, (fr _ (gp_mem hm)).mono (by decide) (by decide), fun v c11 H11 k11 P11 d1 d2 hv => ValL.step hD2 nDl2 k10 P10 f1 f2 hq10 hQ10 hm k11 P11 d1 d2 hv (by omega)⟩
      · rintro H10 ⟨us, c10, k10, P10, f1, f2, hq10, hQ10⟩
        rw [lqs] at f2 hQ10
        rw [List.take_length] at hQ10
        exact ⟨D2, us, c10, rfl, k10, P10, f1, by omega, hq10, hQ10⟩
    rintro σ10 H10 ⟨sd, ys, c10, rfl, k10, P10, c10a, c10b, hsd10, hys10⟩
    have hpl10 := k10.lst P9 hpl9
    have hcs10 := k10.rowsL P9 hcs9
    have hDr10 := k10.lst P9 hDr9
    have hQ10 := k10.pairs P9 hQ9
    have ro10 := ro9.keep P9 k10
    -- the refusals
    refine ⟨fun σ' H' => ∃ (c' : Int), σ' = [some (.ref a), some (.ref p), some (.int (0 + (i : Int))), some (.int (1 + r1)), some (.ref D), some (.ref sl), some (.ref Dr), w7, some (.int (La.cnt (fun c => ¬ NPQ mat c) W : Nat)), some (.int (La.cnt (fun c => ¬ NPQ (bothM mat right) c) (W + 1) : Nat)), some (.ref pl), some (.ref sd), v12, v13, v14, none, none, none] ∧ Keep p H10 H' ∧ PenAt H' p l c' ∧ c10 ≤ c' ∧ c' ≤ c10 + 4, ?_, ?_⟩
    · exact ⟨_, rfl, _, rfl, _, rfl, p, l, pl, sd, c10, cs, ys, mat, right, W, rfl, P10, by omega, hpl10, hcs10, hsd10, hys10, rk.l, by omega, w1, w4, rk.m1, rk.m6, fun c' H' k' P' e1 e2 => ⟨true, rfl, iteF ⟨c', rfl, k', P', e1, e2⟩⟩⟩
    rintro σ11 H11 ⟨c11, rfl, k11, P11, c11a, c11b⟩
    have hpl11 := k11.lst P10 hpl10
    have hcs11 := k11.rowsL P10 hcs10
    have hDr11 := k11.lst P10 hDr10
    have hQ11 := k11.pairs P10 hQ10
    have ro11 := ro10.keep P10 k11
    have hsd11 := k11.lst P10 hsd10
    have hys11 := k11.pass P10 hys10
    have lcs : (rv cs).length = cs.length := rv_len _
    have lcm : cs.length = mat.length := hcs11.1
    -- lists, or tuples
    refine ⟨fun σ' H' => ∃ (o : List V → HO) (pl' sd' : Addr) (cs' : List Addr) (c' : Int), σ' = [some (.ref a), some (.ref p), some (.int (0 + (i : Int))), some (.int (1 + r1)), some (.ref D), some (.ref sl), some (.ref Dr), w7, some (.int (La.cnt (fun c => ¬ NPQ mat c) W : Nat)), some (.int (La.cnt (fun c => ¬ NPQ (bothM mat right) c) (W + 1) : Nat)), some (.ref pl'), some (.ref sd'), v12, v13, v14, none, none, none] ∧ LT o ∧ Keep p H11 H' ∧ PenAt H' p l c' ∧ c11 ≤ c' ∧ c' ≤ c11 + 1 ∧ H' pl' = some (o (rv cs')) ∧ H' sd' = some (o ys) ∧ RowsO o H' cs' mat ∧ PassAt H' ys right, ?_, ?_⟩
    · refine ⟨_, rfl, p, l, c11, 3, rfl, P11, by omega, by decide, by decide, fun d H12 d0 d1 P12 k12 => ⟨rfl, _, rfl, ite2 (fun _ => ?_) fun _ => ⟨.lst, pl, sd, cs, c11 + 1, rfl, .inl rfl, k12, P12, by omega, by omega, k12.lst P11 hpl11, k12.lst P11 hsd11, k12.rowsL P11 hcs11, k12.pass P11 hys11⟩⟩⟩
      have hpl12 := k12.lst P11 hpl11
      have hcs12 := k12.rowsL P11 hcs11
      have hsd12 := k12.lst P11 hsd11
      have hys12 := k12.pass P11 hys11
      refine ⟨_, rfl, pl, rfl, ⟨_, SqL.of hpl12⟩, fun Dt hDt => lc_list (K := K) (a := pl) (xs := rv cs) (fun j H' => CopL .tup H12 Dt cs j H') (CopL.start hDt) (fun j H' _ ⟨s, _⟩ => SqL.of (s _ _ hpl12)) ?_ ?_⟩
      · rintro j x H13 hx h
        obtain ⟨s13, _⟩ := id h
        obtain ⟨m, us, rfl, hm, hj, hm4, hus⟩ := hcs12.gm hx
        refine ⟨rfl, yesT ?_⟩
        exact ⟨_, rfl, m, us, rfl, .inl ⟨SqL.of (s13 _ _ hm4), fun cc hcc => CopL.step hDt h hm hm4 hcc (by omega)⟩⟩
      · intro H13 h
        rw [lcs] at h
        obtain ⟨s13, _⟩ := id h
        obtain ⟨ks, hks, hkr⟩ := h.tups hcs12
        refine ⟨Dt, _, rfl, .inl ⟨SqL.of hks, fun t ht => ?_⟩⟩
        have s14 := same_new (o := .tup (rv ks)) ht
        have hsd14 := (s13.trans s14) _ _ hsd12
        refine ⟨_, rfl, sd, ys, rfl, .inl ⟨SqL.of hsd14, fun u hu => ⟨_, _, rfl, ?_⟩⟩⟩
        have s15 := same_new (o := .tup ys) hu
        have sA := s13.trans (s14.trans s15)
        exact ⟨.tup, t, u, ks, c11 + 1, rfl, .inr rfl, k12.trans (Same.keep sA), P12.same sA, by omega, by omega, s15 _ _ upd_same, upd_same, (show RowsO .tup _ ks mat from hkr.same (s14.trans s15)), hys12.same sA⟩
    rintro σ12 H12 ⟨o, pl', sd', cs', c12, rfl, ho, k12, P12, c12a, c12b, hpl12, hsd12, hcs12, hys12⟩
    have hDr12 := k12.lst P11 hDr11
    have hQ12 := k12.pairs P11 hQ11
    have ro12 := ro11.keep P11 k12
    have lcs' : (rv cs').length = cs'.length := rv_len _
    have lcm' : cs'.length = mat.length := hcs12.1
    -- what is kept
    refine ⟨fun σ' H' => ∃ (kl : Addr), σ' = [some (.ref a), some (.ref p), some (.int (0 + (i : Int))), some (.int (1 + r1)), some (.ref D), some (.ref sl), some (.ref Dr), w7, some (.int (La.cnt (fun c => ¬ NPQ mat c) W : Nat)), some (.int (La.cnt (fun c => ¬ NPQ (bothM mat right) c) (W + 1) : Nat)), some (.ref pl'), some (.ref sd'), some (.ref kl), v13, v14, none, none, none] ∧ CopO o H12 kl cs' cs'.length H', ?_, ?_⟩
    · refine lc_any (K := K) (a := pl') (xs := rv cs') (H1 := H12) (fun P h => ⟨_, rfl, h⟩) (ho.sq hpl12) fun Dk hDk => ⟨fun j H' => CopO o H12 Dk cs' j H', CopO.start hDk, fun j H' _ z => z.1, ?_, ?_⟩
      · rintro j x H13 hx h
        obtain ⟨s13, _⟩ := id h
        obtain ⟨m, hm, rfl⟩ : ∃ m, cs'[j]? = some m ∧ x = .ref m := by
          unfold rv at hx
          rw [List.getElem?_map] at hx
          cases e : cs'[j]? with
          | none =>
            rw [e] at hx
            cases hx
          | some u =>
            rw [e] at hx
            exact ⟨u, rfl, (Option.some.inj hx).symm⟩
        have hj := (List.getElem?_eq_some_iff.mp hm).1
        obtain ⟨us, hm4, hus⟩ := hcs12.2 j m _ hm (gm_at (by omega))
        refine ⟨rfl, yesT ?_⟩
        exact ⟨_, rfl, m, us, rfl, ho.sq (K := K) (s13 _ _ hm4), fun cc hcc => CopO.step hDk h hm hm4 hcc (by omega)⟩
      · intro H13 h
        rw [lcs'] at h
        exact ⟨Dk, rfl, h⟩
    rintro σ13 H13 ⟨kl, rfl, s13, ka, hka, lka, nka, eka⟩
    -- the answer
    refine ⟨fun σ' H' => ∃ (tv : V), σ' = [some (.ref a), some (.ref p), some (.int (0 + (i : Int))), some (.int (1 + r1)), some (.ref D), some (.ref sl), some (.ref Dr), w7, some (.int (La.cnt (fun c => ¬ NPQ mat c) W : Nat)), some (.int (La.cnt (fun c => ¬ NPQ (bothM mat right) c) (W + 1) : Nat)), some (.ref pl'), some (.ref sd'), some (.ref kl), some tv, v14, none, none, none] ∧ Same H13 H' ∧ ((¬ Solv mat right W ∧ tv = .str "none") ∨ (Solv mat right W ∧ ∃ t xs, tv = .ref t ∧ TupAt H' t xs ∧ SolAns mat right W xs)), ?_, ?_⟩
    · exact ⟨_, rfl, _, rfl, pl', sd', cs', ys, mat, right, W, rfl, ho.sq (s13 _ _ hpl12), ho.sq (s13 _ _ hsd12), (hcs12.same s13).p ho, hys12.same s13, eq, fun ns H' s => ⟨_, rfl, s, .inl ⟨ns, rfl⟩⟩, fun t xs H' s sv an ht => ⟨_, rfl, s, .inr ⟨sv, t, xs, rfl, ht, an⟩⟩⟩
    rintro σ14 H14 ⟨tv, rfl, s14, htv⟩
    have ro14 := ro12.same (s13.trans s14)
    have hDr14 := (s13.trans s14) _ _ hDr12
    have hQ14 := hQ12.same (s13.trans s14)
    have siff := solv_iff eq
    -- it is right
    refine ⟨fun σ' H' => σ' = [some (.ref a), some (.ref p), some (.int (0 + (i : Int))), some (.int (1 + r1)), some (.ref D), some (.ref sl), some (.ref Dr), w7, some (.int (La.cnt (fun c => ¬ NPQ mat c) W : Nat)), some (.int (La.cnt (fun c => ¬ NPQ (bothM mat right) c) (W + 1) : Nat)), some (.ref pl'), some (.ref sd'), some (.ref kl), some tv, v14, none, none, none] ∧ Same H14 H', ?_, ?_⟩
    · rcases htv with ⟨ns, rfl⟩ | ⟨sv, t, xs, rfl, ht, an⟩
      · have z := siff.mpr ns
        refine ⟨_, rfl, _, rfl, _, _, rfl, rfl, _, rfl, ite2 (fun _ => ?_) fun h => ⟨_, rfl, _, rfl, _, _, rfl, rfl, _, rfl, ite2 (fun _ => ?_) fun h2 => ?_⟩⟩
        · exact ⟨_, rfl, .str "none", .str "none", .str _, .str _, by decide +kernel, by decide +kernel, _, rfl, iteF' (by decide +kernel) ⟨rfl, Same.refl _⟩⟩
        · exact ⟨_, rfl, .str "none", .str "none", .str _, .str _, by decide +kernel, by decide +kernel, _, rfl, iteF' (by decide +kernel) ⟨rfl, Same.refl _⟩⟩
        · exfalso
          rcases z with z | z
          · exact h (decide_eq_true (by omega))
          · exact h2 (decide_eq_true (by omega))
      · have z : ¬ _ := fun w => (siff.mp w) sv
        refine ⟨_, rfl, _, rfl, _, _, rfl, rfl, _, rfl, ite2 (fun h => absurd (.inl (by have := of_decide_eq_true h; omega)) z) fun _ => ⟨_, rfl, _, rfl, _, _, rfl, rfl, _, rfl, ite2 (fun h => absurd (.inr (by have := of_decide_eq_true h; omega)) z) fun _ => ?_⟩⟩
        refine ⟨_, rfl, _, rfl, t, xs, W, congrArg (fun z : Int => [V.ref t, V.int z]) hW, ht, an.a, fun H15 s15 => ⟨true, rfl, iteF ?_⟩⟩
        obtain ⟨xps, hxt, hxp⟩ := ht.same s15
        have ro15 := ro14.same s15
        have eR : (mat.map fun r => dotT r xs W) = right := gp_ext (by rw [List.length_map]; omega) fun j hj => by
          rw [gp_map (gm_at (show j < mat.length by omega))]
          exact (an.d j (by omega)).2
        refine ⟨_, rfl, D, rfl, ⟨_, SqL.of ro15.hD⟩, fun Dd hDd => lc_list (K := K) (a := D) (xs := rv rs') (fun j H' => Same H15 H' ∧ ∃ qs, H' Dd = some (.lst (rv qs)) ∧ PairsAt H' qs ((mat.map fun r => dotT r xs W).take j)) ⟨same_new hDd, [], upd_same, pairs_nil⟩ (fun j H' _ ⟨z, _⟩ => SqL.of (z _ _ ro15.hD)) ?_ ?_⟩
        · rintro j x H16 hx ⟨s16, qs', hq, hQ⟩
          obtain ⟨q, ps, rfl, hj, hqr, hps⟩ := (ro15.hrs.same s16).gm hx
          have lj := ro.lw j (by omega)
          refine ⟨rfl, yesT ?_⟩
          refine ⟨_, rfl, _, rfl, q, t, ps, xps, gm mat j, xs, rfl, .lst hqr, .tup (s16 _ _ hxt), hps, hxp.same s16, by rw [lj, an.l], by rw [lj]; exact (an.d j hj).1, fun r H17 s17 hr17 => ?_⟩
          rw [lj] at hr17
          rw [map_take_gp (f := fun r => dotT r xs W) (gm_at hj)]
          exact grow hDd s16 hq hQ s17 hr17 (by rw [List.length_take, List.length_map]; omega)
        · rintro H16 ⟨s16, qs', hq, hQ⟩
          rw [List.take_of_length_le (by rw [List.length_map, lrs]; exact Nat.le_refl _), eR] at hQ
          have s146 := s15.trans s16
          exact ⟨_, rfl, _, _, .lst (SqL.of hq) (dp_pairs hQ), .lst (SqL.of (s146 _ _ hDr14)) (dp_pairs (hQ14.same s146)), dats_shaped _, dats_shaped _, _, rfl, iteF' (by rw [dats_refl]; rfl) ⟨rfl, s146⟩⟩
    rintro σ15 H15 ⟨rfl, s15⟩
    have s125 := s13.trans (s14.trans s15)
    -- the program's rank
    refine ⟨fun σ' H' => σ' = [some (.ref a), some (.ref p), some (.int (0 + (i : Int))), some (.int (1 + r1)), some (.ref D), some (.ref sl), some (.ref Dr), w7, some (.int (La.cnt (fun c => ¬ NPQ mat c) W : Nat)), some (.int (La.cnt (fun c => ¬ NPQ (bothM mat right) c) (W + 1) : Nat)), some (.ref pl'), some (.ref sd'), some (.ref kl), some tv, some (.int (La.cnt (fun c => ¬ NPQ mat c) W : Nat)), none, none, none] ∧ Same H15 H', ?_, ?_⟩
    · exact ⟨_, rfl, pl', cs', rfl, ho.sq (s125 _ _ hpl12), .inr ⟨mat, W, (hcs12.same s125).p ho, rk, fun H' s => ⟨rfl, s⟩⟩⟩
    rintro σ16 H16 ⟨rfl, s16⟩
    have s126 := s125.trans s16
    refine ⟨_, rfl, _, true, rfl, .int K _ _, true, rfl, iteF ?_⟩
    refine ⟨_, rfl, _, rfl, rfl, _, rfl, iteF' (by simp) ?_⟩
    have hpl16 := s126 _ _ hpl12
    have hcs16 := hcs12.same s126
    dsimp only [tTest, tOp]
    refine lc_any (K := K) (a := pl') (xs := rv cs') (H1 := H16) (fun P h => ⟨_, rfl, h⟩) (ho.sq hpl16) fun Dk hDk => ⟨fun j H' => CopO o H16 Dk cs' j H', CopO.start hDk, fun j H' _ z => z.1, ?_, ?_⟩
    · rintro j x H17 hx h
      obtain ⟨s17, _⟩ := id h
      obtain ⟨m, hm, rfl⟩ : ∃ m, cs'[j]? = some m ∧ x = .ref m := by
        unfold rv at hx
        rw [List.getElem?_map] at hx
        cases e : cs'[j]? with
        | none =>
          rw [e] at hx
          cases hx
        | some u =>
          rw [e] at hx
          exact ⟨u, rfl, (Option.some.inj hx).symm⟩
      have hj := (List.getElem?_eq_some_iff.mp hm).1
      obtain ⟨us, hm4, hus⟩ := hcs16.2 j m _ hm (gm_at (by omega))
      refine ⟨rfl, yesT ?_⟩
      exact ⟨_, rfl, m, us, rfl, ho.sq (K := K) (s17 _ _ hm4), fun cc hcc => CopO.step hDk h hm hm4 hcc (by omega)⟩
    · intro H17 h
      rw [lcs'] at h
      obtain ⟨s17, kb, hkb, lkb, nkb, ekb⟩ := h
      have s137 : Same H13 H17 := (s14.trans (s15.trans s16)).trans s17
      have tw := twin_now ho hcs12 eka lka s126 s137 ekb lkb s17
      obtain ⟨ds, e1, e2, e3, e4⟩ := twin_dp (K := K) tw
      have sh : SeqAt.shaped (.list ds) = true := by
        refine Bool.and_eq_true_iff.mpr ⟨e3, decide_eq_true ?_⟩
        simp only [PyData.depth]
        omega
      have hka17 := s137 _ _ hka
      refine ⟨_, rfl, .list ds, .list ds, .lst (SqL.of hkb) e1, .lst (SqL.of hka17) e2, sh, sh, _, rfl, iteF' (by rw [SeqAt.eqv_refl _ (SeqAt.canLay_of_shaped sh)]; rfl) ?_⟩
      have P17 := (P12.same s126).same s17
      refine ⟨c12, _, _, _, _, _, _, _, _, _, _, _, _, _, rfl, P17, ?_⟩
      omega
  · rintro σ H2 ⟨c, v2, v3, v4, v5, v6, v7, v8, v9, v10, v11, v12, v13, v14, rfl, P2, hc⟩
    exact k _
end
end Fk

set_option Elab.async false
set_option maxRecDepth 100000
set_option maxHeartbeats 4000000
namespace Fk
open PySem PySem.Spec L2 PyProof.Rows
/-- the walk of a law that knows the guards, its table given by what it says -/
theorem walkGE {l : PySem.W.OpenLaw} {n k : Nat} {q : Program} {loose : List Str} {XP : (Str → Option Value) → Heap → Prop} {YP : World → Heap → Prop} {d : DefRec} {x : Str}
    (hn : l.most = some n) (hn2 : n ≤ sizeLine) (hdf : d.params.defaults = []) (hr : Room k callerA)
    (F : ∀ (w : World) (mg : Str → Option Value) (fa : Addr) (h : Heap), YP w h → h.Ns mainGlobals mg → mg d.name = some (.ref fa) →
      ∃ (K : PySem.W.Frag) (fd : FuncData) (sp : Sp), K.In h ∧ (∀ (s : Shared) (u : Value), BindsTo s fd ⟨[u], []⟩ [(x, u)]) ∧
        (∀ (H : Hp) (a : Addr) (ns : List Int), ns.length ≤ n → Only H → SqL K H a (ns.map V.int) → sp [.ref a] H (fun v _ => v = .bl true) fun _ _ _ => False) ∧
        ∀ base : Heap, K.In base → base.Ns mainGlobals mg → FnG l.prog w K mg base k fa fd [x] sp) :
    PySem.W.WalkO q loose XP YP l.row.toRowW d [] (fun f vs => PySem.call f vs) := by
  refine Att.attach_call hn hdf fun w s₀ s₁ mg mb fa o pm cd doc a vs ns G Y ho hd hcd hmg hobj hints hlen hg => ?_
  obtain ⟨K, fd, sp, KX, hb, hsp, hF⟩ := F w mg fa _ Y G.T.g hmg
  exact law_callG KX G.T.g G.T.b G.T.builtins G.T.nolimit hg hobj hints (Nat.le_trans hlen hn2) hr hF hb fun H hO hS => hsp H a ns hlen hO hS
end Fk

set_option Elab.async false
set_option maxRecDepth 100000
set_option maxHeartbeats 4000000
namespace Fk
open PySem L2
theorem oexB2_ok {K : PySem.W.Frag} {C : Addr} (h : oexB2 K C = true) : OexC K C := by
  unfold oexB2 at h
  simp only [Bool.and_eq_true, decide_eq_true_eq] at h
  obtain ⟨h1, h2, h3, h4, h5⟩ := h
  exact ⟨oexB_ok h1, h2, h3, h4, h5⟩
set_option maxHeartbeats 0 in
theorem all_mk {l : PySem.W.OpenLaw} {w : World} {K : PySem.W.Frag} {h : Heap} {mg : Str → Option Value} {fa CF CN CS gN f_law f_isint f_israt f_lowest f_asr f_shared f_check f_wholer f_pivoted f_firste f_elim f_solved f_rankp f_pen f_draw f_pick f_big f_gcd f_q f_plus f_minus f_times f_over f_dot f_whole f_lisr f_lare f_ratio f_passed f_lrank f_lrows f_answer f_refused f_refr : Addr} {eN d_isint d_israt d_lowest d_asr d_shared d_check d_wholer d_pivoted d_firste d_elim d_solved d_rankp d_pen d_draw d_pick d_big d_gcd d_q d_plus d_minus d_times d_over d_dot d_whole d_lisr d_lare d_ratio d_passed d_lrank d_lrows d_answer d_refused d_refr : FuncData} {od an : Option Addr} {sl : Array (Option Value)} {oc kV dc pm cd ct : Value}
    (X : K.In h) (G : h.Ns mainGlobals mg) (hfa : mg "law" = some (.ref fa))
    (a_isint : PySem.W.nsIn K mainGlobals "is_integer" = some (some (.ref f_isint)))
    (F_isint : Fun K "is_integer" "is_integer" sIsInt f_isint d_isint)
    (a_israt : PySem.W.nsIn K mainGlobals "is_ratio" = some (some (.ref f_israt)))
    (F_israt : Fun K "is_ratio" "is_ratio" sIsRat f_israt d_israt)
    (a_lowest : PySem.W.nsIn K mainGlobals "lowest" = some (some (.ref f_lowest)))
    (F_lowest : Fun K "lowest" "lowest" sLowest f_lowest d_lowest)
    (a_asr : PySem.W.nsIn K mainGlobals "as_ratio" = some (some (.ref f_asr)))
    (F_asr : Fun K "as_ratio" "as_ratio" sAsRat f_asr d_asr)
    (a_shared : PySem.W.nsIn K mainGlobals "shared_bottom" = some (some (.ref f_shared)))
    (F_shared : Fun K "shared_bottom" "shared_bottom" sShared f_shared d_shared)
    (a_check : PySem.W.nsIn K mainGlobals "check_entries" = some (some (.ref f_check)))
    (F_check : Fun K "check_entries" "check_entries" sCheck f_check d_check)
    (a_wholer : PySem.W.nsIn K mainGlobals "whole_row" = some (some (.ref f_wholer)))
    (F_wholer : Fun K "whole_row" "whole_row" sWhole f_wholer d_wholer)
    (a_pivoted : PySem.W.nsIn K mainGlobals "pivoted" = some (some (.ref f_pivoted)))
    (F_pivoted : Fun K "pivoted" "pivoted" sPivoted f_pivoted d_pivoted)
    (a_firste : PySem.W.nsIn K mainGlobals "first_entry" = some (some (.ref f_firste)))
    (F_firste : Fun K "first_entry" "first_entry" sFirstE f_firste d_firste)
    (a_elim : PySem.W.nsIn K mainGlobals "eliminated" = some (some (.ref f_elim)))
    (F_elim : Fun K "eliminated" "eliminated" sElim f_elim d_elim)
    (a_solved : PySem.W.nsIn K mainGlobals "solved" = some (some (.ref f_solved)))
    (F_solved : Fun K "solved" "solved" sSolved f_solved d_solved)
    (a_rankp : PySem.W.nsIn K mainGlobals "rank" = some (some (.ref f_rankp)))
    (F_rankp : Fun K "rank" "rank" sRank f_rankp d_rankp)
    (a_pen : PySem.W.nsIn K mainGlobals "_law_pen" = some (some (.ref f_pen)))
    (F_pen : Fun K "_law_pen" "_law_pen" sPen f_pen d_pen)
    (a_draw : PySem.W.nsIn K mainGlobals "_law_draw" = some (some (.ref f_draw)))
    (F_draw : Fun K "_law_draw" "_law_draw" sDraw f_draw d_draw)
    (a_pick : PySem.W.nsIn K mainGlobals "_law_pick" = some (some (.ref f_pick)))
    (F_pick : Fun K "_law_pick" "_law_pick" sPick f_pick d_pick)
    (a_big : PySem.W.nsIn K mainGlobals "_law_big" = some (some (.ref f_big)))
    (F_big : Fun K "_law_big" "_law_big" sBig f_big d_big)
    (a_gcd : PySem.W.nsIn K mainGlobals "_law_gcd" = some (some (.ref f_gcd)))
    (F_gcd : Fun K "_law_gcd" "_law_gcd" sGcd f_gcd d_gcd)
    (a_q : PySem.W.nsIn K mainGlobals "_law_q" = some (some (.ref f_q)))
    (F_q : Fun K "_law_q" "_law_q" sQ f_q d_q)
    (a_plus : PySem.W.nsIn K mainGlobals "_law_plus" = some (some (.ref f_plus)))
    (F_plus : Fun K "_law_plus" "_law_plus" sPlus f_plus d_plus)
    (a_minus : PySem.W.nsIn K mainGlobals "_law_minus" = some (some (.ref f_minus)))
    (F_minus : Fun K "_law_minus" "_law_minus" sMinus f_minus d_minus)
    (a_times : PySem.W.nsIn K mainGlobals "_law_times" = some (some (.ref f_times)))
    (F_times : Fun K "_law_times" "_law_times" sTimes f_times d_times)
    (a_over : PySem.W.nsIn K mainGlobals "_law_over" = some (some (.ref f_over)))
    (F_over : Fun K "_law_over" "_law_over" sOver f_over d_over)
    (a_dot : PySem.W.nsIn K mainGlobals "_law_dot" = some (some (.ref f_dot)))
    (F_dot : Fun K "_law_dot" "_law_dot" sLDot f_dot d_dot)
    (a_whole : PySem.W.nsIn K mainGlobals "_law_is_whole" = some (some (.ref f_whole)))
    (F_whole : Fun K "_law_is_whole" "_law_is_whole" sLWhole f_whole d_whole)
    (a_lisr : PySem.W.nsIn K mainGlobals "_law_is_ratio" = some (some (.ref f_lisr)))
    (F_lisr : Fun K "_law_is_ratio" "_law_is_ratio" sLIsR f_lisr d_lisr)
    (a_lare : PySem.W.nsIn K mainGlobals "_law_are_ratios" = some (some (.ref f_lare)))
    (F_lare : Fun K "_law_are_ratios" "_law_are_ratios" sLAre f_lare d_lare)
    (a_ratio : PySem.W.nsIn K mainGlobals "_law_ratio" = some (some (.ref f_ratio)))
    (F_ratio : Fun K "_law_ratio" "_law_ratio" sLRatio f_ratio d_ratio)
    (a_passed : PySem.W.nsIn K mainGlobals "_law_passed" = some (some (.ref f_passed)))
    (F_passed : Fun K "_law_passed" "_law_passed" sLPassed f_passed d_passed)
    (a_lrank : PySem.W.nsIn K mainGlobals "_law_rank" = some (some (.ref f_lrank)))
    (F_lrank : Fun K "_law_rank" "_law_rank" sLRank f_lrank d_lrank)
    (a_lrows : PySem.W.nsIn K mainGlobals "_law_rows" = some (some (.ref f_lrows)))
    (F_lrows : Fun K "_law_rows" "_law_rows" sLRows f_lrows d_lrows)
    (a_answer : PySem.W.nsIn K mainGlobals "_law_answer" = some (some (.ref f_answer)))
    (F_answer : Fun K "_law_answer" "_law_answer" sAnswer f_answer d_answer)
    (a_refused : PySem.W.nsIn K mainGlobals "_law_refused" = some (some (.ref f_refused)))
    (F_refused : Fun K "_law_refused" "_law_refused" sRefused f_refused d_refused)
    (a_refr : PySem.W.nsIn K mainGlobals "_law_refusals_right" = some (some (.ref f_refr)))
    (F_refr : Fun K "_law_refusals_right" "_law_refusals_right" sRefR f_refr d_refr)
    (a_law : PySem.W.nsIn K mainGlobals "law" = some (some (.ref f_law)))
    (g_gcd : PySem.W.nsIn K mainGlobals "gcd" = some (some (.builtin "math.gcd")))
    (g_N : PySem.W.nsIn K mainGlobals "BadNumber" = some (some (.ref CN)))
    (i_N : PySem.W.findIn K (.ref CN) "__init__" = some (some (.ref gN)))
    (t_N : PySem.W.typeIn K (.ref gN) = some (.type "function"))
    (IN : Fun K "__init__" "BadNumber.__init__" sIBadNumber gN eN)
    (nN_what : PySem.W.findIn K (.ref CN) "what" = some none)
    (nN_number : PySem.W.findIn K (.ref CN) "number" = some none)
    (g_F : PySem.W.nsIn K mainGlobals "FoeError" = some (some (.ref CF)))
    (g_S : PySem.W.nsIn K mainGlobals "NoSolution" = some (some (.ref CS)))
    (z_int : PySem.W.nsIn K mainGlobals "int" = some none)
    (z_list : PySem.W.nsIn K mainGlobals "list" = some none)
    (z_len : PySem.W.nsIn K mainGlobals "len" = some none)
    (z_range : PySem.W.nsIn K mainGlobals "range" = some none)
    (z_str : PySem.W.nsIn K mainGlobals "str" = some none)
    (z_isinstance : PySem.W.nsIn K mainGlobals "isinstance" = some none)
    (z_tuple : PySem.W.nsIn K mainGlobals "tuple" = some none)
    (z_bool : PySem.W.nsIn K mainGlobals "bool" = some none)
    (z_abs : PySem.W.nsIn K mainGlobals "abs" = some none)
    (z_zip : PySem.W.nsIn K mainGlobals "zip" = some none)
    (z_max : PySem.W.nsIn K mainGlobals "max" = some none)
    (z_repr : PySem.W.nsIn K mainGlobals "repr" = some none)
    (sp : PySem.W.specialIn K (.builtin "object.__class__") "__get__" = some (some (.builtin "getset_descriptor.__get__")))
    (tk : PySem.W.takesIn K (.builtin "object.__class__") = some true)
    (kb : looks2 K CF CN CS = true)
    (l_law : K.lookup f_law = some ⟨oc, od, .func (PySem.W.fnOf "law" "law" (defArgs sLaw) (defBody sLaw) (defScope sLaw) .none kV dc pm an cd ct), sl⟩)
    (c_law : PySem.W.codeIn K cd "law" = true)
    (k_law : PySem.W.keepIn K (.ref f_law) = true)
    : ∃ (fd : FuncData) (sp : Sp), (∀ (s : Shared) (u : Value), BindsTo s fd ⟨[u], []⟩ [("_law_script", u)]) ∧ (∀ (H : Hp) (a : Addr) (ns : List Int), ns.length ≤ 63 → Only H → SqL K H a (ns.map V.int) → sp [.ref a] H (fun v _ => v = .bl true) fun _ _ _ => False) ∧ ∀ base : Heap, K.In base → base.Ns mainGlobals mg → FnG l.prog w K mg base 7 fa fd ["_law_script"] sp := by
  have e := hfa.symm.trans (PySem.W.mg_of X G a_law)
  cases e
  have F_law := fun_mk (st := sLaw) l_law c_law k_law
  unfold looks2 at kb
  simp only [Bool.and_eq_true, decide_eq_true_eq] at kb
  obtain ⟨k_oxN, k_ebN, k_xfN, k_mNN, k_nF, k_nS, k_sF, k_ebS, k_mSS, k_qS, k_kS, k_sS, k_tS⟩ := kb
  unfold excBl at k_ebN k_ebS
  simp only [Bool.and_eq_true, decide_eq_true_eq] at k_ebN k_ebS
  obtain ⟨xN1, xN2, xN3, xN4, xN5, xN6⟩ := k_ebN
  obtain ⟨xS1, xS2, xS3, xS4, xS5, xS6⟩ := k_ebS
  have bd_isint := F_isint.binds (ps := psv) fun _ _ _ _ _ _ us hl => match us, hl with | [_], _ => rfl
  have bd_israt := F_israt.binds (ps := psv) fun _ _ _ _ _ _ us hl => match us, hl with | [_], _ => rfl
  have bd_lowest := F_lowest.binds (ps := ["top", "bottom"]) fun _ _ _ _ _ _ us hl => match us, hl with | [_, _], _ => rfl
  have bd_asr := F_asr.binds (ps := psv) fun _ _ _ _ _ _ us hl => match us, hl with | [_], _ => rfl
  have bd_shared := F_shared.binds (ps := ["ratios"]) fun _ _ _ _ _ _ us hl => match us, hl with | [_], _ => rfl
  have bd_check := F_check.binds (ps := ["entries"]) fun _ _ _ _ _ _ us hl => match us, hl with | [_], _ => rfl
  have bd_wholer := F_wholer.binds (ps := ["entries"]) fun _ _ _ _ _ _ us hl => match us, hl with | [_], _ => rfl
  have bd_pivoted := F_pivoted.binds (ps := psPivoted) fun _ _ _ _ _ _ us hl => match us, hl with | [_, _, _, _], _ => rfl
  have bd_firste := F_firste.binds (ps := ["lines", "start", "column"]) fun _ _ _ _ _ _ us hl => match us, hl with | [_, _, _], _ => rfl
  have bd_elim := F_elim.binds (ps := ["lines", "many"]) fun _ _ _ _ _ _ us hl => match us, hl with | [_, _], _ => rfl
  have bd_solved := F_solved.binds (ps := ["rows", "right"]) fun _ _ _ _ _ _ us hl => match us, hl with | [_, _], _ => rfl
  have bd_rankp := F_rankp.binds (ps := ["rows"]) fun _ _ _ _ _ _ us hl => match us, hl with | [_], _ => rfl
  have bd_pen := F_pen.binds (ps := ["_law_script"]) fun _ _ _ _ _ _ us hl => match us, hl with | [_], _ => rfl
  have bd_draw := F_draw.binds (ps := psDraw) fun _ _ _ _ _ _ us hl => match us, hl with | [_, _], _ => rfl
  have bd_pick := F_pick.binds (ps := psPick) fun _ _ _ _ _ _ us hl => match us, hl with | [_, _], _ => rfl
  have bd_big := F_big.binds (ps := psBig) fun _ _ _ _ _ _ us hl => match us, hl with | [_, _], _ => rfl
  have bd_gcd := F_gcd.binds (ps := psGcd) fun _ _ _ _ _ _ us hl => match us, hl with | [_, _], _ => rfl
  have bd_q := F_q.binds (ps := psQ) fun _ _ _ _ _ _ us hl => match us, hl with | [_, _], _ => rfl
  have bd_plus := F_plus.binds (ps := psOT) fun _ _ _ _ _ _ us hl => match us, hl with | [_, _], _ => rfl
  have bd_minus := F_minus.binds (ps := psOT) fun _ _ _ _ _ _ us hl => match us, hl with | [_, _], _ => rfl
  have bd_times := F_times.binds (ps := psOT) fun _ _ _ _ _ _ us hl => match us, hl with | [_, _], _ => rfl
  have bd_over := F_over.binds (ps := psOT) fun _ _ _ _ _ _ us hl => match us, hl with | [_, _], _ => rfl
  have bd_dot := F_dot.binds (ps := psLDot) fun _ _ _ _ _ _ us hl => match us, hl with | [_, _], _ => rfl
  have bd_whole := F_whole.binds (ps := psLv) fun _ _ _ _ _ _ us hl => match us, hl with | [_], _ => rfl
  have bd_lisr := F_lisr.binds (ps := psLv) fun _ _ _ _ _ _ us hl => match us, hl with | [_], _ => rfl
  have bd_lare := F_lare.binds (ps := psLAre) fun _ _ _ _ _ _ us hl => match us, hl with | [_, _], _ => rfl
  have bd_ratio := F_ratio.binds (ps := psBig) fun _ _ _ _ _ _ us hl => match us, hl with | [_, _], _ => rfl
  have bd_passed := F_passed.binds (ps := psLPassed) fun _ _ _ _ _ _ us hl => match us, hl with | [_, _], _ => rfl
  have bd_lrank := F_lrank.binds (ps := ["_law_rows_here"]) fun _ _ _ _ _ _ us hl => match us, hl with | [_], _ => rfl
  have bd_lrows := F_lrows.binds (ps := psLRows) fun _ _ _ _ _ _ us hl => match us, hl with | [_, _, _], _ => rfl
  have bd_answer := F_answer.binds (ps := psAnswer) fun _ _ _ _ _ _ us hl => match us, hl with | [_, _], _ => rfl
  have bd_refused := F_refused.binds (ps := psRefused) fun _ _ _ _ _ _ us hl => match us, hl with | [_, _, _], _ => rfl
  have bd_refr := F_refr.binds (ps := psRefR) fun _ _ _ _ _ _ us hl => match us, hl with | [_, _, _], _ => rfl
  have beN := IN.binds (ps := ["self", "what", "number"]) fun _ _ _ _ _ _ us hl => match us, hl with | [_, _, _], _ => rfl
  have y_int := PySem.W.mg_none_of X G z_int
  have y_list := PySem.W.mg_none_of X G z_list
  have y_len := PySem.W.mg_none_of X G z_len
  have y_range := PySem.W.mg_none_of X G z_range
  have y_str := PySem.W.mg_none_of X G z_str
  have y_isinstance := PySem.W.mg_none_of X G z_isinstance
  have y_tuple := PySem.W.mg_none_of X G z_tuple
  have y_bool := PySem.W.mg_none_of X G z_bool
  have y_abs := PySem.W.mg_none_of X G z_abs
  have y_zip := PySem.W.mg_none_of X G z_zip
  have y_max := PySem.W.mg_none_of X G z_max
  have y_repr := PySem.W.mg_none_of X G z_repr
  refine ⟨PySem.W.fnOf "law" "law" (defArgs sLaw) (defBody sLaw) (defScope sLaw) .none kV dc pm an cd ct, spLaw K, fun s v => .of_eq rfl, fun H a ns hl hO hS => ⟨a, ns, rfl, hS, hl, fun _ => rfl⟩, fun base _ _ => ?_⟩
  have nnN : ∀ f ∈ (["what", "number"] : List Str), PySem.W.findIn K (.ref CN) f = some none := fun f hf => by
    simp only [List.mem_cons, List.not_mem_nil, or_false] at hf
    rcases hf with rfl | rfl
    · exact nN_what
    · exact nN_number
  have EN : Err l.prog w K mg base "BadNumber" numFs CN gN eN := ⟨oexB2_ok k_oxN, i_N, t_N, ini_BadNumber IN ⟨oexB2_ok k_oxN, nnN⟩, beN, PySem.W.mg_of X G g_N⟩
  have NS : NoS K mg CS := ⟨k_qS, PySem.W.mg_of X G g_S, k_kS, k_sS, k_tS⟩
  have y_gcd := PySem.W.mg_of X G g_gcd
  have hisint : Cl l.prog w K mg base "is_integer" psv 1 (spIsInt K) f_isint d_isint := ⟨ok_isint F_isint y_isinstance y_int y_bool, PySem.W.mg_of X G a_isint, F_isint.kp, bd_isint⟩
  have hisrat : Cl l.prog w K mg base "is_ratio" psv 2 (spIsRat K) f_israt d_israt := ⟨ok_israt F_israt y_isinstance y_tuple y_len hisint, PySem.W.mg_of X G a_israt, F_israt.kp, bd_israt⟩
  have hlowest : Cl l.prog w K mg base "lowest" ["top", "bottom"] 1 spLowest f_lowest d_lowest := ⟨ok_lowest F_lowest y_gcd, PySem.W.mg_of X G a_lowest, F_lowest.kp, bd_lowest⟩
  have hlows : Cl l.prog w K mg base "lowest" ["top", "bottom"] 1 spLowS f_lowest d_lowest := ⟨ok_lows F_lowest y_gcd, PySem.W.mg_of X G a_lowest, F_lowest.kp, bd_lowest⟩
  have hasr : Cl l.prog w K mg base "as_ratio" psv 2 spAs f_asr d_asr := ⟨ok_as F_asr y_isinstance y_int hlowest, PySem.W.mg_of X G a_asr, F_asr.kp, bd_asr⟩
  have hshared : Cl l.prog w K mg base "shared_bottom" ["ratios"] 1 spShared f_shared d_shared := ⟨ok_shared F_shared y_gcd, PySem.W.mg_of X G a_shared, F_shared.kp, bd_shared⟩
  have CK := ok_check (P := l.prog) (w := w) (base := base) F_check EN hisrat
  have hwholer : Cl l.prog w K mg base "whole_row" ["entries"] 3 (spWhole K) f_wholer d_wholer := ⟨ok_whole F_wholer hasr hshared, PySem.W.mg_of X G a_wholer, F_wholer.kp, bd_wholer⟩
  have hpivoted : Cl l.prog w K mg base "pivoted" psPivoted 1 spPivoted f_pivoted d_pivoted := ⟨ok_pivoted F_pivoted y_len y_range y_zip, PySem.W.mg_of X G a_pivoted, F_pivoted.kp, bd_pivoted⟩
  have hfirste : Cl l.prog w K mg base "first_entry" ["lines", "start", "column"] 1 spFirstE f_firste d_firste := ⟨ok_firste F_firste y_len y_range, PySem.W.mg_of X G a_firste, F_firste.kp, bd_firste⟩
  have helim : Cl l.prog w K mg base "eliminated" ["lines", "many"] 2 (spElim K) f_elim d_elim := ⟨ok_elim F_elim y_len y_range y_list hfirste hpivoted, PySem.W.mg_of X G a_elim, F_elim.kp, bd_elim⟩
  have SCC : SC l.prog w K mg base CN CS f_check f_wholer f_elim f_lowest d_check d_wholer d_elim d_lowest := ⟨PySem.W.mg_of X G a_check, F_check.kp, bd_check, CK, hwholer, helim, hlows, NS, y_range, y_len, y_list, y_tuple⟩
  have SV := ok_solved (P := l.prog) (w := w) (base := base) F_solved SCC
  have RK := ok_rank (P := l.prog) (w := w) (base := base) F_rankp SCC
  have hpen : Cl l.prog w K mg base "_law_pen" ["_law_script"] 1 (spPen K) f_pen d_pen := ⟨ok_pen F_pen y_int y_list, PySem.W.mg_of X G a_pen, F_pen.kp, bd_pen⟩
  have hdraw : Cl l.prog w K mg base "_law_draw" psDraw 1 spDraw f_draw d_draw := ⟨ok_draw F_draw y_int y_len, PySem.W.mg_of X G a_draw, F_draw.kp, bd_draw⟩
  have hpick : Cl l.prog w K mg base "_law_pick" psPick 2 spPick f_pick d_pick := ⟨ok_pick F_pick y_len hdraw, PySem.W.mg_of X G a_pick, F_pick.kp, bd_pick⟩
  have hbig : Cl l.prog w K mg base "_law_big" psBig 3 spBig f_big d_big := ⟨ok_big F_big y_range y_int y_str hdraw hpick, PySem.W.mg_of X G a_big, F_big.kp, bd_big⟩
  have hgcd : Cl l.prog w K mg base "_law_gcd" psGcd 1 spGcd f_gcd d_gcd := ⟨ok_gcd F_gcd y_abs y_range y_int, PySem.W.mg_of X G a_gcd, F_gcd.kp, bd_gcd⟩
  have hq : Cl l.prog w K mg base "_law_q" psQ 2 spQ f_q d_q := ⟨ok_q F_q hgcd, PySem.W.mg_of X G a_q, F_q.kp, bd_q⟩
  have hqs : Cl l.prog w K mg base "_law_q" psQ 2 spQS f_q d_q := ⟨ok_qs F_q hgcd, PySem.W.mg_of X G a_q, F_q.kp, bd_q⟩
  have hplus : Cl l.prog w K mg base "_law_plus" psOT 3 (spTwo pluF) f_plus d_plus := ⟨ok_plus F_plus hq, PySem.W.mg_of X G a_plus, F_plus.kp, bd_plus⟩
  have hminus : Cl l.prog w K mg base "_law_minus" psOT 3 spMinus f_minus d_minus := ⟨ok_minus F_minus hq, PySem.W.mg_of X G a_minus, F_minus.kp, bd_minus⟩
  have htimes : Cl l.prog w K mg base "_law_times" psOT 3 (spTwo timF) f_times d_times := ⟨ok_times F_times hq, PySem.W.mg_of X G a_times, F_times.kp, bd_times⟩
  have hover : Cl l.prog w K mg base "_law_over" psOT 3 spOver f_over d_over := ⟨ok_over F_over hqs, PySem.W.mg_of X G a_over, F_over.kp, bd_over⟩
  have hdot : Cl l.prog w K mg base "_law_dot" psLDot 4 (spLDot K) f_dot d_dot := ⟨ok_ldot F_dot y_zip hplus htimes, PySem.W.mg_of X G a_dot, F_dot.kp, bd_dot⟩
  have hwhole : Cl l.prog w K mg base "_law_is_whole" psLv 1 (spIsInt K) f_whole d_whole := ⟨ok_lwhole F_whole y_isinstance y_int y_bool, PySem.W.mg_of X G a_whole, F_whole.kp, bd_whole⟩
  have hlisr : Cl l.prog w K mg base "_law_is_ratio" psLv 2 spLIsR f_lisr d_lisr := ⟨ok_lisr F_lisr y_isinstance y_tuple y_len hwhole hgcd, PySem.W.mg_of X G a_lisr, F_lisr.kp, bd_lisr⟩
  have hlare : Cl l.prog w K mg base "_law_are_ratios" psLAre 3 spLAre f_lare d_lare := ⟨ok_lare F_lare y_isinstance y_tuple y_len hlisr, PySem.W.mg_of X G a_lare, F_lare.kp, bd_lare⟩
  have hratio : Cl l.prog w K mg base "_law_ratio" psBig 4 spLRatio f_ratio d_ratio := ⟨ok_lratio F_ratio hdraw hpick hbig hq, PySem.W.mg_of X G a_ratio, F_ratio.kp, bd_ratio⟩
  have hpassed : Cl l.prog w K mg base "_law_passed" psLPassed 2 spLPassed f_passed d_passed := ⟨ok_lpassed F_passed hdraw, PySem.W.mg_of X G a_passed, F_passed.kp, bd_passed⟩
  have hlrank : Cl l.prog w K mg base "_law_rank" ["_law_rows_here"] 4 spLRank f_lrank d_lrank := ⟨ok_lrank F_lrank hover hminus htimes y_zip y_len y_range y_list, PySem.W.mg_of X G a_lrank, F_lrank.kp, bd_lrank⟩
  have hlrows : Cl l.prog w K mg base "_law_rows" psLRows 5 spLRows f_lrows d_lrows := ⟨ok_lrows F_lrows hdraw hpick hratio hplus htimes y_range y_zip, PySem.W.mg_of X G a_lrows, F_lrows.kp, bd_lrows⟩
  have KI : Kin K mg CF CN CS := ⟨PySem.W.mg_of X G g_F, y_isinstance, y_repr, k_nF, k_nS, k_sF, ⟨xN1, xN2, xN3, xN4, xN5, sp, tk, xN6⟩, ⟨xS1, xS2, xS3, xS4, xS5, sp, tk, xS6⟩, xfB_ok k_xfN, nN_what, nN_number, k_mNN, k_mSS⟩
  have hanswer : Cl l.prog w K mg base "_law_answer" psAnswer 5 (spAnswer K) f_answer d_answer := ⟨ok_answer F_answer KI NS SV (PySem.W.mg_of X G a_solved) F_solved.kp bd_solved, PySem.W.mg_of X G a_answer, F_answer.kp, bd_answer⟩
  have RF := ok_refused (P := l.prog) (w := w) (base := base) F_refused KI EN NS SV (PySem.W.mg_of X G a_solved) F_solved.kp bd_solved RK (PySem.W.mg_of X G a_rankp) F_rankp.kp bd_rankp
  have RR := ok_refr (P := l.prog) (w := w) (base := base) F_refr hdraw RF (PySem.W.mg_of X G a_refused) F_refused.kp bd_refused y_len y_list y_repr
  exact ok_law F_law ⟨hpen, hdraw, hpick, hlrows, hratio, hdot, hplus, hlrank, hpassed, hanswer, hlare, hwhole, RK, PySem.W.mg_of X G a_rankp, F_rankp.kp, bd_rankp, RR, PySem.W.mg_of X G a_refr, F_refr.kp, bd_refr, y_range, y_max, y_len, y_list, y_zip, y_tuple⟩
end Fk

set_option Elab.async false
set_option maxRecDepth 100000
set_option maxHeartbeats 0
namespace Fk
open PySem L2
theorem lawS {l : PySem.W.OpenLaw} {w : World} {K : PySem.W.Frag} {h : Heap} {mg : Str → Option Value} {fa : Addr} (X : K.In h) (G : h.Ns mainGlobals mg) (hfa : mg "law" = some (.ref fa)) (c : Sh.Says fnS tfS exS h K) : ∃ (fd : FuncData) (sp : Sp), (∀ (s : Shared) (u : Value), BindsTo s fd ⟨[u], []⟩ [("_law_script", u)]) ∧ (∀ (H : Hp) (a : Addr) (ns : List Int), ns.length ≤ 63 → Only H → SqL K H a (ns.map V.int) → sp [.ref a] H (fun v _ => v = .bl true) fun _ _ _ => False) ∧ ∀ base : Heap, K.In base → base.Ns mainGlobals mg → FnG l.prog w K mg base 7 fa fd ["_law_script"] sp := by
  have e0 : some (Value.ref fa) = some (.ref (He.ga K "law")) := hfa.symm.trans (PySem.W.mg_of X G (of_decide_eq_true (c.fact 33 (f := ex33) rfl)))
  obtain rfl : fa = He.ga K "law" := by cases e0; rfl
  obtain ⟨d_F_isint, z_F_isint⟩ := c.def_ 0 (d := Sh.dg "is_integer" (top 6)) rfl
  obtain ⟨d_F_israt, z_F_israt⟩ := c.def_ 1 (d := Sh.dg "is_ratio" (top 7)) rfl
  obtain ⟨d_F_lowest, z_F_lowest⟩ := c.def_ 2 (d := Sh.dg "lowest" (top 8)) rfl
  obtain ⟨d_F_asr, z_F_asr⟩ := c.def_ 3 (d := Sh.dg "as_ratio" (top 9)) rfl
  obtain ⟨d_F_shared, z_F_shared⟩ := c.def_ 4 (d := Sh.dg "shared_bottom" (top 10)) rfl
  obtain ⟨d_F_check, z_F_check⟩ := c.def_ 5 (d := Sh.dg "check_entries" (top 12)) rfl
  obtain ⟨d_F_wholer, z_F_wholer⟩ := c.def_ 6 (d := Sh.dg "whole_row" (top 13)) rfl
  obtain ⟨d_F_pivoted, z_F_pivoted⟩ := c.def_ 7 (d := Sh.dg "pivoted" (top 14)) rfl
  obtain ⟨d_F_firste, z_F_firste⟩ := c.def_ 8 (d := Sh.dg "first_entry" (top 15)) rfl
  obtain ⟨d_F_elim, z_F_elim⟩ := c.def_ 9 (d := Sh.dg "eliminated" (top 16)) rfl
  obtain ⟨d_F_solved, z_F_solved⟩ := c.def_ 10 (d := Sh.dg "solved" (top 17)) rfl
  obtain ⟨d_F_rankp, z_F_rankp⟩ := c.def_ 11 (d := Sh.dg "rank" (top 18)) rfl
  obtain ⟨d_F_pen, z_F_pen⟩ := c.def_ 12 (d := Sh.dg "_law_pen" (top 20)) rfl
  obtain ⟨d_F_draw, z_F_draw⟩ := c.def_ 13 (d := Sh.dg "_law_draw" (top 21)) rfl
  obtain ⟨d_F_pick, z_F_pick⟩ := c.def_ 14 (d := Sh.dg "_law_pick" (top 22)) rfl
  obtain ⟨d_F_big, z_F_big⟩ := c.def_ 15 (d := Sh.dg "_law_big" (top 23)) rfl
  obtain ⟨d_F_gcd, z_F_gcd⟩ := c.def_ 16 (d := Sh.dg "_law_gcd" (top 24)) rfl
  obtain ⟨d_F_q, z_F_q⟩ := c.def_ 17 (d := Sh.dg "_law_q" (top 25)) rfl
  obtain ⟨d_F_plus, z_F_plus⟩ := c.def_ 18 (d := Sh.dg "_law_plus" (top 26)) rfl
  obtain ⟨d_F_minus, z_F_minus⟩ := c.def_ 19 (d := Sh.dg "_law_minus" (top 27)) rfl
  obtain ⟨d_F_times, z_F_times⟩ := c.def_ 20 (d := Sh.dg "_law_times" (top 28)) rfl
  obtain ⟨d_F_over, z_F_over⟩ := c.def_ 21 (d := Sh.dg "_law_over" (top 29)) rfl
  obtain ⟨d_F_dot, z_F_dot⟩ := c.def_ 22 (d := Sh.dg "_law_dot" (top 30)) rfl
  obtain ⟨d_F_whole, z_F_whole⟩ := c.def_ 23 (d := Sh.dg "_law_is_whole" (top 31)) rfl
  obtain ⟨d_F_lisr, z_F_lisr⟩ := c.def_ 24 (d := Sh.dg "_law_is_ratio" (top 32)) rfl
  obtain ⟨d_F_lare, z_F_lare⟩ := c.def_ 25 (d := Sh.dg "_law_are_ratios" (top 33)) rfl
  obtain ⟨d_F_ratio, z_F_ratio⟩ := c.def_ 26 (d := Sh.dg "_law_ratio" (top 34)) rfl
  obtain ⟨d_F_passed, z_F_passed⟩ := c.def_ 27 (d := Sh.dg "_law_passed" (top 35)) rfl
  obtain ⟨d_F_lrank, z_F_lrank⟩ := c.def_ 28 (d := Sh.dg "_law_rank" (top 36)) rfl
  obtain ⟨d_F_lrows, z_F_lrows⟩ := c.def_ 29 (d := Sh.dg "_law_rows" (top 37)) rfl
  obtain ⟨d_F_answer, z_F_answer⟩ := c.def_ 30 (d := Sh.dg "_law_answer" (top 38)) rfl
  obtain ⟨d_F_refused, z_F_refused⟩ := c.def_ 31 (d := Sh.dg "_law_refused" (top 39)) rfl
  obtain ⟨d_F_refr, z_F_refr⟩ := c.def_ 32 (d := Sh.dg "_law_refusals_right" (top 40)) rfl
  obtain ⟨d_IN, z_IN⟩ := c.def_ 33 (d := Sh.dm "BadNumber" "__init__" "BadNumber.__init__" (inClass (top 3) 0)) rfl
  obtain ⟨d_law, z_law⟩ := c.def_ 34 (d := Sh.dg "law" (top 41)) rfl
  obtain ⟨oc, od, kV, dc, pm, an, cdv, ct, osl, p_f, p_l, p_c⟩ := (He5.fun_of (x := "law") (qual := "law") (st := sLaw) (f := He.ga K "law") (kws := []) z_law).ex
  subst p_f
  exact all_mk X G hfa (of_decide_eq_true (c.fact 0 (f := ex0) rfl)) (He5.fun_of z_F_isint) (of_decide_eq_true (c.fact 1 (f := ex1) rfl)) (He5.fun_of z_F_israt) (of_decide_eq_true (c.fact 2 (f := ex2) rfl)) (He5.fun_of z_F_lowest) (of_decide_eq_true (c.fact 3 (f := ex3) rfl)) (He5.fun_of z_F_asr) (of_decide_eq_true (c.fact 4 (f := ex4) rfl)) (He5.fun_of z_F_shared) (of_decide_eq_true (c.fact 5 (f := ex5) rfl)) (He5.fun_of z_F_check) (of_decide_eq_true (c.fact 6 (f := ex6) rfl)) (He5.fun_of z_F_wholer) (of_decide_eq_true (c.fact 7 (f := ex7) rfl)) (He5.fun_of z_F_pivoted) (of_decide_eq_true (c.fact 8 (f := ex8) rfl)) (He5.fun_of z_F_firste) (of_decide_eq_true (c.fact 9 (f := ex9) rfl)) (He5.fun_of z_F_elim) (of_decide_eq_true (c.fact 10 (f := ex10) rfl)) (He5.fun_of z_F_solved) (of_decide_eq_true (c.fact 11 (f := ex11) rfl)) (He5.fun_of z_F_rankp) (of_decide_eq_true (c.fact 12 (f := ex12) rfl)) (He5.fun_of z_F_pen) (of_decide_eq_true (c.fact 13 (f := ex13) rfl)) (He5.fun_of z_F_draw) (of_decide_eq_true (c.fact 14 (f := ex14) rfl)) (He5.fun_of z_F_pick) (of_decide_eq_true (c.fact 15 (f := ex15) rfl)) (He5.fun_of z_F_big) (of_decide_eq_true (c.fact 16 (f := ex16) rfl)) (He5.fun_of z_F_gcd) (of_decide_eq_true (c.fact 17 (f := ex17) rfl)) (He5.fun_of z_F_q) (of_decide_eq_true (c.fact 18 (f := ex18) rfl)) (He5.fun_of z_F_plus) (of_decide_eq_true (c.fact 19 (f := ex19) rfl)) (He5.fun_of z_F_minus) (of_decide_eq_true (c.fact 20 (f := ex20) rfl)) (He5.fun_of z_F_times) (of_decide_eq_true (c.fact 21 (f := ex21) rfl)) (He5.fun_of z_F_over) (of_decide_eq_true (c.fact 22 (f := ex22) rfl)) (He5.fun_of z_F_dot) (of_decide_eq_true (c.fact 23 (f := ex23) rfl)) (He5.fun_of z_F_whole) (of_decide_eq_true (c.fact 24 (f := ex24) rfl)) (He5.fun_of z_F_lisr) (of_decide_eq_true (c.fact 25 (f := ex25) rfl)) (He5.fun_of z_F_lare) (of_decide_eq_true (c.fact 26 (f := ex26) rfl)) (He5.fun_of z_F_ratio) (of_decide_eq_true (c.fact 27 (f := ex27) rfl)) (He5.fun_of z_F_passed) (of_decide_eq_true (c.fact 28 (f := ex28) rfl)) (He5.fun_of z_F_lrank) (of_decide_eq_true (c.fact 29 (f := ex29) rfl)) (He5.fun_of z_F_lrows) (of_decide_eq_true (c.fact 30 (f := ex30) rfl)) (He5.fun_of z_F_answer) (of_decide_eq_true (c.fact 31 (f := ex31) rfl)) (He5.fun_of z_F_refused) (of_decide_eq_true (c.fact 32 (f := ex32) rfl)) (He5.fun_of z_F_refr) (of_decide_eq_true (c.fact 33 (f := ex33) rfl)) (of_decide_eq_true (c.fact 34 (f := ex34) rfl)) (of_decide_eq_true (c.fact 35 (f := ex35) rfl)) (of_decide_eq_true (c.fact 36 (f := ex36) rfl)) (of_decide_eq_true (c.fact 37 (f := ex37) rfl)) (He5.fun_of z_IN) (of_decide_eq_true (c.fact 38 (f := ex38) rfl)) (of_decide_eq_true (c.fact 39 (f := ex39) rfl)) (of_decide_eq_true (c.fact 40 (f := ex40) rfl)) (of_decide_eq_true (c.fact 41 (f := ex41) rfl)) (of_decide_eq_true (c.fact 42 (f := ex42) rfl)) (of_decide_eq_true (c.fact 43 (f := ex43) rfl)) (of_decide_eq_true (c.fact 44 (f := ex44) rfl)) (of_decide_eq_true (c.fact 45 (f := ex45) rfl)) (of_decide_eq_true (c.fact 46 (f := ex46) rfl)) (of_decide_eq_true (c.fact 47 (f := ex47) rfl)) (of_decide_eq_true (c.fact 48 (f := ex48) rfl)) (of_decide_eq_true (c.fact 49 (f := ex49) rfl)) (of_decide_eq_true (c.fact 50 (f := ex50) rfl)) (of_decide_eq_true (c.fact 51 (f := ex51) rfl)) (of_decide_eq_true (c.fact 52 (f := ex52) rfl)) (of_decide_eq_true (c.fact 53 (f := ex53) rfl)) (of_decide_eq_true (c.fact 54 (f := ex54) rfl)) (of_decide_eq_true (c.fact 55 (f := ex55) rfl)) (c.fact 56 (f := ex56) rfl) p_l p_c z_law.kp
end Fk
open PySem PySem.W PyProof.Rows
set_option maxRecDepth 100000 in
set_option maxHeartbeats 0 in
theorem PySem.Challenge.cw_everyfoe_k02_whole_solved_holds : PySem.Challenge.rw_everyfoe_k02_whole_solved.Holds := by
  w_on; o_law
  refine HandSHeadRun.head_imp (r := Fk.RowS) (q := view Fk.RowS.prog [41]) (H := Fk.hkS) (ob := Fk.obS) (M := 20000) (loose := Fk.looseS) (d := HandSHeadRun.topDef Fk.RowS.prog 41) (kwd := []) Fk.obS_eq
    Fk.runS (by kernel_rfl) (by kernel_rfl) (by kernel_rfl) (by rfl) (by first | assumption | decide +kernel) (by decide +kernel) ⟨rfl, rfl, rfl, rfl, rfl, by decide +kernel⟩ ?hw ?hc
  case hw => w_witness2
  case hc =>
    refine Fk.walkGE (l := PySem.Challenge.rw_everyfoe_k02_whole_solved) (n := 63) (k := 7) (x := "_law_script") rfl (by decide) (by kernel_rfl) ⟨rfl, by decide, by decide⟩ ?F
    intro w mg fa h Y G hmg0
    obtain ⟨K, KX, c⟩ := Y
    have hmg : mg ("law" : PySem.Str) = some (.ref fa) := by
      have e : (HandSHeadRun.topDef Fk.RowS.prog 41).name = ("law" : PySem.Str) := by kernel_rfl
      rw [← e]
      exact hmg0
    obtain ⟨fd, sp, hb, hsp, hF⟩ := Fk.lawS (l := PySem.Challenge.rw_everyfoe_k02_whole_solved) (w := w) KX G hmg c
    exact ⟨K, fd, sp, KX, hb, hsp, hF⟩
