import PyProof.Rows.All
import Wide.All
import OpenK.AllK
import Wide.FinOn
import HandS.ForMost
import HandS.DictComp
import HandS.Codes
import HandS.IsInst
import HandS.Exc
import HandS.ExcIs
import HandS.Gcd
import HandS.TryMany
import HandS.WordsExc
import KE.KIntText
import PyProof.TupleOfStr
import PyProof.StrBlock2
import HandS.ExcInit
import HandS.ExcField
import HandS.ExcValue
import KE.KExcIs
import HandS.Lambda
import HandS.FStr
import HandS.Conv
import HandS.DictTup
import HandS.EndTab
import HandS.Style
import HandS.Small
import HandS.TupAny
import PySem.Challenge.RW_everyfoe_k05_linear_kinds
import HandS.Wide
import HandS.WideBits
import HandS.Zip
import HandS.Flow
import HandS.Defaults
import HandS.ExcOwn
set_option Elab.async false
set_option maxRecDepth 100000
set_option maxHeartbeats 4000000
/-! Comprehensions of any number of clauses, whatever they gather. -/
namespace Gc
open PySem PySem.Spec PyProof.Rows L2
/-- a turn of the clause t in i if .., whose body is bd -/
def turnOf (c : Expr) (d : Nat) (it acc : Value) (env : Env) (t i : Expr) (ifs : List Expr) (bd : Sem Fin → Sem Fin) : Sem Fin := do
  standAt i.pos
  match ← pyNext it with
  | none => pure (.done .next)
  | some v =>
    letOwnedTupleGo t it v
    assign t env v
    let mut ok := true
    for x in ifs do
      if ok then ok ← isTrue x env (eval x env)
    if ok then bd (again (.compLoop c d it acc env)) else again (.compLoop c d it acc env)
/-- the body of a clause that another one follows -/
def deeper (c : Expr) (d : Nat) (acc : Value) (env : Env) (i : Expr) (k : Sem Fin) : Sem Fin := do
  let x ← eval i env
  standAt i.pos
  let x ← foldedSetIterable i env x
  let _ ← runOwn (.compStart c d (← holding [x] (pyIter x)) acc env) env
  k
section
variable {prog : Program} {w : World} {A : Around} {R : Result → Shared → Prop} {s : Shared} {c t i : Expr} {ifs : List Expr} {d : Nat} {it acc : Value} {env : Env} {bd : Sem Fin → Sem Fin}
abbrev testsOf (ifs : List Expr) (env : Env) : Sem Bool := forIn ifs true fun c r => if r = true then do let ok ← isTrue c env (eval c env); pure (ForInStep.yield ok) else pure (ForInStep.yield r)
/-- a comprehension's code runs where it stands, as its turns say -/
structure Plain (c : Expr) : Prop where
  ul : ∀ (A : Around) (d : Nat) (it acc : Value) (env : Env), A.under (.compLoop c d it acc env) = A
  us : ∀ (A : Around) (d : Nat) (it acc : Value) (env : Env), A.under (.compStart c d it acc env) = A
  dl : ∀ (P : Program) (w : World) (d : Nat) (it acc : Value) (env : Env), (model P w).den (.compLoop c d it acc env) = (compTurn c d it acc env).onRaise (fun x => do noteFrame x env; theTreesLotGoes x)
  ds : ∀ (P : Program) (w : World) (d : Nat) (it acc : Value) (env : Env), (model P w).den (.compStart c d it acc env) = (compStart c d it acc env).onRaise (fun x => do noteFrame x env; standAt theWindowsPlace)
  ql : ∀ (d : Nat) (it acc : Value) (env : Env), (Code.compLoop c d it acc env).quiet = true
theorem plain_list (elt : Expr) (gs : List Comprehension) (scope : Scope) (pos : Pos) : Plain (.ListComp elt gs scope pos) := ⟨fun _ _ _ _ _ => rfl, fun _ _ _ _ _ => rfl, fun _ _ _ _ _ _ => rfl, fun _ _ _ _ _ _ => rfl, fun _ _ _ _ => rfl⟩
theorem plain_dict (k v : Expr) (gs : List Comprehension) (scope : Scope) (pos : Pos) : Plain (.DictComp k v gs scope pos) := ⟨fun _ _ _ _ _ => rfl, fun _ _ _ _ _ => rfl, fun _ _ _ _ _ _ => rfl, fun _ _ _ _ _ _ => rfl, fun _ _ _ _ => rfl⟩
theorem loop_any (hp : Plain c) (ht : compTurn c d it acc env = turnOf c d it acc env t i ifs bd) (I : Nat → Shared → Prop)
    (turn : ∀ n s, I n s → wpAny (model prog w) A (pyNext it) (fun r s1 => match r with
      | none => R (.ok .next) s1
      | some v => wpAny (model prog w) A (letOwnedTupleGo t it v) (fun _ s2 => wpAny (model prog w) A (assign t env v) (fun _ s3 => wpAny (model prog w) A (testsOf ifs env) (fun ok s4 =>
          if ok = true then ∀ (k : Sem Fin) (Q : Fin → Shared → Prop) (E : Value → Shared → Prop), (∀ s5, (∃ m, m < n ∧ I m s5) → wpAny (model prog w) A k Q E s5) → wpAny (model prog w) A (bd k) Q E s4 else ∃ m, m < n ∧ I m s4) (fun _ _ => False) s3) (fun _ _ => False) s2) (fun _ _ => False) s1) (fun _ _ => False) s)
    (n : Nat) (h : I n s) : codeAny (model prog w) A (.compLoop c d it acc env) R s := by
  refine codeAny_loop (hp.ql d it acc env) I (fun n s hI => ?_) n h
  rw [hp.ul, hp.dl]
  refine wpAny_noted ?_
  rw [ht]
  unfold turnOf
  refine wpAny_bind (wpAny_standAt (wpAny_bind (wpAny_mono (turn n s hI) (fun r s1 h1 => ?_) fun _ _ z => z.elim)))
  cases r with
  | none => exact wpAny_pure h1
  | some v =>
    refine wpAny_bind (wpAny_mono h1 (fun _ s2 h2 => ?_) fun _ _ z => z.elim)
    refine wpAny_bind (wpAny_mono h2 (fun _ s3 h3 => wpAny_bind (wpAny_mono h3 (fun ok s4 h4 => ?_) fun _ _ z => z.elim)) fun _ _ z => z.elim)
    cases ok with
    | false =>
      first
        | exact wpAny_pure ⟨rfl, h4⟩
        | exact wpAny_bind (wpAny_pure (wpAny_pure ⟨rfl, h4⟩))
    | true => exact h4 _ _ _ fun s5 h5 => wpAny_pure ⟨rfl, h5⟩
theorem start_any {g : Comprehension} (hp : Plain c) (hg : (clausesOf c)[d]? = some g) (ha : g.is_async = 0) (h0 : codeAny (model prog w) A (.compLoop c d it acc env) R s)
    (h : wpAny (model prog w) A (pyIter it) (fun it' s' => codeAny (model prog w) A (.compLoop c d it' acc env) R s') (notedBy (model prog w) A env fun x s' => R (.error x) s') s) : codeAny (model prog w) A (.compStart c d it acc env) R s := by
  refine codeAny_of_tree ?_
  rw [hp.us, hp.ds]
  refine wpAny_notedAt ?_
  unfold compStart
  rw [hg]
  have e : ((some g : Option Comprehension).elim false fun x => x.is_async != 0) = false := by
    show (g.is_async != 0) = false
    rw [ha]
    rfl
  rw [e]
  show wpAny _ _ (ask >>= _) _ _ s
  refine wpAny_bind (wpAny_askSetting (wpAny_ite ?_))
  split
  · first
      | exact wpAny_bind (wpAny_pure (wpAny_pure (And.intro (hp.ql _ _ _ _) h0)))
      | exact wpAny_pure (And.intro (hp.ql _ _ _ _) h0)
  · refine wpAny_bind (wpAny_rule ?_)
    show wpAny _ _ (standAt g.iter.pos >>= _) _ _ s
    exact wpAny_bind (wpAny_standAt (wpAny_bind (wpAny_mono h (fun it' s' h' => wpAny_pure (And.intro (hp.ql _ _ _ _) h')) fun _ _ x => x)))
end
/-- what a body does, in the block -/
def Body (X : Cx) (bd : Sem Fin → Sem Fin) (vs : List Nat) (tb : (Hp → Prop) → L2.St → Hp → Prop) : Prop := ∀ (pins : List (Addr × Obj)) (s : Shared) (σ : L2.St) (H : Hp) (Nx : Hp → Prop), Inv X pins σ H s → tb Nx σ H →
  ∀ (k : Sem Fin) (Q : Fin → Shared → Prop) (E : Value → Shared → Prop), (∀ s', (∃ H', Inv X pins (wipe σ vs) H' s' ∧ Nx H') → wpAny (model X.prog X.w) X.A k Q E s') → wpAny (model X.prog X.w) X.A (bd k) Q E s
def tIn (wi : TI) (g : TG) (tt : TT) (vs : List Nat) (tb : (Hp → Prop) → L2.St → Hp → Prop) : (Hp → Prop) → L2.St → Hp → Prop := fun Nx σ H => wi σ H fun J H1 => ∃ W : Nat → Nat → Hp → Prop, (∃ m, W 0 m H1) ∧ ∀ j k H, W j k H →
  (J.stop j H ∧ Nx H) ∨ (J.go j H ∧ ∃ Nx1 : Hp → Prop, (∀ H', Nx1 H' → ∃ k', k' < k ∧ W (j + 1) k' H') ∧ ∀ x H', J.yld j H x H' → g x (wipe σ vs) H' fun σ2 H2 => wipe σ2 vs = wipe σ vs ∧ tt σ2 H2 fun b H3 => if b = true then tb Nx1 σ2 H3 else Nx1 H3)
theorem wipe_app (σ : L2.St) (a b : List Nat) : wipe σ (a ++ b) = wipe (wipe σ b) a := by
  induction a with
  | nil => rfl
  | cons v a ih =>
    show (wipe σ (a ++ b)).set v none = (wipe (wipe σ b) a).set v none
    rw [ih]
theorem wipe_keep {σ τ : L2.St} {vs ws : List Nat} (e : wipe τ vs = wipe σ vs) (h : ∀ i ∈ ws, i ∈ vs) (j : Nat) (v : V) (q : (wipe σ vs)[j]? = some (some v)) : (wipe τ ws)[j]? = some (some v) := by
  rw [← e] at q
  obtain ⟨q1, q2⟩ := wipe_some q
  rw [wipe_out fun z => q2 (h j z)]
  exact q1
section
variable {X : Cx} {s0 : Shared} {H0 : Hp} {scope : Scope} {ce : Env} {fp : List Addr}
/-- a clause within a clause -/
theorem body_in {c t i : Expr} {ifs : List Expr} {d : Nat} {acc : Value} {bd : Sem Fin → Sem Fin} {wi : TI} {g : TG} {tt : TT} {vs ws : List Nat} {tb : (Hp → Prop) → L2.St → Hp → Prop} (hc : X.calm = true) (hp : Plain c)
    (ht : ∀ it, compTurn c d it acc ce = turnOf c d it acc ce t i ifs bd) (hcl : (clausesOf c)[d]? = some ⟨t, i, ifs, 0⟩) (hs : ∀ x, foldedSetIterable i ce x = pure x)
    (hi : PI (X.blk s0 H0 scope ce fp) t i wi) (hg : PG (X.blk s0 H0 scope ce fp) t g) (hts : PTs (X.blk s0 H0 scope ce fp) ifs tt) (hb : Body (X.blk s0 H0 scope ce fp) bd ws tb) (hw : ∀ j ∈ ws, j ∈ vs) :
    Body (X.blk s0 H0 scope ce fp) (deeper c d acc ce i) vs (tIn wi g tt vs tb) := by
  intro pins s σ H Nx I h kk QQ EE hkk
  unfold deeper
  refine wpAny_bind (thnF (hi.run pins s σ H _ I h) fun xv s1 hx => wpAny_bind (wpAny_standAt (wpAny_bind (wpAny_of_eq (hs xv) (wpAny_bind (wpAny_holding (thnF hx fun itv s2 h2 => ?_)))))))
  obtain ⟨it, fp1, tn, J, H2, e, I2, T, st2, f2, W, ⟨m0, w0⟩, turn⟩ := h2
  subst e
  have stat : ∀ {H' : Hp}, (∀ b ∈ fp1, H' b = none) → ∀ b ∈ fp1, FpOk (X.blk s0 H0 scope ce fp) pins H' b := fun hn b hb => ⟨hn b hb, (f2 b hb).2⟩
  have loop : codeAny (model X.prog X.w) X.A (.compLoop c d (.ref it) acc ce) (fun r s' => match r with
      | .ok _ => ∃ H', Inv (X.blk s0 H0 scope ce fp) pins (wipe σ vs) H' s' ∧ Nx H'
      | .error _ => False) s2 := by
    refine loop_any hp (ht _) (fun k s' => ∃ j H', Inv (X.blk s0 H0 scope ce fp) pins (wipe σ vs) H' s' ∧ tn j s'.heap ∧ (∀ b ∈ fp1, H' b = none) ∧ W j k H') ?_ m0 ⟨0, H2, I2.weak (wipe_length _ _) (fun j v e => (wipe_some e).1), st2, fun b hb => (f2 b hb).1, w0⟩
    rintro k s3 ⟨j, H3, I3, st3, n3, w3⟩
    rcases turn j k H3 w3 with ⟨stop, nx⟩ | ⟨go, Nx1, hNx, step⟩
    · refine thnF (T.done (X.blk s0 H0 scope ce fp) rfl rfl rfl hc j _ s3 (wipe σ vs) H3 (fun _ _ => False) I3 (stat n3) st3 stop) fun r s4 ⟨hr, I4⟩ => ?_
      subst hr
      exact ⟨H3, I4, nx⟩
    · refine thnF (T.item (X.blk s0 H0 scope ce fp) rfl rfl rfl hc j _ s3 (wipe σ vs) H3 (fun _ _ => False) I3 (stat n3) st3 go) fun r s4 ⟨u, hr, h4⟩ => ?_
      subst hr
      refine thnF h4 fun _ s5 ⟨x, H5, I5, r5, y5, st5, n5⟩ => ?_
      have I5' := I5.pinned (stat n5) (T.obj _ _ st5)
      refine thnF (hg.run _ s5 (wipe σ vs) H5 x u _ I5' r5 (step x H5 y5)) fun _ s6 ⟨σ6, H6, I6, hw6, q6⟩ => ?_
      refine thnF (hts.run _ s6 σ6 H6 _ I6 q6) fun b s7 ⟨H7, I7, q7⟩ => ?_
      have fin : ∀ {s' : Shared} {H' : Hp} {τ : L2.St}, Inv (X.blk s0 H0 scope ce fp) (pins ++ pinsAt fp1 s5.heap) τ H' s' → (wipe σ vs).length = τ.length → (∀ (j : Nat) v, (wipe σ vs)[j]? = some (some v) → τ[j]? = some (some v)) → Nx1 H' →
          ∃ m, m < k ∧ ∃ j H', Inv (X.blk s0 H0 scope ce fp) pins (wipe σ vs) H' s' ∧ tn j s'.heap ∧ (∀ b ∈ fp1, H' b = none) ∧ W j m H' := fun {s' H' τ} I' hl hk nx => by
        obtain ⟨m', hm, w'⟩ := hNx H' nx
        have pin' : ∀ b ∈ fp1, ∀ o, s5.heap.get? b = some o → s'.heap.get? b = some o ∧ H' b = none := fun b hb o e =>
          let z := I'.pin (b, o) (List.mem_append_right _ (List.mem_append_right _ (mem_pinsAt hb e)))
          ⟨z.1, z.2.1⟩
        refine ⟨m', hm, j + 1, H', I'.unpinned.weak hl hk, T.keep _ _ _ st5 fun b hb o e => (pin' b hb o e).1, fun b hb => ?_, w'⟩
        obtain ⟨o, e, _⟩ := T.obj _ _ st5 b hb
        exact (pin' b hb o e).2
      have hl6 : (wipe σ vs).length = σ6.length := by rw [← hw6, wipe_length]
      cases b with
      | false =>
        simp only [Bool.false_eq_true, if_false] at q7 ⊢
        exact fin I7 hl6 (fun j v e => (wipe_some (hw6 ▸ e : (wipe σ6 vs)[j]? = some (some v))).1) q7
      | true =>
        simp only [if_true] at q7 ⊢
        refine fun k2 Q2 E2 h2 => hb _ s7 σ6 H7 Nx1 I7 q7 k2 Q2 E2 fun s8 ⟨H8, I8, q8⟩ => h2 s8 ?_
        exact fin I8 (hl6.trans (wipe_length σ6 ws).symm) (fun j v e => wipe_keep hw6 hw j v e) q8
  have st := start_any hp hcl rfl loop (T.self X.A 0 _ _ _ st2 loop)
  refine wpAny_bind (wpAny_runOwn ?_)
  rw [Around.mark_none]
  refine codeAny_mono st fun r s' hr => ?_
  cases r with
  | ok f =>
    first
      | exact hkk s' hr
      | exact wpAny_pure (hkk s' hr)
      | exact wpAny_bind (wpAny_pure (hkk s' hr))
  | error e => exact hr.elim
end
end Gc

set_option Elab.async false
set_option maxRecDepth 100000
set_option maxHeartbeats 4000000
namespace Gc
open PySem PySem.Spec PyProof.Rows L2
section
variable {X : Cx}
/-- the reading: D the new object, which is o0 at first -/
def tGc (o0 : HO) (wi : TI) (g : TG) (tt : TT) (vs : List Nat) (tb : Addr → (Hp → Prop) → L2.St → Hp → Prop) : TE := fun σ H Q => wi σ H fun J H1 => ∀ D, H1 D = none → ∃ W : Nat → Nat → Hp → Prop, (∃ m, W 0 m (upd H1 D o0)) ∧ ∀ i m H, W i m H →
  (J.stop i H ∧ Q (.ref D) H) ∨ (J.go i H ∧ ∃ Nx : Hp → Prop, (∀ H', Nx H' → ∃ m', m' < m ∧ W (i + 1) m' H') ∧ ∀ x H', J.yld i H x H' → g x (wipe σ vs) H' fun σ2 H2 => wipe σ2 vs = wipe σ vs ∧ tt σ2 H2 fun b H3 => if b = true then tb D Nx σ2 H3 else Nx H3)
/-- what is gathered into: how it is made, what it is at first -/
structure Into (X : Cx) (newAcc : Sem Value) (o0 : HO) (ob : Obj) : Prop where
  make : ∀ (s : Shared) (Q : Value → Shared → Prop), Q (.ref s.heap.objs.size) { s with heap := s.heap.push ob } → wpAny (model X.prog X.w) X.A newAcc Q X.xe s
  ok : ∀ (pins : List (Addr × Obj)) (s : Shared) (σ : L2.St) (H : Hp), Inv X pins σ H s → ObjOk X.prog X.w (upd H s.heap.objs.size o0) (s.heap.push ob) s.heap.objs.size o0
theorem into_list : Into X (newList []) (.lst []) { cls := .type "list", data := .seq ([] : List Value).toArray } := by
  refine ⟨fun s Q h => wpAny_newObj_type h (by show 0 ≤ sizeLine; decide), fun pins s σ H I => ⟨Nat.zero_le _, [], 0, .nil, Heap.get?_push_size _ rfl⟩⟩
theorem into_dictT : Into X newDict (.dT []) { cls := .type "dict", data := .dict #[] } := ⟨fun s Q h => wpAny_newObj_type h, fun pins s σ H I => dt_empty s.heap I.big⟩
theorem into_dictK : Into X newDict (.dK []) { cls := .type "dict", data := .dict #[] } := ⟨fun s Q h => wpAny_newObj_type h, fun pins s σ H I => dk_empty s.heap I.big⟩
theorem gc_core {c : Expr} {pins : List (Addr × Obj)} {s : Shared} {σ : L2.St} {H : Hp} {Q : VK} {tg iter : Expr} {ifs : List Expr} {gs : List Comprehension} {scope : Scope} {own : List (Str × Nat)} {ws : List Nat} {pos' : Pos} {newAcc : Sem Value} {o0 : HO} {ob : Obj} {bd : Addr → Env → Sem Fin → Sem Fin} {wi : TI} {g : TG} {tt : TT}
    {tb : Addr → (Hp → Prop) → L2.St → Hp → Prop} {use : Option (Value → Sem Unit)} {Qf : Value → Shared → Prop}
    (hp : Plain c) (hcl : clausesOf c = ⟨tg, iter, ifs, 0⟩ :: gs) (hto : Into X newAcc o0 ob) (hturn : ∀ D it ce, compTurn c 0 it (.ref D) ce = turnOf c 0 it (.ref D) ce tg iter ifs (bd D ce))
    (hc : X.calm = true) (hN : X.N.Nodup) (I : Inv X pins σ H s) (hi : PI X tg iter wi) (ok : BlkOk X.N X.env.scope scope own) (hw : ∀ j ∈ ws, j ∈ own.map (·.2))
    (hg : ∀ (s : Shared) (H : Hp) (C : Addr) (cl : List (Str × Addr)) (fp : List Addr), PG (X.blk s H scope (compEnvC scope cl C X.env) fp) tg g) (ht : ∀ (s : Shared) (H : Hp) (C : Addr) (cl : List (Str × Addr)) (fp : List Addr), PTs (X.blk s H scope (compEnvC scope cl C X.env) fp) ifs tt)
    (hb : ∀ (D : Addr) (s : Shared) (H : Hp) (C : Addr) (cl : List (Str × Addr)) (fp : List Addr), Body (X.blk s H scope (compEnvC scope cl C X.env) fp) (bd D (compEnvC scope cl C X.env)) ws (tb D))
    (hs : ∀ x, foldedSetIterable iter X.env x = pure x) (h : tGc o0 wi g tt (own.map (·.2)) tb σ H Q)
    (hRR : ∀ D C s' m H', Inv X pins σ H' s' → Q (.ref D) H' → s'.heap.Ns C m → FpOk X pins H' C → compPost (model X.prog X.w) X.A X.xe use Qf (.ref D) C (.ok .next) s') :
    wpAny (model X.prog X.w) X.A (comprehension c scope X.env pos' newAcc false (eval iter X.env) use) Qf X.xe s := by
  have hfree : ∀ y ∈ scope.names, y.2 = .free → ∃ c, X.env.cells.lookup y.1 = some c := fun y hy e => by
    rcases ok.free y hy e with k | k
    · exact I.ok.has _ (.inl k)
    · exact I.ok.has _ (.inr k)
  refine wpAny_comprehension_free (use := use) hcl hs (closure_ok hfree) ok.kind (fun y hy e => by rw [ok.uniq y hy, e]) (thn (hi.run pins s σ H _ I h) fun xv s1 hx => thn hx fun itv s2 h2 => ?_)
  obtain ⟨it, fp, tn, J, H2, e, I2, T, st2, f2, q⟩ := h2
  subst e
  refine hto.make s2 _ (newEnv_comp ?_)
  generalize hD : s2.heap.objs.size = D
  have hDn : H2 D = none := I2.hok.fresh (Nat.le_of_eq hD)
  obtain ⟨W, ⟨m0, w0⟩, turn⟩ := q D hDn
  generalize hs3 : ({ s2 with heap := s2.heap.push ob } : Shared) = s3
  have I3 : Inv X pins σ (upd H2 D o0) s3 := by
    rw [← hs3]
    refine I2.laid (t' := s2.toks) (fun b o e => Heap.get?_push_of_some _ e) (Nat.le_of_eq hD) ?_
    rw [← hD]
    exact hto.ok pins s2 σ H2 I2
  have h3 : s3.heap = s2.heap.push ob := by rw [← hs3]
  have sz : ∀ b ∈ fp, b < s2.heap.objs.size := fun b hb => by
    obtain ⟨o, e, _⟩ := T.obj _ _ st2 b hb
    exact Heap.lt_size e
  have f3 : ∀ b ∈ fp, FpOk X pins (upd H2 D o0) b ∧ b < s3.heap.objs.size := fun b hb => by
    have hlt := sz b hb
    refine ⟨⟨?_, (f2 b hb).2⟩, by rw [h3, Heap.size_push]; exact Nat.lt_succ_of_lt hlt⟩
    rw [upd_ne (by rw [← hD]; exact Nat.ne_of_lt hlt)]
    exact (f2 b hb).1
  have st3 : tn 0 s3.heap := T.keep _ _ _ st2 fun b _ o e => by
    rw [h3]
    exact Heap.get?_push_of_some _ e
  have I4 := block_start I3 ok hN f3
  have pg := hg s3 (upd H2 D o0) s3.heap.objs.size (cellsFrom (s3.heap.objs.size + 1) scope.names (cloFrom X.env.cells scope.names [])) fp
  have pt := ht s3 (upd H2 D o0) s3.heap.objs.size (cellsFrom (s3.heap.objs.size + 1) scope.names (cloFrom X.env.cells scope.names [])) fp
  have pb := hb D s3 (upd H2 D o0) s3.heap.objs.size (cellsFrom (s3.heap.objs.size + 1) scope.names (cloFrom X.env.cells scope.names [])) fp
  show codeAny _ _ (.compStart c 0 (.ref it) (.ref D) (compEnvC scope (cellsFrom (s3.heap.objs.size + 1) scope.names (cloFrom X.env.cells scope.names [])) s3.heap.objs.size X.env)) (compPost (model X.prog X.w) X.A X.xe use Qf (.ref D) s3.heap.objs.size) { s3 with heap := pushCells (s3.heap.push { cls := .type "dict", data := .dict #[] }) scope.names }
  have nfp : ∀ b ∈ fp, (upd H2 D o0) b = none := fun b hb => (f3 b hb).1.1
  generalize hce : compEnvC scope (cellsFrom (s3.heap.objs.size + 1) scope.names (cloFrom X.env.cells scope.names [])) s3.heap.objs.size X.env = ce at I4 pg pt pb ⊢
  have cL : ce.locals = s3.heap.objs.size := by
    subst hce
    rfl
  generalize hH3 : upd H2 D o0 = H3 at I3 I4 pg pt pb w0 nfp f3
  generalize hs4 : ({ s3 with heap := pushCells (s3.heap.push { cls := .type "dict", data := .dict #[] }) scope.names } : Shared) = s4 at I4 ⊢
  have st4 : tn 0 s4.heap := T.keep _ _ _ st3 fun b _ o e => by
    rw [← hs4]
    exact pushCells_keeps _ _ _ _ (Heap.get?_push_of_some _ e)
  have stat : ∀ {σ' : L2.St} {H' : Hp} {s' : Shared}, Inv (X.blk s3 H3 scope ce fp) [] σ' H' s' → (∀ b ∈ fp, H' b = none) → ∀ b ∈ fp, FpOk (X.blk s3 H3 scope ce fp) [] H' b := fun {σ' H' s'} I' hn b hb =>
    ⟨hn b hb, (I'.ok.exf b hb).1, I'.ok.exfs b hb, .inl hb, fun x c e => (I'.ok.exf b hb).2 x c e, fun p hp => absurd (show p ∈ ([] : List (Addr × Obj)) ++ [] from hp) (by simp)⟩
  have loop : codeAny (model X.prog X.w) X.A (.compLoop c 0 (.ref it) (.ref D) ce) (compPost (model X.prog X.w) X.A X.xe use Qf (.ref D) s3.heap.objs.size) s4 := by
    refine loop_any hp (hturn D (.ref it) ce) (fun n s' => ∃ i H', Inv (X.blk s3 H3 scope ce fp) [] (wipe σ (own.map (·.2))) H' s' ∧ tn i s'.heap ∧ (∀ b ∈ fp, H' b = none) ∧ W i n H') ?_ m0 ⟨0, H3, I4, st4, nfp, w0⟩
    rintro n s5 ⟨i, H5, I5, st5, n5, w5⟩
    rcases turn i n H5 w5 with ⟨stop, qq⟩ | ⟨go, Nx, hNx, step⟩
    · refine thnF (T.done (X.blk s3 H3 scope ce fp) rfl rfl rfl hc i [] s5 _ H5 (fun _ _ => False) I5 (stat I5 n5) st5 stop) fun r s6 ⟨hr, I6⟩ => ?_
      subst hr
      have I7 : Inv X pins σ H5 s6 := I3.call' (ch := fp) I6.os I6.base I6.hok I6.bare fun b hb => ⟨(f3 b hb).1.2.2.2.1, (f3 b hb).1.2.1, (f3 b hb).1.2.2.2.2.1, (f3 b hb).1.2.2.2.2.2⟩
      have nC : H5 s3.heap.objs.size = none := by
        have z : H5 ce.locals = none := I6.free
        rw [cL] at z
        exact z
      obtain ⟨m, hn, _⟩ := I6.loc
      have hn : s6.heap.Ns ce.locals m := hn
      rw [cL] at hn
      exact hRR D s3.heap.objs.size s6 m H5 I7 qq hn (I3.fpOk (Nat.le_refl _) nC)
    · refine thnF (T.item (X.blk s3 H3 scope ce fp) rfl rfl rfl hc i [] s5 _ H5 (fun _ _ => False) I5 (stat I5 n5) st5 go) fun r s6 ⟨u, hr, h6⟩ => ?_
      subst hr
      refine thnF h6 fun _ s7 ⟨x, H7, I7, r7, y7, st7, n7⟩ => ?_
      have I7' := I7.pinned (stat I7 n7) (T.obj _ _ st7)
      refine thnF (pg.run _ s7 _ H7 x u _ I7' r7 (step x H7 y7)) fun _ s8 ⟨σ8, H8, I8, hw8, q8⟩ => ?_
      refine thnF (pt.run _ s8 σ8 H8 _ I8 q8) fun b s9 ⟨H9, I9, q9⟩ => ?_
      have fin : ∀ {τ : L2.St} {s' : Shared} {H' : Hp}, Inv (X.blk s3 H3 scope ce fp) ([] ++ pinsAt fp s7.heap) τ H' s' → (wipe σ (own.map (·.2))).length = τ.length → (∀ (j : Nat) v, (wipe σ (own.map (·.2)))[j]? = some (some v) → τ[j]? = some (some v)) → Nx H' →
          ∃ m, m < n ∧ ∃ i H', Inv (X.blk s3 H3 scope ce fp) [] (wipe σ (own.map (·.2))) H' s' ∧ tn i s'.heap ∧ (∀ b ∈ fp, H' b = none) ∧ W i m H' := fun {τ s' H'} I' hl hk nx => by
        obtain ⟨m', hm, w'⟩ := hNx H' nx
        have pin' : ∀ b ∈ fp, ∀ o, s7.heap.get? b = some o → s'.heap.get? b = some o ∧ H' b = none := fun b hb o e =>
          let z := I'.pin (b, o) (List.mem_append_right _ (List.mem_append_right _ (mem_pinsAt hb e)))
          ⟨z.1, z.2.1⟩
        refine ⟨m', hm, i + 1, H', (I'.unpinned (pins := [])).weak hl hk, T.keep _ _ _ st7 fun b hb o e => (pin' b hb o e).1, fun b hb => ?_, w'⟩
        obtain ⟨o, e, _⟩ := T.obj _ _ st7 b hb
        exact (pin' b hb o e).2
      have hl8 : (wipe σ (own.map (·.2))).length = σ8.length := by rw [← hw8, wipe_length]
      cases b with
      | false =>
        simp only [Bool.false_eq_true, if_false] at q9 ⊢
        exact fin I9 hl8 (fun j v e => (wipe_some (hw8 ▸ e : (wipe σ8 (own.map (·.2)))[j]? = some (some v))).1) q9
      | true =>
        simp only [if_true] at q9 ⊢
        refine fun k2 Q2 E2 h2 => pb _ s9 σ8 H9 Nx I9 q9 k2 Q2 E2 fun s10 ⟨H10, I10, q10⟩ => h2 s10 ?_
        exact fin I10 (hl8.trans (wipe_length σ8 ws).symm) (fun j v e => wipe_keep hw8 hw j v e) q10
  exact start_any hp (by rw [hcl]; rfl) rfl loop (T.self X.A 0 _ _ _ st4 loop)
/-- a value that is gathered -/
theorem pe_gc {c : Expr} {tg iter : Expr} {ifs : List Expr} {gs : List Comprehension} {scope : Scope} {own : List (Str × Nat)} {ws : List Nat} {pos' : Pos} {newAcc : Sem Value} {o0 : HO} {ob : Obj} {bd : Addr → Env → Sem Fin → Sem Fin} {wi : TI} {g : TG} {tt : TT} {tb : Addr → (Hp → Prop) → L2.St → Hp → Prop}
    (hev : eval c X.env = comprehension c scope X.env pos' newAcc false (eval iter X.env)) (hp : Plain c) (hcl : clausesOf c = ⟨tg, iter, ifs, 0⟩ :: gs) (hto : Into X newAcc o0 ob) (hturn : ∀ D it ce, compTurn c 0 it (.ref D) ce = turnOf c 0 it (.ref D) ce tg iter ifs (bd D ce))
    (hc : X.calm = true) (hN : X.N.Nodup) (hi : PI X tg iter wi) (ok : BlkOk X.N X.env.scope scope own) (hw : ∀ j ∈ ws, j ∈ own.map (·.2))
    (hg : ∀ (s : Shared) (H : Hp) (C : Addr) (cl : List (Str × Addr)) (fp : List Addr), PG (X.blk s H scope (compEnvC scope cl C X.env) fp) tg g) (ht : ∀ (s : Shared) (H : Hp) (C : Addr) (cl : List (Str × Addr)) (fp : List Addr), PTs (X.blk s H scope (compEnvC scope cl C X.env) fp) ifs tt)
    (hb : ∀ (D : Addr) (s : Shared) (H : Hp) (C : Addr) (cl : List (Str × Addr)) (fp : List Addr), Body (X.blk s H scope (compEnvC scope cl C X.env) fp) (bd D (compEnvC scope cl C X.env)) ws (tb D))
    (hs : ∀ x, foldedSetIterable iter X.env x = pure x := by intro _; rfl) : PE X c (tGc o0 wi g tt (own.map (·.2)) tb) := by
  refine ⟨fun pins s σ H Q I h => ?_⟩
  rw [hev]
  refine gc_core hp hcl hto hturn hc hN I hi ok hw hg ht hb hs h fun D C s' m H' I' q hn f => ⟨m, hn, fun h'' sb => ?_⟩
  obtain ⟨f0, f1, f2, f3, f4, f5⟩ := f
  exact ⟨.ref D, H', I'.turned (t' := s'.toks) (fun b o hb e => (sb.2 b hb).trans e) f0 f1 f3 f4 f5, rfl, q⟩
/-- name = what is gathered, on one line -/
theorem ps_setGc {i : Nat} {y : Str} {py : Pos} {c : Expr} {tg iter : Expr} {ifs : List Expr} {gs : List Comprehension} {scope : Scope} {own : List (Str × Nat)} {ws : List Nat} {pos' spos : Pos} {newAcc : Sem Value} {o0 : HO} {ob : Obj} {bd : Addr → Env → Sem Fin → Sem Fin} {wi : TI} {g : TG} {tt : TT} {tb : Addr → (Hp → Prop) → L2.St → Hp → Prop}
    (hy : X.N[i]? = some y) (hyl : X.env.scope.names.lookup y = some .local) (hsw : swapsWith c (some (.Name y py)) spos.line X.env = pure true)
    (hex : ∀ use, evalThenUse c X.env use = (do let _ ← comprehension c scope X.env pos' newAcc false (eval iter X.env) (some use)))
    (hp : Plain c) (hcl : clausesOf c = ⟨tg, iter, ifs, 0⟩ :: gs) (hto : Into X newAcc o0 ob) (hturn : ∀ D it ce, compTurn c 0 it (.ref D) ce = turnOf c 0 it (.ref D) ce tg iter ifs (bd D ce))
    (hc : X.calm = true) (hN : X.N.Nodup) (hi : PI X tg iter wi) (ok : BlkOk X.N X.env.scope scope own) (hw : ∀ j ∈ ws, j ∈ own.map (·.2))
    (hg : ∀ (s : Shared) (H : Hp) (C : Addr) (cl : List (Str × Addr)) (fp : List Addr), PG (X.blk s H scope (compEnvC scope cl C X.env) fp) tg g) (ht : ∀ (s : Shared) (H : Hp) (C : Addr) (cl : List (Str × Addr)) (fp : List Addr), PTs (X.blk s H scope (compEnvC scope cl C X.env) fp) ifs tt)
    (hb : ∀ (D : Addr) (s : Shared) (H : Hp) (C : Addr) (cl : List (Str × Addr)) (fp : List Addr), Body (X.blk s H scope (compEnvC scope cl C X.env) fp) (bd D (compEnvC scope cl C X.env)) ws (tb D))
    (hs : ∀ x, foldedSetIterable iter X.env x = pure x := by intro _; rfl) : PS X (.Assign [.Name y py] c spos) (tAsg (tGc o0 wi g tt (own.map (·.2)) tb) (gName i)) := by
  refine ⟨fun pins s σ H D I h => ?_⟩
  rw [exec_Assign_Name_used _ _ _ _ hsw, hex]
  refine wpAny_bind (wpAny_standAt (wpAny_bind (wpAny_bind ?_)))
  have h : tGc o0 wi g tt (own.map (·.2)) tb σ H (fun x H1 => gName i x σ H1 D.nx) := h
  refine thn (gc_core (Qf := fun _ s' => SP X pins D .next s') hp hcl hto hturn hc hN I hi ok hw hg ht hb hs h fun L C s' m H' I' q hn f => ?_) fun _ s' hq => wpAny_pure (wpAny_pure hq)
  show wpAny _ _ (assign (.Name y py) X.env (.ref L)) _ _ _
  refine wpAny_assign_Name (store_ok2 (v := V.ref L) I' hN hy (.inl hyl) rfl (fun s2 I2 ⟨a, sb, ha⟩ => ?_) (.inr hyl))
  obtain ⟨f0, f1, f2, f3, f4, f5⟩ := f
  have haC : C ≠ a := by
    rcases ha with z | z
    · rw [z]
      exact f1
    · exact fun e => f4 y a z e.symm
  refine ⟨m, hn.sameBut sb haC, fun h3 sb3 => ?_⟩
  exact ⟨_, H', I2.turned (t' := s2.toks) (fun b o hb e => (sb3.2 b hb).trans e) f0 f1 f3 f4 f5, q⟩
/-- an item for a list -/
def tbL (te : TE) : Addr → (Hp → Prop) → L2.St → Hp → Prop := fun D Nx σ H => te σ H fun y H4 => ∃ acc, H4 D = some (.lst acc) ∧ acc.length < sizeLine ∧ Nx (upd H4 D (.lst (acc ++ [y])))
def bdL (elt : Expr) : Addr → Env → Sem Fin → Sem Fin := fun D env k => do
  (do
    let _ ← call (.builtin "list.append") [.ref D, ← eval elt env]
    pure PUnit.unit : Sem PUnit)
  k
theorem body_list {s0 : Shared} {H0 : Hp} {scope : Scope} {ce : Env} {fp : List Addr} {elt : Expr} {te : TE} {D : Addr} (he : PE (X.blk s0 H0 scope ce fp) elt te) : Body (X.blk s0 H0 scope ce fp) (bdL elt D ce) [] (tbL te D) := by
  intro pins s σ H Nx I h kk QQ EE hkk
  unfold bdL
  refine wpAny_bind (wpAny_bind (thnF (he.run pins s σ H _ I h) fun z s1 ⟨yv, H1, I1, r1, acc, hD, hz, nx⟩ => ?_))
  exact wpAny_bind (app_ok (X := X.blk s0 H0 scope ce fp) I1 hD hz r1 fun s2 I2 => wpAny_pure (hkk s2 ⟨_, I2, nx⟩))
/-- a key and a value for a dict -/
def tbD (tk tv : TE) : Addr → (Hp → Prop) → L2.St → Hp → Prop := fun D Nx σ H => tk σ H fun y H1 => tv σ H1 fun z H2 => ∃ H3, DPut H2 D y z H3 ∧ Nx H3
def bdD (k v : Expr) : Addr → Env → Sem Fin → Sem Fin := fun D env kk => do
  (do
    let kv ← eval k env
    let vv ← holding [kv] (eval v env)
    standAt { k.pos with endLine := v.pos.endLine, endCol := v.pos.endCol }
    holding [kv, vv] (dictSet D kv vv) : Sem Unit)
  kk
theorem d_putAny {pins : List (Addr × Obj)} {σ : L2.St} {H H' : Hp} {s : Shared} {E : Value → Shared → Prop} {a : Addr} {y v : V} {u r : Value} {Q : Unit → Shared → Prop} (hu : X.A.units + 1 < cLine) (I : Inv X pins σ H s) (g : DPut H a y v H') (ry : RelV y u) (rv : RelV v r)
    (h : ∀ s', Inv X pins σ H' s' → Q () s') : wpAny (model X.prog X.w) X.A (dictSet a u r) Q E s := by
  rcases g with ⟨kvs, k, e, ey, l, eH⟩ | ⟨kvs, k, b, e, ey, eb, l, eH⟩
  · subst ey eH
    exact d_dictSet I e l ry rv h
  · subst ey eH
    cases (show u = Value.ref b from ry)
    obtain ⟨z, hd, xs, rel, dd⟩ := dt_of I.hok e
    have hz : xs.length ≤ sizeLine := by
      rw [← Paired.length rel]
      exact z
    have hl : (putK kvs k v).length ≤ sizeLine := by
      have := length_putK kvs k v
      omega
    refine wpAny_dictSet_heap (hsz := hz) (show X.A.units < cLine by omega) (key_of I.hok eb) dd fun h' dd' hs => h _ ?_
    obtain ⟨q, es, ep, hq, h2, h3, h4, _, h5⟩ := dd'
    refine d_write I (by rw [e]; exact True.intro) hs ⟨q, hq⟩ ⟨hl, hd, _, (rel.put k eb rv).keeps fun c ys ec => ?_, q, es, ep, hq, h2, h3, h4, h5⟩
    rw [upd_ne (ne_of ec e (fun z => nomatch z))]
    exact ec
theorem body_dict {s0 : Shared} {H0 : Hp} {scope : Scope} {ce : Env} {fp : List Addr} {k v : Expr} {tk tv : TE} {D : Addr} (hu : X.A.units + 1 < cLine) (hk : PE (X.blk s0 H0 scope ce fp) k tk) (hv : PE (X.blk s0 H0 scope ce fp) v tv) :
    Body (X.blk s0 H0 scope ce fp) (bdD k v D ce) [] (tbD tk tv D) := by
  intro pins s σ H Nx I h kk QQ EE hkk
  unfold bdD
  refine wpAny_bind (wpAny_bind (thnF (hk.run pins s σ H _ I h) fun z s1 ⟨y, H1, I1, r1, q1⟩ => ?_))
  refine wpAny_bind (wpAny_holding (thnF (hv.run pins s1 σ H1 _ I1 q1) fun z2 s2 ⟨y2, H2, I2, r2, H3, p3, nx⟩ => ?_))
  exact wpAny_bind (wpAny_standAt (wpAny_holding (d_putAny (X := X.blk s0 H0 scope ce fp) hu I2 p3 r1 r2 fun s3 I3 => hkk s3 ⟨_, I3, nx⟩)))
end
end Gc

set_option Elab.async false
set_option maxRecDepth 100000
set_option maxHeartbeats 4000000
namespace Gc
open PySem PySem.Spec PyProof.Rows L2
theorem sw_dict {k v : Expr} {gs : List Comprehension} {scope : Scope} {pos py : Pos} {y : Str} {l : Nat} {env : Env} (hk : env.scope.kind = .function) (hy : env.scope.names.lookup y = some .local) (hl : (py.line == pos.line) = true)
    (ha : (scope.names.any fun (n, k) => n == y && (k == .local || k == .cell)) = false) : swapsWith (.DictComp k v gs scope pos) (some (.Name y py)) l env = pure true := by
  have ky : env.kindOf y = some .local := hy
  have hb : env.blockKind = .function := by
    unfold Env.blockKind
    rw [hk]
    rfl
  unfold swapsWith
  simp only [hb, ky, ha, Expr.pos, hl]
  rfl
section
variable {X : Cx}
/-- name = {k: v for tg in iter if ..} -/
theorem ps_setD {i : Nat} {y : Str} {py : Pos} {kx vx tg iter : Expr} {ifs : List Expr} {scope : Scope} {own : List (Str × Nat)} {pos spos : Pos} {o0 : HO} {wi : TI} {g : TG} {tt : TT} {tk tv : TE} (hto : Into X newDict o0 { cls := .type "dict", data := .dict #[] })
    (hu : X.A.units + 1 < cLine) (hc : X.calm = true) (hN : X.N.Nodup) (hy : X.N[i]? = some y) (hyl : X.env.scope.names.lookup y = some .local) (hsw : swapsWith (.DictComp kx vx [⟨tg, iter, ifs, 0⟩] scope pos) (some (.Name y py)) spos.line X.env = pure true)
    (hi : PI X tg iter wi) (ok : BlkOk X.N X.env.scope scope own)
    (hg : ∀ (s : Shared) (H : Hp) (C : Addr) (cl : List (Str × Addr)) (fp : List Addr), PG (X.blk s H scope (compEnvC scope cl C X.env) fp) tg g) (ht : ∀ (s : Shared) (H : Hp) (C : Addr) (cl : List (Str × Addr)) (fp : List Addr), PTs (X.blk s H scope (compEnvC scope cl C X.env) fp) ifs tt)
    (hk : ∀ (s : Shared) (H : Hp) (C : Addr) (cl : List (Str × Addr)) (fp : List Addr), PE (X.blk s H scope (compEnvC scope cl C X.env) fp) kx tk) (hv : ∀ (s : Shared) (H : Hp) (C : Addr) (cl : List (Str × Addr)) (fp : List Addr), PE (X.blk s H scope (compEnvC scope cl C X.env) fp) vx tv)
    (hs : ∀ x, foldedSetIterable iter X.env x = pure x := by intro _; rfl) : PS X (.Assign [.Name y py] (.DictComp kx vx [⟨tg, iter, ifs, 0⟩] scope pos) spos) (tAsg (tGc o0 wi g tt (own.map (·.2)) (tbD tk tv)) (gName i)) :=
  ps_setGc (ws := []) (bd := bdD kx vx) hy hyl hsw (fun _ => rfl) (plain_dict _ _ _ _ _) rfl hto (fun _ _ _ => rfl) hc hN hi ok (fun _ z => nomatch z) hg ht (fun D s H C cl fp => body_dict hu (hk s H C cl fp) (hv s H C cl fp)) hs
/-- {k: v for tg in iter if ..} -/
theorem pe_D {kx vx tg iter : Expr} {ifs : List Expr} {scope : Scope} {own : List (Str × Nat)} {pos : Pos} {o0 : HO} {wi : TI} {g : TG} {tt : TT} {tk tv : TE} (hto : Into X newDict o0 { cls := .type "dict", data := .dict #[] })
    (hu : X.A.units + 1 < cLine) (hc : X.calm = true) (hN : X.N.Nodup) (hi : PI X tg iter wi) (ok : BlkOk X.N X.env.scope scope own)
    (hg : ∀ (s : Shared) (H : Hp) (C : Addr) (cl : List (Str × Addr)) (fp : List Addr), PG (X.blk s H scope (compEnvC scope cl C X.env) fp) tg g) (ht : ∀ (s : Shared) (H : Hp) (C : Addr) (cl : List (Str × Addr)) (fp : List Addr), PTs (X.blk s H scope (compEnvC scope cl C X.env) fp) ifs tt)
    (hk : ∀ (s : Shared) (H : Hp) (C : Addr) (cl : List (Str × Addr)) (fp : List Addr), PE (X.blk s H scope (compEnvC scope cl C X.env) fp) kx tk) (hv : ∀ (s : Shared) (H : Hp) (C : Addr) (cl : List (Str × Addr)) (fp : List Addr), PE (X.blk s H scope (compEnvC scope cl C X.env) fp) vx tv)
    (hs : ∀ x, foldedSetIterable iter X.env x = pure x := by intro _; rfl) : PE X (.DictComp kx vx [⟨tg, iter, ifs, 0⟩] scope pos) (tGc o0 wi g tt (own.map (·.2)) (tbD tk tv)) :=
  pe_gc (ws := []) (bd := bdD kx vx) (arm_eval_DictComp _ _ _ _ _ _) (plain_dict _ _ _ _ _) rfl hto (fun _ _ _ => rfl) hc hN hi ok (fun _ z => nomatch z) hg ht (fun D s H C cl fp => body_dict hu (hk s H C cl fp) (hv s H C cl fp)) hs
/-- [e for a in x for b in y for c in z] -/
theorem pe_L3 {elt t0 i0 t1 i1 t2 i2 : Expr} {scope : Scope} {own : List (Str × Nat)} {v1 v2 : List Nat} {pos : Pos} {w0 w1 w2 : TI} {g0 g1 g2 : TG} {te : TE} (hc : X.calm = true) (hN : X.N.Nodup) (hi : PI X t0 i0 w0) (ok : BlkOk X.N X.env.scope scope own) (h1 : ∀ j ∈ v1, j ∈ own.map (·.2)) (h2 : ∀ j ∈ v2, j ∈ v1)
    (hg0 : ∀ (s : Shared) (H : Hp) (C : Addr) (cl : List (Str × Addr)) (fp : List Addr), PG (X.blk s H scope (compEnvC scope cl C X.env) fp) t0 g0)
    (hi1 : ∀ (s : Shared) (H : Hp) (C : Addr) (cl : List (Str × Addr)) (fp : List Addr), PI (X.blk s H scope (compEnvC scope cl C X.env) fp) t1 i1 w1) (hg1 : ∀ (s : Shared) (H : Hp) (C : Addr) (cl : List (Str × Addr)) (fp : List Addr), PG (X.blk s H scope (compEnvC scope cl C X.env) fp) t1 g1)
    (hi2 : ∀ (s : Shared) (H : Hp) (C : Addr) (cl : List (Str × Addr)) (fp : List Addr), PI (X.blk s H scope (compEnvC scope cl C X.env) fp) t2 i2 w2) (hg2 : ∀ (s : Shared) (H : Hp) (C : Addr) (cl : List (Str × Addr)) (fp : List Addr), PG (X.blk s H scope (compEnvC scope cl C X.env) fp) t2 g2)
    (he : ∀ (s : Shared) (H : Hp) (C : Addr) (cl : List (Str × Addr)) (fp : List Addr), PE (X.blk s H scope (compEnvC scope cl C X.env) fp) elt te)
    (hs : ∀ x, foldedSetIterable i0 X.env x = pure x := by intro _; rfl) (hs1 : ∀ env x, foldedSetIterable i1 env x = pure x := by intro _ _; rfl) (hs2 : ∀ env x, foldedSetIterable i2 env x = pure x := by intro _ _; rfl) :
    PE X (.ListComp elt [⟨t0, i0, [], 0⟩, ⟨t1, i1, [], 0⟩, ⟨t2, i2, [], 0⟩] scope pos) (tGc (.lst []) w0 g0 tYes (own.map (·.2)) (fun D => tIn w1 g1 tYes v1 (tIn w2 g2 tYes v2 (tbL te D)))) :=
  pe_gc (ws := v1) (bd := fun D env => deeper (.ListComp elt [⟨t0, i0, [], 0⟩, ⟨t1, i1, [], 0⟩, ⟨t2, i2, [], 0⟩] scope pos) 1 (.ref D) env i1) (eval_ListComp _ _ _ _) (plain_list _ _ _ _) rfl into_list (fun _ _ _ => rfl) hc hN hi ok h1 hg0 (fun _ _ _ _ _ => pts_nil)
    (fun D s H C cl fp => body_in hc (plain_list _ _ _ _) (bd := deeper (.ListComp elt [⟨t0, i0, [], 0⟩, ⟨t1, i1, [], 0⟩, ⟨t2, i2, [], 0⟩] scope pos) 2 (.ref D) (compEnvC scope cl C X.env) i2) (fun _ => rfl) rfl (hs1 _) (hi1 s H C cl fp) (hg1 s H C cl fp) pts_nil
      (body_in hc (plain_list _ _ _ _) (bd := bdL elt D (compEnvC scope cl C X.env)) (ws := []) (fun _ => rfl) rfl (hs2 _) (hi2 s H C cl fp) (hg2 s H C cl fp) pts_nil (body_list (he s H C cl fp)) (fun _ z => nomatch z)) h2) hs
end
end Gc

set_option Elab.async false
set_option maxRecDepth 100000
/-! The pen: a dict that every law draws from. -/
namespace Fk
open PySem L2
def top (i : Nat) : Stmt := PySem.Challenge.pw_everyfoe_k05_linear_kinds.main.body.getD i (.Pass ⟨0, 0, 0, 0⟩)
abbrev sPen : Stmt := top 21
abbrev sDraw : Stmt := top 22
abbrev sPick : Stmt := top 23
/-! ### the dict of a pen -/
theorem n_ca : ¬ (("cells" : Str) = "at") := by decide +kernel
theorem n_cd : ¬ (("cells" : Str) = "digits") := by decide +kernel
theorem n_cc : ¬ (("cells" : Str) = "count") := by decide +kernel
theorem n_cf : ¬ (("cells" : Str) = "fold") := by decide +kernel
theorem n_ac : ¬ (("at" : Str) = "cells") := by decide +kernel
theorem n_ad : ¬ (("at" : Str) = "digits") := by decide +kernel
theorem n_an : ¬ (("at" : Str) = "count") := by decide +kernel
theorem n_af : ¬ (("at" : Str) = "fold") := by decide +kernel
theorem n_dc : ¬ (("digits" : Str) = "cells") := by decide +kernel
theorem n_da : ¬ (("digits" : Str) = "at") := by decide +kernel
theorem n_dn : ¬ (("digits" : Str) = "count") := by decide +kernel
theorem n_df : ¬ (("digits" : Str) = "fold") := by decide +kernel
theorem n_nc : ¬ (("count" : Str) = "cells") := by decide +kernel
theorem n_na : ¬ (("count" : Str) = "at") := by decide +kernel
theorem n_nd : ¬ (("count" : Str) = "digits") := by decide +kernel
theorem n_nf : ¬ (("count" : Str) = "fold") := by decide +kernel
theorem n_fc : ¬ (("fold" : Str) = "cells") := by decide +kernel
theorem n_fa : ¬ (("fold" : Str) = "at") := by decide +kernel
theorem n_fd : ¬ (("fold" : Str) = "digits") := by decide +kernel
theorem n_fn : ¬ (("fold" : Str) = "count") := by decide +kernel
def penK (l : Addr) (a d c f : Int) : List (Key × V) := [(Sum.inr "cells", .ref l), (Sum.inr "at", .int a), (Sum.inr "digits", .int d), (Sum.inr "count", .int c), (Sum.inr "fold", .int f)]
section
variable {l : Addr} {a d c f y : Int} {H : Hp} {p : Addr}
theorem put_at : putK (penK l a d c f) (Sum.inr "at") (.int y) = penK l y d c f := by
  simp only [putK, penK, List.any_cons, List.map_cons, List.map_nil, Sum.inr.injEq, n_ca, n_da, n_na, n_fa, decide_true, decide_false, Bool.true_or, Bool.or_true, if_true, if_false]
theorem put_digits : putK (penK l a d c f) (Sum.inr "digits") (.int y) = penK l a y c f := by
  simp only [putK, penK, List.any_cons, List.map_cons, List.map_nil, Sum.inr.injEq, n_cd, n_ad, n_nd, n_fd, decide_true, decide_false, Bool.true_or, Bool.or_true, if_true, if_false]
theorem put_count : putK (penK l a d c f) (Sum.inr "count") (.int y) = penK l a d y f := by
  simp only [putK, penK, List.any_cons, List.map_cons, List.map_nil, Sum.inr.injEq, n_cc, n_an, n_dn, n_fn, decide_true, decide_false, Bool.true_or, Bool.or_true, if_true, if_false]
theorem put_fold : putK (penK l a d c f) (Sum.inr "fold") (.int y) = penK l a d c y := by
  simp only [putK, penK, List.any_cons, List.map_cons, List.map_nil, Sum.inr.injEq, n_cf, n_af, n_df, n_nf, decide_true, decide_false, Bool.true_or, Bool.or_true, if_true, if_false]
theorem put_new {kvs : List (Key × V)} {x : Str} {v : V} (h : ∀ kv ∈ kvs, ¬ kv.1 = Sum.inr x) : putK kvs (Sum.inr x) v = kvs ++ [(Sum.inr x, v)] := by
  unfold putK
  rw [if_neg]
  intro e
  rw [List.any_eq_true] at e
  obtain ⟨kv, hm, hd⟩ := e
  exact h kv hm (of_decide_eq_true hd)
theorem merge5 : mergeK [] (([(Sum.inr "cells", .ref l), (Sum.inr "at", .int a), (Sum.inr "digits", .int d), (Sum.inr "count", .int c), (Sum.inr "fold", .int f)] : List (Key × V))) = penK l a d c f := by
  show putK (putK (putK (putK (putK ([] : List (Key × V)) (Sum.inr "cells" : Key) (.ref l)) (Sum.inr "at" : Key) (.int a)) (Sum.inr "digits" : Key) (.int d)) (Sum.inr "count" : Key) (.int c)) (Sum.inr "fold" : Key) (.int f) = penK l a d c f
  simp only [putK, penK, List.any_nil, List.nil_append, List.any_cons, List.map_cons, List.map_nil, List.cons_append, Sum.inr.injEq, n_ca, n_cd, n_ad, n_cc, n_an, n_dn, n_cf, n_af, n_df, n_nf, decide_false, Bool.or_false, Bool.false_eq_true, if_false]
theorem val_cells : valV (penK l a d c f) (Sum.inr "cells") = some (.ref l) := valV_pos rfl
theorem val_at : valV (penK l a d c f) (Sum.inr "at") = some (.int a) := (valV_neg fun z => n_ca (Sum.inr.inj z)).trans (valV_pos rfl)
theorem val_digits : valV (penK l a d c f) (Sum.inr "digits") = some (.int d) := (valV_neg fun z => n_cd (Sum.inr.inj z)).trans ((valV_neg fun z => n_ad (Sum.inr.inj z)).trans (valV_pos rfl))
theorem val_count : valV (penK l a d c f) (Sum.inr "count") = some (.int c) := (valV_neg fun z => n_cc (Sum.inr.inj z)).trans ((valV_neg fun z => n_an (Sum.inr.inj z)).trans ((valV_neg fun z => n_dn (Sum.inr.inj z)).trans (valV_pos rfl)))
theorem val_fold : valV (penK l a d c f) (Sum.inr "fold") = some (.int f) := (valV_neg fun z => n_cf (Sum.inr.inj z)).trans ((valV_neg fun z => n_af (Sum.inr.inj z)).trans ((valV_neg fun z => n_df (Sum.inr.inj z)).trans ((valV_neg fun z => n_nf (Sum.inr.inj z)).trans (valV_pos rfl))))
theorem g_cells (h : H p = some (.dK (penK l a d c f))) : DGet H p (.str "cells") (some (.ref l)) := val_cells ▸ DGet.k (k := Sum.inr "cells") h
theorem g_at (h : H p = some (.dK (penK l a d c f))) : DGet H p (.str "at") (some (.int a)) := val_at ▸ DGet.k (k := Sum.inr "at") h
theorem g_digits (h : H p = some (.dK (penK l a d c f))) : DGet H p (.str "digits") (some (.int d)) := val_digits ▸ DGet.k (k := Sum.inr "digits") h
theorem g_count (h : H p = some (.dK (penK l a d c f))) : DGet H p (.str "count") (some (.int c)) := val_count ▸ DGet.k (k := Sum.inr "count") h
theorem g_fold (h : H p = some (.dK (penK l a d c f))) : DGet H p (.str "fold") (some (.int f)) := val_fold ▸ DGet.k (k := Sum.inr "fold") h
theorem len5 : (penK l a d c f).length < sizeLine := small1000 (by show 5 ≤ 1000; decide)
theorem p_at (h : H p = some (.dK (penK l a d c f))) : DPut H p (.str "at") (.int y) (upd H p (.dK (penK l y d c f))) := put_at ▸ DPut.k (k := Sum.inr "at") h len5
theorem p_digits (h : H p = some (.dK (penK l a d c f))) : DPut H p (.str "digits") (.int y) (upd H p (.dK (penK l a y c f))) := put_digits ▸ DPut.k (k := Sum.inr "digits") h len5
theorem p_count (h : H p = some (.dK (penK l a d c f))) : DPut H p (.str "count") (.int y) (upd H p (.dK (penK l a d y f))) := put_count ▸ DPut.k (k := Sum.inr "count") h len5
theorem p_fold (h : H p = some (.dK (penK l a d c f))) : DPut H p (.str "fold") (.int y) (upd H p (.dK (penK l a d c y))) := put_fold ▸ DPut.k (k := Sum.inr "fold") h len5
end
/-- a pen stands at p, c draws were made -/
structure PenAt (H : Hp) (p l : Addr) (c : Int) : Prop where
  ex : ∃ (a d f : Int) (ns : List Int), H p = some (.dK (penK l a d c f)) ∧ H l = some (.lst (ns.map V.int)) ∧ 0 ≤ a ∧ 0 ≤ d ∧ 0 ≤ f ∧ f < 2147483648 ∧ ns.length ≤ 63
  lo : 0 ≤ c
/-- all but what stands at p is as it was -/
def Keep (p : Addr) (H H' : Hp) : Prop := ∀ b o, b ≠ p → H b = some o → H' b = some o
theorem Keep.refl (p : Addr) (H : Hp) : Keep p H H := fun _ _ _ e => e
theorem Keep.trans {p : Addr} {H H1 H2 : Hp} (a : Keep p H H1) (b : Keep p H1 H2) : Keep p H H2 := fun c o n e => b c o n (a c o n e)
theorem Keep.upd {p : Addr} {H : Hp} {o : HO} : Keep p H (upd H p o) := fun b x n e => by
  rw [upd_ne n]
  exact e
theorem Keep.new {p q : Addr} {H : Hp} {o : HO} (h : H q = none) : Keep p H (L2.upd H q o) := fun b x n e => by
  rw [upd_ne (ne_of_none e h)]
  exact e
theorem same_new {H : Hp} {q : Addr} {o : HO} (h : H q = none) : Same H (upd H q o) := fun b x e => by
  rw [upd_ne (ne_of_none e h)]
  exact e
theorem Same.keep {p : Addr} {H H' : Hp} (a : Same H H') : Keep p H H' := fun b o _ e => a b o e
theorem Keep.there {p b : Addr} {H H' : Hp} {o u : HO} (k : Keep p H H') (hp : H p = some u) (h : H b = some o) (d : o ≠ u) : H' b = some o := k b o (fun e => d (by rw [e] at h; exact Option.some.inj (h.symm.trans hp))) h
/-- a pen at p stays where something else is written -/
theorem PenAt.upd {H : Hp} {p l q : Addr} {c : Int} {o : HO} (P : PenAt H p l c) (n : H q = none) : PenAt (L2.upd H q o) p l c := by
  obtain ⟨⟨a, d, f, ns, h1, h2, r⟩, lo⟩ := P
  exact ⟨⟨a, d, f, ns, same_new n _ _ h1, same_new n _ _ h2, r⟩, lo⟩
theorem at_ints {ns : List Int} {i : Nat} {z : Int} (h : ns[i]? = some z) : atI (ns.map V.int) (i : Int) = some (.int z) := atI_nat (by rw [List.getElem?_map, h] <;> rfl)
/-! ### the promises -/
def spPen (K : PySem.W.Frag) : Sp := fun vs H Q _ => ∃ (a : Addr) (ns : List Int), vs = [.ref a] ∧ SqL K H a (ns.map V.int) ∧ ns.length ≤ 63 ∧ ∀ p l H', Same H H' → H p = none → H l = none → PenAt H' p l 0 → Q (.ref p) H'
def spDraw : Sp := fun vs H Q _ => ∃ (p l : Addr) (c many : Int), vs = [.ref p, .int many] ∧ PenAt H p l c ∧ c < 1000000000 ∧ 0 < many ∧ many < 1073741824 ∧
  ∀ (r : Int) (H' : Hp), 0 ≤ r → r < many → PenAt H' p l (c + 1) → Keep p H H' → Q (.int r) H'
def spPick : Sp := fun vs H Q _ => ∃ (p l q : Addr) (c : Int) (xs : List V), vs = [.ref p, .ref q] ∧ PenAt H p l c ∧ c < 1000000000 ∧ H q = some (.lst xs) ∧ 0 < xs.length ∧ xs.length ≤ 1000 ∧
  ∀ (i : Nat) (x : V) (H' : Hp), xs[i]? = some x → PenAt H' p l (c + 1) → Keep p H H' → Q x H'
section
variable {P : Program} {w : World} {K : PySem.W.Frag} {mg : Str → Option Value} {base : Heap}
theorem scPen : FnScope ["_law_script", "_law_fold", "_law_cell"] ["_law_script"] (defScope sPen) := ⟨rfl, rfl, rfl, by decide +kernel, rfl, by decide +kernel, by decide +kernel⟩
theorem ok_pen {k : Nat} {f : Addr} {fd : FuncData} (F : Fun K "_law_pen" "_law_pen" sPen f fd) (mi : mg "int" = none) (ml : mg "list" = none) : FnOk P w K mg base CX0 (k + 1) f fd ["_law_script"] (spPen K) := by
  refine F.ok scPen (fun vs H Q E h => ?_) (fun cdv A outer s H vs Q E hr h => ?_)
  · obtain ⟨a, ns, rfl, _⟩ := h
    rfl
  · obtain ⟨a, ns, rfl, hS, hl, k⟩ := h
    refine ⟨_, pss_cons (ps_set (i := 1) scPen.nd rfl (Or.inl rfl) pe_int)
      (pss_cons (ps_for PassesOwn.never rfl (pi_list (pv 0)) (pg_name (i := 2) scPen.nd rfl (Or.inl rfl))
        (pss_one (ps_set (i := 1) scPen.nd rfl (Or.inl rfl) (pe_op op_mod (pe_callTy call_int1 (by rfl) mi (by decide +kernel) (pa_cons (pe_op op_add (pe_op op_mul (pv 1) pe_int) (pv 2)) pa_nil)) pe_int))))
      (pss_one (ps_ret (pe_disp (pps_cons pe_str (pe_callTy call_list_of (by rfl) ml (by decide +kernel) (pa_cons (pv 0) pa_nil)) (pps_cons pe_str pe_int (pps_cons pe_str pe_int (pps_cons pe_str pe_int (pps_cons pe_str (pv 1) pps_nil))))) (by rfl) (by rfl) (fun z => by cases z) (by decide))))), ?_⟩
    refine ⟨_, rfl, a, rfl, ⟨_, hS⟩, for_list (K := K) (a := a) (xs := ns.map V.int) (fun i σ H2 => ∃ (z : Int) (v : Option V), σ = [some (.ref a), some (.int z), v] ∧ H2 = H ∧ 0 ≤ z ∧ z < 1000000007)
      ⟨0, none, rfl, rfl, by decide, by decide⟩ (fun i σ H2 _ ⟨_, _, _, e, _⟩ => e ▸ hS) ?_ ?_⟩
    · rintro i y σ H2 hi ⟨z, v, rfl, rfl, z0, z1⟩
      obtain ⟨n, rfl⟩ : ∃ n, y = V.int n := by
        rw [List.getElem?_map] at hi
        cases e : ns[i]? with
        | none =>
          rw [e] at hi
          cases hi
        | some n =>
          rw [e] at hi
          exact ⟨n, (Option.some.inj hi).symm⟩
      refine ⟨_, rfl, _, _, rfl, rfl, Or.inr ⟨by decide, by decide⟩, _, rfl, _, _, rfl, rfl, Or.inl ⟨_, rfl, _, _, rfl, rfl, (by show (0 : Int) < 1000000007; decide), ?_⟩⟩
      exact ⟨_, _, rfl, rfl, Int.emod_nonneg _ (by decide), Int.emod_lt_of_pos _ (by decide)⟩
    · rintro σ H2 ⟨z, v, rfl, rfl, z0, z1⟩
      intro p hp
      refine ⟨_, rfl, a, _, rfl, Or.inl ((same_new hp).seq hS), fun l hl' => ?_⟩
      have lp : p ≠ l := ne_of_none upd_same hl'
      refine ⟨_, rfl, ?_, [(Sum.inr "cells", .ref l), (Sum.inr "at", .int 0), (Sum.inr "digits", .int 0), (Sum.inr "count", .int 0), (Sum.inr "fold", .int z)], rfl, by show 5 ≤ 15; decide, ?_⟩
      · rw [upd_ne lp, upd_same]
      · have nl : H2 l = none := by
          rw [upd_ne lp.symm] at hl'
          exact hl'
        refine k p l _ (fun b o e => ?_) hp nl ⟨⟨0, 0, z, ns, ?_, ?_, by decide, by decide, z0, by omega, hl⟩, by decide⟩
        · rw [upd_ne (ne_of_none e hp), upd_ne (ne_of_none e nl), upd_ne (ne_of_none e hp)]
          exact e
        · rw [upd_same, merge5]
        · rw [upd_ne lp.symm, upd_same]
theorem scDraw : FnScope ["_law_pen_here", "_law_many", "_law_cell", "_law_digit", "_law_blend"] ["_law_pen_here", "_law_many"] (defScope sDraw) := ⟨rfl, rfl, rfl, by decide +kernel, rfl, by decide +kernel, by decide +kernel⟩
theorem ok_draw {k : Nat} {f : Addr} {fd : FuncData} (F : Fun K "_law_draw" "_law_draw" sDraw f fd) (mi : mg "int" = none) (ml : mg "len" = none) : FnOk P w K mg base CX0 (k + 1) f fd ["_law_pen_here", "_law_many"] spDraw := by
  refine F.ok scDraw (fun vs H Q E h => ?_) (fun cdv A outer s H vs Q E hr h => ?_)
  · obtain ⟨p, l, c, many, rfl, _⟩ := h
    rfl
  · obtain ⟨p, l, c, many, rfl, ⟨⟨a, d, fo, ns, hp, hl, a0, d0, f0, f1, hn⟩, c0⟩, c1, m0, m1, k⟩ := h
    have hu := hu_of hr
    refine ⟨_, pss_cons (ps_dput hu (pv 0) pe_str (pe_op op_add (pe_dget hu (pv 0) pe_str (fun _ _ => rfl)) pe_int) rfl)
      (C8.pss_cut (ps_if (PW.pt (pw_and (pt_cmpR op_eq (pe_dget hu (pv 0) pe_str (fun _ _ => rfl)) pe_int (nomark _)) (pw_and1 (pt_cmpR op_lt (pe_dget hu (pv 0) pe_str (fun _ _ => rfl)) (pe_callB call_len_seq (by rfl) ml PySem.boot_len (pa_cons (pe_dget hu (pv 0) pe_str (fun _ _ => rfl)) pa_nil)) (nomark _)))))
          (pss_cons (ps_set (i := 2) scDraw.nd rfl (Or.inl rfl) (pe_ix ix_list (pe_dget hu (pv 0) pe_str (fun _ _ => rfl)) (pe_dget hu (pv 0) pe_str (fun _ _ => rfl)) (fun _ _ => rfl)))
          (pss_cons (ps_dput hu (pv 0) pe_str (pe_op op_add (pe_dget hu (pv 0) pe_str (fun _ _ => rfl)) pe_int) rfl)
          (pss_one (ps_if (pt_cmpR op_ge (pv 2) (pe_op op_pow pe_int pe_int) (nomark _))
            (pss_one (ps_dput hu (pv 0) pe_str (pe_op op_sub (pv 2) (pe_op op_pow pe_int pe_int)) rfl))
            (pss_one (ps_dput hu (pv 0) pe_str (pe_op op_mod (pe_callTy call_int1 (by rfl) mi (by decide +kernel) (pa_cons (pe_op op_add (pe_op op_mul (pe_dget hu (pv 0) pe_str (fun _ _ => rfl)) pe_int) (pv 2)) pa_nil)) pe_int) rfl)))))) pss_nil)
      (pss_cons (ps_if (pt_cmpR op_gt (pe_dget hu (pv 0) pe_str (fun _ _ => rfl)) pe_int (nomark _))
          (pss_cons (ps_set (i := 3) scDraw.nd rfl (Or.inl rfl) (pe_op op_modN (pe_callTy call_int1 (by rfl) mi (by decide +kernel) (pa_cons (pe_dget hu (pv 0) pe_str (fun _ _ => rfl)) pa_nil)) (pv 1)))
          (pss_cons (ps_dput hu (pv 0) pe_str (pe_op op_fdivN (pe_dget hu (pv 0) pe_str (fun _ _ => rfl)) (pv 1)) rfl)
          (pss_one (ps_ret (pv 3))))) pss_nil)
      (pss_cons (ps_set (i := 4) scDraw.nd rfl (Or.inl rfl) (pe_op op_add (pe_op op_add (pe_dget hu (pv 0) pe_str (fun _ _ => rfl)) (pe_op op_mul (pe_dget hu (pv 0) pe_str (fun _ _ => rfl)) pe_int)) pe_int))
      (pss_one (ps_ret (pe_op op_modN (pe_op op_fdiv (pe_callTy call_int1 (by rfl) mi (by decide +kernel) (pa_cons (pe_op op_mod (pe_op op_pow (pv 4) pe_int) pe_int) pa_nil)) pe_int) (pv 1))))))), ?_⟩
    refine ⟨_, rfl, p, .int c, rfl, g_count hp, _, _, rfl, rfl, _, rfl, p, _, rfl, p_count hp, ?_⟩
    have lp : l ≠ p := ne_of hl hp (by intro z; cases z)
    refine ⟨fun σ' H' => ∃ (v2 : Option V) (a' d' f' : Int), σ' = [some (.ref p), some (.int many), v2, none, none] ∧ H' p = some (.dK (penK l a' d' (c + 1) f')) ∧ Keep p H H' ∧ 0 ≤ a' ∧ 0 ≤ d' ∧ 0 ≤ f' ∧ f' < 2147483648, ?_, ?_⟩
    · refine ⟨_, rfl, p, .int d, rfl, g_digits upd_same, rfl, _, rfl, ?_⟩
      refine ite2 (fun hd => ?_) (fun hd => ?_)
      · have hl1 : (upd H p (.dK (penK l a d (c + 1) fo))) l = some (.lst (ns.map V.int)) := by
          rw [upd_ne lp]
          exact hl
        refine ⟨_, rfl, p, .int a, rfl, g_at upd_same, _, rfl, p, .ref l, rfl, g_cells upd_same, l, _, rfl, Or.inl (SqL.of hl1), _, _, rfl, rfl, _, rfl, ?_⟩
        refine ite2 (fun ha => ?_) (fun ha => ?_)
        · have ha' : a < (ns.length : Int) := by
            have e := of_decide_eq_true ha
            rw [List.length_map] at e
            exact e
          obtain ⟨z, hz⟩ : ∃ z, ns[a.toNat]? = some z := ⟨ns[a.toNat]'(by omega), List.getElem?_eq_getElem _⟩
          refine ⟨_, rfl, p, .ref l, rfl, g_cells upd_same, _, rfl, p, .int a, rfl, g_at upd_same, l, _, a, .int z, rfl, rfl, SqL.of hl1, ?_, ?_⟩
          · have e := at_ints (ns := ns) hz
            rw [show ((a.toNat : Nat) : Int) = a by omega] at e
            exact e
          refine ⟨_, rfl, p, .int a, rfl, g_at upd_same, _, _, rfl, rfl, _, rfl, p, _, rfl, p_at upd_same, ?_⟩
          refine ⟨_, rfl, 10, 18, rfl, rfl, ⟨by decide, by decide, by decide⟩, _, _, rfl, rfl, _, rfl, ?_⟩
          have e18 : (10 : Int) ^ (18 : Int).toNat = 1000000000000000000 := by decide
          refine ite2 (fun hz => ?_) (fun hz => ?_)
          · have hz' := of_decide_eq_true hz
            rw [e18] at hz'
            refine ⟨_, rfl, 10, 18, rfl, rfl, ⟨by decide, by decide, by decide⟩, _, _, rfl, rfl, _, rfl, p, _, rfl, p_digits upd_same, _, _, _, _, rfl, upd_same, (Keep.upd.trans Keep.upd).trans Keep.upd, by omega, ?_, f0, f1⟩
            rw [e18]
            omega
          · refine ⟨_, rfl, p, .int fo, rfl, g_fold upd_same, _, _, rfl, rfl, Or.inr ⟨by decide, by decide⟩, _, rfl, _, _, rfl, rfl, Or.inl ⟨_, rfl, _, _, rfl, rfl, (by show (0 : Int) < 2147483587; decide), _, rfl, p, _, rfl, p_fold upd_same, ?_⟩⟩
            have e1 := Int.emod_nonneg (fo * 69069 + z) (show (2147483587 : Int) ≠ 0 by decide)
            have e2 := Int.emod_lt_of_pos (fo * 69069 + z) (show (0 : Int) < 2147483587 by decide)
            exact ⟨_, _, _, _, rfl, upd_same, (Keep.upd.trans Keep.upd).trans Keep.upd, by omega, d0, e1, by omega⟩
        · exact ⟨_, _, _, _, rfl, upd_same, Keep.upd, a0, d0, f0, f1⟩
      · exact ⟨_, _, _, _, rfl, upd_same, Keep.upd, a0, d0, f0, f1⟩
    · rintro σ' H2 ⟨v2, a', d', f', rfl, hp2, k2, a0', d0', f0', f1'⟩
      have hl2 : H2 l = some (.lst (ns.map V.int)) := k2 l _ lp hl
      refine ⟨_, rfl, p, .int d', rfl, g_digits hp2, _, _, rfl, rfl, _, rfl, ?_⟩
      refine ite2 (fun hd => ?_) (fun hd => ?_)
      · have hd' := of_decide_eq_true hd
        refine ⟨_, rfl, p, .int d', rfl, g_digits hp2, Or.inl ⟨_, rfl, _, rfl, _, _, rfl, rfl, by omega, ?_⟩⟩
        refine ⟨_, rfl, p, .int d', rfl, g_digits hp2, _, rfl, _, _, rfl, rfl, ⟨by omega, by omega⟩, _, rfl, p, _, rfl, p_digits hp2, _, rfl, ?_⟩
        have em : d'.fmod many = d' % many := Int.fmod_eq_emod_of_nonneg _ (by omega)
        have ed : d'.fdiv many = d' / many := Int.fdiv_eq_ediv_of_nonneg _ (by omega)
        refine k _ _ (by rw [em]; exact Int.emod_nonneg _ (by omega)) (by rw [em]; exact Int.emod_lt_of_pos _ m0) ⟨⟨a', _, f', ns, upd_same, by rw [upd_ne lp]; exact hl2, a0', by rw [ed]; exact Int.ediv_nonneg d0' (by omega), f0', f1', hn⟩, by omega⟩ (k2.trans Keep.upd)
      · refine ⟨_, rfl, p, .int f', rfl, g_fold hp2, _, rfl, p, .int (c + 1), rfl, g_count hp2, _, _, rfl, rfl, Or.inr ⟨by decide, by decide⟩, _, _, rfl, rfl, _, _, rfl, rfl, ?_⟩
        refine ⟨_, rfl, _, 17, rfl, rfl, ⟨by decide, by decide, by omega⟩, _, _, rfl, rfl, (by show (0 : Int) < 2305843009213693951; decide), Or.inl ⟨_, rfl, _, _, rfl, rfl, ⟨by decide, by decide⟩, _, rfl, _, _, rfl, rfl, by omega, ?_⟩⟩
        have em : ∀ z : Int, z.fmod many = z % many := fun z => Int.fmod_eq_emod_of_nonneg _ (by omega)
        exact k _ _ (by rw [em]; exact Int.emod_nonneg _ (by omega)) (by rw [em]; exact Int.emod_lt_of_pos _ m0) ⟨⟨a', d', f', ns, hp2, hl2, a0', d0', f0', f1', hn⟩, by omega⟩ k2
/-- a def that may be called: its promise, its name, how it binds -/
structure Cl (P : Program) (w : World) (K : PySem.W.Frag) (mg : Str → Option Value) (base : Heap) (x : Str) (ps : List Str) (k : Nat) (sp : Sp) (f : Addr) (fd : FuncData) : Prop where
  G : FnOk P w K mg base CX0 k f fd ps sp
  g : mg x = some (.ref f)
  kp : PySem.W.keepIn K (.ref f) = true
  b : Binds K fd ps []
abbrev psDraw : List Str := ["_law_pen_here", "_law_many"]
abbrev psPick : List Str := ["_law_pen_here", "_law_some"]
theorem scPick : FnScope ["_law_pen_here", "_law_some"] ["_law_pen_here", "_law_some"] (defScope sPick) := ⟨rfl, rfl, rfl, by decide +kernel, rfl, by decide +kernel, by decide +kernel⟩
theorem ok_pick {f fD : Addr} {fd fdD : FuncData} (F : Fun K "_law_pick" "_law_pick" sPick f fd) (ml : mg "len" = none) (D : Cl P w K mg base "_law_draw" psDraw 1 spDraw fD fdD) : FnOk P w K mg base CX0 2 f fd psPick spPick := by
  refine F.ok scPick (fun vs H Q E h => ?_) (fun cdv A outer s H vs Q E hr h => ?_)
  · obtain ⟨p, l, q, c, xs, rfl, _⟩ := h
    rfl
  · obtain ⟨p, l, q, c, xs, rfl, hp, c1, hq, x0, x1, k⟩ := h
    refine ⟨_, pss_one (ps_ret (pe_ix ix_list (pv 1) (pe_call D.G hr (by rfl) D.g D.kp D.b .nil pass0 (pa_cons (pv 0) (pa_cons (pe_callB call_len_seq (by rfl) ml PySem.boot_len (pa_cons (pv 1) pa_nil)) pa_nil))) (fun _ _ => rfl))), ?_⟩
    refine ⟨_, rfl, _, rfl, _, rfl, q, xs, rfl, Or.inl (SqL.of hq), p, l, c, (xs.length : Int), rfl, hp, c1, by omega, by omega, fun r H' r0 r1 P' k' => ?_⟩
    have qp : q ≠ p := by
      obtain ⟨⟨a, d, fo, ns, hp', _⟩, _⟩ := hp
      exact ne_of hq hp' (by intro z; cases z)
    have hr2 : r.toNat < xs.length := by omega
    have hx : xs[r.toNat]? = some (xs[r.toNat]'hr2) := List.getElem?_eq_getElem hr2
    refine ⟨q, xs, r, xs[r.toNat]'hr2, rfl, rfl, SqL.of (k' q _ qp hq), ?_, k _ _ H' hx P' k'⟩
    have e := atI_nat hx
    rw [show ((r.toNat : Nat) : Int) = r by omega] at e
    exact e
end
end Fk

set_option Elab.async false
set_option maxRecDepth 100000
namespace Fk
open PySem L2
abbrev sBig : Stmt := top 24
/-! ### a number of at most so many figures -/
theorem digits_lt : ∀ (cs : List Nat) (a : Nat), NumText.AllDigits cs → cs.foldl (fun acc c => acc * 10 + (c - 48)) a < (a + 1) * 10 ^ cs.length
  | [], a, _ => by simp
  | c :: cs, a, h => by
    have hc := h.head
    have ih := digits_lt cs (a * 10 + (c - 48)) h.tail
    rw [List.foldl_cons]
    refine Nat.lt_of_lt_of_le ih ?_
    rw [List.length_cons, Nat.pow_succ, Nat.mul_comm (10 ^ cs.length) 10, ← Nat.mul_assoc]
    exact Nat.mul_le_mul_right _ (by omega)
theorem digitsVal_lt {cs : List Nat} (h : NumText.AllDigits cs) : NumText.digitsVal cs < 10 ^ cs.length := by
  have z := digits_lt cs 0 h
  rw [Nat.zero_add, Nat.one_mul] at z
  exact z
/-- the last figures of a number, read as a number -/
theorem tail_int (n f : Nat) (hf : 0 < f) (hl : (TL.numL n).length ≤ 640) : ∃ r : Nat, PySem.intText? (cutS (Str.ofString (toString ((n : Nat) : Int))) (some (-(f : Int))) none) = some (r : Int) ∧ r < 10 ^ f := by
  have et : (Str.ofString (toString ((n : Nat) : Int))).cps.toList = TL.numL n := TL.tl_num n
  have el : (Str.ofString (toString ((n : Nat) : Int))).length = (TL.numL n).length := by rw [← et] <;> rfl
  have ne := TL.numL_ne n
  have pos : 0 < (TL.numL n).length := List.length_pos_iff.mpr ne
  have ei : HT.sIx (TL.numL n).length 0 (some (-(f : Int))) = (TL.numL n).length - f := by
    show (if (-(f : Int)) < 0 then ((-(f : Int)) + ((TL.numL n).length : Int)).toNat else _) = _
    rw [if_pos (by omega)]
    omega
  have ec : (cutS (Str.ofString (toString ((n : Nat) : Int))) (some (-(f : Int))) none).cps.toList = (TL.numL n).drop ((TL.numL n).length - f) := by
    unfold cutS
    rw [et, el, HT.sIx_none, ei, List.toList_toArray, List.take_of_length_le]
    rw [List.length_drop]
    exact Nat.le_refl _
  have ad : NumText.AllDigits ((TL.numL n).drop ((TL.numL n).length - f)) := fun c hc => TL.numL_digits n c (List.mem_of_mem_drop hc)
  have ll : ((TL.numL n).drop ((TL.numL n).length - f)).length ≤ f := by
    rw [List.length_drop]
    omega
  refine ⟨NumText.digitsVal ((TL.numL n).drop ((TL.numL n).length - f)), ?_, Nat.lt_of_lt_of_le (digitsVal_lt ad) (Nat.pow_le_pow_right (by decide) ll)⟩
  rw [← ec]
  refine intText_digits (by rw [ec]; exact ad) (by rw [ec]; exact fun z => by have := congrArg List.length z; rw [List.length_drop] at this; simp at this; omega) ?_
  exact Nat.le_trans (cutS_length _ _ _) (by rw [el]; omega)
def spBig : Sp := fun vs H Q _ => ∃ (p l : Addr) (c fg : Int), vs = [.ref p, .int fg] ∧ PenAt H p l c ∧ c < 900000000 ∧ 1 ≤ fg ∧ fg ≤ 60 ∧
  ∀ (r c' : Int) (H' : Hp), 0 ≤ r → r < 10 ^ fg.toNat → c ≤ c' → c' ≤ c + 30 → PenAt H' p l c' → Keep p H H' → Q (.int r) H'
section
variable {P : Program} {w : World} {K : PySem.W.Frag} {mg : Str → Option Value} {base : Heap}
abbrev psBig : List Str := ["_law_pen_here", "_law_figures"]
theorem scBig : FnScope ["_law_pen_here", "_law_figures", "_law_total", "_law_k"] psBig (defScope sBig) := ⟨rfl, rfl, rfl, by decide +kernel, rfl, by decide +kernel, by decide +kernel⟩
theorem ok_big {f fD fP : Addr} {fd fdD fdP : FuncData} (F : Fun K "_law_big" "_law_big" sBig f fd) (mr : mg "range" = none) (mi : mg "int" = none) (ms : mg "str" = none)
    (D : Cl P w K mg base "_law_draw" psDraw 1 spDraw fD fdD) (C : Cl P w K mg base "_law_pick" psPick 2 spPick fP fdP) : FnOk P w K mg base CX0 3 f fd psBig spBig := by
  refine F.ok scBig (fun vs H Q E h => ?_) (fun cdv A outer s H vs Q E hr h => ?_)
  · obtain ⟨p, l, c, fg, rfl, _⟩ := h
    rfl
  · obtain ⟨p, l, c, fg, rfl, hp, c1, f1, f2, k⟩ := h
    refine ⟨_, pss_cons (ps_set (i := 2) scBig.nd rfl (Or.inl rfl) pe_int)
      (pss_cons (ps_for PassesOwn.never rfl (pi_range1 (by rfl) mr (pa_cons (pe_call C.G hr (by rfl) C.g C.kp C.b .nil pass0 (pa_cons (pv 0) (pa_cons (pe_lst (pa_cons pe_int (pa_cons pe_int (pa_cons pe_int (pa_cons pe_int (pa_cons pe_int (pa_cons (pe_op op_fdiv (pe_op op_add (pv 1) pe_int) pe_int) pa_nil))))))) pa_nil))) pa_nil)) (pg_name (i := 3) scBig.nd rfl (Or.inl rfl))
        (pss_one (ps_set (i := 2) scBig.nd rfl (Or.inl rfl) (pe_op op_add (pe_op op_mul (pv 2) pe_int) (pe_call D.G (hr.mono (by decide)) (by rfl) D.g D.kp D.b .nil pass0 (pa_cons (pv 0) (pa_cons pe_int pa_nil)))))))
      (pss_one (ps_ret (pe_callTy call_int_str (by rfl) mi (by decide +kernel) (pa_cons (pe_slice sl_str (pe_callTy call_str_int (by rfl) ms (by decide +kernel) (pa_cons (pv 2) pa_nil)) (po_some (pe_un un_neg (pv 1))) po_none) pa_nil))))), ?_⟩
    refine ⟨_, rfl, _, rfl, _, _, rfl, rfl, _, _, rfl, rfl, ⟨by decide, by decide⟩, ?_⟩
    refine ⟨by show 6 ≤ sizeLine; decide, fun q hq => ?_⟩
    refine ⟨p, l, q, c, _, rfl, hp.upd hq, by omega, upd_same, by show 0 < 6; decide, by show 6 ≤ 1000; decide, fun i x H1 hx P1 k1 => ?_⟩
    obtain ⟨n, rfl, n0, n1⟩ : ∃ n : Int, x = .int n ∧ 1 ≤ n ∧ n ≤ 20 := by
      have hm := List.mem_of_getElem? hx
      simp only [List.mem_cons, List.not_mem_nil, or_false] at hm
      rcases hm with e | e | e | e | e | e
      · exact ⟨1, e, by decide, by decide⟩
      · exact ⟨1, e, by decide, by decide⟩
      · exact ⟨1, e, by decide, by decide⟩
      · exact ⟨2, e, by decide, by decide⟩
      · exact ⟨3, e, by decide, by decide⟩
      · exact ⟨(fg + 2) / 3, e, by omega, by omega⟩
    refine ⟨n, rfl, by omega, by omega, ?_⟩
    refine for_range (lo := 0) (n := n.toNat) (fun i σ H2 => ∃ (t c' : Int) (v : Option V), σ = [some (.ref p), some (.int fg), some (.int t), v] ∧ 0 ≤ t ∧ t < 1000 ^ i ∧ c ≤ c' ∧ c' ≤ c + 1 + i ∧ PenAt H2 p l c' ∧ Keep p H H2)
      ⟨0, c + 1, none, rfl, by decide, by decide, by omega, by omega, P1, (Keep.new hq).trans k1⟩ ?_ ?_
    · rintro i σ H2 hi ⟨t, c', v, rfl, t0, t1, c2, c3, P2, k2⟩
      refine ⟨_, rfl, _, _, rfl, rfl, Or.inr ⟨by decide, by decide⟩, _, rfl, p, l, c', 1000, rfl, P2, by omega, by decide, by decide, fun r H3 r0 r1 P3 k3 => ?_⟩
      refine ⟨_, _, rfl, rfl, _, c' + 1, _, rfl, by omega, ?_, by omega, by omega, P3, k2.trans k3⟩
      rw [Int.pow_succ]
      omega
    · rintro σ H2 ⟨t, c', v, rfl, t0, t1, c2, c3, P2, k2⟩
      obtain ⟨m, rfl⟩ : ∃ m : Nat, t = (m : Int) := ⟨t.toNat, by omega⟩
      obtain ⟨g, rfl⟩ : ∃ g : Nat, fg = (g : Int) := ⟨fg.toNat, by omega⟩
      have m60 : m < 10 ^ 60 := by
        have e1 : (1000 : Int) ^ n.toNat = ((1000 ^ n.toNat : Nat) : Int) := by simp
        rw [e1] at t1
        have e2 : 1000 ^ n.toNat ≤ 1000 ^ 20 := Nat.pow_le_pow_right (by decide) (by omega)
        have e3 : (1000 : Nat) ^ 20 = 10 ^ 60 := by decide
        omega
      have hlog : (m : Int).natAbs.log2 < 1920 := by
        rw [Int.natAbs_natCast]
        by_cases hm : m = 0
        · rw [hm]
          decide
        · exact Nat.lt_of_lt_of_le ((Nat.log2_lt hm).mpr (Nat.lt_trans m60 (show (10 : Nat) ^ 60 < 2 ^ 200 by decide))) (by decide)
      have l60 : (TL.numL m).length ≤ 60 := TL.numL_len (by decide) m60
      obtain ⟨r, hr1, hr2⟩ := tail_int m g (by omega) (by omega)
      have el : (Str.ofString (toString (m : Int))).length = (TL.numL m).length := by
        rw [← TL.tl_num m]
        rfl
      refine ⟨_, rfl, _, rfl, hlog, _, rfl, _, rfl, _, rfl, _, rfl, Nat.le_of_lt (small1000 (by omega)), _, (r : Int), rfl, hr1, Nat.le_trans (cutS_length _ _ _) (by omega), ?_⟩
      refine k _ c' H2 (by omega) ?_ c2 (by omega) P2 k2
      rw [Int.toNat_natCast]
      have e : ((10 : Int) ^ g) = ((10 ^ g : Nat) : Int) := by simp
      rw [e]
      exact Int.ofNat_lt.mpr hr2
end
end Fk

set_option Elab.async false
set_option maxRecDepth 100000
set_option maxHeartbeats 4000000
namespace Fk
open PySem PySem.Spec L2 PyProof.Rows
theorem paired_of {α β : Type} {R : α → β → Prop} : ∀ (xs : List α) (ys : List β), xs.length = ys.length → (∀ (i : Nat) (x : α) (y : β), xs[i]? = some x → ys[i]? = some y → R x y) → Paired R xs ys
  | [], [], _, _ => .nil
  | x :: xs, y :: ys, hl, h => .cons (h 0 x y rfl rfl) (paired_of xs ys (Nat.succ.inj hl) fun i a b ha hb => h (i + 1) a b ha hb)
  | [], _ :: _, hl, _ => nomatch hl
  | _ :: _, [], hl, _ => nomatch hl
section
variable {X : Cx}
/-! ### a text times a number; a tuple of a text's signs -/
theorem op_mulS : OpR X (binaryOp .Mult) (fun x y H Q => ∃ (z : Str) (k : Int), x = .str z ∧ y = .int k ∧ PySem.MulOk z k ∧ Q (.str (PySem.Txt.mul z k)) H) := by
  intro pins s σ H x y v u Q I rx ry h
  obtain ⟨z, k, rfl, rfl, ok, q⟩ := h
  obtain ⟨t, rfl⟩ := rx
  obtain ⟨t', rfl⟩ := ry
  exact PySem.SB.mul ok fun t2 k2 => ⟨.str _, H, I.tok _, ⟨_, rfl⟩, q⟩
def signsOf (z : Str) : List V := z.cps.toList.map fun c => V.str ⟨#[c]⟩
theorem call_tupS : CallR X (.type "tuple") (fun xs H Q => ∃ z : Str, xs = [.str z] ∧ X.A.handled = none ∧ z.length ≤ sizeLine ∧ ∀ p, H p = none → Q (.ref p) (upd H p (.tup (signsOf z)))) := by
  intro pins s σ H xs us Q I r h
  obtain ⟨z, rfl, hh, hz, q⟩ := h
  obtain ⟨u1, rfl, r1⟩ := vals1 r
  obtain ⟨t, rfl⟩ := r1
  refine call_tuple_str hh z t (fun h' tk acc hk hit => ?_) hz
  obtain ⟨hsz, hat⟩ := hit
  have zl : z.cps.toList.length = z.cps.size := Array.length_toList
  have rel : Vals (signsOf z) acc.toList := paired_of _ _ (by rw [signsOf, List.length_map, zl, Array.length_toList, hsz]) fun i x y hx hy => by
    rw [signsOf, List.getElem?_map] at hx
    rw [Array.getElem?_toList] at hy
    obtain ⟨c, u, hc, rfl⟩ := hat i y hy
    rw [← Array.getElem?_toList] at hc
    rw [hc] at hx
    cases hx
    exact ⟨u, rfl⟩
  have I1 : Inv X pins σ H { s with heap := h' } := I.kept (t' := s.toks) hk
  have I2 : Inv X pins σ (upd H h'.objs.size (.tup (signsOf z))) { s with heap := h'.push { cls := .type "tuple", data := .seq acc }, toks := tk } :=
    I1.laid (t' := tk) (fun b o e => Heap.get?_push_of_some _ e) (Nat.le_refl _) (show ObjOk X.prog X.w _ _ _ (.tup (signsOf z)) from ⟨by rw [signsOf, List.length_map, zl]; exact hz, acc.toList, rel, by rw [Array.toArray_toList]; exact IsTup.new _ _⟩)
  exact ⟨.ref h'.objs.size, _, I2, rfl, q _ (I1.hok.fresh (Nat.le_refl _))⟩
/-! ### int of a long text -/
theorem op_fdivB : OpR X (binaryOp .FloorDiv) (rI (fun i j => 0 < j ∧ i.natAbs < 2 ^ 13400) fun i j => .int (i / j)) := opI fun i j _ _ _ _ _ hc q => by
  obtain ⟨h1, h2⟩ := hc
  refine floordiv_int (by omega) (by rw [Int.fdiv_eq_ediv_of_nonneg i (by omega)]; exact q) (.inl ?_)
  have k1 : (if i == 0 then 0 else i.natAbs.log2 / 30 + 1) ≤ 447 := by
    by_cases h0 : (i == 0) = true
    · rw [if_pos h0]
      exact Nat.zero_le _
    · rw [if_neg h0]
      have : i.natAbs.log2 < 13400 := (Nat.log2_lt (by simpa using h0)).mpr h2
      omega
  show (decide ((if j == 0 then 0 else j.natAbs.log2 / 30 + 1) > 300) && decide ((if i == 0 then 0 else i.natAbs.log2 / 30 + 1) > (if j == 0 then 0 else j.natAbs.log2 / 30 + 1) + 150)) = false
  generalize (if i == 0 then 0 else i.natAbs.log2 / 30 + 1) = m at k1
  generalize (if j == 0 then 0 else j.natAbs.log2 / 30 + 1) = n
  by_cases hn : n > 300
  · rw [decide_eq_false (show ¬ m > n + 150 by omega), Bool.and_false]
  · rw [decide_eq_false hn, Bool.false_and]
end
/-! ### int of a long text -/
section
open PySem.NumText
theorem wp_long {M : Model} {A : Around} {E : Value → Shared → Prop} {s : Shared} {K : PySem.W.Frag} {Q : Value → Shared → Prop} {v : Value} {text : List Nat} {n : Int} (X : K.In s.heap) (e : PySem.W.nsIn K cStatics "sys.int_max_str_digits" = some none)
    (hs : ¬ (text.takeWhile (· != 0)).length ≤ 640) (hr : (int_private% "readNumeral") 4300 10 (text.takeWhile (· != 0)) = (int_private% "Numeral.value") n)
    (ha : ((text.takeWhile (· != 0)).length == text.length) = true) (h : Q (.int n s.toks) { s with toks := s.toks + 1 }) :
    wpAny M A ((int_private% "intFromText") v text 10) Q E s := by
  have L := PySem.W.looks_nsIn (M := M) X e
  obtain ⟨hp, g, d, tk, os⟩ := s
  repeat (any_goals (first
    | assumption
    | (with_reducible refine wpAny_ite_false (decide_eq_false hs) ?_)
    | (with_reducible refine wpAny_ite_true (decide_eq_true ha) ?_)
    | (with_reducible refine L.at ?_)
    | wp_step))
  all_goals (try rw [hr])
  all_goals (try dsimp only)
  repeat (any_goals (first
    | assumption
    | (with_reducible refine wpAny_ite_true (decide_eq_true ha) ?_)
    | wp_step))
structure Kept1 (p : Prop) : Prop where
  out : p
theorem meets_long {K : PySem.W.Frag} {x : PySem.Str} {u : Tok} {n : Int} (e : PySem.W.nsIn K cStatics "sys.int_max_str_digits" = some none) (hd : ∀ c ∈ x.cps.toList, c = 45 ∨ (48 ≤ c ∧ c ≤ 57)) (h6 : 640 < x.length) (hl : x.length ≤ sizeLine) (hn : PySem.intText? x = some n) :
    Meets (Builtin.«int.__new__» ⟨[.type "int", .str x u], []⟩) (fun _ R s => K.In s.heap ∧ ∀ tk t, R (.ok (.ret (.int n t))) { s with toks := tk }) := .of_wp fun prog w A R s h => by
  obtain ⟨X, h⟩ := h
  have f1 := F.conv_sub_int
  have f2 := F.madeHere_int
  have f3 := PySem.W.KIN.str_int
  have f4 := PySem.W.KIN.str_idx
  have f5 := PySem.W.KIN.str_trunc
  have f6 : typeOf (.str x u) = pure (.type "str") := rfl
  obtain ⟨e1, e2⟩ := numText_signs hd
  have xl : x.cps.toList.length = x.length := Array.length_toList
  have hs : ¬ (numSeenOf x).length ≤ 640 := by
    rw [e2, xl]
    omega
  have hr : (int_private% "readNumeral") 4300 10 (numSeenOf x) = (int_private% "Numeral.value") n ∧ ((numSeenOf x).length == (numTextOf x).length) = true := by
    rcases read4300 x hl with ⟨m, h1, h2, h3⟩ | ⟨h1, _⟩
    · rw [hn] at h1
      injection h1 with h1
      subst h1
      exact ⟨h3, h2⟩
    · rw [hn] at h1
      cases h1
  have hk := Kept1.mk (And.intro hs hr)
  clear hs hr hl hn hd e1 e2 xl h6
  obtain ⟨hp, g, d, tk, os⟩ := s
  repeat (any_goals (first
    | assumption
    | ((with_reducible show wpAny _ _ ((int_private% "intFromText") _ _ _) _ _ _); refine wp_long X e hk.out.1 hk.out.2.1 hk.out.2.2 ?_)
    | wp_step))
  all_goals first | exact ⟨_, rfl, h _ _⟩ | exact h _ _ | trace_state
end
section
variable {X : Cx}
/-- int(text), a number of at most 4,300 figures -/
theorem call_int_big (e : PySem.W.nsIn X.K cStatics "sys.int_max_str_digits" = some none) : CallR X (.type "int") (fun xs H Q => ∃ a n, xs = [.str a] ∧ (∀ c ∈ a.cps.toList, c = 45 ∨ (48 ≤ c ∧ c ≤ 57)) ∧ PySem.intText? a = some n ∧ a.length ≤ sizeLine ∧ Q (.int n) H) := by
  intro pins s σ H xs us Q I rs h
  obtain ⟨a, n, rfl, hd, hn, hl, h⟩ := h
  obtain ⟨u1, rfl, r1⟩ := vals1 rs
  obtain ⟨t, rfl⟩ := r1
  by_cases h6 : a.length ≤ 640
  · exact PySem.W.KIN.call_text hn h6 ⟨.int n, H, I.tok _, ⟨_, rfl⟩, h⟩
  · exact call_int_1 (meets_long e hd (by omega) hl hn) ⟨I.kIn, fun tk t => ⟨rfl, ⟨.int n, H, I.tok _, ⟨_, rfl⟩, h⟩⟩⟩
end
end Fk

set_option Elab.async false
set_option maxRecDepth 100000
set_option maxHeartbeats 4000000
namespace Fk
open PySem PySem.Spec L2 PyProof.Rows
/-! ### try with several clauses, each with a name -/
/-- a clause: its class, the slot of its name, its suite's reading -/
abbrev Clause := Value × Nat × (Addr → Value → Option Addr → TS)
def wEach (K : PySem.W.Frag) (Wout : WX) (D : Ends) : List Clause → WX
  | [] => Wout
  | (c, i, ts) :: r => wAs K c i ts (wEach K Wout D r) D
inductive Clauses (X : Cx) : List ExceptHandler → List Clause → Prop
  | nil : Clauses X [] []
  | cons {x n : Str} {c : Value} {i : Nat} {ts : Addr → Value → Option Addr → TS} {b : Stmt} {suite : List Stmt} {np pos : Pos} {hs : List ExceptHandler} {l : List Clause} (hc : Names X x c) (hi : X.N[i]? = some n) (hl : X.env.kindOf n = some .local)
      (hb : ∀ (a : Addr) (oe : Obj) (cls : Value) (d : Option Addr) (pn : List (Addr × Obj)), Zc cls d oe → (∃ vs, oe.data = .fields vs) → PSs (X.suite a ((a, oe) :: pn)) (b :: suite) (ts a cls d))
      (r : Clauses X hs l) : Clauses X (.ExceptHandler (some (.Name x np)) (some n) (b :: suite) pos :: hs) ((c, i, ts) :: l)
section
variable {X : Cx} {body : List Stmt} {hd : ExceptHandler} {hds : List ExceptHandler} {l : List Clause} {pos : Pos} {tb : WX → TS} {Wout : WX}
theorem ps_try_each (hs : X.stack = X.env :: X.outer) (hf : X.env.frame = some X.env.locals) (hN : X.N.Nodup) (tk : Takes X Wout)
    (hb : ∀ (W : WX) (pn : List (Addr × Obj)) (xe : Value → Shared → Prop), Takes (X.tr pn xe) W → PassesOwn (model X.prog X.w) X.A X.env xe → PSs (X.tr pn xe) body (tb W))
    (hh : Clauses X (hd :: hds) l) : PS X (.Try body (hd :: hds) [] [] pos) (fun D σ H => tb (wEach X.K Wout D l) D σ H) := by
  refine ⟨fun pins s σ H D I h => ?_⟩
  have ok := I.ok
  have fr : X.A.frames = some (X.env :: X.outer) := hs ▸ ok.frames
  refine wpAny_Try_except ?_
  refine wpAny_mono ((hb (wEach X.K Wout D l) (X.pn ++ pins) (fun e s₁ => wpAny (model X.prog X.w) X.A (noteFrame e X.env) (fun _ s₂ => wpAny (model X.prog X.w) X.A (setFlight e none) (fun _ s₃ =>
    wpAny (model X.prog X.w) X.A (handleBy e X.env (hd :: hds)) (SP X pins D) X.xe s₃) X.xe s₂) X.xe s₁) (fun u s' xx => ?_) PassesOwn.looking).run [] s σ H D (I.toTry _) h) (fun f s1 q => ?_) (fun e s1 z => z)
  · obtain ⟨a, B, sI, pj, σ', H', cls, d, rfl, J', nb, up, sky, na, os, ag, w⟩ := xx
    have J : Inv X pins σ' H' sI := J'.ofTry ok
    rw [hs] at sky
    show wpAny (model X.prog X.w) X.A (noteFrame (.ref a) X.env) _ _ _
    refine Sky.land Zc.steady fr hf sky fun h3 fl3 up3 => ?_
    have J3 : Inv X pins σ' H' { s' with heap := h3 } := J.landed nb fl3.1 (up.trans up3) os ag
    obtain ⟨oe3, vs3, he3, hz3, hd3⟩ := fl3.there
    have notIn : a ∉ frs (X.env :: X.outer) := fun hm => by
      obtain ⟨_, o', e', nf⟩ := fl3.2.2.1.mem hm
      rw [he3] at e'
      cases e'
      exact nf _ hd3
    have nL : a ≠ X.env.locals := fun z => notIn (List.mem_filterMap.mpr ⟨X.env, List.mem_cons_self, hf.trans (congrArg some z.symm)⟩)
    have nF : a ∉ X.fs := fun hm => by
      obtain ⟨e, he, z⟩ := List.mem_filterMap.mp hm
      exact notIn (List.mem_filterMap.mpr ⟨e, List.mem_cons_of_mem _ he, z⟩)
    have S3 := J3.suite he3 hd3 na nL nF
    have LT : PySem.W.Looks (model X.prog X.w) h3 (typeOf (.ref a)) cls := fun A Q E s k q => wpAny_typeOf_ref (k _ _ he3) (hz3.1.symm ▸ q)
    have go : ∀ {hs' : List ExceptHandler} {l' : List Clause}, Clauses X hs' l' → wEach X.K Wout D l' cls d σ' H' → wpAny (model X.prog X.w) X.A (handleBy (.ref a) X.env hs') (SP X pins D) X.xe { s' with heap := h3 } := by
      intro hs' l' hk
      induction hk with
      | nil =>
        intro w
        refine wpAny_handleBy_nil ?_
        obtain ⟨_, _, _, oe, vs, T, _, _, he, _, hdt, h1, _⟩ := id fl3
        unfold PySem.passOn
        refine wpAny_bind (wpAny_field he hdt h1 ?_)
        rw [if_neg (fun z => nomatch (beq_iff_eq.mp z : Value.ref T = Value.none))]
        have out : wpAny (model X.prog X.w) X.A (setFlight (.ref a) X.env.frame) (fun _ s4 => wpAny (model X.prog X.w) X.A (throw (.ref a) : Sem Flow) (SP X pins D) X.xe s4) X.xe { s' with heap := h3 } := by
          rw [hf]
          exact HandSPX.setFlight_upZ fl3 fun h4 hh4 up4 => wpAny_throw (tk _ _ ⟨a, B, sI, pins, σ', H', cls, d, rfl, J, nb, (up.trans up3).trans up4, .inr (.inr (hs.symm ▸ hh4)), na, os, ag, w⟩)
        first
          | exact wpAny_bind (wpAny_pure (wpAny_bind out))
          | exact wpAny_bind out
      | @cons x n c i ts b suite np pos' hs2 l2 hc hi hln hsu r ih =>
        intro w
        obtain ⟨yes, hy, h1, h2⟩ := w
        refine wpAny_handleBy_cons (codeAny_handlers_test ?_) (fun z => nomatch z)
        have LM := PySem.W.exm_one (M := model X.prog X.w) J3.kIn LT hy
        have test : ∀ {Q : Value → Shared → Prop} {E : Value → Shared → Prop}, Q c { s' with heap := h3 } → wpAny (model X.prog X.w) (X.A.mark (some (.ref a))) (eval (.Name x np) X.env) Q E { s' with heap := h3 } := fun {Q E} q => by
          obtain ⟨g1, g2, hm | ⟨hm, hv, hnn⟩⟩ := hc
          · exact ld_glob (X := X.suite a ((a, oe3) :: (X.pn ++ pins))) S3 g1 hm q g2
          · exact ld_blt (X := X.suite a ((a, oe3) :: (X.pn ++ pins))) S3 g1 hm hv q hnn g2
        refine test (LM.here ?_)
        cases yes with
        | false => exact ih (h2 rfl)
        | true =>
          refine codeAny_handlers_suite_as ?_
          refine HandSPX.lands_againZ fl3 fun h4 fl4 up4 => ?_
          have J4 : Inv X pins σ' H' { s' with heap := h4 } := J.landed nb fl4.1 ((up.trans up3).trans up4) os ag
          obtain ⟨oe4, vs4, he4, hz4, hd4⟩ := fl4.there
          refine store_ok (X := X.suite a ((a, oe4) :: (X.pn ++ pins))) (v := .ref a) (J4.suite he4 hd4 na nL nF) hN hi (.inl hln) rfl (fun s5 S5 => ?_) (.inr hln)
          refine wpAny_mono ((hsu a oe4 cls d (X.pn ++ pins) hz4 ⟨_, hd4⟩).run [] s5 _ H' _ S5 (h1 rfl a na)) (fun f s6 q => ?_) (fun _ _ z => False.elim z)
          have gone : ∀ {σ6 : L2.St} {H6 : Hp} {Q : Shared → Prop}, Inv (X.suite a ((a, oe4) :: (X.pn ++ pins))) [] σ6 H6 s6 → (∀ s7, Inv X pins (σ6.set i none) H6 s7 → Q s7) →
              wpAny (model X.prog X.w) X.A (do bindName X.env n .none; unbindBehindTheSuite X.env n pos') (fun _ s7 => Q s7) X.xe s6 := fun {σ6 H6 Q} S6 hq => gone_ok (S6.unsuite ok) hN hi hln hq
          cases f with
          | next =>
            obtain ⟨σ6, H6, S6, q6⟩ := q
            exact gone S6 fun s7 J7 => ⟨_, _, J7, q6⟩
          | brk =>
            obtain ⟨σ6, H6, S6, q6⟩ := q
            exact gone S6 fun s7 J7 => ⟨_, _, J7, q6⟩
          | cont =>
            obtain ⟨σ6, H6, S6, q6⟩ := q
            exact gone S6 fun s7 J7 => ⟨_, _, J7, q6⟩
          | ret u =>
            obtain ⟨v6, σ6, H6, S6, r6, q6⟩ := q
            exact gone S6 fun s7 J7 => ⟨_, _, _, J7, r6, q6⟩
    exact go hh w
  · cases f with
    | ret u =>
      obtain ⟨v, σ', H', J', r, z⟩ := q
      exact ⟨v, σ', H', J'.ofTry ok, r, z⟩
    | next =>
      obtain ⟨σ', H', J', z⟩ := q
      exact wpAny_execs_nil ⟨σ', H', J'.ofTry ok, z⟩
    | brk =>
      obtain ⟨σ', H', J', z⟩ := q
      exact ⟨σ', H', J'.ofTry ok, z⟩
    | cont =>
      obtain ⟨σ', H', J', z⟩ := q
      exact ⟨σ', H', J'.ofTry ok, z⟩
end
end Fk

set_option Elab.async false
set_option maxRecDepth 100000
namespace Fk
open PySem L2
/-! ### texts as lists of signs -/
def isD (c : Nat) : Bool := decide (48 ≤ c) && decide (c ≤ 57)
theorem isD_iff {c : Nat} : isD c = true ↔ 48 ≤ c ∧ c ≤ 57 := by
  unfold isD
  rw [Bool.and_eq_true, decide_eq_true_eq, decide_eq_true_eq]
/-- how many figures stand from k on -/
def nd (cs : List Nat) (k : Nat) : Nat := ((cs.drop k).takeWhile isD).length
def dend (cs : List Nat) (k : Nat) : Nat := k + nd cs k
theorem nd_step {cs : List Nat} {k c : Nat} (h : cs[k]? = some c) (hd : isD c = true) : nd cs k = nd cs (k + 1) + 1 := by
  have hk : k < cs.length := (List.getElem?_eq_some_iff.mp h).1
  have e : cs.drop k = c :: cs.drop (k + 1) := by
    rw [List.drop_eq_getElem_cons hk]
    have z := (List.getElem?_eq_some_iff.mp h).2
    rw [z]
  unfold nd
  rw [e, List.takeWhile_cons, if_pos hd, List.length_cons]
theorem dend_step {cs : List Nat} {k c : Nat} (h : cs[k]? = some c) (hd : isD c = true) : dend cs k = dend cs (k + 1) := by
  unfold dend
  rw [nd_step h hd]
  omega
theorem dend_stop {cs : List Nat} {k c : Nat} (h : cs[k]? = some c) (hd : isD c = false) : dend cs k = k := by
  have hk : k < cs.length := (List.getElem?_eq_some_iff.mp h).1
  have e : cs.drop k = c :: cs.drop (k + 1) := by
    rw [List.drop_eq_getElem_cons hk]
    have z := (List.getElem?_eq_some_iff.mp h).2
    rw [z]
  unfold dend nd
  rw [e, List.takeWhile_cons, hd]
  rfl
theorem dend_past {cs : List Nat} {k : Nat} (h : cs.length ≤ k) : dend cs k = k := by
  unfold dend nd
  rw [List.drop_of_length_le h]
  rfl
theorem dend_ge (cs : List Nat) (k : Nat) : k ≤ dend cs k := Nat.le_add_right _ _
theorem dend_le {cs : List Nat} {k : Nat} (h : k ≤ cs.length) : dend cs k ≤ cs.length := by
  have z : ((cs.drop k).takeWhile isD).length ≤ (cs.drop k).length := (List.takeWhile_sublist _).length_le
  rw [List.length_drop] at z
  unfold dend nd
  omega
/-- the signs from a to b -/
def cut (cs : List Nat) (a b : Nat) : List Nat := (cs.drop a).take (b - a)
theorem cut_dend (cs : List Nat) (k : Nat) : cut cs k (dend cs k) = (cs.drop k).takeWhile isD := by
  unfold cut dend
  rw [Nat.add_sub_cancel_left]
  unfold nd
  have h : (cs.drop k).takeWhile isD <+: cs.drop k := List.takeWhile_prefix _
  exact (List.prefix_iff_eq_take.mp h).symm
theorem tw_all : ∀ (l : List Nat) (c : Nat), c ∈ l.takeWhile isD → isD c = true
  | [], _, h => nomatch h
  | d :: l, c, h => by
    rw [List.takeWhile_cons] at h
    split at h
    · rename_i hd
      rcases List.mem_cons.mp h with e | e
      · rw [e]
        exact hd
      · exact tw_all l c e
    · cases h
theorem cut_digits (cs : List Nat) (k : Nat) : NumText.AllDigits (cut cs k (dend cs k)) := by
  rw [cut_dend]
  intro c hc
  exact isD_iff.mp (tw_all _ _ hc)
theorem cut_len {cs : List Nat} {a b : Nat} (h : b ≤ cs.length) : (cut cs a b).length = b - a := by
  unfold cut
  rw [List.length_take, List.length_drop]
  omega
/-- what a text is read as -/
inductive Out
  | text (n : Nat)
  | large (n : Nat)
  | ratio (a b : Int)
def sgn (s : Nat) : Int := if s = 1 then -1 else 1
def st (cs : List Nat) : Nat := if cs.head? = some 45 then 1 else 0
def val (cs : List Nat) (a b : Nat) : Nat := NumText.digitsVal (cut cs a b)
def out (cs : List Nat) : Out :=
  if dend cs (st cs) = st cs then .text (st cs + 1)
  else if cs[dend cs (st cs)]? = some 47 then
    if dend cs (dend cs (st cs) + 1) = dend cs (st cs) + 1 then .text (dend cs (dend cs (st cs) + 1) + 1)
    else if dend cs (dend cs (st cs) + 1) < cs.length then .text (dend cs (dend cs (st cs) + 1) + 1)
    else if 4000 < dend cs (st cs) - st cs then .large (dend cs (st cs) - st cs)
    else if 4000 < dend cs (dend cs (st cs) + 1) - (dend cs (st cs) + 1) then .large (dend cs (dend cs (st cs) + 1) - (dend cs (st cs) + 1))
    else if val cs (dend cs (st cs) + 1) (dend cs (dend cs (st cs) + 1)) = 0 then .text (dend cs (st cs) + 2)
    else .ratio (sgn (st cs) * ((val cs (st cs) (dend cs (st cs)) / Nat.gcd (val cs (st cs) (dend cs (st cs))) (val cs (dend cs (st cs) + 1) (dend cs (dend cs (st cs) + 1))) : Nat) : Int))
      ((val cs (dend cs (st cs) + 1) (dend cs (dend cs (st cs) + 1)) / Nat.gcd (val cs (st cs) (dend cs (st cs))) (val cs (dend cs (st cs) + 1) (dend cs (dend cs (st cs) + 1))) : Nat) : Int)
  else if dend cs (st cs) < cs.length then .text (dend cs (st cs) + 1)
  else if 4000 < dend cs (st cs) - st cs then .large (dend cs (st cs) - st cs)
  else .ratio (sgn (st cs) * (val cs (st cs) (dend cs (st cs)) : Int)) 1
theorem st_le (cs : List Nat) : st cs ≤ cs.length := by
  unfold st
  split
  · rename_i h
    cases cs with
    | nil => cases h
    | cons c cs => exact Nat.succ_le_succ (Nat.zero_le _)
  · exact Nat.zero_le _
theorem st_01 (cs : List Nat) : st cs = 0 ∨ st cs = 1 := by
  unfold st
  split
  · exact .inr rfl
  · exact .inl rfl
theorem head_st {cs : List Nat} (h : st cs = 1) : cs.head? = some 45 := by
  unfold st at h
  split at h
  · assumption
  · cases h
/-! ### slices -/
theorem six_le {n k : Nat} (d : Nat) (h : k ≤ n) : HT.sIx n d (some (k : Int)) = k := by
  rw [HT.sIx_nat, Nat.min_eq_left h]
theorem tl_len (z : Str) : z.cps.toList.length = z.length := Array.length_toList
theorem cutS_two (z : Str) {a b : Nat} (ha : a ≤ z.length) (hb : b ≤ z.length) : (cutS z (some (a : Int)) (some (b : Int))).cps.toList = cut z.cps.toList a b := by
  unfold cutS cut
  rw [six_le 0 ha, six_le z.length hb, List.toList_toArray]
theorem cutS_two' (z : Str) (a b : Nat) : (cutS z (some (a : Int)) (some (b : Int))).cps.toList = cut z.cps.toList (min a z.length) (min b z.length) := by
  unfold cutS cut
  rw [HT.sIx_nat, HT.sIx_nat, List.toList_toArray]
theorem cutS_to (z : Str) {b : Nat} (hb : b ≤ z.length) : (cutS z none (some (b : Int))).cps.toList = z.cps.toList.take b := by
  unfold cutS
  rw [six_le z.length hb, HT.sIx_none, List.toList_toArray, List.drop_zero, Nat.sub_zero]
theorem ext {y z : Str} (h : y.cps.toList = z.cps.toList) : y = z := TL.ext_tl h
/-- one sign, or none behind the end -/
theorem cutS_one (z : Str) (k : Nat) (hk : k ≤ z.length) : cutS z (some (k : Int)) (some ((k + 1 : Nat) : Int)) = match z.cps.toList[k]? with
    | some c => (⟨#[c]⟩ : Str)
    | none => ⟨#[]⟩ := by
  have zl := tl_len z
  cases h : z.cps.toList[k]? with
  | some c =>
    have hlt : k < z.cps.toList.length := (List.getElem?_eq_some_iff.mp h).1
    refine ext ?_
    rw [cutS_two z hk (by omega)]
    unfold cut
    rw [List.drop_eq_getElem_cons hlt, Nat.add_sub_cancel_left, List.take_succ_cons, List.take_zero, (List.getElem?_eq_some_iff.mp h).2]
  | none =>
    have hge : z.cps.toList.length ≤ k := List.getElem?_eq_none_iff.mp h
    refine ext ?_
    rw [cutS_two', Nat.min_eq_right (by omega : z.length ≤ k), Nat.min_eq_right (by omega : z.length ≤ k + 1)]
    unfold cut
    rw [Nat.sub_self, List.take_zero]
end Fk

set_option Elab.async false
set_option maxRecDepth 100000
namespace Fk
open PySem L2
/-! ### the two errors -/
structure IniC (K : PySem.W.Frag) (C : Addr) (fs : List Str) : Prop where
  ox : OexC K C
  no : ∀ f ∈ fs, PySem.W.findIn K (.ref C) f = some none
/-- __init__ leaves the fields, the last one first -/
def spIni (C : Addr) (fs : List Str) : Sp := fun vs H Q _ => ∃ (a : Addr) (ws : List V), vs = .ref a :: ws ∧ ws.length = fs.length ∧ H a = some (exo a C none) ∧
  ∀ (d : Addr) (H' : Hp), H d = none → d ≠ a → (∀ b o, b ≠ a → H b = some o → H' b = some o) → H' a = some (exo a C (some d)) → H' d = some (exd d (fs.zip ws).reverse) → Q .non H'
section
variable {P : Program} {w : World} {K : PySem.W.Frag} {mg : Str → Option Value} {base : Heap}
theorem ini_one {H : Hp} {a C d : Addr} {x : List (Str × V)} (hd : H d = none) (n : d ≠ a) : (∀ b o, b ≠ a → H b = some o → (upd (upd H d (exd d x)) a (exo a C (some d))) b = some o) ∧ (upd (upd H d (exd d x)) a (exo a C (some d))) a = some (exo a C (some d)) ∧ (upd (upd H d (exd d x)) a (exo a C (some d))) d = some (exd d x) :=
  ⟨fun b o hb e => by rw [upd_ne hb, upd_ne (ne_of_none e hd)]; exact e, upd_same, by rw [upd_ne n, upd_same]⟩
theorem ini_more {H H1 : Hp} {a C d : Addr} {x y : List (Str × V)} (hd : H d = none) (n : d ≠ a) (h : (∀ b o, b ≠ a → H b = some o → H1 b = some o) ∧ H1 a = some (exo a C (some d)) ∧ H1 d = some (exd d x)) :
    (∀ b o, b ≠ a → H b = some o → (upd H1 d (exd d y)) b = some o) ∧ (upd H1 d (exd d y)) a = some (exo a C (some d)) ∧ (upd H1 d (exd d y)) d = some (exd d y) :=
  ⟨fun b o hb e => by rw [upd_ne (ne_of_none e hd)]; exact h.1 b o hb e, by rw [upd_ne n.symm]; exact h.2.1, upd_same⟩
abbrev sIBadNumber : Stmt := inClass (top 3) 0
theorem scBadNumber : FnScope ["self", "what", "number"] ["self", "what", "number"] (defScope sIBadNumber) := ⟨rfl, rfl, rfl, by decide +kernel, rfl, by decide +kernel, by decide +kernel⟩
theorem ini_BadNumber {C f : Addr} {fd : FuncData} (F : Fun K "__init__" "BadNumber.__init__" sIBadNumber f fd) (T : IniC K C ["what", "number"]) : FnOk P w K mg base CX0 1 f fd ["self", "what", "number"] (spIni C ["what", "number"]) := by
  refine F.ok scBadNumber (fun vs H Q E h => ?_) (fun cdv A outer s H vs Q E hr h => ?_)
  · obtain ⟨a, ws, rfl, e, _⟩ := h
    exact congrArg (· + 1) e
  · obtain ⟨a, ws, rfl, e, ha, k⟩ := h
    match ws, e, k with
    | [v1, v2], _, k =>
      refine ⟨_, (pss_cons (ps_ost (pv 0) (pv 1)) (pss_one (ps_ost (pv 0) (pv 2)))), ?_⟩
      refine ⟨_, rfl, _, rfl, a, C, rfl, T.ox, T.no _ (by simp), Or.inl ⟨ha, fun d hd hn => ?_⟩⟩
      have h1 := ini_one (C := C) (x := [("what", v1)]) hd hn
      refine ⟨_, rfl, _, rfl, a, C, rfl, T.ox, T.no _ (by simp), Or.inr ⟨d, _, h1.2.1, h1.2.2, by show 1 ≤ 900; decide, ?_⟩⟩
      have h2 := ini_more (y := [("number", v2), ("what", v1)]) hd hn h1
      exact k d _ hd hn h2.1 h2.2.1 h2.2.2
/-- what is known of an error class that is raised and caught -/
structure Err (P : Program) (w : World) (K : PySem.W.Frag) (mg : Str → Option Value) (base : Heap) (x : Str) (fs : List Str) (C fI : Addr) (fd : FuncData) : Prop where
  ox : OexC K C
  iC : PySem.W.findIn K (.ref C) "__init__" = some (some (.ref fI))
  tI : PySem.W.typeIn K (.ref fI) = some (.type "function")
  G : FnOk P w K mg base CX0 1 fI fd ("self" :: fs) (spIni C fs)
  b : Binds K fd ("self" :: fs) []
  g : mg x = some (.ref C)
/-- raise C(e, ..): what is left -/
theorem raised {H H' : Hp} {a C d : Addr} {fs : List (Str × V)} (ha : H a = none) (hd0 : (upd H a (exo a C none)) d = none) (hk : ∀ b o, b ≠ a → (upd H a (exo a C none)) b = some o → H' b = some o) : H d = none ∧ Same H (upd (L2.del H' a) d (.xd fs)) ∧ (upd (L2.del H' a) d (.xd fs)) d = some (.xd fs) := by
  have hd : H d = none := by
    cases e : H d with
    | none => rfl
    | some o =>
      rw [upd_ne (ne_of_none e ha), e] at hd0
      cases hd0
  refine ⟨hd, fun b o e => ?_, upd_same⟩
  rw [upd_ne (ne_of_none e hd), L2.del_ne (ne_of_none e ha)]
  refine hk b o (ne_of_none e ha) ?_
  rw [upd_ne (ne_of_none e ha)]
  exact e
abbrev sLowest : Stmt := top 7
theorem scLowest : FnScope ["top", "bottom", "shared"] ["top", "bottom"] (defScope sLowest) := ⟨rfl, rfl, rfl, by decide +kernel, rfl, by decide +kernel, by decide +kernel⟩
def spLowest : Sp := fun vs H Q _ => ∃ (a b : Int), vs = [.int a, .int b] ∧ 0 < b ∧ a.natAbs < 2 ^ 13400 ∧ b.natAbs < 2 ^ 13400 ∧
  ∀ p, H p = none → Q (.ref p) (upd H p (.tup [.int (a / (Nat.gcd a.natAbs b.natAbs : Nat)), .int (b / (Nat.gcd a.natAbs b.natAbs : Nat))]))
theorem ok_lowest {f : Addr} {fd : FuncData} (F : Fun K "lowest" "lowest" sLowest f fd) (mgc : mg "gcd" = some (.builtin "math.gcd")) : FnOk P w K mg base CX0 1 f fd ["top", "bottom"] spLowest := by
  refine F.ok scLowest (fun vs H Q E h => ?_) (fun cdv A outer s H vs Q E hr h => ?_)
  · obtain ⟨a, b, rfl, _⟩ := h
    rfl
  · obtain ⟨a, b, rfl, b0, a1, b1, k⟩ := h
    refine ⟨_, pss_cons (ps_set (i := 2) scLowest.nd rfl (Or.inl rfl) (pe_callBfun cr_gcd (by rfl) mgc (pa_cons (pv 0) (pa_cons (pv 1) pa_nil))))
      (pss_cons (ps_if (pt_cmpR op_lt (pv 1) pe_int (nomark _)) (pss_one (ps_set (i := 2) scLowest.nd rfl (Or.inl rfl) (pe_un un_neg (pv 2)))) pss_nil)
      (pss_one (ps_ret (pe_tup (pa_cons (pe_op op_fdivB (pv 0) (pv 2)) (pa_cons (pe_op op_fdivB (pv 1) (pv 2)) pa_nil)))))), ?_⟩
    have g0 : (0 : Int) < (Nat.gcd a.natAbs b.natAbs : Nat) := by
      have : 0 < Nat.gcd a.natAbs b.natAbs := Nat.gcd_pos_of_pos_right _ (by omega)
      omega
    refine ⟨_, rfl, _, rfl, a, b, rfl, ?_⟩
    refine ⟨_, rfl, _, _, rfl, rfl, _, rfl, ite2 (fun h => absurd (of_decide_eq_true h) (by omega)) (fun _ => ?_)⟩
    exact ⟨_, rfl, _, rfl, _, _, rfl, rfl, ⟨g0, a1⟩, _, rfl, _, rfl, _, _, rfl, rfl, ⟨g0, b1⟩, by show 2 ≤ sizeLine; decide, fun p hp => k p hp⟩
end
end Fk

set_option Elab.async false
set_option maxRecDepth 100000
namespace Fk
open PySem L2
/-! ### the law's own sums: gcd, q, is_whole, is_ratio -/
abbrev sGcd : Stmt := top 25
abbrev sQ : Stmt := top 26
theorem keq {j i : Int} (h : decide (V.int j = V.int i) = true) : j = i := V.int.inj (of_decide_eq_true h)
theorem kne {j i : Int} (h : ¬ decide (V.int j = V.int i) = true) : j ≠ i := fun e => h (by rw [e]; exact decide_eq_true rfl)
theorem gcd_step {x y i B : Nat} (hy : 0 < y) (h0 : i = 0 → x * y ≤ B) (h1 : 1 ≤ i → y < x ∧ x * y * 2 ^ i ≤ 2 * B) : x % y < y ∧ y * (x % y) * 2 ^ (i + 1) ≤ 2 * B := by
  refine ⟨Nat.mod_lt _ hy, ?_⟩
  by_cases hi : i = 0
  · subst hi
    have h := h0 rfl
    have z : y * (x % y) ≤ y * x := Nat.mul_le_mul_left _ (Nat.mod_le _ _)
    rw [Nat.mul_comm x y] at h
    show y * (x % y) * 2 ≤ 2 * B
    omega
  · obtain ⟨hl, h⟩ := h1 (by omega)
    have z2 : 2 * (x % y) ≤ x := by
      have e := Nat.mod_add_div x y
      have : 1 ≤ x / y := (Nat.one_le_div_iff hy).mpr (by omega)
      have z3 : y * 1 ≤ y * (x / y) := Nat.mul_le_mul_left _ this
      have z4 := Nat.mod_lt x hy
      omega
    have e : y * (x % y) * 2 ^ (i + 1) = y * (2 * (x % y)) * 2 ^ i := by
      rw [Nat.pow_succ, Nat.mul_comm (2 ^ i) 2, ← Nat.mul_assoc, Nat.mul_assoc y, Nat.mul_comm (x % y) 2]
    rw [e]
    refine Nat.le_trans (Nat.mul_le_mul_right _ (Nat.mul_le_mul_left y z2)) ?_
    rw [Nat.mul_comm y x]
    exact h
theorem gcd_done {x y m n : Nat} (hl : y < x) (h : x * y * 2 ^ m ≤ 2 * 2 ^ n) (hmn : n + 1 < m) : y = 0 := by
  by_cases hy : y = 0
  · exact hy
  · exfalso
    have z : 1 ≤ x * y := Nat.mul_pos (by omega) (by omega)
    have z2 : 1 * 2 ^ m ≤ x * y * 2 ^ m := Nat.mul_le_mul_right _ z
    have z3 : (2 : Nat) * 2 ^ n < 2 ^ m := by
      rw [Nat.mul_comm, ← Nat.pow_succ]
      exact Nat.pow_lt_pow_right (by decide) hmn
    rw [Nat.one_mul] at z2
    exact absurd (Nat.le_trans z2 h) (Nat.not_le_of_lt z3)
def spGcd : Sp := fun vs H Q _ => ∃ a b : Int, vs = [.int a, .int b] ∧ a.natAbs < 2 ^ 13400 ∧ b.natAbs < 2 ^ 13400 ∧ Q (.int (Nat.gcd a.natAbs b.natAbs : Nat)) H
abbrev psGcd : List Str := ["_law_one", "_law_two"]
theorem abs_if (i : Int) : (if i < 0 then -i else i) = ((i.natAbs : Nat) : Int) := by
  split <;> omega
section
variable {P : Program} {w : World} {K : PySem.W.Frag} {mg : Str → Option Value} {base : Heap}
theorem scGcd : FnScope ["_law_one", "_law_two", "_law_lap"] psGcd (defScope sGcd) := ⟨rfl, rfl, rfl, by decide +kernel, rfl, by decide +kernel, by decide +kernel⟩
theorem ok_gcd {f : Addr} {fd : FuncData} (F : Fun K "_law_gcd" "_law_gcd" sGcd f fd) (ma : mg "abs" = none) (mr : mg "range" = none) (mi : mg "int" = none) : FnOk P w K mg base CX0 1 f fd psGcd spGcd := by
  refine F.ok scGcd (fun vs H Q E h => ?_) (fun cdv A outer s H vs Q E hr h => ?_)
  · obtain ⟨a, b, rfl, _⟩ := h
    rfl
  · obtain ⟨a, b, rfl, ha, hb, k⟩ := h
    refine ⟨_, pss_cons (ps_par (i := 0) (j := 1) (by rfl) scGcd.nd rfl rfl (by decide) rfl rfl (pa_cons (pe_callB call_abs (by rfl) ma (by decide +kernel) (pa_cons (pv 0) pa_nil)) (pa_cons (pe_callB call_abs (by rfl) ma (by decide +kernel) (pa_cons (pv 1) pa_nil)) pa_nil)) (by rfl))
      (pss_cons (ps_for PassesOwn.never rfl (pi_range1 (by rfl) mr (pa_cons pe_int pa_nil)) (pg_name (i := 2) scGcd.nd rfl (Or.inl rfl))
        (pss_cons (ps_if (pt_cmpR op_eq (pv 1) pe_int (nomark _)) (pss_one ps_break) pss_nil)
        (pss_one (ps_par (i := 0) (j := 1) (by rfl) scGcd.nd rfl rfl (by decide) rfl rfl (pa_cons (pv 1) (pa_cons (pe_op op_mod (pe_callTy call_int1 (by rfl) mi (by decide +kernel) (pa_cons (pv 0) pa_nil)) (pv 1)) pa_nil)) (by rfl)))))
      (pss_one (ps_ret (pv 0)))), ?_⟩
    refine ⟨_, rfl, _, rfl, _, rfl, _, rfl, _, _, rfl, ?_⟩
    rw [abs_if, abs_if]
    generalize hx : a.natAbs = x at *
    generalize hy : b.natAbs = y at *
    refine ⟨60000, rfl, by decide, by decide, ?_⟩
    refine for_range (fun i σ H' => ∃ (u v : Nat) (r : Option V), σ = [some (.int u), some (.int v), r] ∧ H' = H ∧ Nat.gcd u v = Nat.gcd x y ∧ (i = 0 → u * v ≤ 2 ^ 26800) ∧ (1 ≤ i → v < u ∧ u * v * 2 ^ i ≤ 2 * 2 ^ 26800)) ⟨x, y, none, rfl, rfl, rfl, fun _ => ?_, fun z => absurd z (by decide)⟩ ?_ ?_
    · have e : (2 : Nat) ^ 26800 = 2 ^ 13400 * 2 ^ 13400 := by rw [← Nat.pow_add]
      rw [e]
      exact Nat.mul_le_mul (Nat.le_of_lt ha) (Nat.le_of_lt hb)
    · rintro i σ H' hi ⟨u, v, r, rfl, rfl, hg, h0, h1⟩
      refine ⟨_, rfl, rfl, _, rfl, ite2 (fun h => ?_) (fun h => ?_)⟩
      · have v0 : v = 0 := by
          have := keq h
          omega
        subst v0
        rw [Nat.gcd_zero_right] at hg
        refine ⟨_, rfl, ?_⟩
        rw [hg]
        exact k
      · have v0 : 0 < v := by
          have := kne h
          omega
        have z := gcd_step v0 h0 h1
        refine ⟨_, rfl, _, rfl, Or.inl ⟨_, rfl, _, rfl, _, _, rfl, rfl, by omega, _, _, rfl, ?_⟩⟩
        refine ⟨v, u % v, _, rfl, rfl, ?_, fun z => absurd z (by omega), fun _ => z⟩
        rw [← hg, Nat.gcd_comm u v, Nat.gcd_rec v u, Nat.gcd_comm]
    · rintro σ H' ⟨u, v, r, rfl, rfl, hg, h0, h1⟩
      obtain ⟨hl, hm⟩ := h1 (by show 1 ≤ (60000 : Int).toNat; decide)
      have v0 := gcd_done hl hm (by show 26800 + 1 < (60000 : Int).toNat; decide)
      subst v0
      rw [Nat.gcd_zero_right] at hg
      refine ⟨_, rfl, ?_⟩
      rw [hg]
      exact k
end
end Fk

set_option Elab.async false
set_option maxRecDepth 100000
set_option maxHeartbeats 2000000
namespace Fk
open PySem PySem.Spec L2 PyProof.Rows
/-! ### repr of data, where no repr is under way -/
section
variable {X : Cx}
theorem call_reprV (hg : X.A.guards = some []) (hu : X.A.units + 64 < cLine) : CallR X (.builtin "repr") (fun xs H Q => ∃ (v : V) (d : PyData), xs = [v] ∧ Dp X.K H v d ∧ d.showable = true ∧ d.hasDict = false ∧ d.depth ≤ 10 ∧ d.shown.length ≤ sizeLine ∧ Q (.str d.shown) H) := by
  intro pins s σ H xs us Q I r h
  obtain ⟨v, d, rfl, hd, hs, hn, hp, hl, q⟩ := h
  obtain ⟨u1, rfl, r1⟩ := vals1 r
  have rd := Dp.reads I d _ _ hd r1
  cases hd with
  | non =>
    obtain rfl : u1 = Value.none := r1
    exact PySem.P.repr_of_none ⟨.str _, H, I.tok _, ⟨_, rfl⟩, q⟩
  | bl b =>
    obtain rfl : u1 = Value.bool b := r1
    refine PySem.P.repr_of_bool ⟨.str _, H, I.tok _, ⟨_, rfl⟩, ?_⟩
    cases b <;> exact q
  | int i =>
    obtain ⟨t, rfl⟩ := r1
    exact PySem.P.repr_of_int (of_decide_eq_true hs) ⟨.str _, H, I.tok _, ⟨_, rfl⟩, q⟩
  | str x =>
    obtain ⟨t, rfl⟩ := r1
    exact PySem.P.repr_of_str ⟨.str _, H, I.tok _, ⟨_, rfl⟩, q⟩ hl
  | lst h1 h2 =>
    obtain ⟨as, rd⟩ := rd
    cases r1
    exact repr_of_reads' rd hs (fun z => by rw [hn] at z; cases z) hg (by omega) (fun _ _ e => e) (fun h' u tk hk => ⟨.str _, H, I.kept hk, ⟨u, rfl⟩, q⟩) hl
  | tup h1 h2 =>
    obtain ⟨as, rd⟩ := rd
    cases r1
    exact repr_of_reads' rd hs (fun z => by rw [hn] at z; cases z) hg (by omega) (fun _ _ e => e) (fun h' u tk hk => ⟨.str _, H, I.kept hk, ⟨u, rfl⟩, q⟩) hl
end
/-! ### a def that is called where no repr is under way, and the law's call -/
structure FnG (P : Program) (w : World) (K : PySem.W.Frag) (mg : Str → Option Value) (base : Heap) (k : Nat) (f : Addr) (fd : FuncData) (ps : List Str) (sp : Sp) : Prop where
  len : ∀ vs H Q E, sp vs H Q E → vs.length = ps.length
  run : ∀ (A : Around) (outer : List Env) (s : Shared) (H : Hp) (args : Args) (us : List Value) (vs : List V) (Q : VK) (E : XK), A.guards = some [] → Room k A → Env0 P w K mg base A outer s H →
    BindsTo s fd args (ps.zip us) → Vals vs us → sp vs H Q E → codeAny (model P w) A (.call (.ref f) args) (CR CX0 outer P w H s Q E) s
section
variable {P : Program} {w : World} {K : PySem.W.Frag} {mg : Str → Option Value} {base : Heap}
theorem fun_okG {x qual : Str} {st : Stmt} {f : Addr} {fd : FuncData} {N ps : List Str} {k : Nat} {sp : Sp} (F : Fun K x qual st f fd) (S : FnScope N ps (defScope st)) (len : ∀ vs H Q E, sp vs H Q E → vs.length = ps.length)
    (hb : ∀ (cdv : Value) (A : Around) (outer : List Env) (s : Shared) (H : Hp) (vs : List V) (Q : VK) (E : XK), (A.deeper (envOfC qual (defScope st) s.heap.objs.size f cdv)).guards = some [] →
      Room k (A.deeper (envOfC qual (defScope st) s.heap.objs.size f cdv)) → sp vs H Q E →
      ∃ t, PSs (cxOf CX0 P w K mg base N qual (defScope st) f cdv A outer s H E).nox (defBody st) t ∧ t { nx := fun _ H' => Q .non H', rt := Q } (start N vs) H) : FnG P w K mg base (k + 1) f fd ps sp := by
  obtain ⟨oc, od, kV, doc, pm, an, cdv, ct, osl, rfl, lk, hcd⟩ := F.ex
  refine ⟨len, fun A outer s H args us vs Q E hg hr e0 hbt r hsp => ?_⟩
  have ll := len _ _ _ _ hsp
  have KX : K.In s.heap := e0.mod.kin.keeps fun b o z => (e0.bs b o z).1
  have nl : s.heap.NoLimit := e0.mod.nolimit.keeps fun b o z => (e0.bs b o z).1
  refine codeAny_call_function hr.depth (KX _ _ lk) rfl S.co S.gen rfl (PySem.W.codeRec_of KX hcd) (hbt _ _ _ _ ?_)
  refine wpAny_newFunctionEnv_cells S.kind (fun ⟨n, v⟩ hy => ?_) fun env he s1 z => ?_
  · exact (S.par n (List.of_mem_zip hy).1).elim .inl fun q => .inr ⟨q, PySem.W.cellsFrom_some _ _ _ (.inl q)⟩
  · subst he
    refine ⟨nl.keeps z.toInCall.keep, codeAny_func ?_⟩
    obtain ⟨t, ht, hq⟩ := hb cdv A outer s H vs Q E hg (hr.deeper _) hsp
    have I := inv_start (CX := CX0) (E := E) S hr.hd e0 ll r z
    refine wpAny_mono (ht.nox.run [] s1 (start N vs) H _ I hq) (fun fl s' hs => ?_) fun e s' hs => hs
    cases fl with
    | ret u =>
      obtain ⟨v, σ', H', J, rv, q⟩ := hs
      exact ⟨v, H', J.os, J.bare, J.base, J.hok, rv, q⟩
    | next =>
      obtain ⟨σ', H', J, q⟩ := hs
      exact ⟨.non, H', J.os, J.bare, J.base, J.hok, rfl, q⟩
    | brk =>
      obtain ⟨_, _, _, q⟩ := hs
      exact q.elim
    | cont =>
      obtain ⟨_, _, _, q⟩ := hs
      exact q.elim
end
section
variable {X : Cx} {k : Nat} {f : Addr} {fd : FuncData} {ps : List Str} {sp : Sp} {x : Str} {p pos : Pos} {e : Expr} {es : List Expr} {t : TA}
theorem run_fnG {pins : List (Addr × Obj)} {σ : L2.St} {H : Hp} {s : Shared} {Q : VK} {us : List Value} {vs : List V} {E : XK} (F : FnG X.prog X.w X.K X.mg X.base k f fd ps sp) (hG : X.A.guards = some []) (hr : Room k X.A) (hb : Binds X.K fd ps [])
    (I : Inv X pins σ H s) (r : Vals vs us) (h : sp vs H Q E) : wpAny (model X.prog X.w) X.A (call (.ref f) us) (EP X pins σ Q) X.xe s := by
  have hl : us.length = ps.length := by rw [← r.length]; exact F.len _ _ _ _ h
  have b := hb s us I.kIn (by rw [List.append_nil]; exact hl)
  rw [List.append_nil] at b
  refine wpAny_call (codeAny_mono (F.run X.A X.stack s H ⟨us, []⟩ us vs Q E hG hr I.env0 b r h) fun r s' hq => ?_)
  cases r with
  | error e => exact False.elim hq
  | ok fl =>
    cases fl with
    | ret u => exact I.after hq
    | next => exact False.elim hq
    | brk => exact False.elim hq
    | cont => exact False.elim hq
def tCallG (sp : Sp) (t : TA) : TE := fun σ H Q => t σ H fun vs H1 => sp vs H1 Q fun _ _ _ => False
theorem pe_callGd (F : FnG X.prog X.w X.K X.mg X.base k f fd ps sp) (hG : X.A.guards = some []) (hr : Room k X.A) (hg : Gl X x) (hm : X.mg x = some (.ref f)) (hk : PySem.W.keepIn X.K (.ref f) = true) (hb : Binds X.K fd ps [])
    (ha : PA X (e :: es) t) (hdb : (x == ("__debug__" : Str)) = false := by decide) (he : starEach (e :: es) X.env = (false, eval e X.env) :: starEach es X.env := by rfl) (hpl : (backTo pos (starEach es X.env)).any (·.1) = false := by rfl) :
    PE X (.Call (.Name x p) (e :: es) [] pos) (tCallG sp t) := by
  refine ⟨fun pins s σ H Q I h => ?_⟩
  refine wpAny_Call_Name_kw (ld_glob I hg hm ?_ hdb)
  refine PySem.W.callWith_K (h₀ := X.base) I.ok.mod.kin hk (thn (ha.run pos pins s σ H _ I h) fun us s1 ⟨vs, H1, I1, r, q⟩ => ⟨I1.kIn, ?_⟩) he hpl
  exact run_fnG F hG hr hb I1 r q
end
section
variable {P : Program} {w : World} {K : PySem.W.Frag} {mg : Str → Option Value} {base : Heap}
/-- the law's call, from any heap in which nothing but the script is tracked -/
theorem core_callG {mb : Str → Option Value} {k : Nat} {fa a : Addr} {fd : FuncData} {x : Str} {sp : Sp} {s₁ : Shared} {vs : List Value} {H : Hp}
    (KX : K.In s₁.heap) (hns : s₁.heap.Ns mainGlobals mg) (hbn : s₁.heap.Ns builtinsNs mb) (hbb : ∀ x : Str, x ≠ "__name__" → mb x = bootBuiltins x) (hlim : s₁.heap.NoLimit) (hgn : s₁.gens = #[])
    (ha : s₁.heap.get? a = some { cls := .type "list", data := .seq vs.toArray }) (hr : Room k callerA)
    (F : ∀ base : Heap, K.In base → base.Ns mainGlobals mg → FnG P w K mg base k fa fd [x] sp) (hbind : ∀ (s : Shared) (u : Value), BindsTo s fd ⟨[u], []⟩ [(x, u)])
    (hO : Only H) (hok : HOk P w H s₁.heap) (hA : ∀ b, H b ≠ none → b = a) (hK : H a ≠ none → K.lookup a = none) (hsp : sp [.ref a] H (fun v _ => v = .bl true) fun _ _ _ => False) :
    codeAny (model P w) callerA (.call (.ref fa) ⟨[.ref a], []⟩) (fun r s' => r = .ok (.ret (.bool true)) ∧ OldK s₁.heap s'.heap ∧ s'.os = s₁.os ∧ AllBare s'.gens) s₁ := by
  have free : ∀ {b : Addr}, b ≠ a → H b = none := fun {b} hb => by
    cases q : H b with
    | none => rfl
    | some u => exact absurd (hA b (by rw [q]; exact fun z => nomatch z)) hb
  have notDict : ∀ {b : Addr} {o : Obj} {es : Array DictEntry} {ep : Nat}, s₁.heap.get? b = some o → o.data = .dict es ep → H b = none := fun {b o es ep} e d => free fun z => by
    rw [z, ha] at e
    cases e
    have d' : Data.seq vs.toArray _ = Data.dict es ep := d
    cases d'
  have nsH : ∀ {b : Addr} {m : Str → Option Value}, s₁.heap.Ns b m → (hidT s₁.heap H).Ns b m := fun {b m} ⟨o, es, ep, e, d, r⟩ => ⟨o, es, ep, hidT_get e (notDict e d), d, r⟩
  have kH : K.In (hidT s₁.heap H) := fun b o e => hidT_get (KX b o e) (by
    by_cases hb : b = a
    · subst hb
      cases q : H b with
      | none => rfl
      | some u =>
        have z := hK (by rw [q]; exact fun z => nomatch z)
        rw [e] at z
        cases z
    · exact free hb)
  obtain ⟨mc, c1, c2⟩ := hlim
  have e0 : Env0 P w K mg (hidT s₁.heap H) callerA [] s₁ H := ⟨rfl, ⟨kH, nsH hns, ⟨mb, nsH hbn, hbb⟩, ⟨mc, nsH c1, c2⟩⟩, fun b o e => of_hidT e, Nat.le_of_eq (hidT_size _ _), trivial, fun b hb => (nomatch (show b ∈ ([] : List Addr) from hb)), hok, .of_eq hgn⟩
  refine codeAny_mono ((F _ kH (nsH hns)).run callerA [] s₁ H ⟨[.ref a], []⟩ [.ref a] [.ref a] _ _ rfl hr e0 (hbind s₁ (.ref a)) (.cons rfl .nil) hsp) fun r s' h => ?_
  cases r with
  | error e => exact False.elim h
  | ok fl =>
    cases fl with
    | next => exact False.elim h
    | brk => exact False.elim h
    | cont => exact False.elim h
    | ret u =>
      obtain ⟨v, H', os, bare, un, hok', r', q⟩ := h
      obtain rfl : v = .bl true := q
      obtain rfl : u = Value.bool true := r'
      refine ⟨rfl, OldK.of_keep fun b o e => ?_, os, bare⟩
      cases q : H b with
      | none => exact un.keep b o e q (fun z => nomatch (show b ∈ ([] : List Addr) from z)) (fun z => nomatch z)
      | some u =>
        rcases hO b with z | ⟨ob, xs, z⟩
        · rw [q] at z
          cases z
        · obtain ⟨e1, _⟩ := hok b _ z
          obtain ⟨e2, _⟩ := hok' b _ (un.frzs b ob _ z)
          rw [e] at e1
          cases e1
          exact e2
theorem law_callG {mb : Str → Option Value} {k : Nat} {fa a : Addr} {fd : FuncData} {x : Str} {sp : Sp} {s₁ : Shared} {vs : List Value} {ns : List Int}
    (KX : K.In s₁.heap) (hns : s₁.heap.Ns mainGlobals mg) (hbn : s₁.heap.Ns builtinsNs mb) (hbb : ∀ x : Str, x ≠ "__name__" → mb x = bootBuiltins x) (hlim : s₁.heap.NoLimit) (hgn : s₁.gens = #[])
    (ha : s₁.heap.get? a = some { cls := .type "list", data := .seq vs.toArray }) (hi : IntsAre vs ns) (hl : ns.length ≤ sizeLine) (hr : Room k callerA)
    (F : ∀ base : Heap, K.In base → base.Ns mainGlobals mg → FnG P w K mg base k fa fd [x] sp) (hbind : ∀ (s : Shared) (u : Value), BindsTo s fd ⟨[u], []⟩ [(x, u)])
    (hsp : ∀ H : Hp, Only H → SqL K H a (ns.map V.int) → sp [.ref a] H (fun v _ => v = .bl true) fun _ _ _ => False) :
    codeAny (model P w) callerA (.call (.ref fa) ⟨[.ref a], []⟩) (fun r s' => r = .ok (.ret (.bool true)) ∧ OldK s₁.heap s'.heap ∧ s'.os = s₁.os ∧ AllBare s'.gens) s₁ := by
  have rv := vals_ints hi
  have lv := hi.length
  have one : ∀ H : Hp, Only H → SqL K H a (ns.map V.int) → HOk P w H s₁.heap → (∀ b, H b ≠ none → b = a) → (H a ≠ none → K.lookup a = none) → _ :=
    fun H hO hS hok hA hK => core_callG KX hns hbn hbb hlim hgn ha hr F hbind hO hok hA hK (hsp H hO hS)
  cases hk : K.lookup a with
  | some o =>
    have e := KX a o hk
    rw [ha] at e
    cases e
    refine one (fun _ => none) (fun _ => .inl rfl) (.inr ⟨_, vs.toArray, _, hk, rfl, rfl, rfl, ?_, by simpa using rv⟩) (fun b u z => ?_) (fun b z => absurd rfl z) fun z => absurd rfl z
    · rw [List.size_toArray, lv]
      exact hl
    · have z' : (none : Option HO) = some u := z
      cases z'
  | none =>
    refine one (fun b => if b = a then some (.frz { cls := .type "list", data := .seq vs.toArray } (.lst (ns.map V.int))) else none) (fun b => ?_) (.inl (.inr ⟨_, if_pos rfl⟩)) (fun b u z => ?_) (fun b z => ?_) fun _ => hk
    · by_cases hb : b = a
      · exact .inr ⟨_, _, if_pos hb⟩
      · exact .inl (if_neg hb)
    · by_cases hb : b = a
      · cases (if_pos hb).symm.trans z
        subst hb
        exact ⟨ha, by rw [List.length_map]; exact hl, vs, _, rv, ha⟩
      · cases (if_neg hb).symm.trans z
    · by_cases hb : b = a
      · exact hb
      · exact absurd (if_neg hb) z
end
/-- the goal that the head leaves -/
theorem walkG {l : PySem.W.OpenLaw} {n k : Nat} {q : Program} {loose : List Str} {XP : (Str → Option Value) → Heap → Prop} {YP : World → Heap → Prop} {d : DefRec} {K : Params → PySem.W.Frag} {sp : World → Sp} {x : Str}
    (hn : l.most = some n) (hn2 : n ≤ sizeLine) (hdf : d.params.defaults = []) (hr : Room k callerA) (hY : ∀ (w : World) (h : Heap), YP w h → (K w.params).In h)
    (F : ∀ (w : World) (mg : Str → Option Value) (fa : Addr) (h : Heap), (K w.params).In h → h.Ns mainGlobals mg → mg d.name = some (.ref fa) →
      ∃ fd : FuncData, (∀ (s : Shared) (u : Value), BindsTo s fd ⟨[u], []⟩ [(x, u)]) ∧ ∀ base : Heap, (K w.params).In base → base.Ns mainGlobals mg → FnG l.prog w (K w.params) mg base k fa fd [x] (sp w))
    (hsp : ∀ (w : World) (H : Hp) (a : Addr) (ns : List Int), ns.length ≤ n → Only H → SqL (K w.params) H a (ns.map V.int) → sp w [.ref a] H (fun v _ => v = .bl true) fun _ _ _ => False) :
    PySem.W.WalkO q loose XP YP l.row.toRowW d [] (fun f vs => PySem.call f vs) := by
  refine Att.attach_call hn hdf fun w s₀ s₁ mg mb fa o pm cd doc a vs ns G Y ho hd hcd hmg hobj hints hlen hg => ?_
  obtain ⟨fd, hb, hF⟩ := F w mg fa _ (hY w _ Y) G.T.g hmg
  exact law_callG (hY w _ Y) G.T.g G.T.b G.T.builtins G.T.nolimit hg hobj hints (Nat.le_trans hlen hn2) hr hF hb fun H hO hS => hsp w H a ns hlen hO hS
end Fk

set_option Elab.async false
set_option maxRecDepth 100000
namespace Fk
open PySem L2
/-! ### is_integer, is_ratio, as_ratio, ratio_text -/
abbrev sIsInt : Stmt := top 5
abbrev sIsRat : Stmt := top 6
abbrev sAsRat : Stmt := top 8
/-- whether a value is an integer -/
def IntV (K : PySem.W.Frag) (H : Hp) (v : V) (b : Bool) : Prop := ∃ ty b1 b2, TyX K H v ty ∧ PySem.W.kitOne K ty (.type "int") = some b1 ∧ PySem.W.kitOne K ty (.type "bool") = some b2 ∧ b = (b1 && !b2)
theorem IntV.int (K : PySem.W.Frag) (H : Hp) (i : Int) : IntV K H (.int i) true := ⟨_, true, false, .base (.int i), kit_ty (by decide), kit_ty (by decide), rfl⟩
theorem IntV.bl (K : PySem.W.Frag) (H : Hp) (i : Bool) : IntV K H (.bl i) false := ⟨_, true, true, .base (.bl i), kit_ty (by decide), kit_ty (by decide), rfl⟩
theorem IntV.str (K : PySem.W.Frag) (H : Hp) (i : Str) : IntV K H (.str i) false := ⟨_, false, false, .base (.str i), kit_ty (by decide), kit_ty (by decide), rfl⟩
theorem IntV.non (K : PySem.W.Frag) (H : Hp) : IntV K H .non false := ⟨_, false, false, .base .non, kit_ty (by decide), kit_ty (by decide), rfl⟩
theorem IntV.lst {K : PySem.W.Frag} {H : Hp} {p : Addr} {xs : List V} (h : H p = some (.lst xs)) : IntV K H (.ref p) false := ⟨_, false, false, .base (.lst h), kit_ty (by decide), kit_ty (by decide), rfl⟩
theorem IntV.tup {K : PySem.W.Frag} {H : Hp} {p : Addr} {xs : List V} (h : H p = some (.tup xs)) : IntV K H (.ref p) false := ⟨_, false, false, .base (.tup h), kit_ty (by decide), kit_ty (by decide), rfl⟩
/-- whether a value is a ratio -/
inductive Val (K : PySem.W.Frag) (H : Hp) : V → Bool → Prop
  | int (i : Int) : Val K H (.int i) true
  | other {v : V} {ty : Value} (h : IntV K H v false) (t : TyX K H v ty) (n : PySem.W.kitOne K ty (.type "tuple") = some false) : Val K H v false
  | len {p : Addr} {xs : List V} (h : H p = some (.tup xs)) (n : xs.length ≠ 2) : Val K H (.ref p) false
  | rat {p : Addr} {a b : Int} (h : H p = some (.tup [.int a, .int b])) : Val K H (.ref p) (decide (0 < b))
  | one {p : Addr} {x y : V} (h : H p = some (.tup [x, y])) (hx : IntV K H x false) : Val K H (.ref p) false
  | two {p : Addr} {y : V} {a : Int} (h : H p = some (.tup [.int a, y])) (hy : IntV K H y false) : Val K H (.ref p) false
def spIsInt (K : PySem.W.Frag) : Sp := fun vs H Q _ => ∃ v b, vs = [v] ∧ IntV K H v b ∧ Q (.bl b) H
def spIsRat (K : PySem.W.Frag) : Sp := fun vs H Q _ => ∃ v b, vs = [v] ∧ Val K H v b ∧ Q (.bl b) H
/-- v told in lowest terms -/
def Low (H : Hp) (v : V) (a b : Int) : Prop := (v = .int a ∧ b = 1) ∨ ∃ (q : Addr) (c d : Int), v = .ref q ∧ H q = some (.tup [.int c, .int d]) ∧ 0 < d ∧ c.natAbs < 2 ^ 13400 ∧ d.natAbs < 2 ^ 13400 ∧
  a = c / (Nat.gcd c.natAbs d.natAbs : Nat) ∧ b = d / (Nat.gcd c.natAbs d.natAbs : Nat)
def spAs : Sp := fun vs H Q _ => ∃ v a b, vs = [v] ∧ Low H v a b ∧ ∀ p, H p = none → Q (.ref p) (upd H p (.tup [.int a, .int b]))
section
variable {P : Program} {w : World} {K : PySem.W.Frag} {mg : Str → Option Value} {base : Heap}
abbrev psv : List Str := ["value"]
theorem scIsInt : FnScope psv psv (defScope sIsInt) := ⟨rfl, rfl, rfl, by decide +kernel, rfl, by decide +kernel, by decide +kernel⟩
theorem ok_isint {f : Addr} {fd : FuncData} (F : Fun K "is_integer" "is_integer" sIsInt f fd) (mi : mg "isinstance" = none) (mn : mg "int" = none) (mb : mg "bool" = none) : FnOk P w K mg base CX0 1 f fd psv (spIsInt K) := by
  refine F.ok scIsInt (fun vs H Q E h => ?_) (fun cdv A outer s H vs Q E hr h => ?_)
  · obtain ⟨i, b, rfl, _⟩ := h
    rfl
  · obtain ⟨v, b, rfl, ⟨ty, b1, b2, ht, k1, k2, rfl⟩, k⟩ := h
    refine ⟨_, pss_one (ps_ret (pe_and (pe_callB call_isi (by rfl) mi (by decide +kernel) (pa_cons (pv 0) (pa_cons (pe_bltn (v := .ty "int") (by rfl) mn (by decide +kernel) rfl) pa_nil)))
      (pe_one (pe_not (pe_callB call_isi (by rfl) mi (by decide +kernel) (pa_cons (pv 0) (pa_cons (pe_bltn (v := .ty "bool") (by rfl) mb (by decide +kernel) rfl) pa_nil))))))), ?_⟩
    refine ⟨_, rfl, v, _, ty, _, b1, rfl, .ty _, ht, k1, b1, rfl, ?_⟩
    cases b1 with
    | false => exact iteF k
    | true => exact iteT ⟨_, rfl, v, _, ty, _, b2, rfl, .ty _, ht, k2, b2, rfl, k⟩
theorem scIsRat : FnScope psv psv (defScope sIsRat) := ⟨rfl, rfl, rfl, by decide +kernel, rfl, by decide +kernel, by decide +kernel⟩
theorem ok_israt {f fI : Addr} {fd dI : FuncData} (F : Fun K "is_ratio" "is_ratio" sIsRat f fd) (mi : mg "isinstance" = none) (mt : mg "tuple" = none) (ml : mg "len" = none) (I : Cl P w K mg base "is_integer" psv 1 (spIsInt K) fI dI) : FnOk P w K mg base CX0 2 f fd psv (spIsRat K) := by
  refine F.ok scIsRat (fun vs H Q E h => ?_) (fun cdv A outer s H vs Q E hr h => ?_)
  · obtain ⟨i, b, rfl, _⟩ := h
    rfl
  · obtain ⟨v, b, rfl, hv, k⟩ := h
    refine ⟨_, pss_cons (ps_if (pt_val (pe_call I.G hr (by rfl) I.g I.kp I.b .nil pass0 (pa_cons (pv 0) pa_nil))) (pss_one (ps_ret pe_bl)) pss_nil)
      (pss_cons (ps_if (PW.pt (pw_or (pt_not (pt_val (pe_callB call_isi (by rfl) mi (by decide +kernel) (pa_cons (pv 0) (pa_cons (pe_bltn (v := .ty "tuple") (by rfl) mt (by decide +kernel) rfl) pa_nil)))))
          (pw_or1 (pt_cmpR op_ne (pe_callB call_len_seq (by rfl) ml PySem.boot_len (pa_cons (pv 0) pa_nil)) pe_int (nomark _))))) (pss_one (ps_ret pe_bl)) pss_nil)
      (pss_one (ps_ret (pe_and (pe_call I.G hr (by rfl) I.g I.kp I.b .nil pass0 (pa_cons (pe_ix ix_tup (pv 0) pe_int (fun _ _ => rfl)) pa_nil))
        (pe_and (pe_call I.G hr (by rfl) I.g I.kp I.b .nil pass0 (pa_cons (pe_ix ix_tup (pv 0) pe_int (fun _ _ => rfl)) pa_nil))
        (pe_one (pe_cmpR op_gt (pe_ix ix_tup (pv 0) pe_int (fun _ _ => rfl)) pe_int (nomark _)))))))), ?_⟩
    cases hv with
    | int i => exact ⟨_, rfl, _, true, rfl, .int K H i, true, rfl, iteT k⟩
    | other h t n =>
      refine ⟨_, rfl, _, false, rfl, h, false, rfl, iteF ?_⟩
      exact ⟨_, rfl, v, _, _, _, false, rfl, .ty _, t, n, false, rfl, iteT k⟩
    | @len p xs h n =>
      refine ⟨_, rfl, _, false, rfl, .tup h, false, rfl, iteF ?_⟩
      have st : SqT K H p xs := Or.inl (Or.inl h)
      refine ⟨_, rfl, _, _, _, _, true, rfl, .ty _, .base (.tup h), kit_ty (by decide), true, rfl, iteF ?_⟩
      refine ⟨_, rfl, p, _, rfl, .inr st, rfl, _, rfl, ?_⟩
      rw [decide_eq_false (fun z => n (by have := V.int.inj z; omega) : ¬ V.int (xs.length : Nat) = V.int 2)]
      exact iteT k
    | @rat p a c h =>
      refine ⟨_, rfl, _, false, rfl, .tup h, false, rfl, iteF ?_⟩
      have st : SqT K H p [V.int a, V.int c] := Or.inl (Or.inl h)
      refine ⟨_, rfl, _, _, _, _, true, rfl, .ty _, .base (.tup h), kit_ty (by decide), true, rfl, iteF ?_⟩
      refine ⟨_, rfl, p, _, rfl, .inr st, rfl, _, rfl, iteF ?_⟩
      refine ⟨_, rfl, p, _, 0, _, rfl, rfl, st, rfl, _, true, rfl, .int K H a, true, rfl, iteT ?_⟩
      refine ⟨_, rfl, p, _, 1, _, rfl, rfl, st, rfl, _, true, rfl, .int K H c, true, rfl, iteT ?_⟩
      exact ⟨_, rfl, p, _, 1, _, rfl, rfl, st, rfl, _, _, rfl, rfl, k⟩
    | @one p x y h hx =>
      refine ⟨_, rfl, _, false, rfl, .tup h, false, rfl, iteF ?_⟩
      have st : SqT K H p [x, y] := Or.inl (Or.inl h)
      refine ⟨_, rfl, _, _, _, _, true, rfl, .ty _, .base (.tup h), kit_ty (by decide), true, rfl, iteF ?_⟩
      refine ⟨_, rfl, p, _, rfl, .inr st, rfl, _, rfl, iteF ?_⟩
      exact ⟨_, rfl, p, _, 0, _, rfl, rfl, st, rfl, _, false, rfl, hx, false, rfl, iteF k⟩
    | @two p y a h hy =>
      refine ⟨_, rfl, _, false, rfl, .tup h, false, rfl, iteF ?_⟩
      have st : SqT K H p [V.int a, y] := Or.inl (Or.inl h)
      refine ⟨_, rfl, _, _, _, _, true, rfl, .ty _, .base (.tup h), kit_ty (by decide), true, rfl, iteF ?_⟩
      refine ⟨_, rfl, p, _, rfl, .inr st, rfl, _, rfl, iteF ?_⟩
      refine ⟨_, rfl, p, _, 0, _, rfl, rfl, st, rfl, _, true, rfl, .int K H a, true, rfl, iteT ?_⟩
      exact ⟨_, rfl, p, _, 1, _, rfl, rfl, st, rfl, _, false, rfl, hy, false, rfl, iteF k⟩
theorem scAsRat : FnScope psv psv (defScope sAsRat) := ⟨rfl, rfl, rfl, by decide +kernel, rfl, by decide +kernel, by decide +kernel⟩
theorem ok_as {f fL : Addr} {fd dL : FuncData} (F : Fun K "as_ratio" "as_ratio" sAsRat f fd) (mi : mg "isinstance" = none) (mn : mg "int" = none) (L : Cl P w K mg base "lowest" ["top", "bottom"] 1 spLowest fL dL) : FnOk P w K mg base CX0 2 f fd psv spAs := by
  refine F.ok scAsRat (fun vs H Q E h => ?_) (fun cdv A outer s H vs Q E hr h => ?_)
  · obtain ⟨v, a, b, rfl, _⟩ := h
    rfl
  · obtain ⟨v, a, b, rfl, hv, k⟩ := h
    refine ⟨_, pss_cons (ps_if (pt_val (pe_callB call_isi (by rfl) mi (by decide +kernel) (pa_cons (pv 0) (pa_cons (pe_bltn (v := .ty "int") (by rfl) mn (by decide +kernel) rfl) pa_nil)))) (pss_one (ps_ret (pe_tup (pa_cons (pv 0) (pa_cons pe_int pa_nil))))) pss_nil)
      (pss_one (ps_ret (pe_call L.G hr (by rfl) L.g L.kp L.b .nil pass0 (pa_cons (pe_ix ix_tup (pv 0) pe_int (fun _ _ => rfl)) (pa_cons (pe_ix ix_tup (pv 0) pe_int (fun _ _ => rfl)) pa_nil))))), ?_⟩
    rcases hv with ⟨rfl, rfl⟩ | ⟨q, c, d, rfl, hq, d0, hc, hd, rfl, rfl⟩
    · exact ⟨_, rfl, _, _, _, _, true, rfl, .ty _, .base (.int a), kit_ty (by decide), true, rfl, iteT ⟨_, rfl, by show 2 ≤ sizeLine; decide, k⟩⟩
    · have st : SqT K H q [V.int c, V.int d] := Or.inl (Or.inl hq)
      refine ⟨_, rfl, _, _, _, _, false, rfl, .ty _, .base (.tup hq), kit_ty (by decide), false, rfl, iteF ?_⟩
      exact ⟨_, rfl, q, _, 0, _, rfl, rfl, st, rfl, _, rfl, q, _, 1, _, rfl, rfl, st, rfl, c, d, rfl, d0, hc, hd, k⟩
end
end Fk

set_option Elab.async false
set_option maxRecDepth 100000
set_option maxHeartbeats 4000000
namespace Fk
open PySem L2
/-! ### a walk by its turns -/
theorem wk {J : It} {n : Nat} {H0 : Hp} {Qd : Hp → Prop} {B : (Hp → Prop) → V → Hp → Prop} (Pv : Nat → Hp → Prop) (h0 : Pv 0 H0) (hd : ∀ H, Pv n H → J.stop n H ∧ Qd H)
    (hs : ∀ i H, i < n → Pv i H → J.go i H ∧ ∀ x H', J.yld i H x H' → B (Pv (i + 1)) x H') :
    ∃ W : Nat → Nat → Hp → Prop, (∃ m, W 0 m H0) ∧ ∀ i m H, W i m H → (J.stop i H ∧ Qd H) ∨ (J.go i H ∧ ∃ Nx : Hp → Prop, (∀ H', Nx H' → ∃ m', m' < m ∧ W (i + 1) m' H') ∧ ∀ x H', J.yld i H x H' → B Nx x H') := by
  refine ⟨fun i m H => m = n - i ∧ i ≤ n ∧ Pv i H, ⟨n, by simp, Nat.zero_le _, h0⟩, ?_⟩
  rintro i m H ⟨rfl, hi, p⟩
  by_cases hlt : i < n
  · obtain ⟨g, b⟩ := hs i H hlt p
    exact .inr ⟨g, Pv (i + 1), fun H' p' => ⟨n - (i + 1), by omega, rfl, hlt, p'⟩, b⟩
  · have e : i = n := by omega
    subst e
    exact .inl (hd H p)
/-! ### what stays: all but some places -/
def Keeps (S : List Addr) (H H' : Hp) : Prop := ∀ b o, b ∉ S → H b = some o → H' b = some o
theorem Keeps.refl {S : List Addr} {H : Hp} : Keeps S H H := fun _ _ _ e => e
theorem Keeps.trans {S : List Addr} {H H1 H2 : Hp} (a : Keeps S H H1) (b : Keeps S H1 H2) : Keeps S H H2 := fun c o n e => b c o n (a c o n e)
theorem Same.keeps {S : List Addr} {H H' : Hp} (a : Same H H') : Keeps S H H' := fun b o _ e => a b o e
theorem Keeps.mono {S T : List Addr} {H H' : Hp} (a : Keeps S H H') (h : ∀ x ∈ S, x ∈ T) : Keeps T H H' := fun b o n e => a b o (fun z => n (h b z)) e
theorem Keeps.at {S : List Addr} {p : Addr} {H : Hp} {o : HO} (h : p ∈ S) : Keeps S H (upd H p o) := fun b x n e => by
  rw [upd_ne (fun z => n (by rw [z]; exact h))]
  exact e
theorem Keeps.new {S : List Addr} {q : Addr} {H : Hp} {o : HO} (h : H q = none) : Keeps S H (upd H q o) := Same.keeps (same_new h)
theorem Keeps.same {H H' : Hp} (a : Keeps [] H H') : Same H H' := fun b o e => a b o (fun z => nomatch z) e
theorem Keep.keeps {p : Addr} {H H' : Hp} (a : Keep p H H') : Keeps [p] H H' := fun b o n e => a b o (fun z => n (by rw [z]; exact List.mem_singleton.mpr rfl)) e
/-- a new place is not one that is held -/
theorem fresh_of {H : Hp} {p : Addr} {S : List Addr} (h : H p = none) (hS : ∀ x ∈ S, ∃ o, H x = some o) : p ∉ S := fun z => by
  obtain ⟨o, e⟩ := hS p z
  rw [h] at e
  cases e
def iv (xs : List Int) : List V := xs.map V.int
theorem iv_at {xs : List Int} {i : Nat} {x : V} (h : (iv xs)[i]? = some x) : ∃ z, xs[i]? = some z ∧ x = .int z := by
  unfold iv at h
  rw [List.getElem?_map] at h
  cases e : xs[i]? with
  | none =>
    rw [e] at h
    cases h
  | some z =>
    rw [e] at h
    exact ⟨z, rfl, (Option.some.inj h).symm⟩
theorem iv_get {xs : List Int} {i : Nat} {z : Int} (h : xs[i]? = some z) : (iv xs)[i]? = some (.int z) := by
  unfold iv
  rw [List.getElem?_map, h]
  rfl
theorem iv_len (xs : List Int) : (iv xs).length = xs.length := List.length_map ..
theorem atI_m1 {α : Type} {xs : List α} {x : α} (h : xs[xs.length - 1]? = some x) : atI xs (-1) = some x := by
  have h0 : 0 < xs.length := by
    have := (List.getElem?_eq_some_iff.mp h).1
    omega
  have e : ixN xs.length (-1) = some (xs.length - 1) := by
    unfold ixN
    rw [if_neg (by decide), if_pos (by omega)]
    exact congrArg some (by omega)
  unfold atI
  rw [e]
  exact h
theorem iteF' {b : Bool} {t u : Prop} (hb : b = false) (h : u) : if b = true then t else u := by rw [hb]; exact h
theorem lookup_zip {k : Str} {v : V} : ∀ {keys : List Str} {vals : List V} {i : Nat}, keys.Nodup → keys[i]? = some k → vals[i]? = some v → (keys.zip vals).lookup k = some v
  | [], _, _, _, h, _ => nomatch h
  | _ :: _, [], _, _, _, h => nomatch h
  | a :: ks, b :: vs, 0, _, h1, h2 => by
    obtain rfl : a = k := Option.some.inj h1
    obtain rfl : b = v := Option.some.inj h2
    show List.lookup a ((a, b) :: ks.zip vs) = some b
    rw [List.lookup_cons, beq_self_eq_true]
  | a :: ks, b :: vs, i + 1, nd, h1, h2 => by
    have hm : k ∈ ks := List.mem_of_getElem? h1
    have ne : ¬ k = a := fun e => (List.nodup_cons.mp nd).1 (e ▸ hm)
    show List.lookup k ((a, b) :: ks.zip vs) = some v
    rw [List.lookup_cons, show (k == a) = false from beq_eq_false_iff_ne.mpr ne]
    exact lookup_zip (i := i) (List.nodup_cons.mp nd).2 h1 h2
theorem putF_zip {k : Str} {v : V} : ∀ {keys : List Str} {vals : List V} {i : Nat}, keys.Nodup → keys.length = vals.length → keys[i]? = some k → putF k v (keys.zip vals) = keys.zip (vals.set i v)
  | [], _, _, _, _, h => nomatch h
  | _ :: _, [], _, _, h, _ => nomatch h
  | a :: ks, b :: vs, 0, _, _, h1 => by
    obtain rfl : a = k := Option.some.inj h1
    show (if a = a then (a, v) :: ks.zip vs else _) = _
    rw [if_pos rfl]
    rfl
  | a :: ks, b :: vs, i + 1, nd, hl, h1 => by
    have hm : k ∈ ks := List.mem_of_getElem? h1
    have ne : ¬ a = k := fun e => (List.nodup_cons.mp nd).1 (e ▸ hm)
    show (if a = k then (a, v) :: ks.zip vs else (a, b) :: putF k v (ks.zip vs)) = _
    rw [if_neg ne, putF_zip (i := i) (List.nodup_cons.mp nd).2 (Nat.succ.inj hl) h1]
    rfl
theorem putF_new {k : Str} {v : V} : ∀ {keys : List Str} {vals : List V}, k ∉ keys → keys.length = vals.length → putF k v (keys.zip vals) = (keys ++ [k]).zip (vals ++ [v])
  | [], [], _, _ => rfl
  | [], _ :: _, _, h => nomatch h
  | _ :: _, [], _, h => nomatch h
  | a :: ks, b :: vs, h, hl => by
    have ne : ¬ a = k := fun e => h (e ▸ List.mem_cons_self)
    show (if a = k then (a, v) :: ks.zip vs else (a, b) :: putF k v (ks.zip vs)) = _
    rw [if_neg ne, putF_new (fun z => h (List.mem_cons_of_mem _ z)) (Nat.succ.inj hl)]
    rfl
theorem pi_tupK {X : Cx} {K : PySem.W.Frag} {tg l : Expr} {tl : TE} (hK : X.K = K) (hl : PE X l tl) : PI X tg l (iTup K tl) := by
  subst hK
  exact pi_tup hl
theorem pe_fldK {X : Cx} {K : PySem.W.Frag} {o : Expr} {f : Str} {pos : Pos} {ta : TE} (hK : X.K = K) (he : PE X o ta) (hb : attributeBase o f X.env (eval o X.env) = eval o X.env) : PE X (.Attribute o f pos) (tFld K ta f) := by
  subst hK
  exact pe_fld he hb
structure VCls (K : PySem.W.Frag) (C : Addr) (ks : List Str) : Prop where
  cl : Cls K C
  no : ∀ f ∈ ks, NoAttr K C f
/-- a method of a class -/
structure MCl (P : Program) (w : World) (K : PySem.W.Frag) (mg : Str → Option Value) (base : Heap) (C : Addr) (m : Str) (ps : List Str) (k : Nat) (sp : Sp) (f : Addr) (fd : FuncData) : Prop where
  m : Meth K C m f
  G : FnOk P w K mg base CX0 k f fd ("self" :: ps) sp
  b : Binds K fd ("self" :: ps) []
def Bd (B : Nat) (x : Int) : Prop := x.natAbs < 2 ^ B
theorem Bd.mul {A B : Nat} {x y : Int} (hx : Bd A x) (hy : Bd B y) (hA : A ≤ 200000) (hB : B ≤ 200000) : CMulW x y :=
  wide_mul (a := 200000) (b := 200000) (Nat.lt_of_lt_of_le hx (Nat.pow_le_pow_right (by decide) hA)) (Nat.lt_of_lt_of_le hy (Nat.pow_le_pow_right (by decide) hB)) (by decide) (by decide) (by decide)
theorem Bd.mono {A B : Nat} {x : Int} (hx : Bd A x) (h : A ≤ B) : Bd B x := Nat.lt_of_lt_of_le hx (Nat.pow_le_pow_right (by decide) h)
theorem Bd.mulB {A B : Nat} {x y : Int} (hx : Bd A x) (hy : Bd B y) : Bd (A + B) (x * y) := by
  unfold Bd at *
  rw [Int.natAbs_mul, Nat.pow_add]
  exact Nat.mul_lt_mul'' hx hy
theorem Bd.neg {A : Nat} {x : Int} (hx : Bd A x) : Bd A (-x) := by
  unfold Bd at *
  rw [Int.natAbs_neg]
  exact hx
theorem Bd.addB {A : Nat} {x y : Int} (hx : Bd A x) (hy : Bd A y) : Bd (A + 1) (x + y) := by
  unfold Bd at *
  have := Int.natAbs_add_le x y
  rw [Nat.pow_succ]
  omega
theorem Bd.subB {A : Nat} {x y : Int} (hx : Bd A x) (hy : Bd A y) : Bd (A + 1) (x - y) := by
  rw [Int.sub_eq_add_neg]
  exact hx.addB hy.neg
end Fk

set_option Elab.async false
set_option maxRecDepth 100000
set_option maxHeartbeats 4000000
namespace Fk
open PySem L2
/-! ### the tableau -/
structure Tb where
  many : Nat
  D : Int
  base : List Nat
  scales : List Int
  signs : List Int
  lines : List (List Int)
structure Ad where
  dx : Addr
  b : Addr
  sc : Addr
  sg : Addr
  l : Addr
  ls : List Addr
def tbK : List Str := ["many", "divisor", "base", "scales", "signs", "lines"]
theorem tbNd : tbK.Nodup := by decide +kernel
def nv (xs : List Nat) : List V := xs.map fun (n : Nat) => V.int (n : Int)
def rv (ls : List Addr) : List V := ls.map V.ref
def LinesAt (H : Hp) (ls : List Addr) (lines : List (List Int)) : Prop := ls.length = lines.length ∧ ∀ (i : Nat) (p : Addr) (row : List Int), ls[i]? = some p → lines[i]? = some row → H p = some (.lst (iv row))
def tbV (a : Ad) (t : Tb) : List V := [.int t.many, .int t.D, .ref a.b, .ref a.sc, .ref a.sg, .ref a.l]
structure TbAt (C : Addr) (H : Hp) (o : Addr) (a : Ad) (t : Tb) : Prop where
  o : H o = some (.ins C a.dx (tbK.zip (tbV a t)))
  b : H a.b = some (.lst (nv t.base))
  sc : H a.sc = some (.lst (iv t.scales))
  sg : H a.sg = some (.lst (iv t.signs))
  l : H a.l = some (.lst (rv a.ls))
  r : LinesAt H a.ls t.lines
  nb : a.b ≠ a.sc ∧ a.b ≠ a.sg ∧ a.b ≠ a.l ∧ a.b ∉ a.ls
structure Wf (B : Nat) (t : Tb) : Prop where
  bB : B ≤ 3000
  n1 : t.many ≤ 8
  m1 : t.lines.length ≤ 4
  bl : t.base.length = t.lines.length
  sl : t.scales.length = t.many + 1
  gl : t.signs.length = t.lines.length
  ll : ∀ r ∈ t.lines, r.length = t.many + t.lines.length + 1
  bb : ∀ b ∈ t.base, b < t.many + t.lines.length
  lb : ∀ r ∈ t.lines, ∀ x ∈ r, Bd B x
  sb : ∀ x ∈ t.scales, 0 < x ∧ Bd B x
  gb : ∀ x ∈ t.signs, Bd B x
  d0 : 0 < t.D
  db : Bd B t.D
structure CostOk (B : Nat) (t : Tb) (cs : List Int) : Prop where
  l : cs.length = t.many + t.lines.length
  b : ∀ x ∈ cs, Bd B x
theorem LinesAt.same {H H' : Hp} {ls : List Addr} {lines : List (List Int)} (h : LinesAt H ls lines) (s : Same H H') : LinesAt H' ls lines := ⟨h.1, fun i p r a b => s _ _ (h.2 i p r a b)⟩
theorem TbAt.same {C : Addr} {H H' : Hp} {o : Addr} {a : Ad} {t : Tb} (h : TbAt C H o a t) (s : Same H H') : TbAt C H' o a t := ⟨s _ _ h.o, s _ _ h.b, s _ _ h.sc, s _ _ h.sg, s _ _ h.l, h.r.same s, h.nb⟩
def gi (xs : List Int) (i : Nat) : Int := xs.getD i 0
def gn (xs : List Nat) (i : Nat) : Nat := xs.getD i 0
def gl (xs : List (List Int)) (i : Nat) : List Int := xs.getD i []
theorem gi_at {xs : List Int} {i : Nat} (h : i < xs.length) : xs[i]? = some (gi xs i) := by
  unfold gi
  rw [List.getD_eq_getElem?_getD, List.getElem?_eq_getElem h]
  rfl
theorem gn_at {xs : List Nat} {i : Nat} (h : i < xs.length) : xs[i]? = some (gn xs i) := by
  unfold gn
  rw [List.getD_eq_getElem?_getD, List.getElem?_eq_getElem h]
  rfl
theorem gl_at {xs : List (List Int)} {i : Nat} (h : i < xs.length) : xs[i]? = some (gl xs i) := by
  unfold gl
  rw [List.getD_eq_getElem?_getD, List.getElem?_eq_getElem h]
  rfl
theorem gi_mem {xs : List Int} {i : Nat} (h : i < xs.length) : gi xs i ∈ xs := List.mem_of_getElem? (gi_at h)
theorem gn_mem {xs : List Nat} {i : Nat} (h : i < xs.length) : gn xs i ∈ xs := List.mem_of_getElem? (gn_at h)
theorem gl_mem {xs : List (List Int)} {i : Nat} (h : i < xs.length) : gl xs i ∈ xs := List.mem_of_getElem? (gl_at h)
theorem iv_atI {xs : List Int} {i : Nat} (h : i < xs.length) : atI (iv xs) (i : Int) = some (.int (gi xs i)) := atI_nat (iv_get (gi_at h))
theorem nv_atI {xs : List Nat} {i : Nat} (h : i < xs.length) : atI (nv xs) (i : Int) = some (.int (gn xs i : Int)) := atI_nat (by
  unfold nv
  rw [List.getElem?_map, gn_at h]
  rfl)
theorem nv_len (xs : List Nat) : (nv xs).length = xs.length := List.length_map ..
theorem rv_len (xs : List Addr) : (rv xs).length = xs.length := List.length_map ..
theorem LinesAt.line {H : Hp} {ls : List Addr} {lines : List (List Int)} (h : LinesAt H ls lines) {k : Nat} (hk : k < lines.length) : ∃ p, atI (rv ls) (k : Int) = some (.ref p) ∧ H p = some (.lst (iv (gl lines k))) := by
  have hl : k < ls.length := by rw [h.1]; exact hk
  refine ⟨ls[k], atI_nat (by unfold rv; rw [List.getElem?_map, List.getElem?_eq_getElem hl]; rfl), h.2 k _ _ (List.getElem?_eq_getElem hl) (gl_at hk)⟩
theorem tb_many (a : Ad) (t : Tb) : (tbK.zip (tbV a t)).lookup ("many" : Str) = some (.int t.many) := lookup_zip (i := 0) tbNd rfl rfl
theorem tb_D (a : Ad) (t : Tb) : (tbK.zip (tbV a t)).lookup ("divisor" : Str) = some (.int t.D) := lookup_zip (i := 1) tbNd rfl rfl
theorem tb_base (a : Ad) (t : Tb) : (tbK.zip (tbV a t)).lookup ("base" : Str) = some (.ref a.b) := lookup_zip (i := 2) tbNd rfl rfl
theorem tb_scales (a : Ad) (t : Tb) : (tbK.zip (tbV a t)).lookup ("scales" : Str) = some (.ref a.sc) := lookup_zip (i := 3) tbNd rfl rfl
theorem tb_signs (a : Ad) (t : Tb) : (tbK.zip (tbV a t)).lookup ("signs" : Str) = some (.ref a.sg) := lookup_zip (i := 4) tbNd rfl rfl
theorem tb_lines (a : Ad) (t : Tb) : (tbK.zip (tbV a t)).lookup ("lines" : Str) = some (.ref a.l) := lookup_zip (i := 5) tbNd rfl rfl
abbrev TCls (K : PySem.W.Frag) (C : Addr) : Prop := VCls K C tbK
/-! ### gain -/
def gainT (t : Tb) (cs : List Int) (col k : Nat) : Int := (List.range k).foldl (fun s k => s - gi cs (gn t.base k) * gi (gl t.lines k) col) (gi cs col * t.D)
def gainF (t : Tb) (cs : List Int) (col : Nat) : Int := gainT t cs col t.lines.length
theorem gainT_succ (t : Tb) (cs : List Int) (col k : Nat) : gainT t cs col (k + 1) = gainT t cs col k - gi cs (gn t.base k) * gi (gl t.lines k) col := by
  unfold gainT
  rw [List.range_succ, List.foldl_append]
  rfl
abbrev sGain : Stmt := inClass (top 14) 3
def spGain (C : Addr) : Sp := fun vs H Q _ => ∃ (o c : Addr) (a : Ad) (t : Tb) (cs : List Int) (B col : Nat), vs = [.ref o, .ref c, .int col] ∧ TbAt C H o a t ∧ Wf B t ∧ H c = some (.lst (iv cs)) ∧ CostOk B t cs ∧ col < t.many + t.lines.length ∧ Q (.int (gainF t cs col)) H
abbrev psGain : List Str := ["costs", "column"]
section
variable {P : Program} {w : World} {K : PySem.W.Frag} {mg : Str → Option Value} {base : Heap}
theorem scGain : FnScope ["self", "costs", "column", "total", "k"] ["self", "costs", "column"] (defScope sGain) := ⟨rfl, rfl, rfl, by decide +kernel, rfl, by decide +kernel, by decide +kernel⟩
theorem ok_gain {f C : Addr} {fd : FuncData} (F : Fun K "gain" "Tableau.gain" sGain f fd) (T : TCls K C) (ml : mg "len" = none) (mr : mg "range" = none) : FnOk P w K mg base CX0 1 f fd ["self", "costs", "column"] (spGain C) := by
  refine F.ok scGain (fun vs H Q E h => ?_) (fun cdv A outer s H vs Q E hr h => ?_)
  · obtain ⟨o, c, a, t, cs, B, col, rfl, _⟩ := h
    rfl
  · obtain ⟨o, c, a, t, cs, B, col, rfl, h, W, hc, hC, hcol, k⟩ := h
    refine ⟨_, pss_cons (ps_set (i := 3) scGain.nd rfl (Or.inl rfl) (pe_op op_mulW (pe_ix ix_list (pv 1) (pv 2) (fun _ _ => rfl)) (pe_fld (pv 0) rfl)))
      (pss_cons (ps_for PassesOwn.never rfl (pi_range1 (by rfl) mr (pa_cons (pe_callB call_len_seq (by rfl) ml PySem.boot_len (pa_cons (pe_fld (pv 0) rfl) pa_nil)) pa_nil)) (pg_name (i := 4) scGain.nd rfl (Or.inl rfl))
        (pss_one (ps_set (i := 3) scGain.nd rfl (Or.inl rfl) (pe_op op_sub (pv 3) (pe_op op_mulW (pe_ix ix_list (pv 1) (pe_ix ix_list (pe_fld (pv 0) rfl) (pv 4) (fun _ _ => rfl)) (fun _ _ => rfl)) (pe_ix ix_list (pe_ix ix_list (pe_fld (pv 0) rfl) (pv 4) (fun _ _ => rfl)) (pv 2) (fun _ _ => rfl)))))))
      (pss_one (ps_ret (pv 3)))), ?_⟩
    have B5 : B ≤ 200000 := Nat.le_trans W.bB (by decide)
    have nD := T.no "divisor" (by decide +kernel)
    have nL := T.no "lines" (by decide +kernel)
    have nB := T.no "base" (by decide +kernel)
    have hcs : ∀ j, j < t.many + t.lines.length → Bd B (gi cs j) := fun j hj => hC.b _ (gi_mem (by rw [hC.l]; exact hj))
    refine ⟨_, rfl, _, rfl, c, iv cs, (col : Int), _, rfl, rfl, SqL.of hc, iv_atI (by rw [hC.l]; exact hcol), _, rfl, o, C, a.dx, _, _, rfl, h.o, T.cl, nD, tb_D a t, _, _, rfl, rfl, Bd.mul (hcs col hcol) W.db B5 B5, ?_⟩
    refine ⟨_, rfl, o, C, a.dx, _, _, rfl, h.o, T.cl, nL, tb_lines a t, a.l, _, rfl, .inl (SqL.of h.l), ?_⟩
    rw [rv_len, h.r.1]
    have m1 := W.m1
    refine ⟨_, rfl, by omega, by omega, for_range (fun i σ H' => H' = H ∧ ∃ v : Option V, σ = [some (.ref o), some (.ref c), some (.int col), some (.int (gainT t cs col i)), v]) ⟨rfl, none, rfl⟩ ?_ ?_⟩
    · rintro i σ H' hi ⟨rfl, v, rfl⟩
      have hi' : i < t.lines.length := by omega
      obtain ⟨p, hp, hpl⟩ := h.r.line hi'
      have hb : i < t.base.length := by rw [W.bl]; exact hi'
      have hbb := W.bb _ (gn_mem hb)
      have hln := W.ll _ (gl_mem hi')
      have e0 : (0 : Int) + (i : Int) = (i : Int) := Int.zero_add _
      refine ⟨_, rfl, _, rfl, _, rfl, o, C, a.dx, _, _, rfl, h.o, T.cl, nB, tb_base a t, _, rfl, a.b, nv t.base, _, .int (gn t.base i : Nat), rfl, rfl, SqL.of h.b, by rw [e0]; exact nv_atI hb, ?_⟩
      refine ⟨c, iv cs, _, _, rfl, rfl, SqL.of hc, iv_atI (by rw [hC.l]; exact hbb), ?_⟩
      refine ⟨_, rfl, o, C, a.dx, _, _, rfl, h.o, T.cl, nL, tb_lines a t, _, rfl, a.l, rv a.ls, _, .ref p, rfl, rfl, SqL.of h.l, by rw [e0]; exact hp, _, rfl, p, iv (gl t.lines i), (col : Int), _, rfl, rfl, SqL.of hpl, iv_atI (by omega), ?_⟩
      refine ⟨_, _, rfl, rfl, Bd.mul (hcs _ hbb) (W.lb _ (gl_mem hi') _ (gi_mem (by omega))) B5 B5, ?_⟩
      refine ⟨_, _, rfl, rfl, rfl, some (.int (0 + (i : Int))), ?_⟩
      rw [gainT_succ]
      rfl
    · rintro σ H' ⟨rfl, v, rfl⟩
      exact ⟨_, rfl, k⟩
end
end Fk

set_option Elab.async false
set_option maxRecDepth 100000
set_option maxHeartbeats 4000000
namespace Fk
open PySem L2
def optV : Option Nat → V
  | none => .non
  | some n => .int (n : Int)
def Enters (t : Tb) (cs : List Int) : Option Nat → Prop
  | none => ∀ j, j < t.many → gainF t cs j ≤ 0
  | some c => c < t.many ∧ 0 < gainF t cs c ∧ ∀ j, j < c → gainF t cs j ≤ 0
def Leaves (t : Tb) (col : Nat) : Option Nat → Prop
  | none => ∀ k, k < t.lines.length → gi (gl t.lines k) col ≤ 0
  | some at' => at' < t.lines.length ∧ 0 < gi (gl t.lines at') col
abbrev sEnter : Stmt := inClass (top 14) 4
abbrev sLeave : Stmt := inClass (top 14) 5
abbrev sBefore : Stmt := inClass (top 14) 6
def spEnter (C : Addr) : Sp := fun vs H Q _ => ∃ (o c : Addr) (a : Ad) (t : Tb) (cs : List Int) (B : Nat), vs = [.ref o, .ref c] ∧ TbAt C H o a t ∧ Wf B t ∧ H c = some (.lst (iv cs)) ∧ CostOk B t cs ∧ ∀ r, Enters t cs r → Q (optV r) H
def spBefore (C : Addr) : Sp := fun vs H Q _ => ∃ (o : Addr) (a : Ad) (t : Tb) (B k b col : Nat), vs = [.ref o, .int k, .int b, .int col] ∧ TbAt C H o a t ∧ Wf B t ∧ k < t.lines.length ∧ b < t.lines.length ∧ col < t.many ∧ ∀ z, Q (.bl z) H
def spLeave (C : Addr) : Sp := fun vs H Q _ => ∃ (o : Addr) (a : Ad) (t : Tb) (B col : Nat), vs = [.ref o, .int col] ∧ TbAt C H o a t ∧ Wf B t ∧ col < t.many ∧ ∀ r, Leaves t col r → Q (optV r) H
theorem last_atI {xs : List Int} (h : 0 < xs.length) : atI (iv xs) (-1) = some (.int (gi xs (xs.length - 1))) := atI_m1 (by rw [iv_len]; exact iv_get (gi_at (by omega)))
theorem lookup_zipN {k : Str} : ∀ {keys : List Str} {vals : List V}, k ∉ keys → (keys.zip vals).lookup k = none
  | [], _, _ => rfl
  | _ :: _, [], _ => rfl
  | a :: ks, b :: vs, h => by
    have ne : ¬ k = a := fun e => h (e ▸ List.mem_cons_self)
    show List.lookup k ((a, b) :: ks.zip vs) = none
    rw [List.lookup_cons, show (k == a) = false from beq_eq_false_iff_ne.mpr ne]
    exact lookup_zipN (fun z => h (List.mem_cons_of_mem _ z))
theorem tb_not {m : Str} (a : Ad) (t : Tb) (h : m ∉ tbK) : (tbK.zip (tbV a t)).lookup m = none := lookup_zipN h
section
variable {P : Program} {w : World} {K : PySem.W.Frag} {mg : Str → Option Value} {base : Heap}
theorem scEnter : FnScope ["self", "costs", "column"] ["self", "costs"] (defScope sEnter) := ⟨rfl, rfl, rfl, by decide +kernel, rfl, by decide +kernel, by decide +kernel⟩
theorem ok_enter {f fG C : Addr} {fd dG : FuncData} (F : Fun K "entering" "Tableau.entering" sEnter f fd) (T : TCls K C) (mr : mg "range" = none) (G : MCl P w K mg base C "gain" ["costs", "column"] 1 (spGain C) fG dG) : FnOk P w K mg base CX0 2 f fd ["self", "costs"] (spEnter C) := by
  refine F.ok scEnter (fun vs H Q E h => ?_) (fun cdv A outer s H vs Q E hr h => ?_)
  · obtain ⟨o, c, a, t, cs, B, rfl, _⟩ := h
    rfl
  · obtain ⟨o, c, a, t, cs, B, rfl, h, W, hc, hC, k⟩ := h
    refine ⟨_, pss_cons (ps_for PassesOwn.never rfl (pi_range1 (by rfl) mr (pa_cons (pe_fld (pv 0) rfl) pa_nil)) (pg_name (i := 2) scEnter.nd rfl (Or.inl rfl))
        (pss_one (ps_if (pt_cmpR op_gt (pe_meth (pv 0) T.cl G.m G.G hr G.b .nil pass0 (pa_cons (pv 1) (pa_cons (pv 2) pa_nil))) pe_int (nomark _)) (pss_one (ps_ret (pv 2))) pss_nil)))
      (pss_one (ps_ret pe_non)), ?_⟩
    have nM := T.no "many" (by decide +kernel)
    have n1 := W.n1
    refine ⟨_, rfl, o, C, a.dx, _, _, rfl, h.o, T.cl, nM, tb_many a t, _, rfl, by omega, by omega, for_range (fun i σ H' => H' = H ∧ (∀ j, j < i → gainF t cs j ≤ 0) ∧ ∃ v : Option V, σ = [some (.ref o), some (.ref c), v]) ⟨rfl, fun j hj => absurd hj (by omega), none, rfl⟩ ?_ ?_⟩
    · rintro i σ H' hi ⟨rfl, hb, v, rfl⟩
      have hi' : i < t.many := by omega
      have e0 : (0 : Int) + (i : Int) = (i : Int) := Int.zero_add _
      refine ⟨_, rfl, o, a.dx, _, rfl, h.o, tb_not a t (by decide +kernel), _, rfl, _, rfl, o, c, a, t, cs, B, i, by rw [e0]; rfl, h, W, hc, hC, by omega, _, _, rfl, rfl, _, rfl, ite2 (fun hg => ?_) (fun hg => ?_)⟩
      · refine ⟨_, rfl, ?_⟩
        rw [e0]
        exact k (some i) ⟨hi', of_decide_eq_true hg, hb⟩
      · refine ⟨rfl, fun j hj => ?_, _, rfl⟩
        rcases Nat.lt_or_eq_of_le (Nat.le_of_lt_succ hj) with z | rfl
        · exact hb j z
        · exact Int.not_lt.mp (fun z => hg (decide_eq_true z))
    · rintro σ H' ⟨rfl, hb, v, rfl⟩
      exact k none (fun j hj => hb j (by omega))
theorem scBefore : FnScope ["self", "k", "best", "column", "line", "other", "difference"] ["self", "k", "best", "column"] (defScope sBefore) := ⟨rfl, rfl, rfl, by decide +kernel, rfl, by decide +kernel, by decide +kernel⟩
theorem ok_before {f C : Addr} {fd : FuncData} (F : Fun K "is_before" "Tableau.is_before" sBefore f fd) (T : TCls K C) : FnOk P w K mg base CX0 1 f fd ["self", "k", "best", "column"] (spBefore C) := by
  refine F.ok scBefore (fun vs H Q E h => ?_) (fun cdv A outer s H vs Q E hr h => ?_)
  · obtain ⟨o, a, t, B, k, b, col, rfl, _⟩ := h
    rfl
  · obtain ⟨o, a, t, B, k, b, col, rfl, h, W, hk, hb, hcol, q⟩ := h
    refine ⟨_, pss_cons (ps_set (i := 4) scBefore.nd rfl (Or.inl rfl) (pe_ix ix_list (pe_fld (pv 0) rfl) (pv 1) (fun _ _ => rfl)))
      (pss_cons (ps_set (i := 5) scBefore.nd rfl (Or.inl rfl) (pe_ix ix_list (pe_fld (pv 0) rfl) (pv 2) (fun _ _ => rfl)))
      (pss_cons (ps_set (i := 6) scBefore.nd rfl (Or.inl rfl) (pe_op op_sub (pe_op op_mulW (pe_ix ix_list (pv 4) (pe_un un_neg pe_int) (fun _ _ => rfl)) (pe_ix ix_list (pv 5) (pv 3) (fun _ _ => rfl)))
        (pe_op op_mulW (pe_ix ix_list (pv 5) (pe_un un_neg pe_int) (fun _ _ => rfl)) (pe_ix ix_list (pv 4) (pv 3) (fun _ _ => rfl)))))
      (pss_one (ps_ret (pe_or (pe_cmpR op_lt (pv 6) pe_int (nomark _)) (pe_one (pe_and (pe_cmpR op_eq (pv 6) pe_int (nomark _)) (pe_one (pe_cmpR op_lt (pe_ix ix_list (pe_fld (pv 0) rfl) (pv 1) (fun _ _ => rfl)) (pe_ix ix_list (pe_fld (pv 0) rfl) (pv 2) (fun _ _ => rfl)) (nomark _)))))))))), ?_⟩
    have B5 : B ≤ 200000 := Nat.le_trans W.bB (by decide)
    have nL := T.no "lines" (by decide +kernel)
    have nB := T.no "base" (by decide +kernel)
    obtain ⟨p, hp, hpl⟩ := h.r.line hk
    obtain ⟨p2, hp2, hpl2⟩ := h.r.line hb
    have l1 := W.ll _ (gl_mem hk)
    have l2 := W.ll _ (gl_mem hb)
    have bd : ∀ {x y : Nat}, x < t.lines.length → y < t.many + t.lines.length + 1 → Bd B (gi (gl t.lines x) y) := fun {x y} hx hy => W.lb _ (gl_mem hx) _ (gi_mem (by rw [W.ll _ (gl_mem hx)]; exact hy))
    refine ⟨_, rfl, o, C, a.dx, _, _, rfl, h.o, T.cl, nL, tb_lines a t, _, rfl, a.l, rv a.ls, _, _, rfl, rfl, SqL.of h.l, hp, ?_⟩
    refine ⟨_, rfl, o, C, a.dx, _, _, rfl, h.o, T.cl, nL, tb_lines a t, _, rfl, a.l, rv a.ls, _, _, rfl, rfl, SqL.of h.l, hp2, ?_⟩
    refine ⟨_, rfl, 1, rfl, p, _, _, _, rfl, rfl, SqL.of hpl, last_atI (by omega), _, rfl, _, rfl, p2, _, _, _, rfl, rfl, SqL.of hpl2, iv_atI (by omega), _, _, rfl, rfl, Bd.mul (bd hk (by omega)) (bd hb (by omega)) B5 B5, ?_⟩
    refine ⟨_, rfl, 1, rfl, p2, _, _, _, rfl, rfl, SqL.of hpl2, last_atI (by omega), _, rfl, _, rfl, p, _, _, _, rfl, rfl, SqL.of hpl, iv_atI (by omega), _, _, rfl, rfl, Bd.mul (bd hb (by omega)) (bd hk (by omega)) B5 B5, ?_⟩
    refine ⟨_, _, rfl, rfl, ?_⟩
    refine ⟨_, rfl, _, _, rfl, rfl, _, rfl, ite2 (fun _ => q _) (fun _ => ?_)⟩
    refine ⟨_, rfl, rfl, _, rfl, ite2 (fun _ => ?_) (fun _ => q _)⟩
    have hkb : k < t.base.length := by rw [W.bl]; exact hk
    have hbb : b < t.base.length := by rw [W.bl]; exact hb
    exact ⟨_, rfl, o, C, a.dx, _, _, rfl, h.o, T.cl, nB, tb_base a t, _, rfl, a.b, nv t.base, _, _, rfl, rfl, SqL.of h.b, nv_atI hkb, _, rfl, o, C, a.dx, _, _, rfl, h.o, T.cl, nB, tb_base a t, _, rfl, a.b, nv t.base, _, _, rfl, rfl, SqL.of h.b, nv_atI hbb, _, _, rfl, rfl, q _⟩
end
end Fk

set_option Elab.async false
set_option maxRecDepth 100000
set_option maxHeartbeats 4000000
namespace Fk
open PySem L2
def LeavesTo (t : Tb) (col i : Nat) : Option Nat → Prop
  | none => ∀ k, k < i → gi (gl t.lines k) col ≤ 0
  | some at' => at' < i ∧ 0 < gi (gl t.lines at') col
def totT (t : Tb) (cs : List Int) (k : Nat) : Int := (List.range k).foldl (fun s k => s + gi cs (gn t.base k) * gi (gl t.lines k) (t.many + t.lines.length)) 0
def totF (t : Tb) (cs : List Int) : Int := totT t cs t.lines.length
theorem totT_succ (t : Tb) (cs : List Int) (k : Nat) : totT t cs (k + 1) = totT t cs k + gi cs (gn t.base k) * gi (gl t.lines k) (t.many + t.lines.length) := by
  unfold totT
  rw [List.range_succ, List.foldl_append]
  rfl
def lowI (a b : Int) : Int × Int := (a / (Nat.gcd a.natAbs b.natAbs : Nat), b / (Nat.gcd a.natAbs b.natAbs : Nat))
def RatAt (H : Hp) (p : Addr) (x : Int × Int) : Prop := H p = some (.tup [.int x.1, .int x.2])
theorem RatAt.same {H H' : Hp} {p : Addr} {x : Int × Int} (h : RatAt H p x) (s : Same H H') : RatAt H' p x := s _ _ h
abbrev sTotal : Stmt := inClass (top 14) 9
abbrev sReached : Stmt := inClass (top 14) 10
abbrev sGrowth : Stmt := inClass (top 14) 11
abbrev sPrices : Stmt := inClass (top 14) 12
def spTotal (C : Addr) : Sp := fun vs H Q _ => ∃ (o c : Addr) (a : Ad) (t : Tb) (cs : List Int) (B : Nat) (sc : Int), vs = [.ref o, .ref c, .int sc] ∧ TbAt C H o a t ∧ Wf B t ∧ H c = some (.lst (iv cs)) ∧ CostOk B t cs ∧ 0 < sc ∧ Bd B sc ∧
  ∀ p H', Same H H' → RatAt H' p (lowI (totF t cs) (t.D * gi t.scales t.many * sc)) → Q (.ref p) H'
theorem leaves_step {t : Tb} {col i : Nat} {r : Option Nat} (h : LeavesTo t col i r) (hz : gi (gl t.lines i) col ≤ 0 ∨ r ≠ none) : LeavesTo t col (i + 1) r := by
  cases r with
  | none =>
    intro k hk
    rcases Nat.lt_or_eq_of_le (Nat.le_of_lt_succ hk) with z | rfl
    · exact h k z
    · rcases hz with z | z
      · exact z
      · exact absurd rfl z
  | some x => exact ⟨Nat.lt_succ_of_lt h.1, h.2⟩
theorem totT_bd {B : Nat} {t : Tb} {cs : List Int} (W : Wf B t) (hC : CostOk B t cs) : ∀ i, i ≤ t.lines.length → Bd (2 * B + i) (totT t cs i)
  | 0, _ => by
    show (0 : Int).natAbs < _
    exact Nat.pos_of_ne_zero (fun z => by have := Nat.pow_pos (n := 2 * B + 0) (show 0 < 2 by decide); omega)
  | i + 1, h => by
    rw [totT_succ]
    have ih := totT_bd W hC i (by omega)
    have hb : i < t.base.length := by rw [W.bl]; omega
    have b1 : Bd B (gi cs (gn t.base i)) := hC.b _ (gi_mem (by rw [hC.l]; exact W.bb _ (gn_mem hb)))
    have b2 : Bd B (gi (gl t.lines i) (t.many + t.lines.length)) := W.lb _ (gl_mem (by omega)) _ (gi_mem (by rw [W.ll _ (gl_mem (show i < t.lines.length by omega))]; omega))
    exact (ih.addB ((b1.mulB b2).mono (by omega))).mono (by omega)
section
variable {P : Program} {w : World} {K : PySem.W.Frag} {mg : Str → Option Value} {base : Heap}
theorem scLeave : FnScope ["self", "column", "best", "k"] ["self", "column"] (defScope sLeave) := ⟨rfl, rfl, rfl, by decide +kernel, rfl, by decide +kernel, by decide +kernel⟩
theorem ok_leave {f fG C : Addr} {fd dG : FuncData} (F : Fun K "leaving" "Tableau.leaving" sLeave f fd) (T : TCls K C) (ml : mg "len" = none) (mr : mg "range" = none) (G : MCl P w K mg base C "is_before" ["k", "best", "column"] 1 (spBefore C) fG dG) : FnOk P w K mg base CX0 2 f fd ["self", "column"] (spLeave C) := by
  refine F.ok scLeave (fun vs H Q E h => ?_) (fun cdv A outer s H vs Q E hr h => ?_)
  · obtain ⟨o, a, t, B, col, rfl, _⟩ := h
    rfl
  · obtain ⟨o, a, t, B, col, rfl, h, W, hcol, q⟩ := h
    refine ⟨_, pss_cons (ps_set (i := 2) scLeave.nd rfl (Or.inl rfl) pe_non)
      (pss_cons (ps_for PassesOwn.never rfl (pi_range1 (by rfl) mr (pa_cons (pe_callB call_len_seq (by rfl) ml PySem.boot_len (pa_cons (pe_fld (pv 0) rfl) pa_nil)) pa_nil)) (pg_name (i := 3) scLeave.nd rfl (Or.inl rfl))
        (pss_one (ps_if (PW.pt (pw_and (pt_cmpR op_gt (pe_ix ix_list (pe_ix ix_list (pe_fld (pv 0) rfl) (pv 3) (fun _ _ => rfl)) (pv 1) (fun _ _ => rfl)) pe_int (nomark _))
          (pw_and1 (PW.pt (pw_or (pt_cmpR op_isN (pv 2) pe_non (nomark _)) (pw_or1 (pt_val (pe_meth (pv 0) T.cl G.m G.G hr G.b .nil pass0 (pa_cons (pv 3) (pa_cons (pv 2) (pa_cons (pv 1) pa_nil)))))))))))
          (pss_one (ps_set (i := 2) scLeave.nd rfl (Or.inl rfl) (pv 3))) pss_nil)))
      (pss_one (ps_ret (pv 2)))), ?_⟩
    have nL := T.no "lines" (by decide +kernel)
    have m1 := W.m1
    refine ⟨_, rfl, o, C, a.dx, _, _, rfl, h.o, T.cl, nL, tb_lines a t, a.l, _, rfl, .inl (SqL.of h.l), ?_⟩
    rw [rv_len, h.r.1]
    refine ⟨_, rfl, by omega, by omega, for_range (fun i σ H' => H' = H ∧ ∃ (r : Option Nat) (v : Option V), LeavesTo t col i r ∧ σ = [some (.ref o), some (.int col), some (optV r), v]) ⟨rfl, none, none, fun k hk => absurd hk (by omega), rfl⟩ ?_ ?_⟩
    · rintro i σ H' hi ⟨rfl, r, v, hL, rfl⟩
      have hi' : i < t.lines.length := by omega
      have e0 : (0 : Int) + (i : Int) = (i : Int) := Int.zero_add _
      obtain ⟨p, hp, hpl⟩ := h.r.line hi'
      have l1 := W.ll _ (gl_mem hi')
      refine ⟨_, rfl, o, C, a.dx, _, _, rfl, h.o, T.cl, nL, tb_lines a t, _, rfl, a.l, rv a.ls, _, .ref p, rfl, rfl, SqL.of h.l, by rw [e0]; exact hp, _, rfl, p, _, _, _, rfl, rfl, SqL.of hpl, iv_atI (by omega), _, _, rfl, rfl, _, rfl, ite2 (fun h1 => ?_) (fun h1 => ?_)⟩
      · have pos := of_decide_eq_true h1
        have took : LeavesTo t col (i + 1) (some i) := ⟨Nat.lt_succ_self i, pos⟩
        have ei : ((0 : Int) + (i : Int)) = ((i : Nat) : Int) := e0
        refine ⟨_, rfl, rfl, _, rfl, ite2 (fun h2 => ?_) (fun h2 => ?_)⟩
        · exact ⟨_, rfl, rfl, some i, some (.int (0 + (i : Int))), took, by rw [e0]; rfl⟩
        · cases r with
          | none => exact absurd (decide_eq_true rfl) h2
          | some b =>
            refine ⟨_, rfl, o, a.dx, _, rfl, h.o, tb_not a t (by decide +kernel), _, rfl, _, rfl, _, rfl, o, a, t, B, i, b, col, by rw [e0]; rfl, h, W, hi', by have := hL.1; omega, hcol, fun z => ?_⟩
            refine ⟨z, rfl, ite2 (fun h3 => ?_) (fun h3 => ?_)⟩
            · exact ⟨_, rfl, rfl, some i, some (.int (0 + (i : Int))), took, by rw [e0]; rfl⟩
            · exact ⟨rfl, some b, some (.int (0 + (i : Int))), leaves_step hL (.inr (fun z => nomatch z)), rfl⟩
      · exact ⟨rfl, r, some (.int (0 + (i : Int))), leaves_step hL (.inl (Int.not_lt.mp fun z => h1 (decide_eq_true z))), rfl⟩
    · rintro σ H' ⟨rfl, r, v, hL, rfl⟩
      refine ⟨_, rfl, q r ?_⟩
      cases r with
      | none => exact fun k hk => hL k (by omega)
      | some b => exact ⟨by have := hL.1; omega, hL.2⟩
theorem scTotal : FnScope ["self", "costs", "scale", "total", "k"] ["self", "costs", "scale"] (defScope sTotal) := ⟨rfl, rfl, rfl, by decide +kernel, rfl, by decide +kernel, by decide +kernel⟩
theorem ok_total {f fL C : Addr} {fd dL : FuncData} (F : Fun K "total" "Tableau.total" sTotal f fd) (T : TCls K C) (ml : mg "len" = none) (mr : mg "range" = none) (L : Cl P w K mg base "lowest" ["top", "bottom"] 1 spLowest fL dL) : FnOk P w K mg base CX0 2 f fd ["self", "costs", "scale"] (spTotal C) := by
  refine F.ok scTotal (fun vs H Q E h => ?_) (fun cdv A outer s H vs Q E hr h => ?_)
  · obtain ⟨o, c, a, t, cs, B, sc, rfl, _⟩ := h
    rfl
  · obtain ⟨o, c, a, t, cs, B, sc, rfl, h, W, hc, hC, s0, sB, k⟩ := h
    refine ⟨_, pss_cons (ps_set (i := 3) scTotal.nd rfl (Or.inl rfl) pe_int)
      (pss_cons (ps_for PassesOwn.never rfl (pi_range1 (by rfl) mr (pa_cons (pe_callB call_len_seq (by rfl) ml PySem.boot_len (pa_cons (pe_fld (pv 0) rfl) pa_nil)) pa_nil)) (pg_name (i := 4) scTotal.nd rfl (Or.inl rfl))
        (pss_one (ps_set (i := 3) scTotal.nd rfl (Or.inl rfl) (pe_op op_add (pv 3) (pe_op op_mulW (pe_ix ix_list (pv 1) (pe_ix ix_list (pe_fld (pv 0) rfl) (pv 4) (fun _ _ => rfl)) (fun _ _ => rfl)) (pe_ix ix_list (pe_ix ix_list (pe_fld (pv 0) rfl) (pv 4) (fun _ _ => rfl)) (pe_un un_neg pe_int) (fun _ _ => rfl)))))))
      (pss_one (ps_ret (pe_call L.G hr (by rfl) L.g L.kp L.b .nil pass0 (pa_cons (pv 3) (pa_cons (pe_op op_mulW (pe_op op_mulW (pe_fld (pv 0) rfl) (pe_ix ix_list (pe_fld (pv 0) rfl) (pe_un un_neg pe_int) (fun _ _ => rfl))) (pv 2)) pa_nil)))))), ?_⟩
    have B5 : B ≤ 200000 := Nat.le_trans W.bB (by decide)
    have B6 : B + B ≤ 200000 := by have := W.bB; omega
    have bB := W.bB
    have nD := T.no "divisor" (by decide +kernel)
    have nL := T.no "lines" (by decide +kernel)
    have nB := T.no "base" (by decide +kernel)
    have nS := T.no "scales" (by decide +kernel)
    have m1 := W.m1
    refine ⟨_, rfl, o, C, a.dx, _, _, rfl, h.o, T.cl, nL, tb_lines a t, a.l, _, rfl, .inl (SqL.of h.l), ?_⟩
    rw [rv_len, h.r.1]
    refine ⟨_, rfl, by omega, by omega, for_range (fun i σ H' => H' = H ∧ ∃ v : Option V, σ = [some (.ref o), some (.ref c), some (.int sc), some (.int (totT t cs i)), v]) ⟨rfl, none, rfl⟩ ?_ ?_⟩
    · rintro i σ H' hi ⟨rfl, v, rfl⟩
      have hi' : i < t.lines.length := by omega
      obtain ⟨p, hp, hpl⟩ := h.r.line hi'
      have hb : i < t.base.length := by rw [W.bl]; exact hi'
      have hbb := W.bb _ (gn_mem hb)
      have hln := W.ll _ (gl_mem hi')
      have e0 : (0 : Int) + (i : Int) = (i : Int) := Int.zero_add _
      refine ⟨_, rfl, _, rfl, _, rfl, o, C, a.dx, _, _, rfl, h.o, T.cl, nB, tb_base a t, _, rfl, a.b, nv t.base, _, .int (gn t.base i : Nat), rfl, rfl, SqL.of h.b, by rw [e0]; exact nv_atI hb, ?_⟩
      refine ⟨c, iv cs, _, _, rfl, rfl, SqL.of hc, iv_atI (by rw [hC.l]; exact hbb), ?_⟩
      refine ⟨_, rfl, o, C, a.dx, _, _, rfl, h.o, T.cl, nL, tb_lines a t, _, rfl, a.l, rv a.ls, _, .ref p, rfl, rfl, SqL.of h.l, by rw [e0]; exact hp, 1, rfl, p, iv (gl t.lines i), _, _, rfl, rfl, SqL.of hpl, last_atI (by omega), ?_⟩
      have el : (gl t.lines i).length - 1 = t.many + t.lines.length := by omega
      rw [el]
      refine ⟨_, _, rfl, rfl, Bd.mul (hC.b _ (gi_mem (by rw [hC.l]; exact hbb))) (W.lb _ (gl_mem hi') _ (gi_mem (by omega))) B5 B5, ?_⟩
      refine ⟨_, _, rfl, rfl, rfl, some (.int (0 + (i : Int))), ?_⟩
      rw [totT_succ]
      rfl
    · rintro σ H' ⟨rfl, v, rfl⟩
      have hsl : t.many < t.scales.length := by rw [W.sl]; omega
      have es : t.scales.length - 1 = t.many := by rw [W.sl]; omega
      obtain ⟨sm0, smB⟩ := W.sb _ (gi_mem hsl)
      refine ⟨_, rfl, _, rfl, o, C, a.dx, _, _, rfl, h.o, T.cl, nD, tb_D a t, _, rfl, o, C, a.dx, _, _, rfl, h.o, T.cl, nS, tb_scales a t, 1, rfl, a.sc, iv t.scales, _, _, rfl, rfl, SqL.of h.sc, last_atI (by omega), ?_⟩
      rw [es]
      refine ⟨_, _, rfl, rfl, Bd.mul W.db smB B5 B5, _, rfl, _, _, rfl, rfl, Bd.mul (W.db.mulB smB) sB B6 B5, ?_⟩
      refine ⟨_, _, rfl, Int.mul_pos (Int.mul_pos W.d0 sm0) s0, ?_, ?_, fun p hp => k p _ (same_new hp) upd_same⟩
      · exact (totT_bd W hC t.lines.length (Nat.le_refl _)).mono (by omega)
      · exact ((W.db.mulB smB).mulB sB).mono (by omega)
end
end Fk

set_option Elab.async false
set_option maxRecDepth 100000
set_option maxHeartbeats 4000000
namespace Fk
open PySem L2
abbrev sPivoted : Stmt := top 12
abbrev sPivot : Stmt := inClass (top 14) 2
def elimF (tp fa D : Int) (line lead : List Int) : List Int := List.zipWith (fun a b => (tp * a - fa * b) / D) line lead
def pivRow (lines : List (List Int)) (at' col : Nat) (D : Int) (k : Nat) : List Int := if k = at' then gl lines at' else elimF (gi (gl lines at') col) (gi (gl lines k) col) D (gl lines k) (gl lines at')
def pivotL (lines : List (List Int)) (at' col : Nat) (D : Int) : List (List Int) := (List.range lines.length).map (pivRow lines at' col D)
def pivotF (t : Tb) (at' col : Nat) : Tb := { t with D := gi (gl t.lines at') col, base := t.base.set at' col, lines := pivotL t.lines at' col t.D }
structure LnOk (B wd : Nat) (lines : List (List Int)) : Prop where
  bB : B ≤ 3000
  wB : wd ≤ 20
  n : lines.length ≤ 4
  ll : ∀ r ∈ lines, r.length = wd
  lb : ∀ r ∈ lines, ∀ x ∈ r, Bd B x
def spPivoted : Sp := fun vs H Q _ => ∃ (l : Addr) (ls : List Addr) (lines : List (List Int)) (at' col B wd : Nat) (D : Int), vs = [.ref l, .int at', .int col, .int D] ∧ H l = some (.lst (rv ls)) ∧ LinesAt H ls lines ∧ LnOk B wd lines ∧ at' < lines.length ∧ col < wd ∧ 0 < D ∧
  ∀ l' ls' H', Same H H' → H l' = none → H' l' = some (.lst (rv ls')) → LinesAt H' ls' (pivotL lines at' col D) → (∀ p ∈ ls', p ∈ ls ∨ H p = none) → Q (.ref l') H'
theorem LinesAt.add {H : Hp} {D t : Addr} {ls : List Addr} {rows : List (List Int)} {row : List Int} {xs : List V} (hD : H D = some (.lst xs)) (h : LinesAt H ls rows) (hn : D ∉ ls) (ht : H t = some (.lst (iv row))) (nt : t ≠ D) (o : HO) : LinesAt (upd H D o) (ls ++ [t]) (rows ++ [row]) := by
  have hl := h.1
  refine ⟨by rw [List.length_append, List.length_append, hl]; rfl, fun i p r hp hr => ?_⟩
  by_cases hi : i < ls.length
  · rw [List.getElem?_append_left hi] at hp
    rw [List.getElem?_append_left (by omega)] at hr
    rw [upd_ne (fun e => hn (by rw [← e]; exact List.mem_of_getElem? hp))]
    exact h.2 i p r hp hr
  · have e : i = ls.length := by
      have := (List.getElem?_eq_some_iff.mp hp).1
      rw [List.length_append, List.length_singleton] at this
      omega
    subst e
    rw [List.getElem?_append_right (Nat.le_refl _), Nat.sub_self] at hp
    rw [List.getElem?_append_right (by omega), hl, Nat.sub_self] at hr
    cases hp
    cases hr
    rw [upd_ne nt]
    exact ht
theorem elim_bd {B : Nat} {tp fa a b : Int} (h1 : Bd B tp) (h2 : Bd B fa) (h3 : Bd B a) (h4 : Bd B b) : Bd (2 * B + 1) (tp * a - fa * b) := ((h1.mulB h3).mono (by omega)).subB ((h2.mulB h4).mono (by omega))
theorem elim_at {tp fa D : Int} {line lead : List Int} {i : Nat} (h1 : i < line.length) (h2 : i < lead.length) : (elimF tp fa D line lead).take (i + 1) = (elimF tp fa D line lead).take i ++ [(tp * gi line i - fa * gi lead i) / D] := by
  have e : (elimF tp fa D line lead)[i]? = some ((tp * gi line i - fa * gi lead i) / D) := by
    unfold elimF
    rw [List.getElem?_zipWith, gi_at h1, gi_at h2]
  rw [List.take_add_one, e]
  rfl
section
variable {P : Program} {w : World} {K : PySem.W.Frag} {mg : Str → Option Value} {base : Heap}
abbrev nsPivoted : List Str := ["lines", "at", "column", "divisor", "lead", "top", "out", "k", "line", "factor", "a", "b"]
abbrev psPivoted : List Str := ["lines", "at", "column", "divisor"]
theorem scPivoted : FnScope nsPivoted psPivoted (defScope sPivoted) := ⟨rfl, rfl, rfl, by decide +kernel, rfl, by decide +kernel, by decide +kernel⟩
theorem pg_tupK {X : Cx} {K : PySem.W.Frag} {es : List Expr} {k : Nat} {pos : Pos} {t : TGs} {n : Nat} (hK : X.K = K) (hc : X.calm = true) (h : PGs X es t)
    (hn : (assignEach es X.env).length = n := by rfl) (hst : (assignEach es X.env).findIdx? (·.1) = none := by rfl) : PG X (.Tuple es k pos) (gTup K n t) := by
  subst hK
  exact pg_tup hc h hn hst
theorem ok_pivoted {f : Addr} {fd : FuncData} (F : Fun K "pivoted" "pivoted" sPivoted f fd) (ml : mg "len" = none) (mr : mg "range" = none) (mz : mg "zip" = none) : FnOk P w K mg base CX0 1 f fd psPivoted spPivoted := by
  refine F.ok scPivoted (fun vs H Q E h => ?_) (fun cdv A outer s H vs Q E hr h => ?_)
  · obtain ⟨l, ls, lines, a, c, B, wd, D, rfl, _⟩ := h
    rfl
  · obtain ⟨l, ls, lines, a, c, B, wd, D, rfl, hl, hr', W, ha, hc, d0, k⟩ := h
    refine ⟨_, pss_cons (ps_set (i := 4) scPivoted.nd rfl (Or.inl rfl) (pe_ix ix_list (pv 0) (pv 1) (fun _ _ => rfl)))
      (pss_cons (ps_set (i := 5) scPivoted.nd rfl (Or.inr rfl) (pe_ix ix_list (pv 4) (pv 2) (fun _ _ => rfl)))
      (pss_cons (ps_set (i := 6) scPivoted.nd rfl (Or.inl rfl) (pe_lst pa_nil))
      (pss_cons (ps_for PassesOwn.never rfl (pi_range1 (by rfl) mr (pa_cons (pe_callB call_len_seq (by rfl) ml PySem.boot_len (pa_cons (pv 0) pa_nil)) pa_nil)) (pg_name (i := 7) scPivoted.nd rfl (Or.inl rfl))
        (pss_one (ps_if (pt_cmpR op_eq (pv 7) (pv 1) (nomark _))
          (pss_one (ps_expr (pe_bm PySem.F.plainAttrs_list PySem.F.slot_list_append PySem.F.type_list_append mt_append (pv 6) (pa_cons (pv 4) pa_nil))))
          (pss_cons (ps_set (i := 8) scPivoted.nd rfl (Or.inl rfl) (pe_ix ix_list (pv 0) (pv 7) (fun _ _ => rfl)))
          (pss_cons (ps_set (i := 9) scPivoted.nd rfl (Or.inr rfl) (pe_ix ix_list (pv 8) (pv 2) (fun _ _ => rfl)))
          (pss_one (ps_expr (pe_bm PySem.F.plainAttrs_list PySem.F.slot_list_append PySem.F.type_list_append mt_append (pv 6) (pa_cons
            (pe_lc (own := [("a", 10), ("b", 11)]) (g := gTup K 2 (gCons (gName 10) (gCons (gName 11) gNil))) (tt := tYes) rfl scPivoted.nd (RZ.pi_zipA (by rfl) mz (pa_cons (pv 8) (pa_cons (pv 4) pa_nil))) (blkOk_by (N := nsPivoted) (sc := defScope sPivoted) (by decide +kernel))
              (fun _ _ _ _ _ => pg_tupK (K := K) (n := 2) rfl rfl (pgs_cons (pg_name (i := 10) scPivoted.nd rfl (Or.inl rfl)) (pgs_cons (pg_name (i := 11) scPivoted.nd rfl (Or.inl rfl)) pgs_nil))) (fun _ _ _ _ _ => pts_nil)
              (fun _ _ _ _ _ => pe_op op_fdivB (pe_op op_sub (pe_op op_mulW (pv 5) (pv 10)) (pe_op op_mulW (pv 9) (pv 11))) (pv 3))) pa_nil)))))))))
      (pss_one (ps_ret (pv 6)))))), ?_⟩
    obtain ⟨p, hp, hpl⟩ := hr'.line ha
    have B5 : B ≤ 200000 := Nat.le_trans W.bB (by decide)
    have bB := W.bB
    have wB := W.wB
    have n4 := W.n
    have wl : ∀ {x : Nat}, x < lines.length → (gl lines x).length = wd := fun {x} hx => W.ll _ (gl_mem hx)
    have bd : ∀ {x y : Nat}, x < lines.length → y < wd → Bd B (gi (gl lines x) y) := fun {x y} hx hy => W.lb _ (gl_mem hx) _ (gi_mem (by rw [wl hx]; exact hy))
    refine ⟨_, rfl, _, rfl, l, rv ls, _, _, rfl, rfl, SqL.of hl, hp, ?_⟩
    refine ⟨_, rfl, _, rfl, p, iv (gl lines a), _, _, rfl, rfl, SqL.of hpl, iv_atI (by rw [wl ha]; exact hc), ?_⟩
    refine ⟨by show 0 ≤ sizeLine; decide, fun O hO => ?_⟩
    have s0 := same_new (o := .lst []) hO
    refine ⟨_, rfl, l, _, rfl, .inl (SqL.of (s0 _ _ hl)), ?_⟩
    rw [rv_len, hr'.1]
    refine ⟨_, rfl, by omega, by omega, for_range (fun i σ H' => Same H H' ∧ (∃ os, H' O = some (.lst (rv os)) ∧ LinesAt H' os ((List.range i).map (pivRow lines a c D)) ∧ O ∉ os ∧ ∀ q ∈ os, q ∈ ls ∨ H q = none) ∧
      ∃ v7 v8 v9 v10 v11 : Option V, σ = [some (.ref l), some (.int a), some (.int c), some (.int D), some (.ref p), some (.int (gi (gl lines a) c)), some (.ref O), v7, v8, v9, v10, v11]) ⟨s0, ⟨[], upd_same, ⟨rfl, fun i q r h _ => nomatch h⟩, fun h => (nomatch h), fun q h => nomatch h⟩, none, none, none, none, none, rfl⟩ ?_ ?_⟩
    · rintro i σ H1 hi ⟨s1, ⟨os, hO1, hL1, nO, hfr⟩, v7, v8, v9, v10, v11, rfl⟩
      have hi' : i < lines.length := by omega
      have e0 : (0 : Int) + (i : Int) = (i : Int) := Int.zero_add _
      have ol : os.length = i := by rw [hL1.1, List.length_map, List.length_range]
      have lt : (rv os).length < sizeLine := by rw [rv_len, ol]; exact small1000 (by omega)
      have er : (List.range (i + 1)).map (pivRow lines a c D) = (List.range i).map (pivRow lines a c D) ++ [pivRow lines a c D i] := by
        rw [List.range_succ, List.map_append]
        rfl
      have nOp : p ≠ O := fun e => by rw [e, hO] at hpl; cases hpl
      refine ⟨_, rfl, _, rfl, rfl, _, rfl, ite2 (fun h1 => ?_) (fun h1 => ?_)⟩
      · have ei : i = a := by
          have := keq h1
          omega
        have hr1 : pivRow lines a c D i = gl lines a := if_pos ei
        refine ⟨_, rfl, .inl ⟨rfl, _, SqL.of hO1⟩, _, rfl, O, _, _, rfl, rfl, hO1, lt, ?_⟩
        refine ⟨fun b o hb => by rw [upd_ne (ne_of_none hb hO)]; exact s1 _ _ hb, ⟨os ++ [p], ?_, ?_, ?_, ?_⟩, some (.int (0 + (i : Int))), v8, v9, v10, v11, rfl⟩
        · rw [upd_same]
          unfold rv
          rw [List.map_append]
          rfl
        · rw [er, hr1]
          exact hL1.add hO1 nO (s1 _ _ hpl) nOp _
        · intro z
          rcases List.mem_append.mp z with z | z
          · exact nO z
          · exact nOp (List.mem_singleton.mp z).symm
        · intro q hq
          rcases List.mem_append.mp hq with z | z
          · exact hfr q z
          · rw [List.mem_singleton.mp z]
            obtain ⟨j, hj⟩ : ∃ j, ls[j]? = some p := by
              have z := hp
              unfold atI at z
              cases e : ixN (rv ls).length (a : Int) with
              | none =>
                rw [e] at z
                cases z
              | some j =>
                rw [e] at z
                have z' : (rv ls)[j]? = some (.ref p) := z
                unfold rv at z'
                rw [List.getElem?_map] at z'
                cases q : ls[j]? with
                | none =>
                  rw [q] at z'
                  cases z'
                | some x =>
                  rw [q] at z'
                  cases z'
                  exact ⟨j, q⟩
            exact .inl (List.mem_of_getElem? hj)
      · have ei : ¬ i = a := fun e => h1 (by rw [e0, e]; exact decide_eq_true rfl)
        have hr1 : pivRow lines a c D i = elimF (gi (gl lines a) c) (gi (gl lines i) c) D (gl lines i) (gl lines a) := if_neg ei
        obtain ⟨p2, hp2, hpl2⟩ := hr'.line hi'
        refine ⟨_, rfl, _, rfl, l, rv ls, _, .ref p2, rfl, rfl, SqL.of (s1 _ _ hl), by rw [e0]; exact hp2, ?_⟩
        refine ⟨_, rfl, _, rfl, p2, iv (gl lines i), _, _, rfl, rfl, SqL.of (s1 _ _ hpl2), iv_atI (by rw [wl hi']; exact hc), ?_⟩
        refine ⟨_, rfl, .inl ⟨rfl, _, SqL.of hO1⟩, _, rfl, _, rfl, p2, p, iv (gl lines i), iv (gl lines a), rfl, .inl ⟨SqL.of (s1 _ _ hpl2), SqL.of (s1 _ _ hpl), fun D2 hD2 => ?_⟩⟩
        have nD : D2 ≠ O := fun e => by rw [e, hO1] at hD2; cases hD2
        refine wk (n := wd) (fun j H2 => Same H1 H2 ∧ H2 D2 = some (.lst (iv ((elimF (gi (gl lines a) c) (gi (gl lines i) c) D (gl lines i) (gl lines a)).take j)))) ⟨same_new hD2, upd_same⟩ ?_ ?_
        · rintro H2 ⟨s2, h2⟩
          have s12 := s1.trans s2
          refine ⟨⟨_, _, SqL.of (s12 _ _ hpl2), SqL.of (s12 _ _ hpl), .inl (by rw [iv_len, wl hi']; exact Nat.le_refl _)⟩, ?_⟩
          have el : (elimF (gi (gl lines a) c) (gi (gl lines i) c) D (gl lines i) (gl lines a)).length = wd := by
            unfold elimF
            rw [List.length_zipWith, wl hi', wl ha, Nat.min_self]
          rw [List.take_of_length_le (by omega)] at h2
          refine ⟨O, _, _, rfl, rfl, s2 _ _ hO1, lt, ?_⟩
          refine ⟨fun b o hb => by rw [upd_ne (ne_of_none hb hO)]; exact s12 _ _ hb, ⟨os ++ [D2], ?_, ?_, ?_, ?_⟩, some (.int (0 + (i : Int))), some (.ref p2), some (.int (gi (gl lines i) c)), v10, v11, rfl⟩
          · rw [upd_same]
            unfold rv
            rw [List.map_append]
            rfl
          · rw [er, hr1]
            exact (hL1.same s2).add (s2 _ _ hO1) nO h2 nD _
          · intro z
            rcases List.mem_append.mp z with z | z
            · exact nO z
            · exact nD (List.mem_singleton.mp z).symm
          · intro q hq
            rcases List.mem_append.mp hq with z | z
            · exact hfr q z
            · rw [List.mem_singleton.mp z]
              exact .inr (s1.free hD2)
        · rintro j H2 hj ⟨s2, h2⟩
          have s12 := s1.trans s2
          have q1 : (iv (gl lines i))[j]? = some (.int (gi (gl lines i) j)) := iv_get (gi_at (by rw [wl hi']; exact hj))
          have q2 : (iv (gl lines a))[j]? = some (.int (gi (gl lines a) j)) := iv_get (gi_at (by rw [wl ha]; exact hj))
          refine ⟨⟨_, _, _, _, SqL.of (s12 _ _ hpl2), SqL.of (s12 _ _ hpl), q1, q2⟩, ?_⟩
          rintro x H3 ⟨T, x', y', rfl, hT, rfl, f1, f2⟩
          have g1 := f1 _ (SqL.of (s12 _ _ hpl2))
          have g2 := f2 _ (SqL.of (s12 _ _ hpl))
          rw [q1] at g1
          rw [q2] at g2
          cases g1
          cases g2
          refine ⟨T, _, rfl, .inl (.inl upd_same), rfl, _, _, rfl, _, _, rfl, rfl, rfl, ?_⟩
          unfold tYes
          dsimp only
          rw [if_pos rfl]
          have m1 := bd ha hc
          have m2 := bd hi' hj
          have m3 := bd hi' hc
          have m4 := bd ha hj
          refine ⟨_, rfl, _, rfl, _, _, rfl, rfl, Bd.mul m1 m2 B5 B5, _, rfl, _, rfl, _, _, rfl, rfl, Bd.mul m3 m4 B5 B5, _, _, rfl, rfl, _, rfl, _, _, rfl, rfl, ⟨d0, (elim_bd m1 m3 m2 m4).mono (by omega)⟩, ?_⟩
          refine ⟨_, (same_new hT) _ _ h2, ?_, fun b o hb => ?_, ?_⟩
          · rw [iv_len]
            exact small1000 (Nat.le_trans (List.length_take_le _ _) (by omega))
          · rw [upd_ne (ne_of_none hb hD2)]
            exact (s2.trans (same_new hT)) _ _ hb
          · rw [upd_same, elim_at (by rw [wl hi']; exact hj) (by rw [wl ha]; exact hj)]
            unfold iv
            rw [List.map_append]
            rfl
    · rintro σ H1 ⟨s1, ⟨os, hO1, hL1, nO, hfr⟩, v7, v8, v9, v10, v11, rfl⟩
      exact ⟨_, rfl, k O os H1 s1 hO hO1 hL1 hfr⟩
end
end Fk

set_option Elab.async false
set_option maxRecDepth 100000
set_option maxHeartbeats 4000000
namespace Fk
open PySem L2
def spPivot (C : Addr) : Sp := fun vs H Q _ => ∃ (o : Addr) (a : Ad) (t : Tb) (B at' col : Nat), vs = [.ref o, .int at', .int col] ∧ TbAt C H o a t ∧ Wf B t ∧ at' < t.lines.length ∧ col < t.many ∧ 0 < gi (gl t.lines at') col ∧
  ∀ H' a', Keeps [o, a.b] H H' → a'.b = a.b → TbAt C H' o a' (pivotF t at' col) → Q .non H'
theorem ixN_lt {n i : Nat} (h : i < n) : ixN n (i : Int) = some i := by
  unfold ixN
  rw [if_pos (by omega)]
  first
  | (rw [if_pos (by omega)]; rfl)
  | simp [h]
theorem nv_set (xs : List Nat) (i x : Nat) : (nv xs).set i (.int (x : Int)) = nv (xs.set i x) := by
  unfold nv
  rw [List.map_set]
theorem Wf.lnOk {B : Nat} {t : Tb} (W : Wf B t) : LnOk B (t.many + t.lines.length + 1) t.lines := ⟨W.bB, by have := W.n1; have := W.m1; omega, W.m1, W.ll, W.lb⟩
section
variable {P : Program} {w : World} {K : PySem.W.Frag} {mg : Str → Option Value} {base : Heap}
theorem scPivot : FnScope ["self", "at", "column", "lines"] ["self", "at", "column"] (defScope sPivot) := ⟨rfl, rfl, rfl, by decide +kernel, rfl, by decide +kernel, by decide +kernel⟩
theorem ok_pivot {f fP C : Addr} {fd dP : FuncData} (F : Fun K "pivot" "Tableau.pivot" sPivot f fd) (T : TCls K C) (ml : mg "list" = none) (Pv : Cl P w K mg base "pivoted" psPivoted 1 spPivoted fP dP) : FnOk P w K mg base CX0 2 f fd ["self", "at", "column"] (spPivot C) := by
  refine F.ok scPivot (fun vs H Q E h => ?_) (fun cdv A outer s H vs Q E hr h => ?_)
  · obtain ⟨o, a, t, B, x, c, rfl, _⟩ := h
    rfl
  · obtain ⟨o, a, t, B, x, c, rfl, h, W, hx, hc, pos, k⟩ := h
    refine ⟨_, pss_cons (ps_set (i := 3) scPivot.nd rfl (Or.inl rfl) (pe_callTy call_list_of (by rfl) ml (by decide +kernel) (pa_cons (pe_fld (pv 0) rfl) pa_nil)))
      (pss_cons (ps_if (pt_cmpR op_lt (pe_ix ix_list (pe_ix ix_list (pv 3) (pv 1) (fun _ _ => rfl)) (pv 2) (fun _ _ => rfl)) pe_int (nomark _)) pss_never pss_nil)
      (pss_cons (ps_fld (pv 0) (pe_call Pv.G hr (by rfl) Pv.g Pv.kp Pv.b .nil pass0 (pa_cons (pv 3) (pa_cons (pv 1) (pa_cons (pv 2) (pa_cons (pe_fld (pv 0) rfl) pa_nil))))) rfl)
      (pss_cons (ps_fld (pv 0) (pe_ix ix_list (pe_ix ix_list (pv 3) (pv 1) (fun _ _ => rfl)) (pv 2) (fun _ _ => rfl)) rfl)
      (pss_one (ps_asg (pv 2) (pg_sub (pe_fld (pv 0) rfl) (pv 1) set_list)))))), ?_⟩
    have nD := T.no "divisor" (by decide +kernel)
    have nL := T.no "lines" (by decide +kernel)
    have nB := T.no "base" (by decide +kernel)
    have lx := W.ll _ (gl_mem hx)
    obtain ⟨p, hp, hpl⟩ := h.r.line hx
    refine ⟨_, rfl, o, C, a.dx, _, _, rfl, h.o, T.cl, nL, tb_lines a t, a.l, _, rfl, .inl (SqL.of h.l), fun L hL => ?_⟩
    have s1 := same_new (o := .lst (rv a.ls)) hL
    have L1 : (upd H L (.lst (rv a.ls))) L = some (.lst (rv a.ls)) := upd_same
    generalize upd H L (.lst (rv a.ls)) = H1 at s1 L1 ⊢
    have h1 := h.same s1
    refine ⟨_, rfl, _, rfl, L, rv a.ls, _, _, rfl, rfl, SqL.of L1, hp, _, rfl, p, iv (gl t.lines x), _, _, rfl, rfl, SqL.of (s1 _ _ hpl), iv_atI (by omega), _, _, rfl, rfl, _, rfl, iteF' (decide_eq_false (by omega)) ?_⟩
    refine ⟨_, rfl, _, rfl, _, rfl, _, rfl, o, C, a.dx, _, _, rfl, h1.o, T.cl, nD, tb_D a t, L, a.ls, t.lines, x, c, B, _, t.D, rfl, L1, h1.r, W.lnOk, hx, by omega, W.d0, fun l' ls' H2 s2 n2 h2 hL2 fr => ?_⟩
    have o2 := s2 _ _ h1.o
    have bo : a.b ≠ o := ne_of h.b h.o (fun z => nomatch z)
    refine ⟨_, rfl, o, C, a.dx, _, rfl, o2, T.cl, nL, by show 6 < 1000; decide, ?_⟩
    have s12 := s1.trans s2
    have n2' : H l' = none := s1.free n2
    have l'o : l' ≠ o := ne_of h2 o2 (fun z => nomatch z)
    have l'b : l' ≠ a.b := fun e => by rw [e, h.b] at n2'; cases n2'
    have k3 : ∀ b ob, b ≠ o → H2 b = some ob → (upd H2 o (.ins C a.dx (putF "lines" (.ref l') (tbK.zip (tbV a t))))) b = some ob := fun b ob hb e => by rw [upd_ne hb]; exact e
    have o3 : (upd H2 o (.ins C a.dx (putF "lines" (.ref l') (tbK.zip (tbV a t))))) o = some (.ins C a.dx (putF "lines" (.ref l') (tbK.zip (tbV a t)))) := upd_same
    generalize upd H2 o (.ins C a.dx (putF "lines" (.ref l') (tbK.zip (tbV a t)))) = H3 at k3 o3 ⊢
    have Lo : L ≠ o := ne_of L1 h1.o (fun z => nomatch z)
    have po : p ≠ o := ne_of hpl h.o (fun z => nomatch z)
    refine ⟨_, rfl, _, rfl, L, rv a.ls, _, _, rfl, rfl, SqL.of (k3 _ _ Lo (s2 _ _ L1)), hp, _, rfl, p, iv (gl t.lines x), _, _, rfl, rfl, SqL.of (k3 _ _ po (s12 _ _ hpl)), iv_atI (by omega), ?_⟩
    have e3 : putF "lines" (.ref l') (tbK.zip (tbV a t)) = tbK.zip [.int t.many, .int t.D, .ref a.b, .ref a.sc, .ref a.sg, .ref l'] := putF_zip (i := 5) tbNd rfl rfl
    rw [e3] at o3
    refine ⟨_, rfl, o, C, a.dx, _, rfl, o3, T.cl, nD, by show 6 < 1000; decide, ?_⟩
    have e4 : putF "divisor" (.int (gi (gl t.lines x) c)) (tbK.zip [.int t.many, .int t.D, .ref a.b, .ref a.sc, .ref a.sg, .ref l']) = tbK.zip [.int t.many, .int (gi (gl t.lines x) c), .ref a.b, .ref a.sc, .ref a.sg, .ref l'] := putF_zip (i := 1) tbNd rfl rfl
    rw [e4]
    have k4 : ∀ b ob, b ≠ o → H2 b = some ob → (upd H3 o (.ins C a.dx (tbK.zip [.int t.many, .int (gi (gl t.lines x) c), .ref a.b, .ref a.sc, .ref a.sg, .ref l']))) b = some ob := fun b ob hb e => by rw [upd_ne hb]; exact k3 _ _ hb e
    have o4 : (upd H3 o (.ins C a.dx (tbK.zip [.int t.many, .int (gi (gl t.lines x) c), .ref a.b, .ref a.sc, .ref a.sg, .ref l']))) o = some (.ins C a.dx (tbK.zip [.int t.many, .int (gi (gl t.lines x) c), .ref a.b, .ref a.sc, .ref a.sg, .ref l'])) := upd_same
    generalize upd H3 o (.ins C a.dx (tbK.zip [.int t.many, .int (gi (gl t.lines x) c), .ref a.b, .ref a.sc, .ref a.sg, .ref l'])) = H4 at k4 o4 ⊢
    have b4 := k4 _ _ bo (s12 _ _ h.b)
    have hxb : x < (nv t.base).length := by rw [nv_len, W.bl]; exact hx
    refine ⟨_, rfl, _, rfl, o, C, a.dx, _, _, rfl, o4, T.cl, nB, lookup_zip (i := 2) tbNd rfl rfl, _, rfl, a.b, _, _, x, rfl, rfl, b4, ixN_lt hxb, ?_⟩
    rw [nv_set]
    have nb := h.nb
    have nobj : ∀ {q : Addr} {xs : List V}, H2 q = some (.lst xs) → q ≠ o := fun {q xs} e => ne_of e o2 (fun z => nomatch z)
    have up : ∀ {q : Addr} {xs : List V}, q ≠ a.b → H2 q = some (.lst xs) → (upd H4 a.b (.lst (nv (t.base.set x c)))) q = some (.lst xs) := fun {q xs} hq e => by
      rw [upd_ne hq]
      exact k4 _ _ (nobj e) e
    refine k _ { a with l := l', ls := ls' } (fun b ob hb e => ?_) rfl ⟨?_, upd_same, up nb.1.symm (s12 _ _ h.sc), up nb.2.1.symm (s12 _ _ h.sg), up l'b h2, ⟨hL2.1, fun i q r hq hr => ?_⟩, nb.1, nb.2.1, l'b.symm, fun z => ?_⟩
    · have b1 : b ≠ o := fun z => hb (by rw [z]; exact List.mem_cons_self)
      have b2 : b ≠ a.b := fun z => hb (by rw [z]; exact List.mem_cons_of_mem _ List.mem_cons_self)
      rw [upd_ne b2]
      exact k4 _ _ b1 (s12 _ _ e)
    · rw [upd_ne bo.symm]
      exact o4
    · refine up (fun z => ?_) (hL2.2 i q r hq hr)
      rcases fr q (List.mem_of_getElem? hq) with m | m
      · exact nb.2.2.2 (z ▸ m)
      · rw [z, s1 _ _ h.b] at m
        cases m
    · rcases fr _ z with m | m
      · exact nb.2.2.2 m
      · rw [s1 _ _ h.b] at m
        cases m
end
end Fk

set_option Elab.async false
set_option maxRecDepth 100000
set_option maxHeartbeats 4000000
namespace Fk
open PySem L2
abbrev sRaise : Stmt := inClass (top 14) 7
abbrev sDrop : Stmt := inClass (top 14) 8
theorem Keeps.cons {a b : Addr} {H H' : Hp} (h : Keeps [a, b] H H') {c : Addr} {o : HO} (n1 : c ≠ a) (n2 : c ≠ b) (e : H c = some o) : H' c = some o := h c o (fun z => by
  rcases List.mem_cons.mp z with z | z
  · exact n1 z
  · exact n2 (List.mem_singleton.mp z)) e
/-- all ways to raise the sum come to an end, with what is told of it -/
def Ends (cs : List Int) (post : Option Nat → Tb → Prop) : Nat → Tb → Prop
  | 0, _ => False
  | n + 1, t => (∃ B, Wf B t ∧ CostOk B t cs) ∧ ∀ r, Enters t cs r → match r with
    | none => post none t
    | some c => ∀ r2, Leaves t c r2 → match r2 with
      | none => post (some c) t
      | some x => Ends cs post n (pivotF t x c)
def spRaise (C : Addr) : Sp := fun vs H Q _ => ∃ (o c : Addr) (a : Ad) (t : Tb) (cs : List Int) (n : Nat) (post : Option Nat → Tb → Prop), vs = [.ref o, .ref c] ∧ TbAt C H o a t ∧ H c = some (.lst (iv cs)) ∧ c ≠ a.b ∧ Ends cs post n t ∧
  ∀ r H' a' t', Keeps [o, a.b] H H' → a'.b = a.b → TbAt C H' o a' t' → post r t' → Q (optV r) H'
def spDrop (C : Addr) : Sp := fun vs H Q _ => ∃ (o : Addr) (a : Ad) (t : Tb) (B : Nat), vs = [.ref o] ∧ TbAt C H o a t ∧ Wf B t ∧ (∀ b ∈ t.base, b < t.many) ∧ Q .non H
section
variable {P : Program} {w : World} {K : PySem.W.Frag} {mg : Str → Option Value} {base : Heap}
theorem scRaise : FnScope ["self", "costs", "column", "at"] ["self", "costs"] (defScope sRaise) := ⟨rfl, rfl, rfl, by decide +kernel, rfl, by decide +kernel, by decide +kernel⟩
theorem ok_raise {f fE fL fP C : Addr} {fd dE dL dP : FuncData} (F : Fun K "raise_to_top" "Tableau.raise_to_top" sRaise f fd) (T : TCls K C)
    (En : MCl P w K mg base C "entering" ["costs"] 2 (spEnter C) fE dE) (Le : MCl P w K mg base C "leaving" ["column"] 2 (spLeave C) fL dL) (Pi : MCl P w K mg base C "pivot" ["at", "column"] 2 (spPivot C) fP dP) : FnOk P w K mg base CX0 3 f fd ["self", "costs"] (spRaise C) := by
  refine F.ok scRaise (fun vs H Q E h => ?_) (fun cdv A outer s H vs Q E hr h => ?_)
  · obtain ⟨o, c, a, t, cs, n, post, rfl, _⟩ := h
    rfl
  · obtain ⟨o, c, a, t, cs, n, post, rfl, h, hc, hn, hE, k⟩ := h
    refine ⟨_, pss_one (ps_while PassesOwn.never (pt_val pe_bl)
      (pss_cons (ps_set (i := 2) scRaise.nd rfl (Or.inl rfl) (pe_meth (pv 0) T.cl En.m En.G hr En.b .nil pass0 (pa_cons (pv 1) pa_nil)))
      (pss_cons (ps_if (pt_cmpR op_isN (pv 2) pe_non (nomark _)) (pss_one (ps_ret pe_non)) pss_nil)
      (pss_cons (ps_set (i := 3) scRaise.nd rfl (Or.inl rfl) (pe_meth (pv 0) T.cl Le.m Le.G hr Le.b .nil pass0 (pa_cons (pv 2) pa_nil)))
      (pss_cons (ps_if (pt_cmpR op_isN (pv 3) pe_non (nomark _)) (pss_one (ps_ret (pv 2))) pss_nil)
      (pss_one (ps_expr (pe_meth (pv 0) T.cl Pi.m Pi.G hr Pi.b .nil pass0 (pa_cons (pv 3) (pa_cons (pv 2) pa_nil)))))))))), ?_⟩
    refine ⟨fun m σ H' => ∃ (a' : Ad) (t' : Tb) (v2 v3 : Option V), σ = [some (.ref o), some (.ref c), v2, v3] ∧ Keeps [o, a.b] H H' ∧ a'.b = a.b ∧ TbAt C H' o a' t' ∧ Ends cs post m t', ⟨n, a, t, none, none, rfl, Keeps.refl, rfl, h, hE⟩, ?_⟩
    rintro m σ H' ⟨a', t', v2, v3, rfl, kp, eb, h', hE'⟩
    refine ⟨true, rfl, ?_⟩
    dsimp only
    rw [if_pos rfl]
    match m, hE' with
    | m + 1, hE' =>
      obtain ⟨⟨B, W, hC⟩, hR⟩ := hE'
      have nco : c ≠ o := ne_of hc h.o (fun z => nomatch z)
      have hc' := kp.cons nco hn hc
      refine ⟨fun σ H' => ∃ (a' : Ad) (t' : Tb) (v2 v3 : Option V), σ = [some (.ref o), some (.ref c), v2, v3] ∧ Keeps [o, a.b] H H' ∧ a'.b = a.b ∧ TbAt C H' o a' t' ∧ Ends cs post m t', fun σ' H' w => ⟨m, Nat.lt_succ_self m, w⟩, ?_⟩
      refine ⟨_, rfl, o, a'.dx, _, rfl, h'.o, tb_not a' t' (by decide +kernel), _, rfl, o, c, a', t', cs, B, rfl, h', W, hc', hC, fun r hr1 => ?_⟩
      have hR1 := hR r hr1
      cases r with
      | none => exact ⟨_, rfl, rfl, _, rfl, iteT (k none H' a' t' kp eb h' hR1)⟩
      | some col =>
        refine ⟨_, rfl, rfl, _, rfl, iteF ?_⟩
        refine ⟨_, rfl, o, a'.dx, _, rfl, h'.o, tb_not a' t' (by decide +kernel), _, rfl, o, a', t', B, col, rfl, h', W, hr1.1, fun r2 hr2 => ?_⟩
        have hR2 := hR1 r2 hr2
        cases r2 with
        | none => exact ⟨_, rfl, rfl, _, rfl, iteT ⟨_, rfl, k (some col) H' a' t' kp eb h' hR2⟩⟩
        | some x =>
          refine ⟨_, rfl, rfl, _, rfl, iteF ?_⟩
          refine ⟨_, rfl, o, a'.dx, _, rfl, h'.o, tb_not a' t' (by decide +kernel), _, rfl, _, rfl, o, a', t', B, x, col, rfl, h', W, hr2.1, hr1.1, hr2.2, fun H2 a2 k2 eb2 h2 => ?_⟩
          exact ⟨a2, _, _, _, rfl, kp.trans (k2.mono (by rw [eb]; exact fun _ z => z)), eb2.trans eb, h2, hR2⟩
theorem scDrop : FnScope ["self", "k", "columns", "j"] ["self"] (defScope sDrop) := ⟨rfl, rfl, rfl, by decide +kernel, rfl, by decide +kernel, by decide +kernel⟩
theorem ok_drop {f C : Addr} {fd : FuncData} (F : Fun K "drop_helpers" "Tableau.drop_helpers" sDrop f fd) (T : TCls K C) (ml : mg "len" = none) (mr : mg "range" = none) : FnOk P w K mg base CX0 1 f fd ["self"] (spDrop C) := by
  refine F.ok scDrop (fun vs H Q E h => ?_) (fun cdv A outer s H vs Q E hr h => ?_)
  · obtain ⟨o, a, t, B, rfl, _⟩ := h
    rfl
  · obtain ⟨o, a, t, B, rfl, h, W, hb, k⟩ := h
    refine ⟨_, pss_one (ps_for PassesOwn.never rfl (pi_range1 (by rfl) mr (pa_cons (pe_callB call_len_seq (by rfl) ml PySem.boot_len (pa_cons (pe_fld (pv 0) rfl) pa_nil)) pa_nil)) (pg_name (i := 1) scDrop.nd rfl (Or.inr rfl))
        (pss_one (ps_if (pt_cmpR op_ge (pe_ix ix_list (pe_fld (pv 0) rfl) (pv 1) (fun _ _ => rfl)) (pe_fld (pv 0) rfl) (nomark _)) pss_never pss_nil))), ?_⟩
    have nM := T.no "many" (by decide +kernel)
    have nL := T.no "lines" (by decide +kernel)
    have nB := T.no "base" (by decide +kernel)
    have m1 := W.m1
    refine ⟨_, rfl, o, C, a.dx, _, _, rfl, h.o, T.cl, nL, tb_lines a t, a.l, _, rfl, .inl (SqL.of h.l), ?_⟩
    rw [rv_len, h.r.1]
    refine ⟨_, rfl, by omega, by omega, for_range (fun i σ H' => H' = H ∧ ∃ v v2 v3 : Option V, σ = [some (.ref o), v, v2, v3]) ⟨rfl, none, none, none, rfl⟩ ?_ ?_⟩
    · rintro i σ H' hi ⟨rfl, v, v2, v3, rfl⟩
      have hbl : i < t.base.length := by rw [W.bl]; omega
      have e0 : (0 : Int) + (i : Int) = (i : Int) := Int.zero_add _
      have lt := hb _ (gn_mem hbl)
      refine ⟨_, rfl, o, C, a.dx, _, _, rfl, h.o, T.cl, nB, tb_base a t, _, rfl, a.b, nv t.base, _, .int (gn t.base i : Nat), rfl, rfl, SqL.of h.b, by rw [e0]; exact nv_atI hbl, _, rfl, o, C, a.dx, _, _, rfl, h.o, T.cl, nM, tb_many a t, _, _, rfl, rfl, _, rfl, iteF' (decide_eq_false (by omega)) ?_⟩
      exact ⟨rfl, some (.int (0 + (i : Int))), v2, v3, rfl⟩
    · rintro σ H' ⟨rfl, v, v2, v3, rfl⟩
      exact k
end
end Fk

set_option Elab.async false
set_option maxRecDepth 100000
set_option maxHeartbeats 4000000
set_option exponentiation.threshold 20000
namespace Fk
open PySem L2
def spReached (C : Addr) : Sp := fun vs H Q _ => ∃ (o : Addr) (a : Ad) (t : Tb) (B : Nat), vs = [.ref o] ∧ TbAt C H o a t ∧ Wf B t ∧ ∀ p xs H', Same H H' → H' p = some (.tup xs) → Q (.ref p) H'
def spGrowth (C : Addr) : Sp := fun vs H Q _ => ∃ (o : Addr) (a : Ad) (t : Tb) (B col : Nat), vs = [.ref o, .int col] ∧ TbAt C H o a t ∧ Wf B t ∧ col < t.many ∧ ∀ p xs H', Same H H' → H' p = some (.tup xs) → Q (.ref p) H'
def spPrices (C : Addr) : Sp := fun vs H Q _ => ∃ (o c : Addr) (a : Ad) (t : Tb) (cs : List Int) (B : Nat) (sc : Int), vs = [.ref o, .ref c, .int sc] ∧ TbAt C H o a t ∧ Wf B t ∧ H c = some (.lst (iv cs)) ∧ CostOk B t cs ∧ 0 < sc ∧ Bd B sc ∧ ∀ p xs H', Same H H' → H' p = some (.tup xs) → Q (.ref p) H'
def prT (t : Tb) (cs : List Int) (j k : Nat) : Int := (List.range k).foldl (fun s k => s + gi cs (gn t.base k) * gi (gl t.lines k) (t.many + j)) 0
theorem prT_succ (t : Tb) (cs : List Int) (j k : Nat) : prT t cs j (k + 1) = prT t cs j k + gi cs (gn t.base k) * gi (gl t.lines k) (t.many + j) := by
  unfold prT
  rw [List.range_succ, List.foldl_append]
  rfl
theorem prT_bd {B j : Nat} {t : Tb} {cs : List Int} (W : Wf B t) (hC : CostOk B t cs) (hj : j < t.lines.length) : ∀ i, i ≤ t.lines.length → Bd (2 * B + i) (prT t cs j i)
  | 0, _ => by
    show (0 : Int).natAbs < _
    exact Nat.pos_of_ne_zero (fun z => by have := Nat.pow_pos (n := 2 * B + 0) (show 0 < 2 by decide); omega)
  | i + 1, h => by
    rw [prT_succ]
    have ih := prT_bd W hC hj i (by omega)
    have hb : i < t.base.length := by rw [W.bl]; omega
    have b1 : Bd B (gi cs (gn t.base i)) := hC.b _ (gi_mem (by rw [hC.l]; exact W.bb _ (gn_mem hb)))
    have b2 : Bd B (gi (gl t.lines i) (t.many + j)) := W.lb _ (gl_mem (by omega)) _ (gi_mem (by rw [W.ll _ (gl_mem (show i < t.lines.length by omega))]; omega))
    exact (ih.addB ((b1.mulB b2).mono (by omega))).mono (by omega)
theorem Bd.big {B : Nat} {x : Int} (h : Bd B x) (hB : B ≤ 13400) : x.natAbs < 2 ^ 13400 := Nat.lt_of_lt_of_le h (Nat.pow_le_pow_right (by decide) hB)
section
variable {P : Program} {w : World} {K : PySem.W.Frag} {mg : Str → Option Value} {base : Heap}
theorem scReached : FnScope ["self", "found", "k", "at"] ["self"] (defScope sReached) := ⟨rfl, rfl, rfl, by decide +kernel, rfl, by decide +kernel, by decide +kernel⟩
theorem ok_reached {f fL C : Addr} {fd dL : FuncData} (F : Fun K "reached" "Tableau.reached" sReached f fd) (T : TCls K C) (ml : mg "len" = none) (mr : mg "range" = none) (mt : mg "tuple" = none) (L : Cl P w K mg base "lowest" ["top", "bottom"] 1 spLowest fL dL) : FnOk P w K mg base CX0 2 f fd ["self"] (spReached C) := by
  refine F.ok scReached (fun vs H Q E h => ?_) (fun cdv A outer s H vs Q E hr h => ?_)
  · obtain ⟨o, a, t, B, rfl, _⟩ := h
    rfl
  · obtain ⟨o, a, t, B, rfl, h, W, k⟩ := h
    refine ⟨_, pss_cons (ps_set (i := 1) scReached.nd rfl (Or.inl rfl) (pe_op op_rep (pe_lst (pa_cons (pe_tup (pa_cons pe_int (pa_cons pe_int pa_nil))) pa_nil)) (pe_fld (pv 0) rfl)))
      (pss_cons (ps_for PassesOwn.never rfl (pi_range1 (by rfl) mr (pa_cons (pe_callB call_len_seq (by rfl) ml PySem.boot_len (pa_cons (pe_fld (pv 0) rfl) pa_nil)) pa_nil)) (pg_name (i := 2) scReached.nd rfl (Or.inl rfl))
        (pss_cons (ps_set (i := 3) scReached.nd rfl (Or.inl rfl) (pe_ix ix_list (pe_fld (pv 0) rfl) (pv 2) (fun _ _ => rfl)))
        (pss_one (ps_if (pt_cmpR op_lt (pv 3) (pe_fld (pv 0) rfl) (nomark _))
          (pss_one (ps_asg (pe_call L.G hr (by rfl) L.g L.kp L.b .nil pass0 (pa_cons (pe_op op_mulW (pe_ix ix_list (pe_ix ix_list (pe_fld (pv 0) rfl) (pv 2) (fun _ _ => rfl)) (pe_un un_neg pe_int) (fun _ _ => rfl)) (pe_ix ix_list (pe_fld (pv 0) rfl) (pv 3) (fun _ _ => rfl)))
            (pa_cons (pe_op op_mulW (pe_fld (pv 0) rfl) (pe_ix ix_list (pe_fld (pv 0) rfl) (pe_un un_neg pe_int) (fun _ _ => rfl))) pa_nil))) (pg_sub (pv 1) (pv 3) set_list))) pss_nil))))
      (pss_one (ps_ret (pe_callTy call_tuple_of (by rfl) mt (by decide +kernel) (pa_cons (pv 1) pa_nil))))), ?_⟩
    have B5 : B ≤ 200000 := Nat.le_trans W.bB (by decide)
    have bB := W.bB
    have n1 := W.n1
    have m1 := W.m1
    have nM := T.no "many" (by decide +kernel)
    have nD := T.no "divisor" (by decide +kernel)
    have nL := T.no "lines" (by decide +kernel)
    have nB := T.no "base" (by decide +kernel)
    have nS := T.no "scales" (by decide +kernel)
    refine ⟨by show 2 ≤ sizeLine; decide, fun p1 hp1 => ⟨by show 1 ≤ sizeLine; decide, fun l1 hl1 => ?_⟩⟩
    have s1 : Same H (upd (upd H p1 (.tup [.int 0, .int 1])) l1 (.lst [.ref p1])) := (same_new hp1).trans (same_new hl1)
    have e1 : (upd (upd H p1 (.tup [.int 0, .int 1])) l1 (.lst [.ref p1])) l1 = some (.lst [.ref p1]) := upd_same
    generalize upd (upd H p1 (.tup [.int 0, .int 1])) l1 (.lst [.ref p1]) = H1 at s1 e1 ⊢
    have h1 := h.same s1
    refine ⟨_, rfl, o, C, a.dx, _, _, rfl, h1.o, T.cl, nM, tb_many a t, l1, _, _, rfl, rfl, e1, by omega, by omega, ?_, fun f hf => ?_⟩
    · rw [List.length_singleton, Int.toNat_natCast, Nat.one_mul]
      exact Nat.le_trans (Nat.le_trans n1 (by decide)) (show 1000 ≤ sizeLine by decide)
    have lf : (List.replicate ((t.many : Int)).toNat [V.ref p1]).flatten.length = t.many := by
      simp
    generalize (List.replicate ((t.many : Int)).toNat [V.ref p1]).flatten = xs0 at lf ⊢
    have s2 := s1.trans (same_new (o := .lst xs0) hf)
    have hf' : H f = none := s1.free hf
    have e2 : (upd H1 f (.lst xs0)) f = some (.lst xs0) := upd_same
    generalize upd H1 f (.lst xs0) = H2 at s2 e2 ⊢
    refine ⟨_, rfl, o, C, a.dx, _, _, rfl, (h.same s2).o, T.cl, nL, tb_lines a t, a.l, _, rfl, .inl (SqL.of (h.same s2).l), ?_⟩
    rw [rv_len, h.r.1]
    refine ⟨_, rfl, by omega, by omega, for_range (fun i σ H' => Same H H' ∧ (∃ xs, H' f = some (.lst xs) ∧ xs.length = t.many) ∧ ∃ v v2 : Option V, σ = [some (.ref o), some (.ref f), v, v2]) ⟨s2, ⟨xs0, e2, lf⟩, none, none, rfl⟩ ?_ ?_⟩
    · rintro i σ H3 hi ⟨s3, ⟨xs, hx, lx⟩, v, v2, rfl⟩
      have h3 := h.same s3
      have hi' : i < t.lines.length := by omega
      have hbl : i < t.base.length := by rw [W.bl]; exact hi'
      have e0 : (0 : Int) + (i : Int) = (i : Int) := Int.zero_add _
      obtain ⟨p, hp, hpl⟩ := h3.r.line hi'
      have l1 := W.ll _ (gl_mem hi')
      have hsl : t.many < t.scales.length := by rw [W.sl]; omega
      have es : t.scales.length - 1 = t.many := by rw [W.sl]; omega
      refine ⟨_, rfl, o, C, a.dx, _, _, rfl, h3.o, T.cl, nB, tb_base a t, _, rfl, a.b, nv t.base, _, .int (gn t.base i : Nat), rfl, rfl, SqL.of h3.b, by rw [e0]; exact nv_atI hbl, ?_⟩
      refine ⟨_, rfl, _, rfl, o, C, a.dx, _, _, rfl, h3.o, T.cl, nM, tb_many a t, _, _, rfl, rfl, _, rfl, ite2 (fun hg => ?_) (fun hg => ?_)⟩
      · have hat : gn t.base i < t.many := by
          have := of_decide_eq_true hg
          omega
        obtain ⟨sm0, smB⟩ := W.sb _ (gi_mem hsl)
        obtain ⟨sa0, saB⟩ := W.sb _ (gi_mem (show gn t.base i < t.scales.length by omega))
        have b1 := W.lb _ (gl_mem hi') _ (gi_mem (show (gl t.lines i).length - 1 < (gl t.lines i).length by omega))
        refine ⟨_, rfl, o, C, a.dx, _, _, rfl, h3.o, T.cl, nL, tb_lines a t, _, rfl, a.l, rv a.ls, _, .ref p, rfl, rfl, SqL.of h3.l, by rw [e0]; exact hp, 1, rfl, p, iv (gl t.lines i), _, _, rfl, rfl, SqL.of hpl, last_atI (by omega), ?_⟩
        refine ⟨_, rfl, o, C, a.dx, _, _, rfl, h3.o, T.cl, nS, tb_scales a t, _, rfl, a.sc, iv t.scales, _, _, rfl, rfl, SqL.of h3.sc, iv_atI (by omega), _, _, rfl, rfl, Bd.mul b1 saB B5 B5, ?_⟩
        refine ⟨_, rfl, o, C, a.dx, _, _, rfl, h3.o, T.cl, nD, tb_D a t, _, rfl, o, C, a.dx, _, _, rfl, h3.o, T.cl, nS, tb_scales a t, 1, rfl, a.sc, iv t.scales, _, _, rfl, rfl, SqL.of h3.sc, last_atI (by omega), ?_⟩
        rw [es]
        refine ⟨_, _, rfl, rfl, Bd.mul W.db smB B5 B5, _, _, rfl, Int.mul_pos W.d0 sm0, ((b1.mulB saB).big (by omega)), ((W.db.mulB smB).big (by omega)), fun q hq => ?_⟩
        have nfq : f ≠ q := ne_of_none hx hq
        refine ⟨_, rfl, _, rfl, f, xs, _, gn t.base i, rfl, rfl, (same_new hq) _ _ hx, ixN_lt (by omega), ?_⟩
        refine ⟨fun b ob hb => ?_, ⟨_, upd_same, by rw [List.length_set]; exact lx⟩, some (.int (0 + (i : Int))), some (.int (gn t.base i : Nat)), rfl⟩
        rw [upd_ne (ne_of_none hb hf')]
        exact (same_new hq) _ _ (s3 _ _ hb)
      · exact ⟨s3, ⟨xs, hx, lx⟩, some (.int (0 + (i : Int))), some (.int (gn t.base i : Nat)), rfl⟩
    · rintro σ H3 ⟨s3, ⟨xs, hx, lx⟩, v, v2, rfl⟩
      exact ⟨_, rfl, f, xs, rfl, .inl ⟨SqL.of hx, fun q hq => k q xs _ (s3.trans (same_new hq)) upd_same⟩⟩
end
end Fk

set_option Elab.async false
set_option maxRecDepth 100000
set_option maxHeartbeats 4000000
set_option exponentiation.threshold 20000
namespace Fk
open PySem L2
section
variable {P : Program} {w : World} {K : PySem.W.Frag} {mg : Str → Option Value} {base : Heap}
theorem scGrowth : FnScope ["self", "column", "found", "k", "at"] ["self", "column"] (defScope sGrowth) := ⟨rfl, rfl, rfl, by decide +kernel, rfl, by decide +kernel, by decide +kernel⟩
theorem ok_growth {f fL C : Addr} {fd dL : FuncData} (F : Fun K "growth" "Tableau.growth" sGrowth f fd) (T : TCls K C) (ml : mg "len" = none) (mr : mg "range" = none) (mt : mg "tuple" = none) (L : Cl P w K mg base "lowest" ["top", "bottom"] 1 spLowest fL dL) : FnOk P w K mg base CX0 2 f fd ["self", "column"] (spGrowth C) := by
  refine F.ok scGrowth (fun vs H Q E h => ?_) (fun cdv A outer s H vs Q E hr h => ?_)
  · obtain ⟨o, a, t, B, col, rfl, _⟩ := h
    rfl
  · obtain ⟨o, a, t, B, col, rfl, h, W, hcol, k⟩ := h
    refine ⟨_, pss_cons (ps_set (i := 2) scGrowth.nd rfl (Or.inl rfl) (pe_op op_rep (pe_lst (pa_cons (pe_tup (pa_cons pe_int (pa_cons pe_int pa_nil))) pa_nil)) (pe_fld (pv 0) rfl)))
      (pss_cons (ps_asg (pe_tup (pa_cons (pe_ix ix_list (pe_fld (pv 0) rfl) (pv 1) (fun _ _ => rfl)) (pa_cons pe_int pa_nil))) (pg_sub (pv 2) (pv 1) set_list))
      (pss_cons (ps_for PassesOwn.never rfl (pi_range1 (by rfl) mr (pa_cons (pe_callB call_len_seq (by rfl) ml PySem.boot_len (pa_cons (pe_fld (pv 0) rfl) pa_nil)) pa_nil)) (pg_name (i := 3) scGrowth.nd rfl (Or.inl rfl))
        (pss_cons (ps_set (i := 4) scGrowth.nd rfl (Or.inl rfl) (pe_ix ix_list (pe_fld (pv 0) rfl) (pv 3) (fun _ _ => rfl)))
        (pss_one (ps_if (pt_cmpR op_lt (pv 4) (pe_fld (pv 0) rfl) (nomark _))
          (pss_one (ps_asg (pe_call L.G hr (by rfl) L.g L.kp L.b .nil pass0 (pa_cons (pe_op op_mulW (pe_un un_neg (pe_ix ix_list (pe_ix ix_list (pe_fld (pv 0) rfl) (pv 3) (fun _ _ => rfl)) (pv 1) (fun _ _ => rfl))) (pe_ix ix_list (pe_fld (pv 0) rfl) (pv 4) (fun _ _ => rfl)))
            (pa_cons (pe_fld (pv 0) rfl) pa_nil))) (pg_sub (pv 2) (pv 4) set_list))) pss_nil))))
      (pss_one (ps_ret (pe_callTy call_tuple_of (by rfl) mt (by decide +kernel) (pa_cons (pv 2) pa_nil)))))), ?_⟩
    have B5 : B ≤ 200000 := Nat.le_trans W.bB (by decide)
    have bB := W.bB
    have n1 := W.n1
    have m1 := W.m1
    have nM := T.no "many" (by decide +kernel)
    have nD := T.no "divisor" (by decide +kernel)
    have nL := T.no "lines" (by decide +kernel)
    have nB := T.no "base" (by decide +kernel)
    have nS := T.no "scales" (by decide +kernel)
    refine ⟨by show 2 ≤ sizeLine; decide, fun p1 hp1 => ⟨by show 1 ≤ sizeLine; decide, fun l1 hl1 => ?_⟩⟩
    have s1 : Same H (upd (upd H p1 (.tup [.int 0, .int 1])) l1 (.lst [.ref p1])) := (same_new hp1).trans (same_new hl1)
    have e1 : (upd (upd H p1 (.tup [.int 0, .int 1])) l1 (.lst [.ref p1])) l1 = some (.lst [.ref p1]) := upd_same
    generalize upd (upd H p1 (.tup [.int 0, .int 1])) l1 (.lst [.ref p1]) = H1 at s1 e1 ⊢
    have h1 := h.same s1
    refine ⟨_, rfl, o, C, a.dx, _, _, rfl, h1.o, T.cl, nM, tb_many a t, l1, _, _, rfl, rfl, e1, by omega, by omega, ?_, fun f hf => ?_⟩
    · rw [List.length_singleton, Int.toNat_natCast, Nat.one_mul]
      exact Nat.le_trans (Nat.le_trans n1 (by decide)) (show 1000 ≤ sizeLine by decide)
    have lf : (List.replicate ((t.many : Int)).toNat [V.ref p1]).flatten.length = t.many := by
      simp
    generalize (List.replicate ((t.many : Int)).toNat [V.ref p1]).flatten = xs0 at lf ⊢
    have s2 := s1.trans (same_new (o := .lst xs0) hf)
    have hf' : H f = none := s1.free hf
    have e2 : (upd H1 f (.lst xs0)) f = some (.lst xs0) := upd_same
    generalize upd H1 f (.lst xs0) = H2 at s2 e2 ⊢
    have h2 := h.same s2
    refine ⟨_, rfl, o, C, a.dx, _, _, rfl, h2.o, T.cl, nS, tb_scales a t, _, rfl, a.sc, iv t.scales, _, _, rfl, rfl, SqL.of h2.sc, iv_atI (by rw [W.sl]; omega), by show 2 ≤ sizeLine; decide, fun q0 hq0 => ?_⟩
    refine ⟨_, rfl, _, rfl, f, xs0, _, col, rfl, rfl, (same_new hq0) _ _ e2, ixN_lt (by omega), ?_⟩
    have s2b : Same H (upd (upd H2 q0 (.tup [.int (gi t.scales col), .int 1])) f (.lst (xs0.set col (.ref q0)))) := fun b ob hb => by
      rw [upd_ne (ne_of_none hb hf')]
      exact (same_new hq0) _ _ (s2 _ _ hb)
    have e2b : (upd (upd H2 q0 (.tup [.int (gi t.scales col), .int 1])) f (.lst (xs0.set col (.ref q0)))) f = some (.lst (xs0.set col (.ref q0))) := upd_same
    have lfb : (xs0.set col (.ref q0)).length = t.many := by rw [List.length_set]; exact lf
    generalize upd (upd H2 q0 (.tup [.int (gi t.scales col), .int 1])) f (.lst (xs0.set col (.ref q0))) = H2b at s2b e2b ⊢
    refine ⟨_, rfl, o, C, a.dx, _, _, rfl, (h.same s2b).o, T.cl, nL, tb_lines a t, a.l, _, rfl, .inl (SqL.of (h.same s2b).l), ?_⟩
    rw [rv_len, h.r.1]
    refine ⟨_, rfl, by omega, by omega, for_range (fun i σ H' => Same H H' ∧ (∃ xs, H' f = some (.lst xs) ∧ xs.length = t.many) ∧ ∃ v v2 : Option V, σ = [some (.ref o), some (.int col), some (.ref f), v, v2]) ⟨s2b, ⟨_, e2b, lfb⟩, none, none, rfl⟩ ?_ ?_⟩
    · rintro i σ H3 hi ⟨s3, ⟨xs, hx, lx⟩, v, v2, rfl⟩
      have h3 := h.same s3
      have hi' : i < t.lines.length := by omega
      have hbl : i < t.base.length := by rw [W.bl]; exact hi'
      have e0 : (0 : Int) + (i : Int) = (i : Int) := Int.zero_add _
      obtain ⟨p, hp, hpl⟩ := h3.r.line hi'
      have l1 := W.ll _ (gl_mem hi')
      refine ⟨_, rfl, o, C, a.dx, _, _, rfl, h3.o, T.cl, nB, tb_base a t, _, rfl, a.b, nv t.base, _, .int (gn t.base i : Nat), rfl, rfl, SqL.of h3.b, by rw [e0]; exact nv_atI hbl, ?_⟩
      refine ⟨_, rfl, _, rfl, o, C, a.dx, _, _, rfl, h3.o, T.cl, nM, tb_many a t, _, _, rfl, rfl, _, rfl, ite2 (fun hg => ?_) (fun hg => ?_)⟩
      · have hat : gn t.base i < t.many := by
          have := of_decide_eq_true hg
          omega
        have lsc := W.sl
        obtain ⟨sa0, saB⟩ := W.sb _ (gi_mem (show gn t.base i < t.scales.length by omega))
        have b1 := (W.lb _ (gl_mem hi') _ (gi_mem (show col < (gl t.lines i).length by omega))).neg
        refine ⟨_, rfl, o, C, a.dx, _, _, rfl, h3.o, T.cl, nL, tb_lines a t, _, rfl, a.l, rv a.ls, _, .ref p, rfl, rfl, SqL.of h3.l, by rw [e0]; exact hp, _, rfl, p, iv (gl t.lines i), _, _, rfl, rfl, SqL.of hpl, iv_atI (by omega), _, rfl, ?_⟩
        refine ⟨_, rfl, o, C, a.dx, _, _, rfl, h3.o, T.cl, nS, tb_scales a t, _, rfl, a.sc, iv t.scales, _, _, rfl, rfl, SqL.of h3.sc, iv_atI (by omega), _, _, rfl, rfl, Bd.mul b1 saB B5 B5, ?_⟩
        refine ⟨_, rfl, o, C, a.dx, _, _, rfl, h3.o, T.cl, nD, tb_D a t, _, _, rfl, W.d0, ((b1.mulB saB).big (by omega)), (W.db.big (by omega)), fun q hq => ?_⟩
        refine ⟨_, rfl, _, rfl, f, xs, _, gn t.base i, rfl, rfl, (same_new hq) _ _ hx, ixN_lt (by omega), ?_⟩
        refine ⟨fun b ob hb => ?_, ⟨_, upd_same, by rw [List.length_set]; exact lx⟩, some (.int (0 + (i : Int))), some (.int (gn t.base i : Nat)), rfl⟩
        rw [upd_ne (ne_of_none hb hf')]
        exact (same_new hq) _ _ (s3 _ _ hb)
      · exact ⟨s3, ⟨xs, hx, lx⟩, some (.int (0 + (i : Int))), some (.int (gn t.base i : Nat)), rfl⟩
    · rintro σ H3 ⟨s3, ⟨xs, hx, lx⟩, v, v2, rfl⟩
      exact ⟨_, rfl, f, xs, rfl, .inl ⟨SqL.of hx, fun q hq => k q xs _ (s3.trans (same_new hq)) upd_same⟩⟩
theorem scPrices : FnScope ["self", "costs", "scale", "found", "k", "total", "at"] ["self", "costs", "scale"] (defScope sPrices) := ⟨rfl, rfl, rfl, by decide +kernel, rfl, by decide +kernel, by decide +kernel⟩
theorem ok_prices {f fL C : Addr} {fd dL : FuncData} (F : Fun K "prices" "Tableau.prices" sPrices f fd) (T : TCls K C) (ml : mg "len" = none) (mr : mg "range" = none) (mt : mg "tuple" = none) (L : Cl P w K mg base "lowest" ["top", "bottom"] 1 spLowest fL dL) : FnOk P w K mg base CX0 2 f fd ["self", "costs", "scale"] (spPrices C) := by
  refine F.ok scPrices (fun vs H Q E h => ?_) (fun cdv A outer s H vs Q E hr h => ?_)
  · obtain ⟨o, c, a, t, cs, B, sc, rfl, _⟩ := h
    rfl
  · obtain ⟨o, c, a, t, cs, B, sc, rfl, h, W, hc, hC, s0, sB, k⟩ := h
    refine ⟨_, pss_cons (ps_set (i := 3) scPrices.nd rfl (Or.inl rfl) (pe_lst pa_nil))
      (pss_cons (ps_for PassesOwn.never rfl (pi_range1 (by rfl) mr (pa_cons (pe_callB call_len_seq (by rfl) ml PySem.boot_len (pa_cons (pe_fld (pv 0) rfl) pa_nil)) pa_nil)) (pg_name (i := 4) scPrices.nd rfl (Or.inl rfl))
        (pss_cons (ps_set (i := 5) scPrices.nd rfl (Or.inl rfl) pe_int)
        (pss_cons (ps_for PassesOwn.never rfl (pi_range1 (by rfl) mr (pa_cons (pe_callB call_len_seq (by rfl) ml PySem.boot_len (pa_cons (pe_fld (pv 0) rfl) pa_nil)) pa_nil)) (pg_name (i := 6) scPrices.nd rfl (Or.inl rfl))
          (pss_one (ps_set (i := 5) scPrices.nd rfl (Or.inl rfl) (pe_op op_add (pv 5) (pe_op op_mulW (pe_ix ix_list (pv 1) (pe_ix ix_list (pe_fld (pv 0) rfl) (pv 6) (fun _ _ => rfl)) (fun _ _ => rfl))
            (pe_ix ix_list (pe_ix ix_list (pe_fld (pv 0) rfl) (pv 6) (fun _ _ => rfl)) (pe_op op_add (pe_fld (pv 0) rfl) (pv 4)) (fun _ _ => rfl)))))))
        (pss_one (ps_expr (pe_bm PySem.F.plainAttrs_list PySem.F.slot_list_append PySem.F.type_list_append mt_append (pv 3) (pa_cons (pe_call L.G hr (by rfl) L.g L.kp L.b .nil pass0 (pa_cons (pe_op op_mulW (pv 5) (pe_ix ix_list (pe_fld (pv 0) rfl) (pv 4) (fun _ _ => rfl)))
          (pa_cons (pe_op op_mulW (pe_fld (pv 0) rfl) (pv 2)) pa_nil))) pa_nil)))))))
      (pss_one (ps_ret (pe_callTy call_tuple_of (by rfl) mt (by decide +kernel) (pa_cons (pv 3) pa_nil))))), ?_⟩
    have B5 : B ≤ 200000 := Nat.le_trans W.bB (by decide)
    have bB := W.bB
    have n1 := W.n1
    have m1 := W.m1
    have nM := T.no "many" (by decide +kernel)
    have nD := T.no "divisor" (by decide +kernel)
    have nL := T.no "lines" (by decide +kernel)
    have nB := T.no "base" (by decide +kernel)
    have nG := T.no "signs" (by decide +kernel)
    refine ⟨by show 0 ≤ sizeLine; decide, fun f hf => ?_⟩
    have s1 := same_new (o := .lst []) hf
    have e1 : (upd H f (.lst [])) f = some (.lst []) := upd_same
    generalize upd H f (.lst []) = H1 at s1 e1 ⊢
    refine ⟨_, rfl, o, C, a.dx, _, _, rfl, (h.same s1).o, T.cl, nL, tb_lines a t, a.l, _, rfl, .inl (SqL.of (h.same s1).l), ?_⟩
    rw [rv_len, h.r.1]
    refine ⟨_, rfl, by omega, by omega, for_range (fun i σ H' => Same H H' ∧ (∃ xs, H' f = some (.lst xs) ∧ xs.length = i) ∧ ∃ v v2 v3 : Option V, σ = [some (.ref o), some (.ref c), some (.int sc), some (.ref f), v, v2, v3]) ⟨s1, ⟨[], e1, rfl⟩, none, none, none, rfl⟩ ?_ ?_⟩
    · rintro i σ H3 hi ⟨s3, ⟨xs, hx, lx⟩, v, v2, v3, rfl⟩
      have h3 := h.same s3
      have hc3 := s3 _ _ hc
      have hi' : i < t.lines.length := by omega
      have e0 : (0 : Int) + (i : Int) = (i : Int) := Int.zero_add _
      refine ⟨_, rfl, o, C, a.dx, _, _, rfl, h3.o, T.cl, nL, tb_lines a t, a.l, _, rfl, .inl (SqL.of h3.l), ?_⟩
      rw [rv_len, h.r.1]
      refine ⟨_, rfl, by omega, by omega, for_range (fun j σ H' => H' = H3 ∧ ∃ v3 : Option V, σ = [some (.ref o), some (.ref c), some (.int sc), some (.ref f), some (.int (0 + (i : Int))), some (.int (prT t cs i j)), v3]) ⟨rfl, v3, rfl⟩ ?_ ?_⟩
      · rintro j σ H4 hj ⟨rfl, v4, rfl⟩
        have hj' : j < t.lines.length := by omega
        have hbl : j < t.base.length := by rw [W.bl]; exact hj'
        have e0j : (0 : Int) + (j : Int) = (j : Int) := Int.zero_add _
        obtain ⟨p, hp, hpl⟩ := h3.r.line hj'
        have l1 := W.ll _ (gl_mem hj')
        have hbb := W.bb _ (gn_mem hbl)
        refine ⟨_, rfl, _, rfl, _, rfl, o, C, a.dx, _, _, rfl, h3.o, T.cl, nB, tb_base a t, _, rfl, a.b, nv t.base, _, .int (gn t.base j : Nat), rfl, rfl, SqL.of h3.b, by rw [e0j]; exact nv_atI hbl, ?_⟩
        refine ⟨c, iv cs, _, _, rfl, rfl, SqL.of hc3, iv_atI (by rw [hC.l]; exact hbb), ?_⟩
        refine ⟨_, rfl, o, C, a.dx, _, _, rfl, h3.o, T.cl, nL, tb_lines a t, _, rfl, a.l, rv a.ls, _, .ref p, rfl, rfl, SqL.of h3.l, by rw [e0j]; exact hp, ?_⟩
        have em : (t.many : Int) + (0 + (i : Int)) = ((t.many + i : Nat) : Int) := by omega
        refine ⟨_, rfl, o, C, a.dx, _, _, rfl, h3.o, T.cl, nM, tb_many a t, _, rfl, _, _, rfl, rfl, p, iv (gl t.lines j), _, .int (gi (gl t.lines j) (t.many + i)), rfl, rfl, SqL.of hpl, by rw [em]; exact iv_atI (by omega), ?_⟩
        refine ⟨_, _, rfl, rfl, Bd.mul (hC.b _ (gi_mem (by rw [hC.l]; exact hbb))) (W.lb _ (gl_mem hj') _ (gi_mem (by omega))) B5 B5, _, _, rfl, rfl, rfl, some (.int (0 + (j : Int))), ?_⟩
        rw [prT_succ]
        rfl
      · rintro σ H4 ⟨rfl, v4, rfl⟩
        have hg : i < t.signs.length := by rw [W.gl]; exact hi'
        have pb := prT_bd W hC hi' t.lines.length (Nat.le_refl _)
        have gb := W.gb _ (gi_mem hg)
        refine ⟨_, rfl, .inl ⟨rfl, _, SqL.of hx⟩, _, rfl, _, rfl, o, C, a.dx, _, _, rfl, h3.o, T.cl, nG, tb_signs a t, _, rfl, a.sg, iv t.signs, _, .int (gi t.signs i), rfl, rfl, SqL.of h3.sg, by rw [e0]; exact iv_atI hg, ?_⟩
        refine ⟨_, _, rfl, rfl, Bd.mul pb gb (by omega) B5, ?_⟩
        refine ⟨_, rfl, o, C, a.dx, _, _, rfl, h3.o, T.cl, nD, tb_D a t, _, rfl, _, _, rfl, rfl, Bd.mul W.db sB B5 B5, ?_⟩
        refine ⟨_, _, rfl, Int.mul_pos W.d0 s0, (pb.mulB gb).big (by omega), (W.db.mulB sB).big (by omega), fun q hq => ?_⟩
        refine ⟨f, xs, _, rfl, rfl, (same_new hq) _ _ hx, by rw [lx]; exact small1000 (by omega), ?_⟩
        refine ⟨fun b ob hb => ?_, ⟨_, upd_same, by rw [List.length_append, lx]; rfl⟩, _, _, v4, rfl⟩
        rw [upd_ne (ne_of_none hb hf)]
        exact (same_new hq) _ _ (s3 _ _ hb)
    · rintro σ H3 ⟨s3, ⟨xs, hx, lx⟩, v, v2, v3, rfl⟩
      exact ⟨_, rfl, f, xs, rfl, .inl ⟨SqL.of hx, fun q hq => k q xs _ (s3.trans (same_new hq)) upd_same⟩⟩
end
end Fk

set_option Elab.async false
set_option maxRecDepth 100000
set_option maxHeartbeats 4000000
set_option exponentiation.threshold 20000
namespace Fk
open PySem L2
/-! ### shared_bottom -/
abbrev sShared : Stmt := top 9
def shStep (s : Int) (x : Int × Int) : Int := s / (Nat.gcd s.natAbs x.2.natAbs : Nat) * x.2
def shF (fs : List (Int × Int)) : Int := fs.foldl shStep 1
theorem shF_snoc (fs : List (Int × Int)) (x : Int × Int) : shF (fs ++ [x]) = shStep (shF fs) x := by
  unfold shF
  rw [List.foldl_append]
  rfl
theorem gcd_dvd_int (a b : Int) : ((Nat.gcd a.natAbs b.natAbs : Nat) : Int) ∣ a := Int.natAbs_dvd_natAbs.mp (by rw [Int.natAbs_natCast]; exact Nat.gcd_dvd_left _ _)
theorem gcd_dvd_int' (a b : Int) : ((Nat.gcd a.natAbs b.natAbs : Nat) : Int) ∣ b := Int.natAbs_dvd_natAbs.mp (by rw [Int.natAbs_natCast]; exact Nat.gcd_dvd_right _ _)
theorem gcd_pos_int {a b : Int} (h : 0 < b) : (0 : Int) < (Nat.gcd a.natAbs b.natAbs : Nat) := by
  have : 0 < Nat.gcd a.natAbs b.natAbs := Nat.gcd_pos_of_pos_right _ (by omega)
  omega
theorem shStep_pos {s : Int} {x : Int × Int} (hs : 0 < s) (hx : 0 < x.2) : 0 < shStep s x :=
  Int.mul_pos (Int.ediv_pos_of_pos_of_dvd hs (by have := gcd_pos_int (a := s) hx; omega) (gcd_dvd_int s x.2)) hx
theorem shStep_old {s : Int} {x : Int × Int} : s ∣ shStep s x := by
  obtain ⟨c, hc⟩ := gcd_dvd_int' s x.2
  obtain ⟨d, hd⟩ := gcd_dvd_int s x.2
  refine ⟨c, ?_⟩
  unfold shStep
  generalize hg : ((Nat.gcd s.natAbs x.2.natAbs : Nat) : Int) = g at *
  by_cases g0 : g = 0
  · rw [g0, Int.zero_mul] at hd
    rw [hd, Int.zero_ediv, Int.zero_mul, Int.zero_mul]
  · have e : s / g = d := by
      rw [hd, Int.mul_ediv_cancel_left _ g0]
    rw [e, hc, hd, ← Int.mul_assoc, Int.mul_comm d g]
theorem shStep_new {s : Int} {x : Int × Int} : x.2 ∣ shStep s x := ⟨s / (Nat.gcd s.natAbs x.2.natAbs : Nat), by unfold shStep; rw [Int.mul_comm]⟩
theorem shF_facts : ∀ (fs : List (Int × Int)) (s : Int), 0 < s → (∀ x ∈ fs, 0 < x.2) → 0 < fs.foldl shStep s ∧ s ∣ fs.foldl shStep s ∧ ∀ x ∈ fs, x.2 ∣ fs.foldl shStep s
  | [], s, h, _ => ⟨h, Int.dvd_refl s, fun _ hx => nomatch hx⟩
  | x :: fs, s, h, hp => by
    have hx := hp x (List.mem_cons_self ..)
    obtain ⟨h1, h2, h3⟩ := shF_facts fs (shStep s x) (shStep_pos h hx) fun y hy => hp y (List.mem_cons_of_mem _ hy)
    refine ⟨h1, Int.dvd_trans shStep_old h2, fun y hy => ?_⟩
    rcases List.mem_cons.mp hy with rfl | hy
    · exact Int.dvd_trans shStep_new h2
    · exact h3 y hy
theorem shStep_bd {A b : Nat} {s : Int} {x : Int × Int} (hs : Bd A s) (s0 : 0 < s) (x0 : 0 < x.2) (hx : Bd b x.2) : Bd (A + b) (shStep s x) := by
  unfold shStep
  refine Bd.mulB ?_ hx
  have d1 : s / ((Nat.gcd s.natAbs x.2.natAbs : Nat) : Int) ≤ s := Int.ediv_le_self _ (by omega)
  have d2 : 0 ≤ s / ((Nat.gcd s.natAbs x.2.natAbs : Nat) : Int) := Int.ediv_nonneg (by omega) (by omega)
  unfold Bd at *
  omega
theorem shF_bd {b : Nat} : ∀ (fs : List (Int × Int)) (A : Nat) (s : Int), 0 < s → Bd A s → (∀ x ∈ fs, 0 < x.2 ∧ Bd b x.2) → Bd (A + b * fs.length) (fs.foldl shStep s)
  | [], A, s, _, h, _ => h
  | x :: fs, A, s, s0, h, hp => by
    obtain ⟨x0, xb⟩ := hp x (List.mem_cons_self ..)
    have z := shF_bd fs (A + b) (shStep s x) (shStep_pos s0 x0) (shStep_bd h s0 x0 xb) fun y hy => hp y (List.mem_cons_of_mem _ hy)
    refine z.mono ?_
    rw [List.length_cons, Nat.mul_succ]
    omega
theorem one_bd : Bd 1 1 := by unfold Bd; decide
/-- a list of addresses of pairs -/
def PairsAt (H : Hp) (ps : List Addr) (fs : List (Int × Int)) : Prop := ps.length = fs.length ∧ ∀ (i : Nat) (p : Addr) (x : Int × Int), ps[i]? = some p → fs[i]? = some x → RatAt H p x
theorem PairsAt.same {H H' : Hp} {ps : List Addr} {fs : List (Int × Int)} (h : PairsAt H ps fs) (s : Same H H') : PairsAt H' ps fs := ⟨h.1, fun i p x a b => s _ _ (h.2 i p x a b)⟩
theorem PairsAt.get {H : Hp} {ps : List Addr} {fs : List (Int × Int)} (h : PairsAt H ps fs) {i : Nat} {v : V} (hv : (rv ps)[i]? = some v) : ∃ p x, v = .ref p ∧ ps[i]? = some p ∧ fs[i]? = some x ∧ RatAt H p x := by
  unfold rv at hv
  rw [List.getElem?_map] at hv
  cases e : ps[i]? with
  | none =>
    rw [e] at hv
    cases hv
  | some p =>
    rw [e] at hv
    cases hv
    have hi := (List.getElem?_eq_some_iff.mp e).1
    have hi2 : i < fs.length := by rw [← h.1]; exact hi
    exact ⟨p, fs[i], rfl, rfl, List.getElem?_eq_getElem hi2, h.2 i p _ e (List.getElem?_eq_getElem hi2)⟩
def spShared : Sp := fun vs H Q _ => ∃ (l : Addr) (ps : List Addr) (fs : List (Int × Int)) (b : Nat), vs = [.ref l] ∧ H l = some (.lst (rv ps)) ∧ PairsAt H ps fs ∧ (∀ x ∈ fs, 0 < x.2 ∧ Bd b x.2) ∧ fs.length ≤ 20 ∧ b ≤ 600 ∧ Q (.int (shF fs)) H
section
variable {P : Program} {w : World} {K : PySem.W.Frag} {mg : Str → Option Value} {base : Heap}
theorem scShared : FnScope ["ratios", "shared", "ratio"] ["ratios"] (defScope sShared) := ⟨rfl, rfl, rfl, by decide +kernel, rfl, by decide +kernel, by decide +kernel⟩
theorem ok_shared {f : Addr} {fd : FuncData} (F : Fun K "shared_bottom" "shared_bottom" sShared f fd) (mgc : mg "gcd" = some (.builtin "math.gcd")) : FnOk P w K mg base CX0 1 f fd ["ratios"] spShared := by
  refine F.ok scShared (fun vs H Q E h => ?_) (fun cdv A outer s H vs Q E hr h => ?_)
  · obtain ⟨l, ps, fs, b, rfl, _⟩ := h
    rfl
  · obtain ⟨l, ps, fs, b, rfl, hl, hps, hf, hn, hb, k⟩ := h
    refine ⟨_, pss_cons (ps_set (i := 1) scShared.nd rfl (Or.inl rfl) pe_int)
      (pss_cons (ps_for PassesOwn.never rfl (pi_list (pv 0)) (pg_name (i := 2) scShared.nd rfl (Or.inl rfl))
        (pss_one (ps_set (i := 1) scShared.nd rfl (Or.inl rfl) (pe_op op_mulW (pe_op op_fdivB (pv 1) (pe_callBfun cr_gcd (by rfl) mgc (pa_cons (pv 1) (pa_cons (pe_ix ix_tup (pv 2) pe_int (fun _ _ => rfl)) pa_nil)))) (pe_ix ix_tup (pv 2) pe_int (fun _ _ => rfl))))))
      (pss_one (ps_ret (pv 1)))), ?_⟩
    have pl := hps.1
    refine ⟨_, rfl, l, rfl, ⟨_, SqL.of hl⟩, for_list (K := K) (a := l) (xs := rv ps) (fun i σ H' => H' = H ∧ ∃ v : Option V, σ = [some (.ref l), some (.int (shF (fs.take i))), v]) ⟨rfl, none, rfl⟩ (fun i σ H' _ ⟨e, _⟩ => e ▸ SqL.of hl) ?_ ?_⟩
    · rintro i x σ H' hx ⟨rfl, v, rfl⟩
      obtain ⟨p, y, rfl, hp, hy, hfr⟩ := hps.get hx
      have hym := List.mem_of_getElem? hy
      obtain ⟨y0, yb⟩ := hf y hym
      have hi : i < fs.length := (List.getElem?_eq_some_iff.mp hy).1
      have st : SqT K H' p [.int y.1, .int y.2] := Or.inl (Or.inl hfr)
      have pp := (shF_facts (fs.take i) 1 (by decide) fun x hx => (hf x (List.mem_of_mem_take hx)).1).1
      have pb := shF_bd (b := b) (fs.take i) 1 1 (by decide) one_bd fun x hx => hf x (List.mem_of_mem_take hx)
      rw [List.length_take, Nat.min_eq_left (by omega)] at pb
      have hbi : b * i ≤ 12000 := Nat.le_trans (Nat.mul_le_mul hb (show i ≤ 20 by omega)) (by decide)
      have g0 := gcd_pos_int (a := shF (fs.take i)) y0
      have dle : shF (fs.take i) / ((Nat.gcd (shF (fs.take i)).natAbs y.2.natAbs : Nat) : Int) ≤ shF (fs.take i) := Int.ediv_le_self _ (by have : 0 < shF (fs.take i) := pp; omega)
      have d2 : 0 ≤ shF (fs.take i) / ((Nat.gcd (shF (fs.take i)).natAbs y.2.natAbs : Nat) : Int) := Int.ediv_nonneg (by have : 0 < shF (fs.take i) := pp; omega) (by omega)
      have db : Bd (1 + b * i) (shF (fs.take i) / ((Nat.gcd (shF (fs.take i)).natAbs y.2.natAbs : Nat) : Int)) := by
        have : Bd (1 + b * i) (shF (fs.take i)) := pb
        unfold Bd at *
        omega
      refine ⟨_, rfl, _, rfl, _, rfl, p, _, 1, _, rfl, rfl, st, rfl, _, _, rfl, _, _, rfl, rfl, ⟨g0, Bd.big (show Bd (1 + b * i) (shF (fs.take i)) from pb) (by omega)⟩, _, rfl, p, _, 1, _, rfl, rfl, st, rfl, _, _, rfl, rfl, Bd.mul db yb (by omega) (by omega), rfl, some (.ref p), ?_⟩
      rw [List.take_add_one, hy]
      show _ = [some (V.ref l), some (V.int (shF (fs.take i ++ [y]))), some (V.ref p)]
      rw [shF_snoc]
      rfl
    · rintro σ H' ⟨rfl, v, rfl⟩
      rw [rv_len, pl, List.take_length]
      exact ⟨_, rfl, k⟩
end
end Fk

set_option Elab.async false
set_option maxRecDepth 100000
set_option maxHeartbeats 4000000
set_option exponentiation.threshold 20000
namespace Fk
open PySem L2
/-! ### costs_of -/
theorem ix_listK {X : Cx} {K : PySem.W.Frag} (hK : X.K = K) : IxR X (rIxL K) := hK ▸ ix_list
theorem ix_tupK {X : Cx} {K : PySem.W.Frag} (hK : X.K = K) : IxR X (rIxT K) := hK ▸ ix_tup
/-- a ratio in lowest terms, not large -/
structure Lw (x : Int × Int) : Prop where
  p : 0 < x.2
  g : Nat.gcd x.1.natAbs x.2.natAbs = 1
  b1 : Bd 100 x.1
  b2 : Bd 100 x.2
theorem Lw.low {H : Hp} {q : Addr} {x : Int × Int} (h : Lw x) (hq : RatAt H q x) : Low H (.ref q) x.1 x.2 :=
  .inr ⟨q, x.1, x.2, rfl, hq, h.p, h.b1.big (by decide), h.b2.big (by decide), by rw [h.g]; exact (Int.ediv_one _).symm, by rw [h.g]; exact (Int.ediv_one _).symm⟩
theorem PairsAt.add {H : Hp} {D t : Addr} {ps : List Addr} {fs : List (Int × Int)} {x : Int × Int} {xs : List V} (hD : H D = some (.lst xs)) (h : PairsAt H ps fs) (ht : RatAt H t x) (o : HO) : PairsAt (upd H D o) (ps ++ [t]) (fs ++ [x]) := by
  have hl := h.1
  have up : ∀ {p : Addr} {y : Int × Int}, RatAt H p y → RatAt (upd H D o) p y := fun {p y} e => by
    unfold RatAt at *
    rw [upd_ne (ne_of e hD (fun z => nomatch z))]
    exact e
  refine ⟨by rw [List.length_append, List.length_append, hl]; rfl, fun i p r hp hr => ?_⟩
  by_cases hi : i < ps.length
  · rw [List.getElem?_append_left hi] at hp
    rw [List.getElem?_append_left (by omega)] at hr
    exact up (h.2 i p r hp hr)
  · have e : i = ps.length := by
      have := (List.getElem?_eq_some_iff.mp hp).1
      rw [List.length_append, List.length_singleton] at this
      omega
    subst e
    rw [List.getElem?_append_right (Nat.le_refl _), Nat.sub_self] at hp
    rw [List.getElem?_append_right (by omega), hl, Nat.sub_self] at hr
    cases hp
    cases hr
    exact up ht
def gp (xs : List (Int × Int)) (i : Nat) : Int × Int := xs.getD i (0, 1)
theorem gp_at {xs : List (Int × Int)} {i : Nat} (h : i < xs.length) : xs[i]? = some (gp xs i) := by
  unfold gp
  rw [List.getD_eq_getElem?_getD, List.getElem?_eq_getElem h]
  rfl
theorem gp_mem {xs : List (Int × Int)} {i : Nat} (h : i < xs.length) : gp xs i ∈ xs := List.mem_of_getElem? (gp_at h)
theorem PairsAt.at_ {H : Hp} {ps : List Addr} {fs : List (Int × Int)} (h : PairsAt H ps fs) {i : Nat} (hi : i < fs.length) : ∃ p, atI (rv ps) (i : Int) = some (.ref p) ∧ RatAt H p (gp fs i) := by
  have hl : i < ps.length := by rw [h.1]; exact hi
  exact ⟨ps[i], atI_nat (by unfold rv; rw [List.getElem?_map, List.getElem?_eq_getElem hl]; rfl), h.2 i _ _ (List.getElem?_eq_getElem hl) (gp_at hi)⟩
def scaledAt (sc : List Int) (ws : List (Int × Int)) (j : Nat) : Int × Int := ((gp ws j).1 * gi sc j, (gp ws j).2)
def scaledF (n : Nat) (sc : List Int) (ws : List (Int × Int)) : List (Int × Int) := (List.range n).map (scaledAt sc ws)
def wholeF (S : Int) (fs : List (Int × Int)) : List Int := fs.map fun x => x.1 * (S / x.2)
def costsF (t : Tb) (ws : List (Int × Int)) : List Int := wholeF (shF (scaledF t.many t.scales ws)) (scaledF t.many t.scales ws) ++ List.replicate t.lines.length 0
abbrev sCosts : Stmt := inClass (top 14) 1
def spCosts (C : Addr) : Sp := fun vs H Q _ => ∃ (o l : Addr) (a : Ad) (t : Tb) (B : Nat) (ps : List Addr) (ws : List (Int × Int)), vs = [.ref o, .ref l] ∧ TbAt C H o a t ∧ Wf B t ∧ (∀ x ∈ t.scales, Bd 500 x) ∧ H l = some (.lst (rv ps)) ∧ PairsAt H ps ws ∧ ws.length = t.many ∧ (∀ x ∈ ws, Lw x) ∧
  ∀ p c H', Same H H' → H' p = some (.tup [.ref c, .int (shF (scaledF t.many t.scales ws))]) → H' c = some (.lst (iv (costsF t ws))) → H c = none → Q (.ref p) H'
theorem scaled_mem {n : Nat} {sc : List Int} {ws : List (Int × Int)} {x : Int × Int} (h : x ∈ scaledF n sc ws) : ∃ j, j < n ∧ x = scaledAt sc ws j := by
  obtain ⟨j, hj, e⟩ := List.mem_map.mp h
  exact ⟨j, List.mem_range.mp hj, e.symm⟩
theorem rep_ints (n : Nat) : (List.replicate n [V.int 0]).flatten = iv (List.replicate n 0) := by
  unfold iv
  rw [List.map_replicate]
  induction n with
  | zero => rfl
  | succ n ih =>
    rw [List.replicate_succ, List.flatten_cons, ih, List.replicate_succ]
    rfl
section
variable {P : Program} {w : World} {K : PySem.W.Frag} {mg : Str → Option Value} {base : Heap}
abbrev nsCosts : List Str := ["self", "worth", "scaled", "scale", "j", "top", "bottom"]
theorem scCosts : FnScope nsCosts ["self", "worth"] (defScope sCosts) := ⟨rfl, rfl, rfl, by decide +kernel, rfl, by decide +kernel, by decide +kernel⟩
theorem ok_costs {f fA fS C : Addr} {fd dA dS : FuncData} (F : Fun K "costs_of" "Tableau.costs_of" sCosts f fd) (T : TCls K C) (ml : mg "len" = none) (mr : mg "range" = none) (As : Cl P w K mg base "as_ratio" ["value"] 2 spAs fA dA) (Sh : Cl P w K mg base "shared_bottom" ["ratios"] 1 spShared fS dS) : FnOk P w K mg base CX0 3 f fd ["self", "worth"] (spCosts C) := by
  refine F.ok scCosts (fun vs H Q E h => ?_) (fun cdv A outer s H vs Q E hr h => ?_)
  · obtain ⟨o, l, a, t, B, ps, ws, rfl, _⟩ := h
    rfl
  · obtain ⟨o, l, a, t, B, ps, ws, rfl, h, W, hs5, hl, hps, hwl, hw, k⟩ := h
    have hr1 := hr.mono (show 1 ≤ 2 by decide)
    refine ⟨_, pss_cons (ps_setLc (i := 2) (own := [("j", 4)]) (g := gName 4) (tt := tYes) rfl scCosts.nd rfl rfl (sw_true rfl rfl rfl rfl) (pi_range1 (by rfl) mr (pa_cons (pe_fld (pv 0) rfl) pa_nil)) (blkOk_by (N := nsCosts) (sc := defScope sCosts) (by decide +kernel)) (fun _ _ _ _ _ => pg_name (i := 4) scCosts.nd rfl (Or.inl rfl)) (fun _ _ _ _ _ => pts_nil)
        (fun _ _ _ _ _ => pe_tup (pa_cons (pe_op op_mulW (pe_ix (ix_tupK (K := K) rfl) (pe_call As.G hr (by rfl) As.g As.kp As.b .nil pass0 (pa_cons (pe_ix (ix_listK (K := K) rfl) (pv 1) (pv 4) (fun _ _ => rfl)) pa_nil)) pe_int (fun _ _ => rfl)) (pe_ix (ix_listK (K := K) rfl) (pe_fldK (K := K) rfl (pv 0) rfl) (pv 4) (fun _ _ => rfl)))
          (pa_cons (pe_ix (ix_tupK (K := K) rfl) (pe_call As.G hr (by rfl) As.g As.kp As.b .nil pass0 (pa_cons (pe_ix (ix_listK (K := K) rfl) (pv 1) (pv 4) (fun _ _ => rfl)) pa_nil)) pe_int (fun _ _ => rfl)) pa_nil))))
      (pss_cons (ps_set (i := 3) scCosts.nd rfl (Or.inr rfl) (pe_call Sh.G hr1 (by rfl) Sh.g Sh.kp Sh.b .nil pass0 (pa_cons (pv 2) pa_nil)))
      (pss_one (ps_ret (pe_tup (pa_cons (pe_op op_cat
        (pe_lc (own := [("top", 5), ("bottom", 6)]) (g := gTup K 2 (gCons (gName 5) (gCons (gName 6) gNil))) (tt := tYes) rfl scCosts.nd (pi_list (pv 2)) (blkOk_by (N := nsCosts) (sc := defScope sCosts) (by decide +kernel))
          (fun _ _ _ _ _ => pg_tupK (K := K) (n := 2) rfl rfl (pgs_cons (pg_name (i := 5) scCosts.nd rfl (Or.inl rfl)) (pgs_cons (pg_name (i := 6) scCosts.nd rfl (Or.inl rfl)) pgs_nil))) (fun _ _ _ _ _ => pts_nil)
          (fun _ _ _ _ _ => pe_op op_mulW (pv 5) (pe_op op_fdivB (pv 3) (pv 6))))
        (pe_op op_rep (pe_lst (pa_cons pe_int pa_nil)) (pe_callB call_len_seq (by rfl) ml PySem.boot_len (pa_cons (pe_fld (pv 0) rfl) pa_nil)))) (pa_cons (pv 3) pa_nil)))))), ?_⟩
    have nM := T.no "many" (by decide +kernel)
    have nB := T.no "base" (by decide +kernel)
    have nS := T.no "scales" (by decide +kernel)
    have n1 := W.n1
    have m1 := W.m1
    have lsc := W.sl
    refine ⟨_, rfl, o, C, a.dx, _, _, rfl, h.o, T.cl, nM, tb_many a t, _, rfl, by omega, by omega, fun D hD => lc_range (lo := 0) (n := t.many) (fun i H' => Same H H' ∧ ∃ qs, H' D = some (.lst (rv qs)) ∧ PairsAt H' qs ((List.range i).map (scaledAt t.scales ws))) ⟨same_new hD, [], upd_same, rfl, fun i p x hp _ => nomatch hp⟩ ?_ ?_⟩
    · rintro i H1 hi ⟨s1, qs, hq, hQ⟩
      have e0 : (0 : Int) + (i : Int) = (i : Int) := Int.zero_add _
      have hi2 : i < ws.length := by omega
      have ql : qs.length = i := by rw [hQ.1, List.length_map, List.length_range]
      obtain ⟨p, hp, hpr⟩ := (hps.same s1).at_ hi2
      have lw := hw _ (gp_mem hi2)
      refine ⟨rfl, ?_⟩
      unfold tYes
      dsimp only
      rw [if_pos rfl]
      refine ⟨_, rfl, _, rfl, l, rv ps, _, .ref p, rfl, rfl, SqL.of (s1 _ _ hl), by rw [e0]; exact hp, .ref p, _, _, rfl, lw.low hpr, fun r1 hr1 => ?_⟩
      have s2 := s1.trans (same_new (o := .tup [.int (gp ws i).1, .int (gp ws i).2]) hr1)
      have hQ2 := hQ.same (same_new (o := .tup [.int (gp ws i).1, .int (gp ws i).2]) hr1)
      have hq2 := (same_new (o := .tup [.int (gp ws i).1, .int (gp ws i).2]) hr1) _ _ hq
      have hp2 : RatAt (upd H1 r1 (.tup [.int (gp ws i).1, .int (gp ws i).2])) p (gp ws i) := (same_new hr1) _ _ hpr
      have er : (upd H1 r1 (.tup [.int (gp ws i).1, .int (gp ws i).2])) r1 = some (.tup [.int (gp ws i).1, .int (gp ws i).2]) := upd_same
      generalize upd H1 r1 (.tup [.int (gp ws i).1, .int (gp ws i).2]) = H2 at s2 hQ2 hq2 hp2 er ⊢
      refine ⟨r1, _, 0, _, rfl, rfl, .inl (.inl er), rfl, ?_⟩
      have hsb := (W.sb _ (gi_mem (show i < t.scales.length by omega)))
      refine ⟨_, rfl, o, C, a.dx, _, _, rfl, (h.same s2).o, T.cl, nS, tb_scales a t, _, rfl, a.sc, iv t.scales, _, .int (gi t.scales i), rfl, rfl, SqL.of (h.same s2).sc, by rw [e0]; exact iv_atI (by omega), ?_⟩
      refine ⟨_, _, rfl, rfl, Bd.mul lw.b1 (hs5 _ (gi_mem (show i < t.scales.length by omega))) (by decide) (by decide), ?_⟩
      refine ⟨_, rfl, _, rfl, l, rv ps, _, .ref p, rfl, rfl, SqL.of (s2 _ _ hl), by rw [e0]; exact hp, .ref p, _, _, rfl, lw.low hp2, fun r2 hr2 => ?_⟩
      have s3 := s2.trans (same_new (o := .tup [.int (gp ws i).1, .int (gp ws i).2]) hr2)
      refine ⟨r2, _, 1, _, rfl, rfl, .inl (.inl upd_same), rfl, by show 2 ≤ sizeLine; decide, fun r3 hr3 => ?_⟩
      have s34 := (same_new (o := .tup [.int (gp ws i).1, .int (gp ws i).2]) hr2).trans (same_new (o := .tup [.int ((gp ws i).1 * gi t.scales i), .int (gp ws i).2]) hr3)
      have s4 := s2.trans s34
      refine ⟨rv qs, s34 _ _ hq2, by rw [rv_len, ql]; exact small1000 (by omega), fun b ob hb => ?_, qs ++ [r3], ?_, ?_⟩
      · rw [upd_ne (ne_of_none hb hD)]
        exact s4 _ _ hb
      · rw [upd_same]
        unfold rv
        rw [List.map_append]
        rfl
      · rw [List.range_succ, List.map_append]
        exact (hQ2.same s34).add (s34 _ _ hq2) (x := scaledAt t.scales ws i) upd_same _
    · rintro H1 ⟨s1, qs, hq, hQ⟩
      have hQ' : PairsAt H1 qs (scaledF t.many t.scales ws) := hQ
      have ln : (scaledF t.many t.scales ws).length = t.many := by
        unfold scaledF
        rw [List.length_map, List.length_range]
      have hmem : ∀ x ∈ scaledF t.many t.scales ws, 0 < x.2 ∧ Bd 100 x.2 ∧ Bd 600 x.1 := fun x hx => by
        obtain ⟨j, hj, rfl⟩ := scaled_mem hx
        have lw := hw _ (gp_mem (show j < ws.length by omega))
        exact ⟨lw.p, lw.b2, (lw.b1.mulB (hs5 _ (gi_mem (show j < t.scales.length by omega)))).mono (by decide)⟩
      refine ⟨_, rfl, D, qs, _, 100, rfl, hq, hQ', fun x hx => ⟨(hmem x hx).1, (hmem x hx).2.1⟩, by omega, by decide, ?_⟩
      have S0 := (shF_facts (scaledF t.many t.scales ws) 1 (by decide) fun x hx => (hmem x hx).1).1
      have SB : Bd (1 + 100 * 8) (shF (scaledF t.many t.scales ws)) := (shF_bd (b := 100) (scaledF t.many t.scales ws) 1 1 (by decide) one_bd fun x hx => ⟨(hmem x hx).1, (hmem x hx).2.1⟩).mono (by rw [ln]; omega)
      have S0' : 0 < shF (scaledF t.many t.scales ws) := S0
      clear S0
      rw [show costsF t ws = wholeF (shF (scaledF t.many t.scales ws)) (scaledF t.many t.scales ws) ++ List.replicate t.lines.length 0 from rfl] at k
      generalize hG : shF (scaledF t.many t.scales ws) = S at *
      generalize hF : scaledF t.many t.scales ws = fs at *
      refine ⟨_, rfl, D, rfl, ⟨_, SqL.of hq⟩, fun D2 hD2 => lc_list (K := K) (a := D) (xs := rv qs) (fun i H2 => Same H1 H2 ∧ H2 D2 = some (.lst (iv (wholeF S (fs.take i))))) ⟨same_new hD2, upd_same⟩ (fun i H2 _ ⟨s2, _⟩ => SqL.of (s2 _ _ hq)) ?_ ?_⟩
      · rintro i x H2 hx ⟨s2, h2⟩
        obtain ⟨p, y, rfl, hp, hy, hpr⟩ := hQ'.get hx
        obtain ⟨y0, yb, yt⟩ := hmem y (List.mem_of_getElem? hy)
        have hi : i < fs.length := (List.getElem?_eq_some_iff.mp hy).1
        refine ⟨p, _, rfl, .inl (.inl (s2 _ _ hpr)), rfl, _, _, rfl, _, _, rfl, rfl, rfl, ?_⟩
        unfold tYes
        dsimp only
        rw [if_pos rfl]
        have qb : Bd (1 + 100 * 8) (S / y.2) := by
          have d1 : S / y.2 ≤ S := Int.ediv_le_self _ (by omega)
          have d2 : 0 ≤ S / y.2 := Int.ediv_nonneg (by omega) (by omega)
          unfold Bd at *
          omega
        refine ⟨_, rfl, _, rfl, _, rfl, _, _, rfl, rfl, ⟨y0, SB.big (by decide)⟩, _, _, rfl, rfl, Bd.mul yt qb (by decide) (by decide), _, h2, ?_, fun b ob hb => ?_, ?_⟩
        · rw [iv_len]
          unfold wholeF
          rw [List.length_map]
          exact small1000 (Nat.le_trans (List.length_take_le _ _) (by omega))
        · rw [upd_ne (ne_of_none hb hD2)]
          exact s2 _ _ hb
        · rw [upd_same, List.take_add_one, hy]
          unfold wholeF iv
          rw [List.map_append, List.map_append]
          rfl
      · rintro H2 ⟨s2, h2⟩
        rw [rv_len, hQ'.1, List.take_length] at h2
        have s12 := s1.trans s2
        refine ⟨by show 1 ≤ sizeLine; decide, fun z1 hz1 => ?_⟩
        have s3 := same_new (o := .lst [.int 0]) hz1
        have e3 : (upd H2 z1 (.lst [.int 0])) z1 = some (.lst [.int 0]) := upd_same
        generalize upd H2 z1 (.lst [.int 0]) = H3 at s3 e3 ⊢
        have h3 := h.same (s12.trans s3)
        refine ⟨_, rfl, o, C, a.dx, _, _, rfl, h3.o, T.cl, nB, tb_base a t, a.b, _, rfl, .inl (SqL.of h3.b), ?_⟩
        rw [nv_len, W.bl]
        refine ⟨z1, _, _, rfl, rfl, e3, by omega, by omega, ?_, fun z2 hz2 => ?_⟩
        · rw [List.length_singleton, Int.toNat_natCast, Nat.one_mul]
          exact Nat.le_trans (Nat.le_trans m1 (by decide)) (show 1000 ≤ sizeLine by decide)
        rw [Int.toNat_natCast, rep_ints]
        have s4 := s3.trans (same_new (o := .lst (iv (List.replicate t.lines.length 0))) hz2)
        refine ⟨D2, z2, _, _, rfl, rfl, s4 _ _ h2, upd_same, ?_, fun z3 hz3 => ?_⟩
        · rw [iv_len, iv_len, List.length_replicate]
          unfold wholeF
          rw [List.length_map]
          exact Nat.le_trans (show _ ≤ 1000 by omega) (show 1000 ≤ sizeLine by decide)
        have ea : iv (wholeF S fs) ++ iv (List.replicate t.lines.length 0) = iv (wholeF S fs ++ List.replicate t.lines.length 0) := by
          unfold iv
          rw [List.map_append]
        rw [ea]
        refine ⟨_, rfl, by show 2 ≤ sizeLine; decide, fun z4 hz4 => ?_⟩
        have s5 := s12.trans s4
        exact k z4 z3 _ (s5.trans ((same_new hz3).trans (same_new hz4))) upd_same ((same_new hz4) _ _ upd_same) (s5.free hz3)
end
end Fk

set_option Elab.async false
set_option maxRecDepth 100000
set_option maxHeartbeats 4000000
set_option exponentiation.threshold 20000
namespace Fk
open PySem L2
/-! ### the tableau is made -/
theorem call_list_ofK {X : Cx} {K : PySem.W.Frag} (hK : X.K = K) : CallR X (.type "list") (fun xs H Q => ∃ p ys, xs = [.ref p] ∧ (SqL K H p ys ∨ SqT K H p ys) ∧ ∀ l, H l = none → Q (.ref l) (upd H l (.lst ys))) := by
  subst hK
  exact call_list_of
theorem pi_listK {X : Cx} {K : PySem.W.Frag} {tg l : Expr} {tl : TE} (hK : X.K = K) (hl : PE X l tl) : PI X tg l (iList K tl) := by
  subst hK
  exact pi_list hl
theorem yesT {σ : L2.St} {H : Hp} {A B : Hp → Prop} (h : A H) : tYes σ H (fun b H3 => if b = true then A H3 else B H3) := by
  show if true = true then A H else B H
  rw [if_pos rfl]
  exact h
abbrev sInit : Stmt := inClass (top 14) 0
def RowsAt2 (H : Hp) (rs : List Addr) (mat : List (List (Int × Int))) : Prop := rs.length = mat.length ∧ ∀ (i : Nat) (p : Addr) (fs : List (Int × Int)), rs[i]? = some p → mat[i]? = some fs → ∃ ps, H p = some (.lst (rv ps)) ∧ PairsAt H ps fs
theorem RowsAt2.same {H H' : Hp} {rs : List Addr} {mat : List (List (Int × Int))} (h : RowsAt2 H rs mat) (s : Same H H') : RowsAt2 H' rs mat := ⟨h.1, fun i p fs a b => by
  obtain ⟨ps, h1, h2⟩ := h.2 i p fs a b
  exact ⟨ps, s _ _ h1, h2.same s⟩⟩
def gm (xs : List (List (Int × Int))) (i : Nat) : List (Int × Int) := xs.getD i []
theorem gm_at {xs : List (List (Int × Int))} {i : Nat} (h : i < xs.length) : xs[i]? = some (gm xs i) := by
  unfold gm
  rw [List.getD_eq_getElem?_getD, List.getElem?_eq_getElem h]
  rfl
theorem gm_mem {xs : List (List (Int × Int))} {i : Nat} (h : i < xs.length) : gm xs i ∈ xs := List.mem_of_getElem? (gm_at h)
theorem RowsAt2.at_ {H : Hp} {rs : List Addr} {mat : List (List (Int × Int))} (h : RowsAt2 H rs mat) {i : Nat} (hi : i < mat.length) : ∃ p ps, atI (rv rs) (i : Int) = some (.ref p) ∧ H p = some (.lst (rv ps)) ∧ PairsAt H ps (gm mat i) := by
  have hl : i < rs.length := by rw [h.1]; exact hi
  obtain ⟨ps, h1, h2⟩ := h.2 i _ _ (List.getElem?_eq_getElem hl) (gm_at hi)
  exact ⟨rs[i], ps, atI_nat (by unfold rv; rw [List.getElem?_map, List.getElem?_eq_getElem hl]; rfl), h1, h2⟩
/-- what is a list or a tuple of pairs stays where only one instance changes -/
theorem PairsAt.keep {o : Addr} {H H' : Hp} {u : HO} {ps : List Addr} {fs : List (Int × Int)} (h : PairsAt H ps fs) (k : Keep o H H') (ho : H o = some u) (hu : ∀ xs, HO.tup xs ≠ u) : PairsAt H' ps fs := ⟨h.1, fun i p x a b => k.there ho (h.2 i p x a b) (hu _)⟩
theorem RowsAt2.keep {o : Addr} {H H' : Hp} {u : HO} {rs : List Addr} {mat : List (List (Int × Int))} (h : RowsAt2 H rs mat) (k : Keep o H H') (ho : H o = some u) (hu : ∀ xs, HO.tup xs ≠ u) (hv : ∀ xs, HO.lst xs ≠ u) : RowsAt2 H' rs mat := ⟨h.1, fun i p fs a b => by
  obtain ⟨ps, h1, h2⟩ := h.2 i p fs a b
  exact ⟨ps, k.there ho h1 (hv _), h2.keep k ho hu⟩⟩
theorem RowsAt2.add {H : Hp} {D t : Addr} {rs : List Addr} {mat : List (List (Int × Int))} {fs : List (Int × Int)} {ps : List Addr} {xs : List V} (hD : H D = some (.lst xs)) (h : RowsAt2 H rs mat) (hn : D ∉ rs) (ht : H t = some (.lst (rv ps))) (hp : PairsAt H ps fs) (nt : t ≠ D) (o : HO) : RowsAt2 (upd H D o) (rs ++ [t]) (mat ++ [fs]) := by
  have hl := h.1
  have up : ∀ {ps : List Addr} {fs : List (Int × Int)}, PairsAt H ps fs → PairsAt (upd H D o) ps fs := fun {ps fs} z => ⟨z.1, fun i p x a b => by
    have e := z.2 i p x a b
    unfold RatAt at *
    rw [upd_ne (ne_of e hD (fun z => nomatch z))]
    exact e⟩
  refine ⟨by rw [List.length_append, List.length_append, hl]; rfl, fun i p r hp1 hr => ?_⟩
  by_cases hi : i < rs.length
  · rw [List.getElem?_append_left hi] at hp1
    rw [List.getElem?_append_left (by omega)] at hr
    obtain ⟨ps, h1, h2⟩ := h.2 i p r hp1 hr
    exact ⟨ps, by rw [upd_ne (fun e => hn (by rw [← e]; exact List.mem_of_getElem? hp1))]; exact h1, up h2⟩
  · have e : i = rs.length := by
      have := (List.getElem?_eq_some_iff.mp hp1).1
      rw [List.length_append, List.length_singleton] at this
      omega
    subst e
    rw [List.getElem?_append_right (Nat.le_refl _), Nat.sub_self] at hp1
    rw [List.getElem?_append_right (by omega), hl, Nat.sub_self] at hr
    cases hp1
    cases hr
    exact ⟨ps, by rw [upd_ne nt]; exact ht, up hp⟩
def entAt (mat : List (List (Int × Int))) (rgt : List (Int × Int)) (k : Nat) : List (Int × Int) := gm mat k ++ [gp rgt k]
def entF (mat : List (List (Int × Int))) (rgt : List (Int × Int)) : List (List (Int × Int)) := (List.range mat.length).map (entAt mat rgt)
def colF (E : List (List (Int × Int))) (j : Nat) : List (Int × Int) := E.map fun row => gp row j
def scF (E : List (List (Int × Int))) (n : Nat) : List Int := (List.range (n + 1)).map fun j => shF (colF E j)
def sgAt (n : Nat) (row : List (Int × Int)) : Int := if (gp row n).1 < 0 then -1 else 1
def sgF (E : List (List (Int × Int))) (n : Nat) : List Int := E.map (sgAt n)
def prAt (E : List (List (Int × Int))) (scs sgs : List Int) (k j : Nat) : (Int × Int) × Int := (gp (gm E k) j, gi scs j * gi sgs k)
def whAt (x : (Int × Int) × Int) : Int := x.1.1 * (x.2 / x.1.2)
def wholeL (E : List (List (Int × Int))) (scs sgs : List Int) (n k : Nat) : List Int := (List.range (n + 1)).map fun j => whAt (prAt E scs sgs k j)
def lineF (E : List (List (Int × Int))) (scs sgs : List Int) (n m k : Nat) : List Int := (wholeL E scs sgs n k).take n ++ (List.replicate m 0).set k 1 ++ (wholeL E scs sgs n k).drop n
def initF (mat : List (List (Int × Int))) (rgt : List (Int × Int)) (n : Nat) : Tb :=
  { many := n, D := 1, base := (List.range mat.length).map (n + ·), scales := scF (entF mat rgt) n, signs := sgF (entF mat rgt) n,
    lines := (List.range mat.length).map (lineF (entF mat rgt) (scF (entF mat rgt) n) (sgF (entF mat rgt) n) n mat.length) }
def TrAt (H : Hp) (us : List Addr) (xs : List ((Int × Int) × Int)) : Prop := us.length = xs.length ∧ ∀ (j : Nat) (u : Addr) (x : (Int × Int) × Int), us[j]? = some u → xs[j]? = some x → ∃ p, H u = some (.tup [.ref p, .int x.2]) ∧ RatAt H p x.1
theorem TrAt.same {H H' : Hp} {us : List Addr} {xs : List ((Int × Int) × Int)} (h : TrAt H us xs) (s : Same H H') : TrAt H' us xs := ⟨h.1, fun j u x a b => by
  obtain ⟨p, h1, h2⟩ := h.2 j u x a b
  exact ⟨p, s _ _ h1, s _ _ h2⟩⟩
theorem TrAt.add {H : Hp} {D t p : Addr} {us : List Addr} {xs : List ((Int × Int) × Int)} {x : (Int × Int) × Int} {vs : List V} (hD : H D = some (.lst vs)) (h : TrAt H us xs) (ht : H t = some (.tup [.ref p, .int x.2])) (hp : RatAt H p x.1) (o : HO) : TrAt (upd H D o) (us ++ [t]) (xs ++ [x]) := by
  have hl := h.1
  have up : ∀ {p : Addr} {ys : List V}, H p = some (.tup ys) → (upd H D o) p = some (.tup ys) := fun {p ys} e => by
    rw [upd_ne (ne_of e hD (fun z => nomatch z))]
    exact e
  refine ⟨by rw [List.length_append, List.length_append, hl]; rfl, fun i u y hu hy => ?_⟩
  by_cases hi : i < us.length
  · rw [List.getElem?_append_left hi] at hu
    rw [List.getElem?_append_left (by omega)] at hy
    obtain ⟨p, h1, h2⟩ := h.2 i u y hu hy
    exact ⟨p, up h1, up h2⟩
  · have e : i = us.length := by
      have := (List.getElem?_eq_some_iff.mp hu).1
      rw [List.length_append, List.length_singleton] at this
      omega
    subst e
    rw [List.getElem?_append_right (Nat.le_refl _), Nat.sub_self] at hu
    rw [List.getElem?_append_right (by omega), hl, Nat.sub_self] at hy
    cases hu
    cases hy
    exact ⟨p, up ht, up hp⟩
theorem cutV_from (xs : List V) {n : Nat} (h : n ≤ xs.length) : cutV xs (some (n : Int)) none = xs.drop n := by
  unfold cutV
  rw [HT.sIx_none, six_le 0 h, List.take_of_length_le (by rw [List.length_drop]; exact Nat.le_refl _)]
theorem cutV_to (xs : List V) {n : Nat} (h : n ≤ xs.length) : cutV xs none (some (n : Int)) = xs.take n := by
  unfold cutV
  rw [HT.sIx_none, six_le xs.length h, List.drop_zero, Nat.sub_zero]
theorem iv_set (xs : List Int) (i : Nat) (x : Int) : (iv xs).set i (.int x) = iv (xs.set i x) := by
  unfold iv
  rw [List.map_set]
theorem sg_bd (n : Nat) (r : List (Int × Int)) : Bd 1 (sgAt n r) := by
  unfold sgAt Bd
  split <;> decide
theorem wholeL_eq (E : List (List (Int × Int))) (scs sgs : List Int) (n k : Nat) : wholeL E scs sgs n k = ((List.range (n + 1)).map (prAt E scs sgs k)).map whAt := by
  unfold wholeL
  rw [List.map_map]
  rfl
theorem ediv_bd {A : Nat} {a b : Int} (h : Bd A a) : Bd A (a / b) := Nat.lt_of_le_of_lt (Int.natAbs_ediv_le_natAbs a b) h
def spInit (C : Addr) : Sp := fun vs H Q _ => ∃ (o dx rl rt : Addr) (n : Nat) (rs qs : List Addr) (mat : List (List (Int × Int))) (rgt : List (Int × Int)), vs = [.ref o, .ref rl, .ref rt, .int n] ∧ H o = some (.ins C dx []) ∧ H rl = some (.lst (rv rs)) ∧ RowsAt2 H rs mat ∧ H rt = some (.lst (rv qs)) ∧ PairsAt H qs rgt ∧
  rgt.length = mat.length ∧ mat.length ≤ 4 ∧ n ≤ 8 ∧ (∀ r ∈ mat, r.length = n ∧ ∀ x ∈ r, Lw x) ∧ (∀ x ∈ rgt, Lw x) ∧ ∀ H' a, Keep o H H' → a.dx = dx → H a.b = none → TbAt C H' o a (initF mat rgt n) → Q .non H'
section
variable {P : Program} {w : World} {K : PySem.W.Frag} {mg : Str → Option Value} {base : Heap}
abbrev nsInit : List Str := ["self", "rows", "right", "many", "k", "entries", "pairs", "whole", "helpers", "value", "row", "j", "top", "bottom", "scale"]
theorem scInit : FnScope nsInit ["self", "rows", "right", "many"] (defScope sInit) := ⟨rfl, rfl, rfl, by decide +kernel, rfl, by decide +kernel, by decide +kernel⟩
theorem ok_init {f fA fS C : Addr} {fd dA dS : FuncData} (F : Fun K "__init__" "Tableau.__init__" sInit f fd) (T : TCls K C) (ml : mg "len" = none) (mr : mg "range" = none) (mli : mg "list" = none) (As : Cl P w K mg base "as_ratio" ["value"] 2 spAs fA dA) (Sh : Cl P w K mg base "shared_bottom" ["ratios"] 1 spShared fS dS) : FnOk P w K mg base CX0 3 f fd ["self", "rows", "right", "many"] (spInit C) := by
  refine F.ok scInit (fun vs H Q E h => ?_) (fun cdv A outer s H vs Q E hr h => ?_)
  · obtain ⟨o, dx, rl, rt, n, rs, qs, mat, rgt, rfl, _⟩ := h
    rfl
  · obtain ⟨o, dx, rl, rt, n, rs, qs, mat, rgt, rfl, ho, hrl, hrs, hrt, hqs, lr, m4, n8, hmat, hrgt, k⟩ := h
    have hr1 := hr.mono (show 1 ≤ 2 by decide)
    refine ⟨_, pss_cons (ps_fld (pv 0) (pv 3) rfl)
      (pss_cons (ps_fld (pv 0) pe_int rfl)
      (pss_cons (ps_fld (pv 0) (pe_lc (own := [("k", 4)]) (g := gName 4) (tt := tYes) rfl scInit.nd (pi_range1 (by rfl) mr (pa_cons (pe_callB call_len_seq (by rfl) ml PySem.boot_len (pa_cons (pv 1) pa_nil)) pa_nil)) (blkOk_by (N := nsInit) (sc := defScope sInit) (by decide +kernel)) (fun _ _ _ _ _ => pg_name (i := 4) scInit.nd rfl (Or.inl rfl)) (fun _ _ _ _ _ => pts_nil)
          (fun _ _ _ _ _ => pe_op op_add (pv 3) (pv 4))) rfl)
      (pss_cons (ps_set (i := 5) scInit.nd rfl (Or.inr rfl) (pe_lc (own := [("k", 4)]) (g := gName 4) (tt := tYes) rfl scInit.nd (pi_range1 (by rfl) mr (pa_cons (pe_callB call_len_seq (by rfl) ml PySem.boot_len (pa_cons (pv 1) pa_nil)) pa_nil)) (blkOk_by (N := nsInit) (sc := defScope sInit) (by decide +kernel)) (fun _ _ _ _ _ => pg_name (i := 4) scInit.nd rfl (Or.inl rfl)) (fun _ _ _ _ _ => pts_nil)
          (fun _ _ _ _ _ => pe_lc (own := [("value", 9)]) (g := gName 9) (tt := tYes) rfl scInit.nd (pi_listK (K := K) rfl (pe_op op_cat (pe_callTy (call_list_ofK (K := K) rfl) (by rfl) mli (by decide +kernel) (pa_cons (pe_ix (ix_listK (K := K) rfl) (pv 1) (pv 4) (fun _ _ => rfl)) pa_nil)) (pe_lst (pa_cons (pe_ix (ix_listK (K := K) rfl) (pv 2) (pv 4) (fun _ _ => rfl)) pa_nil)))) (blkOk_by (N := nsInit) (by kernel_rfl))
            (fun _ _ _ _ _ => pg_name (i := 9) scInit.nd rfl (Or.inl rfl)) (fun _ _ _ _ _ => pts_nil) (fun _ _ _ _ _ => pe_call As.G hr (by rfl) As.g As.kp As.b .nil pass0 (pa_cons (pv 9) pa_nil)))))
      (pss_cons (ps_fld (pv 0) (pe_lc (own := [("j", 11)]) (g := gName 11) (tt := tYes) rfl scInit.nd (pi_range1 (by rfl) mr (pa_cons (pe_op op_add (pv 3) pe_int) pa_nil)) (blkOk_by (N := nsInit) (sc := defScope sInit) (by decide +kernel)) (fun _ _ _ _ _ => pg_name (i := 11) scInit.nd rfl (Or.inr rfl)) (fun _ _ _ _ _ => pts_nil)
          (fun _ _ _ _ _ => pe_call Sh.G hr1 (by rfl) Sh.g Sh.kp Sh.b .nil pass0 (pa_cons (pe_lc (own := [("row", 10)]) (g := gName 10) (tt := tYes) rfl scInit.nd (pi_listK (K := K) rfl (pv 5)) (blkOk_by (N := nsInit) (by kernel_rfl)) (fun _ _ _ _ _ => pg_name (i := 10) scInit.nd rfl (Or.inl rfl)) (fun _ _ _ _ _ => pts_nil)
            (fun _ _ _ _ _ => pe_ix (ix_listK (K := K) rfl) (pv 10) (pv 11) (fun _ _ => rfl))) pa_nil))) rfl)
      (pss_cons (ps_fld (pv 0) (pe_lc (own := [("row", 10)]) (g := gName 10) (tt := tYes) rfl scInit.nd (pi_list (pv 5)) (blkOk_by (N := nsInit) (sc := defScope sInit) (by decide +kernel)) (fun _ _ _ _ _ => pg_name (i := 10) scInit.nd rfl (Or.inl rfl)) (fun _ _ _ _ _ => pts_nil)
          (fun _ _ _ _ _ => pe_ifExp (pt_cmpR op_lt (pe_ix (ix_tupK (K := K) rfl) (pe_ix (ix_listK (K := K) rfl) (pv 10) (pv 3) (fun _ _ => rfl)) pe_int (fun _ _ => rfl)) pe_int (nomark _)) (pe_un un_neg pe_int) pe_int)) rfl)
      (pss_cons (ps_fld (pv 0) (pe_lst pa_nil) rfl)
      (pss_one (ps_for PassesOwn.never rfl (pi_range1 (by rfl) mr (pa_cons (pe_callB call_len_seq (by rfl) ml PySem.boot_len (pa_cons (pv 1) pa_nil)) pa_nil)) (pg_name (i := 4) scInit.nd rfl (Or.inr rfl))
        (pss_cons (ps_setLc (i := 6) (own := [("j", 11)]) (g := gName 11) (tt := tYes) rfl scInit.nd rfl rfl (sw_true rfl rfl rfl rfl) (pi_range1 (by rfl) mr (pa_cons (pe_op op_add (pv 3) pe_int) pa_nil)) (blkOk_by (N := nsInit) (sc := defScope sInit) (by decide +kernel)) (fun _ _ _ _ _ => pg_name (i := 11) scInit.nd rfl (Or.inl rfl)) (fun _ _ _ _ _ => pts_nil)
          (fun _ _ _ _ _ => pe_tup (pa_cons (pe_ix (ix_listK (K := K) rfl) (pe_ix (ix_listK (K := K) rfl) (pv 5) (pv 4) (fun _ _ => rfl)) (pv 11) (fun _ _ => rfl)) (pa_cons (pe_op op_mulW (pe_ix (ix_listK (K := K) rfl) (pe_fldK (K := K) rfl (pv 0) rfl) (pv 11) (fun _ _ => rfl)) (pe_ix (ix_listK (K := K) rfl) (pe_fldK (K := K) rfl (pv 0) rfl) (pv 4) (fun _ _ => rfl))) pa_nil))))
        (pss_cons (ps_setLc (i := 7) (own := [("top", 12), ("bottom", 13), ("scale", 14)]) (g := gTup K 2 (gCons (gTup K 2 (gCons (gName 12) (gCons (gName 13) gNil))) (gCons (gName 14) gNil))) (tt := tYes) rfl scInit.nd rfl rfl (sw_true rfl rfl rfl rfl) (pi_list (pv 6)) (blkOk_by (N := nsInit) (sc := defScope sInit) (by decide +kernel))
          (fun _ _ _ _ _ => pg_tupK (K := K) (n := 2) rfl rfl (pgs_cons (pg_tupK (K := K) (n := 2) rfl rfl (pgs_cons (pg_name (i := 12) scInit.nd rfl (Or.inl rfl)) (pgs_cons (pg_name (i := 13) scInit.nd rfl (Or.inl rfl)) pgs_nil))) (pgs_cons (pg_name (i := 14) scInit.nd rfl (Or.inl rfl)) pgs_nil))) (fun _ _ _ _ _ => pts_nil)
          (fun _ _ _ _ _ => pe_op op_mulW (pv 12) (pe_op op_fdivB (pv 14) (pv 13))))
        (pss_cons (ps_set (i := 8) scInit.nd rfl (Or.inl rfl) (pe_op op_rep (pe_lst (pa_cons pe_int pa_nil)) (pe_callB call_len_seq (by rfl) ml PySem.boot_len (pa_cons (pv 1) pa_nil))))
        (pss_cons (ps_asg pe_int (pg_sub (pv 8) (pv 4) set_list))
        (pss_one (ps_expr (pe_bm PySem.F.plainAttrs_list PySem.F.slot_list_append PySem.F.type_list_append mt_append (pe_fld (pv 0) rfl) (pa_cons (pe_op op_cat (pe_op op_cat (pe_slice sl_list (pv 7) po_none (po_some (pv 3))) (pv 8)) (pe_slice sl_list (pv 7) (po_some (pv 3)) po_none)) pa_nil)))))))))))))))), ?_⟩
    have nM := T.no "many" (by decide +kernel)
    have nD := T.no "divisor" (by decide +kernel)
    have nB := T.no "base" (by decide +kernel)
    have nS := T.no "scales" (by decide +kernel)
    have nG := T.no "signs" (by decide +kernel)
    have nL := T.no "lines" (by decide +kernel)
    have noL : ∀ xs fl, HO.lst xs ≠ .ins C dx fl := fun _ _ z => nomatch z
    have noT : ∀ xs fl, HO.tup xs ≠ .ins C dx fl := fun _ _ z => nomatch z
    have lrs := hrs.1
    -- many, divisor
    refine ⟨_, rfl, _, rfl, o, C, dx, [], rfl, ho, T.cl, nM, by show 0 < 1000; decide, ?_⟩
    refine ⟨_, rfl, o, C, dx, _, rfl, upd_same, T.cl, nD, by show 1 < 1000; decide, ?_⟩
    have e2 : putF "divisor" (.int 1) (putF "many" (.int n) []) = (["many", "divisor"] : List Str).zip [V.int n, V.int 1] := putF_new (keys := ["many"]) (vals := [.int n]) (by decide +kernel) rfl
    rw [upd_upd, e2]
    have K2 : Keep o H (upd H o (.ins C dx ((["many", "divisor"] : List Str).zip [V.int n, V.int 1]))) := Keep.upd
    have O2 : (upd H o (.ins C dx ((["many", "divisor"] : List Str).zip [V.int n, V.int 1]))) o = some (.ins C dx ((["many", "divisor"] : List Str).zip [V.int n, V.int 1])) := upd_same
    generalize upd H o (.ins C dx ((["many", "divisor"] : List Str).zip [V.int n, V.int 1])) = H2 at K2 O2 ⊢
    -- base
    have hrl2 := K2.there ho hrl (noL _ _)
    refine ⟨_, rfl, rl, _, rfl, .inl (SqL.of hrl2), ?_⟩
    rw [rv_len, lrs]
    refine ⟨_, rfl, by omega, by omega, fun D hD => lc_range (lo := 0) (n := mat.length) (fun i H' => Same H2 H' ∧ H' D = some (.lst (nv ((List.range i).map (n + ·))))) ⟨same_new hD, upd_same⟩ ?_ ?_⟩
    · rintro i H1 hi ⟨s1, h1⟩
      refine ⟨rfl, ?_⟩
      unfold tYes
      dsimp only
      rw [if_pos rfl]
      refine ⟨_, rfl, _, rfl, _, _, rfl, rfl, _, h1, ?_, fun b ob hb => ?_, ?_⟩
      · rw [nv_len, List.length_map, List.length_range]
        exact small1000 (by omega)
      · rw [upd_ne (ne_of_none hb hD)]
        exact s1 _ _ hb
      · have en : (n : Int) + (0 + (i : Int)) = ((n + i : Nat) : Int) := by omega
        rw [upd_same]
        dsimp only
        rw [en, List.range_succ, List.map_append]
        unfold nv
        rw [List.map_append]
        rfl
    rintro H3 ⟨s3, b3⟩
    refine ⟨_, rfl, o, C, dx, _, rfl, s3 _ _ O2, T.cl, nB, by show 2 < 1000; decide, ?_⟩
    have e3 : putF "base" (.ref D) ((["many", "divisor"] : List Str).zip [V.int n, V.int 1]) = (["many", "divisor", "base"] : List Str).zip [V.int n, V.int 1, .ref D] := putF_new (keys := ["many", "divisor"]) (vals := [.int n, .int 1]) (by decide +kernel) rfl
    rw [e3]
    have nDo : D ≠ o := ne_of b3 (s3 _ _ O2) (fun z => nomatch z)
    have K4 : Keep o H (upd H3 o (.ins C dx ((["many", "divisor", "base"] : List Str).zip [V.int n, V.int 1, .ref D]))) := (K2.trans (Same.keep s3)).trans Keep.upd
    have O4 : (upd H3 o (.ins C dx ((["many", "divisor", "base"] : List Str).zip [V.int n, V.int 1, .ref D]))) o = some (.ins C dx ((["many", "divisor", "base"] : List Str).zip [V.int n, V.int 1, .ref D])) := upd_same
    have B4 : (upd H3 o (.ins C dx ((["many", "divisor", "base"] : List Str).zip [V.int n, V.int 1, .ref D]))) D = some (.lst (nv ((List.range mat.length).map (n + ·)))) := by
      rw [upd_ne nDo]
      exact b3
    have hDH : H D = none := by
      cases e : H D with
      | none => rfl
      | some ob =>
        have := K2 _ _ nDo e
        rw [hD] at this
        cases this
    generalize upd H3 o (.ins C dx ((["many", "divisor", "base"] : List Str).zip [V.int n, V.int 1, .ref D])) = H4 at K4 O4 B4 ⊢
    -- entries
    have hrl4 := K4.there ho hrl (noL _ _)
    have hrt4 := K4.there ho hrt (noL _ _)
    have hrs4 := hrs.keep K4 ho (noT · _) (noL · _)
    have hqs4 := hqs.keep K4 ho (noT · _)
    refine ⟨_, rfl, rl, _, rfl, .inl (SqL.of hrl4), ?_⟩
    rw [rv_len, lrs]
    refine ⟨_, rfl, by omega, by omega, fun D5 hD5 => lc_range (lo := 0) (n := mat.length) (fun i H' => Same H4 H' ∧ ∃ es, H' D5 = some (.lst (rv es)) ∧ RowsAt2 H' es ((List.range i).map (entAt mat rgt)) ∧ D5 ∉ es) ⟨same_new hD5, [], upd_same, ⟨rfl, fun i p x hp _ => nomatch hp⟩, fun z => nomatch z⟩ ?_ ?_⟩
    · rintro i H1 hi ⟨s1, es, hes, hE, nes⟩
      have e0 : (0 : Int) + (i : Int) = (i : Int) := Int.zero_add _
      have esl : es.length = i := by rw [hE.1, List.length_map, List.length_range]
      obtain ⟨p, ps, hp, hpl, hpp⟩ := (hrs4.same s1).at_ hi
      obtain ⟨q, hq, hqr⟩ := (hqs4.same s1).at_ (show i < rgt.length by omega)
      obtain ⟨lrow, lwr⟩ := hmat _ (gm_mem hi)
      have lwq := hrgt _ (gp_mem (show i < rgt.length by omega))
      have pl : ps.length = n := by rw [hpp.1, lrow]
      refine ⟨rfl, yesT ?_⟩
      refine ⟨_, rfl, _, rfl, rl, rv rs, _, .ref p, rfl, rfl, SqL.of (s1 _ _ hrl4), by rw [e0]; exact hp, p, _, rfl, .inl (SqL.of hpl), fun l1 hl1 => ?_⟩
      have s2 := same_new (o := .lst (rv ps)) hl1
      have el1 : (upd H1 l1 (.lst (rv ps))) l1 = some (.lst (rv ps)) := upd_same
      generalize upd H1 l1 (.lst (rv ps)) = H2a at s2 el1 ⊢
      refine ⟨_, rfl, _, rfl, rt, rv qs, _, .ref q, rfl, rfl, SqL.of (s2 _ _ (s1 _ _ hrt4)), by rw [e0]; exact hq, by show 1 ≤ sizeLine; decide, fun l2 hl2 => ?_⟩
      have s3a := same_new (o := .lst [.ref q]) hl2
      refine ⟨l1, l2, _, _, rfl, rfl, s3a _ _ el1, upd_same, ?_, fun l3 hl3 => ?_⟩
      · rw [rv_len, List.length_singleton, pl]
        exact Nat.le_trans (show n + 1 ≤ 1000 by omega) (show 1000 ≤ sizeLine by decide)
      have el3 : (upd (upd H2a l2 (.lst [.ref q])) l3 (.lst (rv ps ++ [.ref q]))) l3 = some (.lst (rv (ps ++ [q]))) := by
        rw [upd_same]
        unfold rv
        rw [List.map_append]
        rfl
      have s4 := s2.trans (s3a.trans (same_new (o := .lst (rv ps ++ [.ref q])) hl3))
      generalize upd (upd H2a l2 (.lst [.ref q])) l3 (.lst (rv ps ++ [.ref q])) = H2b at el3 s4 ⊢
      have hall : PairsAt H2b (ps ++ [q]) (entAt mat rgt i) := by
        have z1 := hpp.same s4
        have z2 : RatAt H2b q (gp rgt i) := s4 _ _ hqr
        refine ⟨?_, fun j x y hx hy => ?_⟩
        · unfold entAt
          rw [List.length_append, List.length_append, z1.1]
          rfl
        · unfold entAt at hy
          by_cases hj : j < ps.length
          · rw [List.getElem?_append_left hj] at hx
            rw [List.getElem?_append_left (by rw [← z1.1]; exact hj)] at hy
            exact z1.2 j x y hx hy
          · have ej : j = ps.length := by
              have := (List.getElem?_eq_some_iff.mp hx).1
              rw [List.length_append, List.length_singleton] at this
              omega
            subst ej
            rw [List.getElem?_append_right (Nat.le_refl _), Nat.sub_self] at hx
            rw [List.getElem?_append_right (by rw [z1.1]; exact Nat.le_refl _), z1.1, Nat.sub_self] at hy
            cases hx
            cases hy
            exact z2
      have lwall : ∀ x ∈ entAt mat rgt i, Lw x := fun x hx => by
        rcases List.mem_append.mp hx with z | z
        · exact lwr x z
        · rw [List.mem_singleton.mp z]
          exact lwq
      refine ⟨l3, rfl, ⟨_, SqL.of el3⟩, fun D6 hD6 => lc_list (K := K) (a := l3) (xs := rv (ps ++ [q])) (fun j H' => Same H2b H' ∧ ∃ us, H' D6 = some (.lst (rv us)) ∧ PairsAt H' us ((entAt mat rgt i).take j)) ⟨same_new hD6, [], upd_same, rfl, fun i p x hp _ => nomatch hp⟩ (fun j H' _ ⟨z, _⟩ => SqL.of (z _ _ el3)) ?_ ?_⟩
      · rintro j x H5 hx ⟨s5, us, hus, hU⟩
        obtain ⟨p5, y, rfl, hp5, hy, hpr⟩ := (hall.same s5).get hx
        have lw := lwall y (List.mem_of_getElem? hy)
        have hj : j < (entAt mat rgt i).length := (List.getElem?_eq_some_iff.mp hy).1
        have eln : (entAt mat rgt i).length = n + 1 := by
          unfold entAt
          rw [List.length_append, lrow]
          rfl
        have usl : us.length = j := by rw [hU.1, List.length_take, Nat.min_eq_left (by omega)]
        refine ⟨rfl, yesT ?_⟩
        refine ⟨_, rfl, .ref p5, _, _, rfl, lw.low hpr, fun r hr6 => ?_⟩
        have s6 := same_new (o := .tup [.int y.1, .int y.2]) hr6
        refine ⟨rv us, s6 _ _ hus, by rw [rv_len, usl]; exact small1000 (by omega), fun b ob hb => ?_, us ++ [r], ?_, ?_⟩
        · rw [upd_ne (ne_of_none hb hD6)]
          exact s6 _ _ (s5 _ _ hb)
        · rw [upd_same]
          unfold rv
          rw [List.map_append]
          rfl
        · rw [List.take_add_one, hy]
          exact (hU.same s6).add (s6 _ _ hus) (x := y) upd_same _
      · rintro H5 ⟨s5, us, hus, hU⟩
        rw [rv_len, hall.1, List.take_length] at hU
        have s15 := s4.trans s5
        have n65 : D6 ≠ D5 := fun e => by
          rw [e, s4 _ _ hes] at hD6
          cases hD6
        refine ⟨rv es, s15 _ _ hes, by rw [rv_len, esl]; exact small1000 (by omega), fun b ob hb => ?_, es ++ [D6], ?_, ?_, fun z => ?_⟩
        · rw [upd_ne (ne_of_none hb hD5)]
          exact s15 _ _ (s1 _ _ hb)
        · rw [upd_same]
          unfold rv
          rw [List.map_append]
          rfl
        · rw [List.range_succ, List.map_append]
          exact (hE.same s15).add (s15 _ _ hes) nes hus hU n65 _
        · rcases List.mem_append.mp z with z | z
          · exact nes z
          · exact n65 (List.mem_singleton.mp z).symm
    rintro H5 ⟨s5, es, hes, hE, nes⟩
    have hE' : RowsAt2 H5 es (entF mat rgt) := hE
    clear hE
    have lE : (entF mat rgt).length = mat.length := by
      unfold entF
      rw [List.length_map, List.length_range]
    have rE : ∀ r ∈ entF mat rgt, r.length = n + 1 ∧ ∀ x ∈ r, Lw x := fun r hr => by
      obtain ⟨j, hj, e⟩ := List.mem_map.mp hr
      have hj' := List.mem_range.mp hj
      obtain ⟨l1, l2⟩ := hmat _ (gm_mem hj')
      rw [← e]
      unfold entAt
      refine ⟨by rw [List.length_append, l1]; rfl, fun x hx => ?_⟩
      rcases List.mem_append.mp hx with z | z
      · exact l2 x z
      · rw [List.mem_singleton.mp z]
        exact hrgt _ (gp_mem (by omega))
    rw [show initF mat rgt n = { many := n, D := 1, base := (List.range mat.length).map (n + ·), scales := scF (entF mat rgt) n, signs := sgF (entF mat rgt) n, lines := (List.range mat.length).map (lineF (entF mat rgt) (scF (entF mat rgt) n) (sgF (entF mat rgt) n) n mat.length) } from rfl] at k
    generalize entF mat rgt = E at hE' lE rE k
    have esl : es.length = mat.length := by rw [hE'.1, lE]
    have O5 := s5 _ _ O4
    have K5 : Keep o H H5 := K4.trans (Same.keep s5)
    have B5' := s5 _ _ B4
    -- scales
    have colA : ∀ (j : Nat), j < n + 1 → ∀ x ∈ colF E j, 0 < x.2 ∧ Bd 100 x.2 := fun j hj x hx => by
      obtain ⟨r, hr, e⟩ := List.mem_map.mp hx
      rw [← e]
      have lw := (rE r hr).2 _ (gp_mem (show j < r.length by rw [(rE r hr).1]; exact hj))
      exact ⟨lw.p, lw.b2⟩
    refine ⟨_, rfl, _, _, rfl, rfl, ((n + 1 : Nat) : Int), rfl, by omega, by omega, fun D6 hD6 => lc_range (lo := 0) (n := n + 1) (fun i H' => Same H5 H' ∧ H' D6 = some (.lst (iv ((List.range i).map fun j => shF (colF E j))))) ⟨same_new hD6, upd_same⟩ ?_ ?_⟩
    · rintro j H1 hj ⟨s1, h1⟩
      have e0 : (0 : Int) + (j : Int) = (j : Int) := Int.zero_add _
      have hE1 := hE'.same s1
      refine ⟨rfl, yesT ?_⟩
      refine ⟨_, rfl, D5, rfl, ⟨_, SqL.of (s1 _ _ hes)⟩, fun D7 hD7 => lc_list (K := K) (a := D5) (xs := rv es) (fun i H' => Same H1 H' ∧ ∃ us, H' D7 = some (.lst (rv us)) ∧ PairsAt H' us (colF (E.take i) j)) ⟨same_new hD7, [], upd_same, rfl, fun i p x hp _ => nomatch hp⟩ (fun i H' _ ⟨z, _⟩ => SqL.of (z _ _ (s1 _ _ hes))) ?_ ?_⟩
      · rintro i x H2 hx ⟨s2, us, hus, hU⟩
        have hi : i < E.length := by
          have := (List.getElem?_eq_some_iff.mp hx).1
          rw [rv_len] at this
          omega
        obtain ⟨p, ps, hp, hpl, hpp⟩ := (hE1.same s2).at_ hi
        have ex : x = .ref p := by
          have z := atI_nat hx
          rw [hp] at z
          exact (Option.some.inj z).symm
        subst ex
        obtain ⟨lr1, lw1⟩ := rE _ (gm_mem hi)
        obtain ⟨q, hq, hqr⟩ := hpp.at_ (show j < (gm E i).length by omega)
        have usl : us.length = i := by
          rw [hU.1]
          unfold colF
          rw [List.length_map, List.length_take, Nat.min_eq_left (by omega)]
        refine ⟨rfl, yesT ?_⟩
        refine ⟨_, rfl, _, rfl, p, rv ps, _, .ref q, rfl, rfl, SqL.of hpl, by rw [e0]; exact hq, ?_⟩
        refine ⟨rv us, hus, by rw [rv_len, usl]; exact small1000 (by omega), fun b ob hb => ?_, us ++ [q], ?_, ?_⟩
        · rw [upd_ne (ne_of_none hb hD7)]
          exact s2 _ _ hb
        · rw [upd_same]
          unfold rv
          rw [List.map_append]
          rfl
        · rw [List.take_add_one, gm_at hi]
          unfold colF
          rw [List.map_append]
          exact hU.add hus (x := gp (gm E i) j) hqr _
      · rintro H2 ⟨s2, us, hus, hU⟩
        rw [rv_len, esl, ← lE, List.take_length] at hU
        refine ⟨D7, us, _, 100, rfl, hus, hU, colA j hj, ?_, by decide, ?_⟩
        · unfold colF
          rw [List.length_map]
          omega
        refine ⟨_, s2 _ _ h1, ?_, fun b ob hb => ?_, ?_⟩
        · rw [iv_len, List.length_map, List.length_range]
          exact small1000 (by omega)
        · rw [upd_ne (ne_of_none hb hD6)]
          exact s2 _ _ (s1 _ _ hb)
        · rw [upd_same, List.range_succ, List.map_append]
          unfold iv
          rw [List.map_append]
          rfl
    rintro H6 ⟨s6, h6⟩
    have h6' : H6 D6 = some (.lst (iv (scF E n))) := h6
    clear h6
    refine ⟨_, rfl, o, C, dx, _, rfl, s6 _ _ O5, T.cl, nS, by show 3 < 1000; decide, ?_⟩
    have e4 : putF "scales" (.ref D6) ((["many", "divisor", "base"] : List Str).zip [V.int n, V.int 1, .ref D]) = (["many", "divisor", "base", "scales"] : List Str).zip [V.int n, V.int 1, .ref D, .ref D6] := putF_new (keys := ["many", "divisor", "base"]) (vals := [.int n, .int 1, .ref D]) (by decide +kernel) rfl
    rw [e4]
    have n6o : D6 ≠ o := ne_of h6' (s6 _ _ O5) (fun z => nomatch z)
    have nD6 : D ≠ D6 := fun e => by
      rw [← e, B5'] at hD6
      cases hD6
    have Kx : Keep o H5 (upd H6 o (.ins C dx ((["many", "divisor", "base", "scales"] : List Str).zip [V.int n, V.int 1, .ref D, .ref D6]))) := (Same.keep s6).trans Keep.upd
    have O7 : (upd H6 o (.ins C dx ((["many", "divisor", "base", "scales"] : List Str).zip [V.int n, V.int 1, .ref D, .ref D6]))) o = some (.ins C dx ((["many", "divisor", "base", "scales"] : List Str).zip [V.int n, V.int 1, .ref D, .ref D6])) := upd_same
    have S7 : (upd H6 o (.ins C dx ((["many", "divisor", "base", "scales"] : List Str).zip [V.int n, V.int 1, .ref D, .ref D6]))) D6 = some (.lst (iv (scF E n))) := by
      rw [upd_ne n6o]
      exact h6'
    generalize upd H6 o (.ins C dx ((["many", "divisor", "base", "scales"] : List Str).zip [V.int n, V.int 1, .ref D, .ref D6])) = H7 at Kx O7 S7 ⊢
    have hes7 := Kx.there O5 hes (noL _ _)
    have hE7 := hE'.keep Kx O5 (noT · _) (noL · _)
    have B7 := Kx.there O5 B5' (noL _ _)
    have K7 := K5.trans Kx
    -- signs
    refine ⟨_, rfl, D5, rfl, ⟨_, SqL.of hes7⟩, fun D8 hD8 => lc_list (K := K) (a := D5) (xs := rv es) (fun i H' => Same H7 H' ∧ H' D8 = some (.lst (iv ((E.take i).map (sgAt n))))) ⟨same_new hD8, upd_same⟩ (fun i H' _ ⟨z, _⟩ => SqL.of (z _ _ hes7)) ?_ ?_⟩
    · rintro i x H1 hx ⟨s1, h1⟩
      have hi : i < E.length := by
        have := (List.getElem?_eq_some_iff.mp hx).1
        rw [rv_len] at this
        omega
      obtain ⟨p, ps, hp, hpl, hpp⟩ := (hE7.same s1).at_ hi
      have ex : x = .ref p := by
        have z := atI_nat hx
        rw [hp] at z
        exact (Option.some.inj z).symm
      subst ex
      obtain ⟨lr1, lw1⟩ := rE _ (gm_mem hi)
      obtain ⟨q, hq, hqr⟩ := hpp.at_ (show n < (gm E i).length by omega)
      refine ⟨rfl, yesT ?_⟩
      have fin : ∀ v : Int, v = sgAt n (gm E i) → ∃ acc, H1 D8 = some (.lst acc) ∧ acc.length < sizeLine ∧ Same H7 (upd H1 D8 (.lst (acc ++ [V.int v]))) ∧ (upd H1 D8 (.lst (acc ++ [V.int v]))) D8 = some (.lst (iv ((E.take (i + 1)).map (sgAt n)))) := fun v hv => by
        refine ⟨_, h1, ?_, fun b ob hb => ?_, ?_⟩
        · rw [iv_len, List.length_map, List.length_take]
          exact small1000 (by omega)
        · rw [upd_ne (ne_of_none hb hD8)]
          exact s1 _ _ hb
        · rw [upd_same, List.take_add_one, gm_at hi, hv]
          unfold iv
          rw [List.map_append, List.map_append]
          rfl
      refine ⟨_, rfl, _, rfl, p, rv ps, _, .ref q, rfl, rfl, SqL.of hpl, hq, q, _, 0, _, rfl, rfl, .inl (.inl hqr), rfl, _, _, rfl, rfl, _, rfl, ite2 (fun hg => ?_) (fun hg => ?_)⟩
      · exact ⟨1, rfl, fin (-1) (if_pos (of_decide_eq_true hg)).symm⟩
      · exact fin 1 (if_neg (fun z => hg (decide_eq_true z))).symm
    rintro H8 ⟨s8, h8⟩
    rw [rv_len, esl, ← lE, List.take_length] at h8
    have h8' : H8 D8 = some (.lst (iv (sgF E n))) := h8
    clear h8
    refine ⟨_, rfl, o, C, dx, _, rfl, s8 _ _ O7, T.cl, nG, by show 4 < 1000; decide, ?_⟩
    have e5 : putF "signs" (.ref D8) ((["many", "divisor", "base", "scales"] : List Str).zip [V.int n, V.int 1, .ref D, .ref D6]) = (["many", "divisor", "base", "scales", "signs"] : List Str).zip [V.int n, V.int 1, .ref D, .ref D6, .ref D8] := putF_new (keys := ["many", "divisor", "base", "scales"]) (vals := [.int n, .int 1, .ref D, .ref D6]) (by decide +kernel) rfl
    rw [e5]
    have n8o : D8 ≠ o := ne_of h8' (s8 _ _ O7) (fun z => nomatch z)
    have nD8 : D ≠ D8 := fun e => by
      rw [← e, B7] at hD8
      cases hD8
    have Ky : Keep o H7 (upd H8 o (.ins C dx ((["many", "divisor", "base", "scales", "signs"] : List Str).zip [V.int n, V.int 1, .ref D, .ref D6, .ref D8]))) := (Same.keep s8).trans Keep.upd
    have O9 : (upd H8 o (.ins C dx ((["many", "divisor", "base", "scales", "signs"] : List Str).zip [V.int n, V.int 1, .ref D, .ref D6, .ref D8]))) o = some (.ins C dx ((["many", "divisor", "base", "scales", "signs"] : List Str).zip [V.int n, V.int 1, .ref D, .ref D6, .ref D8])) := upd_same
    have G9 : (upd H8 o (.ins C dx ((["many", "divisor", "base", "scales", "signs"] : List Str).zip [V.int n, V.int 1, .ref D, .ref D6, .ref D8]))) D8 = some (.lst (iv (sgF E n))) := by
      rw [upd_ne n8o]
      exact h8'
    generalize upd H8 o (.ins C dx ((["many", "divisor", "base", "scales", "signs"] : List Str).zip [V.int n, V.int 1, .ref D, .ref D6, .ref D8])) = H9 at Ky O9 G9 ⊢
    have hes9 := Ky.there O7 hes7 (noL _ _)
    have hE9 := hE7.keep Ky O7 (noT · _) (noL · _)
    have B9 := Ky.there O7 B7 (noL _ _)
    have S9 := Ky.there O7 S7 (noL _ _)
    have K9 := K7.trans Ky
    -- lines
    refine ⟨by show 0 ≤ sizeLine; decide, fun L hL => ?_⟩
    refine ⟨_, rfl, o, C, dx, _, rfl, (same_new hL) _ _ O9, T.cl, nL, by show 5 < 1000; decide, ?_⟩
    have e6 : putF "lines" (.ref L) ((["many", "divisor", "base", "scales", "signs"] : List Str).zip [V.int n, V.int 1, .ref D, .ref D6, .ref D8]) = tbK.zip [V.int n, V.int 1, .ref D, .ref D6, .ref D8, .ref L] := putF_new (keys := ["many", "divisor", "base", "scales", "signs"]) (vals := [.int n, .int 1, .ref D, .ref D6, .ref D8]) (by decide +kernel) rfl
    rw [e6]
    have nLo : L ≠ o := fun e => by
      rw [e, O9] at hL
      cases hL
    have KL : Keep o H9 (upd (upd H9 L (.lst [])) o (.ins C dx (tbK.zip [V.int n, V.int 1, .ref D, .ref D6, .ref D8, .ref L]))) := (Same.keep (same_new hL)).trans Keep.upd
    have OL : (upd (upd H9 L (.lst [])) o (.ins C dx (tbK.zip [V.int n, V.int 1, .ref D, .ref D6, .ref D8, .ref L]))) o = some (.ins C dx (tbK.zip [V.int n, V.int 1, .ref D, .ref D6, .ref D8, .ref L])) := upd_same
    have LL : (upd (upd H9 L (.lst [])) o (.ins C dx (tbK.zip [V.int n, V.int 1, .ref D, .ref D6, .ref D8, .ref L]))) L = some (.lst []) := by
      rw [upd_ne nLo, upd_same]
    generalize upd (upd H9 L (.lst [])) o (.ins C dx (tbK.zip [V.int n, V.int 1, .ref D, .ref D6, .ref D8, .ref L])) = HL at KL OL LL ⊢
    have hrlL := (K9.trans KL).there ho hrl (noL _ _)
    refine ⟨_, rfl, rl, _, rfl, .inl (SqL.of hrlL), ?_⟩
    rw [rv_len, lrs]
    refine ⟨_, rfl, by omega, by omega, for_range (fun i σ H' => (Keep o H9 H' ∧ H' o = some (.ins C dx (tbK.zip [V.int n, V.int 1, .ref D, .ref D6, .ref D8, .ref L]))) ∧ (∃ ls, H' L = some (.lst (rv ls)) ∧ LinesAt H' ls ((List.range i).map (lineF E (scF E n) (sgF E n) n mat.length)) ∧ L ∉ ls ∧ D ∉ ls) ∧
      ∃ v4 v6 v7 v8 v9 v10 v11 v12 v13 v14 : Option V, σ = [some (.ref o), some (.ref rl), some (.ref rt), some (.int n), v4, some (.ref D5), v6, v7, v8, v9, v10, v11, v12, v13, v14]) ⟨⟨KL, OL⟩, ⟨[], LL, ⟨rfl, fun i q r h _ => nomatch h⟩, fun h => (nomatch h), fun h => (nomatch h)⟩, none, none, none, none, none, none, none, none, none, none, rfl⟩ ?_ ?_⟩
    · rintro i σ H1 hi ⟨⟨kk, oo⟩, ⟨ls, hls, hlin, nl1, nl2⟩, v4, v6, v7, v8, v9, v10, v11, v12, v13, v14, rfl⟩
      have hi' : i < E.length := by omega
      have e0 : (0 : Int) + (i : Int) = (i : Int) := Int.zero_add _
      have hes1 := kk.there O9 hes9 (noL _ _)
      have hE1 := hE9.keep kk O9 (noT · _) (noL · _)
      have B1 := kk.there O9 B9 (noL _ _)
      have S1 := kk.there O9 S9 (noL _ _)
      have G1 := kk.there O9 G9 (noL _ _)
      have rl1 := (K9.trans kk).there ho hrl (noL _ _)
      have lsc : (scF E n).length = n + 1 := by
        unfold scF
        rw [List.length_map, List.length_range]
      have lsg : (sgF E n).length = E.length := by
        unfold sgF
        rw [List.length_map]
      have scB : ∀ x ∈ scF E n, Bd 401 x := fun x hx => by
        obtain ⟨j, hj, e⟩ := List.mem_map.mp hx
        rw [← e]
        refine (shF_bd (b := 100) (colF E j) 1 1 (by decide) one_bd (colA j (List.mem_range.mp hj))).mono ?_
        unfold colF
        rw [List.length_map]
        omega
      have sgB : ∀ x ∈ sgF E n, Bd 1 x := fun x hx => by
        obtain ⟨r, _, e⟩ := List.mem_map.mp hx
        rw [← e]
        exact sg_bd n r
      have lsl : ls.length = i := by rw [hlin.1, List.length_map, List.length_range]
      obtain ⟨lrw, lww⟩ := rE _ (gm_mem hi')
      -- pairs
      refine ⟨_, rfl, _, _, rfl, rfl, ((n + 1 : Nat) : Int), rfl, by omega, by omega, fun D10 hD10 => lc_range (lo := 0) (n := n + 1) (fun j H' => Same H1 H' ∧ ∃ us, H' D10 = some (.lst (rv us)) ∧ TrAt H' us ((List.range j).map (prAt E (scF E n) (sgF E n) i))) ⟨same_new hD10, [], upd_same, rfl, fun i p x hp _ => nomatch hp⟩ ?_ ?_⟩
      · rintro j H2 hj ⟨s2, us, hus, hU⟩
        have e0j : (0 : Int) + (j : Int) = (j : Int) := Int.zero_add _
        obtain ⟨p, ps, hp, hpl, hpp⟩ := (hE1.same s2).at_ hi'
        obtain ⟨q, hq, hqr⟩ := hpp.at_ (show j < (gm E i).length by omega)
        have usl : us.length = j := by rw [hU.1, List.length_map, List.length_range]
        refine ⟨rfl, yesT ?_⟩
        refine ⟨_, rfl, _, rfl, D5, rv es, _, .ref p, rfl, rfl, SqL.of (s2 _ _ hes1), by rw [e0]; exact hp, _, rfl, p, rv ps, _, .ref q, rfl, rfl, SqL.of hpl, by rw [e0j]; exact hq, ?_⟩
        refine ⟨_, rfl, o, C, dx, _, _, rfl, s2 _ _ oo, T.cl, nS, lookup_zip (i := 3) tbNd rfl rfl, _, rfl, D6, iv (scF E n), _, .int (gi (scF E n) j), rfl, rfl, SqL.of (s2 _ _ S1), by rw [e0j]; exact iv_atI (by omega), ?_⟩
        refine ⟨_, rfl, o, C, dx, _, _, rfl, s2 _ _ oo, T.cl, nG, lookup_zip (i := 4) tbNd rfl rfl, _, rfl, D8, iv (sgF E n), _, .int (gi (sgF E n) i), rfl, rfl, SqL.of (s2 _ _ G1), by rw [e0]; exact iv_atI (by omega), ?_⟩
        refine ⟨_, _, rfl, rfl, Bd.mul (scB _ (gi_mem (by omega))) (sgB _ (gi_mem (by omega))) (by decide) (by decide), by show 2 ≤ sizeLine; decide, fun u hu => ?_⟩
        have s3 := same_new (o := .tup [.ref q, .int (gi (scF E n) j * gi (sgF E n) i)]) hu
        refine ⟨rv us, s3 _ _ hus, by rw [rv_len, usl]; exact small1000 (by omega), fun b ob hb => ?_, us ++ [u], ?_, ?_⟩
        · rw [upd_ne (ne_of_none hb hD10)]
          exact s3 _ _ (s2 _ _ hb)
        · rw [upd_same]
          unfold rv
          rw [List.map_append]
          rfl
        · rw [List.range_succ, List.map_append]
          exact (hU.same s3).add (s3 _ _ hus) (x := prAt E (scF E n) (sgF E n) i j) upd_same (s3 _ _ hqr) _
      rintro H2 ⟨s2, us, hus, hU⟩
      -- whole
      have prL : ∀ x ∈ (List.range (n + 1)).map (prAt E (scF E n) (sgF E n) i), Lw x.1 ∧ Bd 402 x.2 := fun x hx => by
        obtain ⟨j, hj, e⟩ := List.mem_map.mp hx
        have hj' := List.mem_range.mp hj
        rw [← e]
        exact ⟨lww _ (gp_mem (by omega)), (scB _ (gi_mem (by omega))).mulB (sgB _ (gi_mem (by omega)))⟩
      have prN : ((List.range (n + 1)).map (prAt E (scF E n) (sgF E n) i)).length = n + 1 := by rw [List.length_map, List.length_range]
      have wEq := wholeL_eq E (scF E n) (sgF E n) n i
      have lEq : lineF E (scF E n) (sgF E n) n mat.length i = (wholeL E (scF E n) (sgF E n) n i).take n ++ (List.replicate mat.length 0).set i 1 ++ (wholeL E (scF E n) (sgF E n) n i).drop n := rfl
      rw [wEq] at lEq
      clear wEq
      have lR : (List.range (i + 1)).map (lineF E (scF E n) (sgF E n) n mat.length) = (List.range i).map (lineF E (scF E n) (sgF E n) n mat.length) ++ [lineF E (scF E n) (sgF E n) n mat.length i] := by
        rw [List.range_succ, List.map_append]
        rfl
      rw [lEq] at lR
      clear lEq
      generalize (List.range (n + 1)).map (prAt E (scF E n) (sgF E n) i) = prs at hU prL prN lR
      refine ⟨_, rfl, D10, rfl, ⟨_, SqL.of hus⟩, fun D11 hD11 => lc_list (K := K) (a := D10) (xs := rv us) (fun j H' => Same H2 H' ∧ H' D11 = some (.lst (iv ((prs.take j).map whAt)))) ⟨same_new hD11, upd_same⟩ (fun j H' _ ⟨z, _⟩ => SqL.of (z _ _ hus)) ?_ ?_⟩
      · rintro j x H3 hx ⟨s3, h3⟩
        obtain ⟨u, hu, rfl⟩ : ∃ u, us[j]? = some u ∧ x = .ref u := by
          unfold rv at hx
          rw [List.getElem?_map] at hx
          cases e : us[j]? with
          | none =>
            rw [e] at hx
            cases hx
          | some u =>
            rw [e] at hx
            exact ⟨u, rfl, (Option.some.inj hx).symm⟩
        have hjl : j < prs.length := by
          rw [← hU.1]
          exact (List.getElem?_eq_some_iff.mp hu).1
        have hy := List.getElem?_eq_getElem hjl
        generalize prs[j] = y at hy
        obtain ⟨p, hup, hpr⟩ := (hU.same s3).2 j u y hu hy
        obtain ⟨lw, yb⟩ := prL y (List.mem_of_getElem? hy)
        refine ⟨u, _, rfl, .inl (.inl hup), rfl, _, _, rfl, ⟨p, _, rfl, .inl (.inl hpr), rfl, _, _, rfl, _, _, rfl, rfl, _, _, rfl, rfl, rfl, yesT ?_⟩⟩
        refine ⟨_, rfl, _, rfl, _, rfl, _, _, rfl, rfl, ⟨lw.p, yb.big (by decide)⟩, _, _, rfl, rfl, Bd.mul lw.b1 (ediv_bd yb) (by decide) (by decide), ?_⟩
        refine ⟨_, h3, ?_, fun b ob hb => ?_, ?_⟩
        · rw [iv_len, List.length_map]
          exact small1000 (Nat.le_trans (List.length_take_le _ _) (by omega))
        · rw [upd_ne (ne_of_none hb hD11)]
          exact s3 _ _ hb
        · rw [upd_same, List.take_add_one, hy]
          unfold iv
          rw [List.map_append, List.map_append]
          rfl
      rintro H3 ⟨s3, h3⟩
      rw [rv_len, hU.1, List.take_length] at h3
      have wl : (iv (prs.map whAt)).length = n + 1 := by rw [iv_len, List.length_map, prN]
      have s13 := s2.trans s3
      -- helpers
      refine ⟨by show 1 ≤ sizeLine; decide, fun z1 hz1 => ?_⟩
      have s4 := same_new (o := .lst [.int 0]) hz1
      have ez1 : (upd H3 z1 (.lst [.int 0])) z1 = some (.lst [.int 0]) := upd_same
      generalize upd H3 z1 (.lst [.int 0]) = H4' at s4 ez1 ⊢
      refine ⟨_, rfl, rl, _, rfl, .inl (SqL.of (s4 _ _ (s13 _ _ rl1))), ?_⟩
      rw [rv_len, lrs]
      refine ⟨z1, _, _, rfl, rfl, ez1, by omega, by omega, ?_, fun z2 hz2 => ?_⟩
      · rw [List.length_singleton, Int.toNat_natCast, Nat.one_mul]
        exact Nat.le_trans (Nat.le_trans m4 (by decide)) (show 1000 ≤ sizeLine by decide)
      rw [Int.toNat_natCast, rep_ints]
      have hil : i < (iv (List.replicate mat.length 0)).length := by rw [iv_len, List.length_replicate]; omega
      refine ⟨_, rfl, _, rfl, z2, _, _, i, rfl, rfl, upd_same, by rw [e0]; exact ixN_lt hil, ?_⟩
      rw [upd_upd, iv_set]
      have s5 := s13.trans (s4.trans (same_new (o := .lst (iv ((List.replicate mat.length 0).set i 1))) hz2))
      have ez2 : (upd H4' z2 (.lst (iv ((List.replicate mat.length 0).set i 1)))) z2 = some (.lst (iv ((List.replicate mat.length 0).set i 1))) := upd_same
      have e11 : (upd H4' z2 (.lst (iv ((List.replicate mat.length 0).set i 1)))) D11 = some (.lst (iv (prs.map whAt))) := (s4.trans (same_new hz2)) _ _ h3
      generalize upd H4' z2 (.lst (iv ((List.replicate mat.length 0).set i 1))) = H5' at s5 ez2 e11 ⊢
      -- the line
      refine ⟨_, rfl, o, C, dx, _, _, rfl, s5 _ _ oo, T.cl, nL, lookup_zip (i := 5) tbNd rfl rfl, .inl ⟨rfl, _, SqL.of (s5 _ _ hls)⟩, ?_⟩
      refine ⟨_, rfl, _, rfl, _, rfl, D11, _, rfl, SqL.of e11, fun p1 hp1 => ?_⟩
      rw [cutV_to _ (by omega)]
      have s6 := same_new (o := .lst ((iv (prs.map whAt)).take n)) hp1
      have ep1 : (upd H5' p1 (.lst ((iv (prs.map whAt)).take n))) p1 = some (.lst ((iv (prs.map whAt)).take n)) := upd_same
      generalize upd H5' p1 (.lst ((iv (prs.map whAt)).take n)) = H6' at s6 ep1 ⊢
      refine ⟨_, rfl, p1, z2, _, _, rfl, rfl, ep1, s6 _ _ ez2, ?_, fun p2 hp2 => ?_⟩
      · rw [iv_len, List.length_set, List.length_replicate, List.length_take]
        exact Nat.le_trans (show _ ≤ 1000 by omega) (show 1000 ≤ sizeLine by decide)
      have s7 := s6.trans (same_new (o := .lst ((iv (prs.map whAt)).take n ++ iv ((List.replicate mat.length 0).set i 1))) hp2)
      have ep2 : (upd H6' p2 (.lst ((iv (prs.map whAt)).take n ++ iv ((List.replicate mat.length 0).set i 1)))) p2 = some (.lst ((iv (prs.map whAt)).take n ++ iv ((List.replicate mat.length 0).set i 1))) := upd_same
      generalize upd H6' p2 (.lst ((iv (prs.map whAt)).take n ++ iv ((List.replicate mat.length 0).set i 1))) = H7' at s7 ep2 ⊢
      refine ⟨_, rfl, _, rfl, _, rfl, D11, _, rfl, SqL.of (s7 _ _ e11), fun p3 hp3 => ?_⟩
      rw [cutV_from _ (by omega)]
      refine ⟨p2, p3, _, _, rfl, rfl, (same_new hp3) _ _ ep2, upd_same, ?_, fun p4 hp4 => ?_⟩
      · rw [List.length_append, iv_len, List.length_set, List.length_replicate, List.length_take, List.length_drop]
        exact Nat.le_trans (show _ ≤ 1000 by omega) (show 1000 ≤ sizeLine by decide)
      have s8' := s5.trans (s7.trans ((same_new (o := .lst ((iv (prs.map whAt)).drop n)) hp3).trans (same_new (o := .lst ((iv (prs.map whAt)).take n ++ iv ((List.replicate mat.length 0).set i 1) ++ (iv (prs.map whAt)).drop n)) hp4)))
      have ep4 : (upd (upd H7' p3 (.lst ((iv (prs.map whAt)).drop n))) p4 (.lst ((iv (prs.map whAt)).take n ++ iv ((List.replicate mat.length 0).set i 1) ++ (iv (prs.map whAt)).drop n))) p4 = some (.lst (iv ((prs.map whAt).take n ++ (List.replicate mat.length 0).set i 1 ++ (prs.map whAt).drop n))) := by
        rw [upd_same]
        unfold iv
        rw [List.map_append, List.map_append, List.map_take, List.map_drop]
      have p4n : ∀ {b : Addr} {ob : HO}, H1 b = some ob → p4 ≠ b := fun {b ob} e z => by
        have q := (s5.trans (s7.trans (same_new (o := .lst ((iv (prs.map whAt)).drop n)) hp3))) _ _ e
        rw [← z, hp4] at q
        cases q
      generalize upd (upd H7' p3 (.lst ((iv (prs.map whAt)).drop n))) p4 (.lst ((iv (prs.map whAt)).take n ++ iv ((List.replicate mat.length 0).set i 1) ++ (iv (prs.map whAt)).drop n)) = H8' at s8' ep4 ⊢
      have n4L := p4n hls
      refine ⟨L, _, _, rfl, rfl, s8' _ _ hls, by rw [rv_len, lsl]; exact small1000 (by omega), ?_⟩
      refine ⟨⟨fun b ob hb e => ?_, ?_⟩, ⟨ls ++ [p4], ?_, ?_, fun z => ?_, fun z => ?_⟩, _, _, _, _, _, _, _, _, _, _, rfl⟩
      · rw [upd_ne (fun z => by rw [z, hL] at e; cases e)]
        exact s8' _ _ (kk _ _ hb e)
      · rw [upd_ne nLo.symm]
        exact s8' _ _ oo
      · rw [upd_same]
        unfold rv
        rw [List.map_append]
        rfl
      · rw [lR]
        exact (hlin.same s8').add (s8' _ _ hls) nl1 ep4 n4L _
      · rcases List.mem_append.mp z with z | z
        · exact nl1 z
        · exact n4L (List.mem_singleton.mp z).symm
      · rcases List.mem_append.mp z with z | z
        · exact nl2 z
        · exact p4n B1 (List.mem_singleton.mp z).symm
    · rintro σ H' ⟨⟨kk, oo⟩, ⟨ls, hls, hlin, nl1, nl2⟩, v4, v6, v7, v8, v9, v10, v11, v12, v13, v14, rfl⟩
      have nDL : D ≠ L := fun e => by
        rw [e, hL] at B9
        cases B9
      exact k H' ⟨dx, D, D6, D8, L, ls⟩ (K9.trans kk) rfl hDH ⟨oo, kk.there O9 B9 (noL _ _), kk.there O9 S9 (noL _ _), kk.there O9 G9 (noL _ _), hls, hlin, nD6, nD8, nDL, nl2⟩
end
end Fk

set_option Elab.async false
set_option maxRecDepth 100000
set_option maxHeartbeats 4000000
set_option exponentiation.threshold 20000
namespace Fk
open PySem L2
/-! ### check_entries; the three answers are made -/
theorem raise_ok {C : Addr} {names : List Str} {ws : List V} {H : Hp} {Q : XK} (hl : ws.length = names.length) (hz : ws.length ≤ 1000) (k : ∀ d H', H d = none → Same H H' → H' d = some (.xd (names.zip ws).reverse) → Q (.ref C) (some d) H') :
    ws.length ≤ 1000 ∧ ∀ a, H a = none → spIni C names (.ref a :: (ws ++ [])) (upd H a (exo a C none))
      (fun v H2 => v = .non ∧ ∃ (d : Addr) (fs : List (Str × V)), H2 a = some (exo a C (some d)) ∧ H2 d = some (exd d fs) ∧ H d = none ∧ Q (.ref C) (some d) (upd (L2.del H2 a) d (.xd fs))) (fun _ _ _ => False) := by
  refine ⟨hz, fun a ha => ⟨a, ws, by rw [List.append_nil], hl, upd_same, fun d H' hd hn hk h1 h2 => ⟨rfl, d, _, h1, h2, ?_, ?_⟩⟩⟩
  · exact (raised (fs := (names.zip ws).reverse) ha hd hk).1
  · have z := raised (fs := (names.zip ws).reverse) ha hd hk
    exact k d _ z.1 z.2.1 z.2.2
abbrev numFs : List Str := ["what", "number"]
def numD (v : V) : List (Str × V) := [("number", v), ("what", .str "entry")]
def Chk (K : PySem.W.Frag) (H : Hp) (xs : List V) : Option V → Prop
  | none => ∀ (i : Nat) (x : V), xs[i]? = some x → Val K H x true
  | some v => ∃ i, xs[i]? = some v ∧ Val K H v false ∧ ∀ (j : Nat) (x : V), j < i → xs[j]? = some x → Val K H x true
def Said (CN : Addr) (H : Hp) (Q : VK) (E : XK) : Option V → Prop
  | none => Q .non H
  | some v => ∀ d H', H d = none → Same H H' → H' d = some (.xd (numD v)) → E (.ref CN) (some d) H'
def spCheck (K : PySem.W.Frag) (CN : Addr) : Sp := fun vs H Q E => ∃ (l : Addr) (xs : List V) (r : Option V), vs = [.ref l] ∧ H l = some (.lst xs) ∧ Chk K H xs r ∧ Said CN H Q E r
abbrev sCheck : Stmt := top 11
section
variable {P : Program} {w : World} {K : PySem.W.Frag} {mg : Str → Option Value} {base : Heap}
theorem scCheck : FnScope ["entries", "value"] ["entries"] (defScope sCheck) := ⟨rfl, rfl, rfl, by decide +kernel, rfl, by decide +kernel, by decide +kernel⟩
theorem ok_check {f fI CN gN : Addr} {fd dI dN : FuncData} (F : Fun K "check_entries" "check_entries" sCheck f fd) (EN : Err P w K mg base "BadNumber" numFs CN gN dN) (IR : Cl P w K mg base "is_ratio" psv 2 (spIsRat K) fI dI) : FnOk P w K mg base (L2.CX P w) 3 f fd ["entries"] (spCheck K CN) := by
  refine F.okX scCheck (fun vs H Q E h => ?_) (fun cdv A outer s H vs Q E hr h => ?_)
  · obtain ⟨l, xs, r, rfl, _⟩ := h
    rfl
  · obtain ⟨l, xs, r, rfl, hl, hC, k⟩ := h
    refine ⟨_, pss_one (ps_for (passes_of rfl) rfl (pi_list (pv 0)) (pg_name (i := 1) scCheck.nd rfl (Or.inl rfl))
      (pss_one (ps_if (pt_not (pt_val (pe_call IR.G hr (by rfl) IR.g IR.kp IR.b .nil pass0 (pa_cons (pv 1) pa_nil))))
        (pss_one (ps_raise rfl (takes_of rfl rfl rfl rfl) (pmk_oex EN.ox EN.iC EN.tI EN.G (hr.mono (by decide)) EN.b .nil pass0 (by rfl) EN.g (pa_cons pe_str (pa_cons (pv 1) pa_nil))))) pss_nil))), ?_⟩
    refine ⟨_, rfl, l, rfl, ⟨_, SqL.of hl⟩, for_list (K := K) (a := l) (xs := xs) (fun i σ H' => H' = H ∧ (∀ v, r = some v → ∀ j x, j < i → xs[j]? = some x → x = v → Val K H x true) ∧ (match r with | none => True | some v => ∃ m, i ≤ m ∧ xs[m]? = some v ∧ Val K H v false ∧ ∀ (j : Nat) (x : V), j < m → xs[j]? = some x → Val K H x true) ∧ ∃ v : Option V, σ = [some (.ref l), v]) ⟨rfl, ?_, ?_, none, rfl⟩ (fun i σ H' _ ⟨e, _⟩ => e ▸ SqL.of hl) ?_ ?_⟩
    · exact fun v _ j x hj => absurd hj (by omega)
    · cases r with
      | none => trivial
      | some v =>
        obtain ⟨m, h1, h2, h3⟩ := hC
        exact ⟨m, Nat.zero_le _, h1, h2, h3⟩
    · rintro i x σ H' hx ⟨rfl, _, hm, v, rfl⟩
      cases r with
      | none =>
        refine ⟨_, rfl, x, true, rfl, hC i x hx, true, rfl, iteF ⟨rfl, (fun v e => nomatch e), trivial, some x, rfl⟩⟩
      | some v0 =>
        obtain ⟨m, im, h1, h2, h3⟩ := hm
        rcases Nat.lt_or_eq_of_le im with lt | rfl
        · refine ⟨_, rfl, x, true, rfl, h3 i x lt hx, true, rfl, iteF ⟨rfl, (fun v e j y hj hy _ => ?_), ⟨m, lt, h1, h2, h3⟩, some x, rfl⟩⟩
          exact h3 j y (by omega) hy
        · rw [hx] at h1
          cases h1
          refine ⟨_, rfl, x, false, rfl, h2, false, rfl, iteT ?_⟩
          exact ⟨_, rfl, raise_ok rfl (by show 2 ≤ 1000; decide) k⟩
    · rintro σ H' ⟨rfl, _, hm, v, rfl⟩
      cases r with
      | none => exact k
      | some v0 =>
        obtain ⟨m, im, h1, h2, h3⟩ := hm
        have := (List.getElem?_eq_some_iff.mp h1).1
        omega
/-! ### the three answers -/
abbrev sIReached : Stmt := inClass (top 16) 0
abbrev sIEndless : Stmt := inClass (top 17) 0
abbrev sINothing : Stmt := inClass (top 18) 0
abbrev reK : List Str := ["number", "spots", "weights"]
abbrev enK : List Str := ["spots", "run"]
abbrev noK : List Str := ["weights"]
def spIReached (K : PySem.W.Frag) (C : Addr) : Sp := fun vs H Q _ => ∃ (a dx s w : Addr) (n : V) (xs ys : List V), vs = [.ref a, n, .ref s, .ref w] ∧ H a = some (.ins C dx []) ∧ SqT K H s xs ∧ SqT K H w ys ∧ ∀ H', Keep a H H' → H' a = some (.ins C dx (reK.zip [n, .ref s, .ref w])) → Q .non H'
def spIEndless (K : PySem.W.Frag) (C : Addr) : Sp := fun vs H Q _ => ∃ (a dx s w : Addr) (xs ys : List V), vs = [.ref a, .ref s, .ref w] ∧ H a = some (.ins C dx []) ∧ SqT K H s xs ∧ SqT K H w ys ∧ ∀ H', Keep a H H' → H' a = some (.ins C dx (enK.zip [.ref s, .ref w])) → Q .non H'
def spINothing (K : PySem.W.Frag) (C : Addr) : Sp := fun vs H Q _ => ∃ (a dx s : Addr) (xs : List V), vs = [.ref a, .ref s] ∧ H a = some (.ins C dx []) ∧ SqT K H s xs ∧ ∀ H', Keep a H H' → H' a = some (.ins C dx (noK.zip [.ref s])) → Q .non H'
theorem sqt_keepA {K : PySem.W.Frag} {H H' : Hp} {t C dx a : Addr} {fs : List (Str × V)} {xs : List V} (k : Keep t H H') (ht : H t = some (.ins C dx fs)) (h : SqT K H a xs) : SqT K H' a xs := by
  rcases h with (h | ⟨o, h⟩) | h
  · exact .inl (.inl (k.there ht h (fun z => nomatch z)))
  · exact .inl (.inr ⟨o, k.there ht h (fun z => nomatch z)⟩)
  · exact .inr h
theorem scIReached : FnScope ["self", "number", "spots", "weights"] ["self", "number", "spots", "weights"] (defScope sIReached) := ⟨rfl, rfl, rfl, by decide +kernel, rfl, by decide +kernel, by decide +kernel⟩
theorem ok_ireached {f C : Addr} {fd : FuncData} (F : Fun K "__init__" "Reached.__init__" sIReached f fd) (T : VCls K C reK) (mt : mg "tuple" = none) : FnOk P w K mg base CX0 1 f fd ["self", "number", "spots", "weights"] (spIReached K C) := by
  refine F.ok scIReached (fun vs H Q E h => ?_) (fun cdv A outer s H vs Q E hr h => ?_)
  · obtain ⟨a, dx, s, w, n, xs, ys, rfl, _⟩ := h
    rfl
  · obtain ⟨a, dx, s, w, n, xs, ys, rfl, ha, hs, hw, k⟩ := h
    refine ⟨_, pss_cons (ps_fld (pv 0) (pv 1) rfl)
      (pss_cons (ps_fld (pv 0) (pe_callTy call_tuple_of (by rfl) mt (by decide +kernel) (pa_cons (pv 2) pa_nil)) rfl)
      (pss_one (ps_fld (pv 0) (pe_callTy call_tuple_of (by rfl) mt (by decide +kernel) (pa_cons (pv 3) pa_nil)) rfl))), ?_⟩
    refine ⟨_, rfl, _, rfl, a, C, dx, [], rfl, ha, T.cl, T.no _ (by decide +kernel), by show 0 < 1000; decide, ?_⟩
    refine ⟨_, rfl, s, xs, rfl, .inr ⟨sqt_keepA Keep.upd ha hs, ?_⟩⟩
    refine ⟨_, rfl, a, C, dx, _, rfl, upd_same, T.cl, T.no _ (by decide +kernel), by show 1 < 1000; decide, ?_⟩
    refine ⟨_, rfl, w, ys, rfl, .inr ⟨sqt_keepA (Keep.upd.trans Keep.upd) ha hw, ?_⟩⟩
    refine ⟨_, rfl, a, C, dx, _, rfl, upd_same, T.cl, T.no _ (by decide +kernel), by show 2 < 1000; decide, ?_⟩
    refine k _ (Keep.upd.trans (Keep.upd.trans Keep.upd)) ?_
    rw [upd_same]
    rfl
theorem scIEndless : FnScope ["self", "spots", "run"] ["self", "spots", "run"] (defScope sIEndless) := ⟨rfl, rfl, rfl, by decide +kernel, rfl, by decide +kernel, by decide +kernel⟩
theorem ok_iendless {f C : Addr} {fd : FuncData} (F : Fun K "__init__" "Endless.__init__" sIEndless f fd) (T : VCls K C enK) (mt : mg "tuple" = none) : FnOk P w K mg base CX0 1 f fd ["self", "spots", "run"] (spIEndless K C) := by
  refine F.ok scIEndless (fun vs H Q E h => ?_) (fun cdv A outer s H vs Q E hr h => ?_)
  · obtain ⟨a, dx, s, w, xs, ys, rfl, _⟩ := h
    rfl
  · obtain ⟨a, dx, s, w, xs, ys, rfl, ha, hs, hw, k⟩ := h
    refine ⟨_, pss_cons (ps_fld (pv 0) (pe_callTy call_tuple_of (by rfl) mt (by decide +kernel) (pa_cons (pv 1) pa_nil)) rfl)
      (pss_one (ps_fld (pv 0) (pe_callTy call_tuple_of (by rfl) mt (by decide +kernel) (pa_cons (pv 2) pa_nil)) rfl)), ?_⟩
    refine ⟨_, rfl, s, xs, rfl, .inr ⟨hs, ?_⟩⟩
    refine ⟨_, rfl, a, C, dx, _, rfl, ha, T.cl, T.no _ (by decide +kernel), by show 0 < 1000; decide, ?_⟩
    refine ⟨_, rfl, w, ys, rfl, .inr ⟨sqt_keepA Keep.upd ha hw, ?_⟩⟩
    refine ⟨_, rfl, a, C, dx, _, rfl, upd_same, T.cl, T.no _ (by decide +kernel), by show 1 < 1000; decide, ?_⟩
    refine k _ (Keep.upd.trans Keep.upd) ?_
    rw [upd_same]
    rfl
theorem scINothing : FnScope ["self", "weights"] ["self", "weights"] (defScope sINothing) := ⟨rfl, rfl, rfl, by decide +kernel, rfl, by decide +kernel, by decide +kernel⟩
theorem ok_inothing {f C : Addr} {fd : FuncData} (F : Fun K "__init__" "Nothing.__init__" sINothing f fd) (T : VCls K C noK) (mt : mg "tuple" = none) : FnOk P w K mg base CX0 1 f fd ["self", "weights"] (spINothing K C) := by
  refine F.ok scINothing (fun vs H Q E h => ?_) (fun cdv A outer s H vs Q E hr h => ?_)
  · obtain ⟨a, dx, s, xs, rfl, _⟩ := h
    rfl
  · obtain ⟨a, dx, s, xs, rfl, ha, hs, k⟩ := h
    refine ⟨_, pss_one (ps_fld (pv 0) (pe_callTy call_tuple_of (by rfl) mt (by decide +kernel) (pa_cons (pv 1) pa_nil)) rfl), ?_⟩
    refine ⟨_, rfl, s, xs, rfl, .inr ⟨hs, ?_⟩⟩
    refine ⟨_, rfl, a, C, dx, _, rfl, ha, T.cl, T.no _ (by decide +kernel), by show 0 < 1000; decide, ?_⟩
    refine k _ Keep.upd ?_
    rw [upd_same]
    rfl
end
end Fk

set_option Elab.async false
set_option maxRecDepth 100000
set_option maxHeartbeats 4000000
set_option exponentiation.threshold 20000
namespace Fk
open PySem L2
/-! ### greatest -/
structure CMk (P : Program) (w : World) (K : PySem.W.Frag) (mg : Str → Option Value) (base : Heap) (x : Str) (C : Addr) (ps : List Str) (k : Nat) (sp : Sp) (f : Addr) (fd : FuncData) : Prop where
  M : Mk K C f
  G : FnOk P w K mg base CX0 k f fd ("self" :: ps) sp
  g : mg x = some (.ref C)
  b : Binds K fd ("self" :: ps) []
inductive Res
  | nothing
  | endless
  | reached (x : Int × Int)
def costs1 (n m : Nat) : List Int := List.replicate n 0 ++ List.replicate m (-1)
def second (ws : List (Int × Int)) (post : Res → Prop) (t1 : Tb) (r : Option Nat) (t2 : Tb) : Prop :=
  (∃ B, Wf B t2 ∧ CostOk B t2 (costsF t1 ws) ∧ Bd B (shF (scaledF t1.many t1.scales ws))) ∧ (match r with
    | some c => c < t2.many ∧ post .endless
    | none => post (.reached (lowI (totF t2 (costsF t1 ws)) (t2.D * gi t2.scales t2.many * shF (scaledF t1.many t1.scales ws)))))
def first (n m : Nat) (ws : List (Int × Int)) (post : Res → Prop) (_ : Option Nat) (t1 : Tb) : Prop :=
  ∃ B, 1 ≤ B ∧ Wf B t1 ∧ CostOk B t1 (costs1 n m) ∧ (totF t1 (costs1 n m) < 0 → post .nothing) ∧ (¬ totF t1 (costs1 n m) < 0 → (∀ b ∈ t1.base, b < t1.many) ∧ (∀ x ∈ t1.scales, Bd 500 x) ∧ t1.many = n ∧ ∃ N2, Ends (costsF t1 ws) (second ws post t1) N2 t1)
def Great (mat : List (List (Int × Int))) (rgt ws : List (Int × Int)) (post : Res → Prop) : Prop := ∃ N, Ends (costs1 ws.length mat.length) (first ws.length mat.length ws post) N (initF mat rgt ws.length)
def First (K : PySem.W.Frag) (H : Hp) (rs : List Addr) : Option V → Prop
  | none => ∀ (i : Nat) (p : Addr), rs[i]? = some p → ∃ xs, H p = some (.lst xs) ∧ Chk K H xs none
  | some v => ∃ (i : Nat) (p : Addr) (xs : List V), rs[i]? = some p ∧ H p = some (.lst xs) ∧ Chk K H xs (some v) ∧ ∀ (j : Nat) (q : Addr), j < i → rs[j]? = some q → ∃ xs, H q = some (.lst xs) ∧ Chk K H xs none
def ResAt (CR CE CO : Addr) (H : Hp) (v : V) : Res → Prop
  | .nothing => ∃ a dx fl, v = .ref a ∧ H a = some (.ins CO dx fl)
  | .endless => ∃ a dx fl, v = .ref a ∧ H a = some (.ins CE dx fl)
  | .reached x => ∃ a dx s w p, v = .ref a ∧ H a = some (.ins CR dx (reK.zip [.ref p, .ref s, .ref w])) ∧ RatAt H p x
def spGreat (K : PySem.W.Frag) (CN CR CE CO : Addr) : Sp := fun vs H Q E => ∃ (rl rt wl : Addr) (rs : List Addr) (ys zs : List V), vs = [.ref rl, .ref rt, .ref wl] ∧ H rl = some (.lst (rv rs)) ∧ H rt = some (.lst ys) ∧ H wl = some (.lst zs) ∧
  ((∃ v, (First K H rs (some v) ∨ (First K H rs none ∧ Chk K H ys (some v)) ∨ (First K H rs none ∧ Chk K H ys none ∧ Chk K H zs (some v))) ∧ Said CN H Q E (some v)) ∨
   ∃ (qs ps : List Addr) (mat : List (List (Int × Int))) (rgt ws : List (Int × Int)) (post : Res → Prop), ys = rv qs ∧ zs = rv ps ∧ RowsAt2 H rs mat ∧ PairsAt H qs rgt ∧ PairsAt H ps ws ∧ rgt.length = mat.length ∧ mat.length ≤ 4 ∧ ws.length ≤ 8 ∧ (∀ r ∈ mat, r.length = ws.length ∧ ∀ x ∈ r, Lw x) ∧ (∀ x ∈ rgt, Lw x) ∧ (∀ x ∈ ws, Lw x) ∧
     Great mat rgt ws post ∧ ∀ res v H', post res → Same H H' → ResAt CR CE CO H' v res → Q v H')
theorem val_pair {K : PySem.W.Frag} {H : Hp} {p : Addr} {x : Int × Int} (h : RatAt H p x) (l : Lw x) : Val K H (.ref p) true := by
  have z : Val K H (.ref p) (decide (0 < x.2)) := .rat h
  rw [decide_eq_true l.p] at z
  exact z
theorem chk_pairs {K : PySem.W.Frag} {H : Hp} {ps : List Addr} {fs : List (Int × Int)} (h : PairsAt H ps fs) (l : ∀ x ∈ fs, Lw x) : Chk K H (rv ps) none := fun i x hx => by
  obtain ⟨p, y, rfl, hp, hy, hr⟩ := h.get hx
  exact val_pair hr (l y (List.mem_of_getElem? hy))
theorem first_rows {K : PySem.W.Frag} {H : Hp} {rs : List Addr} {mat : List (List (Int × Int))} (h : RowsAt2 H rs mat) (l : ∀ r ∈ mat, ∀ x ∈ r, Lw x) : First K H rs none := fun i p hp => by
  have hi : i < mat.length := by
    rw [← h.1]
    exact (List.getElem?_eq_some_iff.mp hp).1
  obtain ⟨ps, h1, h2⟩ := h.2 i p _ hp (gm_at hi)
  exact ⟨_, h1, chk_pairs h2 (l _ (gm_mem hi))⟩
structure GC (P : Program) (w : World) (K : PySem.W.Frag) (mg : Str → Option Value) (base : Heap) (CN CR CE CO C fCh fT fRa fTo fPr fDr fCo fRe fGr fIR fIE fIN : Addr) (dCh dT dRa dTo dPr dDr dCo dRe dGr dIR dIE dIN : FuncData) : Prop where
  T : TCls K C
  cg : mg "check_entries" = some (.ref fCh)
  ck : PySem.W.keepIn K (.ref fCh) = true
  cb : Binds K dCh ["entries"] []
  cG : FnOk P w K mg base (L2.CX P w) 3 fCh dCh ["entries"] (spCheck K CN)
  Tm : CMk P w K mg base "Tableau" C ["rows", "right", "many"] 3 (spInit C) fT dT
  Ra : MCl P w K mg base C "raise_to_top" ["costs"] 3 (spRaise C) fRa dRa
  To : MCl P w K mg base C "total" ["costs", "scale"] 2 (spTotal C) fTo dTo
  Pr : MCl P w K mg base C "prices" ["costs", "scale"] 2 (spPrices C) fPr dPr
  Dr : MCl P w K mg base C "drop_helpers" [] 1 (spDrop C) fDr dDr
  Co : MCl P w K mg base C "costs_of" ["worth"] 3 (spCosts C) fCo dCo
  Re : MCl P w K mg base C "reached" [] 2 (spReached C) fRe dRe
  Gr : MCl P w K mg base C "growth" ["column"] 2 (spGrowth C) fGr dGr
  IR : CMk P w K mg base "Reached" CR reK 1 (spIReached K CR) fIR dIR
  IE : CMk P w K mg base "Endless" CE enK 1 (spIEndless K CE) fIE dIE
  IN : CMk P w K mg base "Nothing" CO noK 1 (spINothing K CO) fIN dIN
theorem rep_all (x : Int) (n : Nat) : (List.replicate n [V.int x]).flatten = iv (List.replicate n x) := by
  unfold iv
  rw [List.map_replicate]
  induction n with
  | zero => rfl
  | succ n ih =>
    rw [List.replicate_succ, List.flatten_cons, ih, List.replicate_succ]
    rfl
theorem made_same {H H' : Hp} {x dx : Addr} {o : HO} (hx : H x = none) (hd : H dx = none) (k : Keep x (upd (upd H dx (.own x)) x o) H') : Same H H' := fun b ob e => k b ob (ne_of_none e hx) (by rw [upd_ne (ne_of_none e hx), upd_ne (ne_of_none e hd)]; exact e)
theorem made_up {H : Hp} {x dx : Addr} {o : HO} (hx : H x = none) (hd : H dx = none) : Same H (upd (upd H dx (.own x)) x o) := made_same hx hd (Keep.refl _ _)
theorem lowI_neg {a b : Int} (b0 : 0 < b) : (lowI a b).1 < 0 ↔ a < 0 := by
  have g0 := gcd_pos_int (a := a) b0
  obtain ⟨c, hc⟩ := gcd_dvd_int a b
  unfold lowI
  dsimp only
  generalize ((Nat.gcd a.natAbs b.natAbs : Nat) : Int) = g at g0 hc
  constructor
  · intro h
    by_cases a0 : a < 0
    · exact a0
    · have := Int.ediv_nonneg (show 0 ≤ a by omega) (show 0 ≤ g by omega)
      omega
  · intro h
    exact Int.ediv_neg_of_neg_of_pos h g0
abbrev sGreat : Stmt := top 19
section
variable {P : Program} {w : World} {K : PySem.W.Frag} {mg : Str → Option Value} {base : Heap}
abbrev nsGreat : List Str := ["rows", "right", "worth", "row", "many", "tableau", "costs", "scale", "column", "spots"]
theorem scGreat : FnScope nsGreat ["rows", "right", "worth"] (defScope sGreat) := ⟨rfl, rfl, rfl, by decide +kernel, rfl, by decide +kernel, by decide +kernel⟩
theorem ok_great {f CN CR CE CO C fCh fT fRa fTo fPr fDr fCo fRe fGr fIR fIE fIN : Addr} {fd dCh dT dRa dTo dPr dDr dCo dRe dGr dIR dIE dIN : FuncData} (F : Fun K "greatest" "greatest" sGreat f fd)
    (S : GC P w K mg base CN CR CE CO C fCh fT fRa fTo fPr fDr fCo fRe fGr fIR fIE fIN dCh dT dRa dTo dPr dDr dCo dRe dGr dIR dIE dIN) (ml : mg "len" = none) : FnOk P w K mg base (L2.CX P w) 5 f fd ["rows", "right", "worth"] (spGreat K CN CR CE CO) := by
  refine F.okX scGreat (fun vs H Q E h => ?_) (fun cdv A outer s H vs Q E hr h => ?_)
  · obtain ⟨rl, rt, wl, rs, ys, zs, rfl, _⟩ := h
    rfl
  · obtain ⟨rl, rt, wl, rs, ys, zs, rfl, hrl, hrt, hwl, hcase⟩ := h
    have hr3 := hr.mono (show 3 ≤ 4 by decide)
    have hr2 := hr.mono (show 2 ≤ 4 by decide)
    have hr1 := hr.mono (show 1 ≤ 4 by decide)
    refine ⟨_, pss_cons (ps_for (passes_of rfl) rfl (pi_list (pv 0)) (pg_name (i := 3) scGreat.nd rfl (Or.inl rfl)) (pss_one (ps_expr (pe_callS S.cG hr3 (by rfl) S.cg S.ck S.cb (passAt (takes_of rfl rfl rfl rfl)) (pa_cons (pv 3) pa_nil)))))
      (pss_cons (ps_expr (pe_callS S.cG hr3 (by rfl) S.cg S.ck S.cb (passAt (takes_of rfl rfl rfl rfl)) (pa_cons (pv 1) pa_nil)))
      (pss_cons (ps_expr (pe_callS S.cG hr3 (by rfl) S.cg S.ck S.cb (passAt (takes_of rfl rfl rfl rfl)) (pa_cons (pv 2) pa_nil)))
      (pss_cons (ps_set (i := 4) scGreat.nd rfl (Or.inl rfl) (pe_callB call_len_seq (by rfl) ml PySem.boot_len (pa_cons (pv 2) pa_nil)))
      (pss_cons (ps_set (i := 5) scGreat.nd rfl (Or.inl rfl) (pe_make S.Tm.M S.Tm.G hr (by rfl) S.Tm.g S.Tm.b .nil pass0 (pa_cons (pv 0) (pa_cons (pv 1) (pa_cons (pv 4) pa_nil)))))
      (pss_cons (ps_set (i := 6) scGreat.nd rfl (Or.inl rfl) (pe_op op_cat (pe_op op_rep (pe_lst (pa_cons pe_int pa_nil)) (pv 4)) (pe_op op_rep (pe_lst (pa_cons (pe_un un_neg pe_int) pa_nil)) (pe_callB call_len_seq (by rfl) ml PySem.boot_len (pa_cons (pv 0) pa_nil)))))
      (pss_cons (ps_expr (pe_meth (pv 5) S.T.cl S.Ra.m S.Ra.G hr3 S.Ra.b .nil pass0 (pa_cons (pv 6) pa_nil)))
      (pss_cons (ps_if (pt_cmpR op_lt (pe_ix ix_tup (pe_meth (pv 5) S.T.cl S.To.m S.To.G hr2 S.To.b .nil pass0 (pa_cons (pv 6) (pa_cons pe_int pa_nil))) pe_int (fun _ _ => rfl)) pe_int (nomark _))
          (pss_one (ps_ret (pe_make S.IN.M S.IN.G hr2 (by rfl) S.IN.g S.IN.b .nil pass0 (pa_cons (pe_meth (pv 5) S.T.cl S.Pr.m S.Pr.G hr2 S.Pr.b .nil pass0 (pa_cons (pv 6) (pa_cons pe_int pa_nil))) pa_nil)))) pss_nil)
      (pss_cons (ps_expr (pe_meth0 (pv 5) S.T.cl S.Dr.m S.Dr.G hr1 S.Dr.b .nil pass0))
      (pss_cons (ps_asg (pe_meth (pv 5) S.T.cl S.Co.m S.Co.G hr3 S.Co.b .nil pass0 (pa_cons (pv 2) pa_nil)) (pg_tup (by rfl) (pgs_cons (pg_name (i := 6) scGreat.nd rfl (Or.inl rfl)) (pgs_cons (pg_name (i := 7) scGreat.nd rfl (Or.inl rfl)) pgs_nil))))
      (pss_cons (ps_set (i := 8) scGreat.nd rfl (Or.inl rfl) (pe_meth (pv 5) S.T.cl S.Ra.m S.Ra.G hr3 S.Ra.b .nil pass0 (pa_cons (pv 6) pa_nil)))
      (pss_cons (ps_set (i := 9) scGreat.nd rfl (Or.inl rfl) (pe_meth0 (pv 5) S.T.cl S.Re.m S.Re.G hr2 S.Re.b .nil pass0))
      (pss_cons (ps_if (pt_cmpR op_notN (pv 8) pe_non (nomark _)) (pss_one (ps_ret (pe_make S.IE.M S.IE.G hr2 (by rfl) S.IE.g S.IE.b .nil pass0 (pa_cons (pv 9) (pa_cons (pe_meth (pv 5) S.T.cl S.Gr.m S.Gr.G hr2 S.Gr.b .nil pass0 (pa_cons (pv 8) pa_nil)) pa_nil))))) pss_nil)
      (pss_one (ps_ret (pe_make S.IR.M S.IR.G hr2 (by rfl) S.IR.g S.IR.b .nil pass0 (pa_cons (pe_meth (pv 5) S.T.cl S.To.m S.To.G hr2 S.To.b .nil pass0 (pa_cons (pv 6) (pa_cons (pv 7) pa_nil)))
        (pa_cons (pv 9) (pa_cons (pe_meth (pv 5) S.T.cl S.Pr.m S.Pr.G hr2 S.Pr.b .nil pass0 (pa_cons (pv 6) (pa_cons (pv 7) pa_nil))) pa_nil)))))))))))))))))), ?_⟩
    have nn : ∀ {x : Str}, x ∉ tbK → ∀ (a : Ad) (t : Tb), (tbK.zip (tbV a t)).lookup x = none := fun hx a t => tb_not a t hx
    obtain ⟨r, hF, rest⟩ : ∃ r, First K H rs r ∧ (match r with
        | some v => Said CN H Q E (some v)
        | none => (∃ v, ((Chk K H ys (some v)) ∨ (Chk K H ys none ∧ Chk K H zs (some v))) ∧ Said CN H Q E (some v)) ∨
          ∃ (qs ps : List Addr) (mat : List (List (Int × Int))) (rgt ws : List (Int × Int)) (post : Res → Prop), ys = rv qs ∧ zs = rv ps ∧ RowsAt2 H rs mat ∧ PairsAt H qs rgt ∧ PairsAt H ps ws ∧ rgt.length = mat.length ∧ mat.length ≤ 4 ∧ ws.length ≤ 8 ∧ (∀ r ∈ mat, r.length = ws.length ∧ ∀ x ∈ r, Lw x) ∧ (∀ x ∈ rgt, Lw x) ∧ (∀ x ∈ ws, Lw x) ∧
            Great mat rgt ws post ∧ ∀ res v H', post res → Same H H' → ResAt CR CE CO H' v res → Q v H') := by
      rcases hcase with ⟨v, (z | ⟨z1, z2⟩ | ⟨z1, z2, z3⟩), sd⟩ | good
      · exact ⟨some v, z, sd⟩
      · exact ⟨none, z1, .inl ⟨v, .inl z2, sd⟩⟩
      · exact ⟨none, z1, .inl ⟨v, .inr ⟨z2, z3⟩, sd⟩⟩
      · refine ⟨none, ?_, .inr good⟩
        obtain ⟨qs, ps, mat, rgt, ws, post, _, _, hm, _, _, _, _, _, hl, _⟩ := good
        exact first_rows hm fun r hr x hx => (hl r hr).2 x hx
    refine ⟨_, rfl, rl, rfl, ⟨_, SqL.of hrl⟩, for_list (K := K) (a := rl) (xs := rv rs) (fun i σ H' => H' = H ∧ (match r with
        | none => True
        | some v => ∃ (m : Nat) (p : Addr) (xs : List V), i ≤ m ∧ rs[m]? = some p ∧ H p = some (.lst xs) ∧ Chk K H xs (some v) ∧ ∀ (j : Nat) (q : Addr), j < m → rs[j]? = some q → ∃ xs, H q = some (.lst xs) ∧ Chk K H xs none) ∧
      ∃ v : Option V, σ = [some (.ref rl), some (.ref rt), some (.ref wl), v, none, none, none, none, none, none]) ⟨rfl, ?_, none, rfl⟩ (fun i σ H' _ ⟨e, _⟩ => e ▸ SqL.of hrl) ?_ ?_⟩
    · cases r with
      | none => trivial
      | some v =>
        obtain ⟨m, p, xs, h1, h2, h3, h4⟩ := hF
        exact ⟨m, p, xs, Nat.zero_le _, h1, h2, h3, h4⟩
    · rintro i x σ H' hx ⟨rfl, hm, v, rfl⟩
      obtain ⟨p, hp, rfl⟩ : ∃ p, rs[i]? = some p ∧ x = .ref p := by
        unfold rv at hx
        rw [List.getElem?_map] at hx
        cases e : rs[i]? with
        | none =>
          rw [e] at hx
          cases hx
        | some u =>
          rw [e] at hx
          exact ⟨u, rfl, (Option.some.inj hx).symm⟩
      cases r with
      | none =>
        obtain ⟨xs, h1, h2⟩ := hF i p hp
        exact ⟨_, rfl, p, xs, none, rfl, h1, h2, rfl, trivial, some (.ref p), rfl⟩
      | some v0 =>
        obtain ⟨m, p2, xs, im, h1, h2, h3, h4⟩ := hm
        rcases Nat.lt_or_eq_of_le im with lt | rfl
        · obtain ⟨xs2, h5, h6⟩ := h4 i p lt hp
          exact ⟨_, rfl, p, xs2, none, rfl, h5, h6, rfl, ⟨m, p2, xs, lt, h1, h2, h3, h4⟩, some (.ref p), rfl⟩
        · rw [hp] at h1
          cases h1
          exact ⟨_, rfl, p, xs, some v0, rfl, h2, h3, rest⟩
    rintro σ H' ⟨rfl, hm, v, rfl⟩
    cases r with
    | some v0 =>
      obtain ⟨m, p2, xs, im, h1, _⟩ := hm
      have := (List.getElem?_eq_some_iff.mp h1).1
      rw [rv_len] at im
      omega
    | none =>
    rcases rest with ⟨v0, (z | ⟨z1, z2⟩), sd⟩ | good
    · exact ⟨_, rfl, rt, ys, some v0, rfl, hrt, z, sd⟩
    · exact ⟨_, rfl, rt, ys, none, rfl, hrt, z1, _, rfl, wl, zs, some v0, rfl, hwl, z2, sd⟩
    obtain ⟨qs, ps, mat, rgt, ws, post, rfl, rfl, hm2, hq2, hp2, lr, m4, n8, hmat, hrgt, hws, ⟨N, hE⟩, k⟩ := good
    refine ⟨_, rfl, rt, _, none, rfl, hrt, chk_pairs hq2 hrgt, _, rfl, wl, _, none, rfl, hwl, chk_pairs hp2 hws, ?_⟩
    refine ⟨_, rfl, wl, _, rfl, .inl (SqL.of hwl), ?_⟩
    rw [rv_len, hp2.1]
    -- the tableau
    refine ⟨_, rfl, _, rfl, _, rfl, fun o dxo ho hdo hne => ?_⟩
    have u1 := made_up (o := .ins C dxo []) ho hdo
    refine ⟨o, dxo, rl, rt, ws.length, rs, qs, mat, rgt, rfl, upd_same, u1 _ _ hrl, hm2.same u1, u1 _ _ hrt, hq2.same u1, lr, m4, n8, hmat, hrgt, fun H2 a kk hdx hab hT => ⟨rfl, ?_⟩⟩
    have s2 : Same H' H2 := made_same ho hdo kk
    have hab' : H' a.b = none := u1.free hab
    clear kk u1 hab
    -- costs
    refine ⟨by show 1 ≤ sizeLine; decide, fun z1 hz1 => ?_⟩
    have s3 := same_new (o := .lst [.int 0]) hz1
    have e3 : (upd H2 z1 (.lst [.int 0])) z1 = some (.lst [.int 0]) := upd_same
    generalize upd H2 z1 (.lst [.int 0]) = H3 at s3 e3 ⊢
    refine ⟨_, rfl, z1, _, _, rfl, rfl, e3, by omega, by omega, ?_, fun z2 hz2 => ?_⟩
    · rw [List.length_singleton, Int.toNat_natCast, Nat.one_mul]
      exact Nat.le_trans (Nat.le_trans n8 (by decide)) (show 1000 ≤ sizeLine by decide)
    rw [Int.toNat_natCast, rep_all]
    have s4 := s3.trans (same_new (o := .lst (iv (List.replicate ws.length 0))) hz2)
    have e4 : (upd H3 z2 (.lst (iv (List.replicate ws.length 0)))) z2 = some (.lst (iv (List.replicate ws.length 0))) := upd_same
    generalize upd H3 z2 (.lst (iv (List.replicate ws.length 0))) = H4 at s4 e4 ⊢
    refine ⟨1, rfl, by show 1 ≤ sizeLine; decide, fun z3 hz3 => ?_⟩
    have s5 := s4.trans (same_new (o := .lst [.int (-1)]) hz3)
    have e4' := (same_new (o := .lst [.int (-1)]) hz3) _ _ e4
    have e5 : (upd H4 z3 (.lst [.int (-1)])) z3 = some (.lst [.int (-1)]) := upd_same
    generalize upd H4 z3 (.lst [.int (-1)]) = H5 at s5 e4' e5 ⊢
    refine ⟨_, rfl, rl, _, rfl, .inl (SqL.of ((s2.trans s5) _ _ hrl)), ?_⟩
    rw [rv_len, hm2.1]
    refine ⟨z3, _, _, rfl, rfl, e5, by omega, by omega, ?_, fun z4 hz4 => ?_⟩
    · rw [List.length_singleton, Int.toNat_natCast, Nat.one_mul]
      exact Nat.le_trans (Nat.le_trans m4 (by decide)) (show 1000 ≤ sizeLine by decide)
    rw [Int.toNat_natCast, rep_all]
    have s6 := s5.trans (same_new (o := .lst (iv (List.replicate mat.length (-1)))) hz4)
    refine ⟨z2, z4, _, _, rfl, rfl, (same_new hz4) _ _ e4', upd_same, ?_, fun c hc => ?_⟩
    · rw [iv_len, iv_len, List.length_replicate, List.length_replicate]
      exact Nat.le_trans (show _ ≤ 1000 by omega) (show 1000 ≤ sizeLine by decide)
    have ea : iv (List.replicate ws.length 0) ++ iv (List.replicate mat.length (-1)) = iv (costs1 ws.length mat.length) := by
      unfold costs1 iv
      rw [List.map_append]
    rw [ea]
    have s7 := s6.trans (same_new (o := .lst (iv (costs1 ws.length mat.length))) hc)
    have ec : (upd (upd H5 z4 (.lst (iv (List.replicate mat.length (-1))))) c (.lst (iv (costs1 ws.length mat.length)))) c = some (.lst (iv (costs1 ws.length mat.length))) := upd_same
    have ncb : c ≠ a.b := fun e => by
      have := s6 _ _ hT.b
      rw [← e, hc] at this
      cases this
    generalize upd (upd H5 z4 (.lst (iv (List.replicate mat.length (-1))))) c (.lst (iv (costs1 ws.length mat.length))) = H6 at s7 ec ⊢
    have hT6 := hT.same s7
    have s26 := s2.trans s7
    -- the first time
    refine ⟨_, rfl, o, a.dx, _, rfl, hT6.o, nn (by decide +kernel) a _, _, rfl, o, c, a, _, _, N, _, rfl, hT6, ec, ncb, hE, fun r7 H7 a7 t1 kp7 eb7 hT7 hP => ?_⟩
    have nco : c ≠ o := ne_of ec hT6.o (fun z => nomatch z)
    have c7 := kp7.cons nco ncb ec
    have s27 : Same H' H7 := fun b ob e => kp7.cons (ne_of_none e ho) (ne_of_none e hab') (s26 _ _ e)
    obtain ⟨B, b1, W, hC, hneg, hpos⟩ := hP
    have oneB : Bd B 1 := one_bd.mono b1
    refine ⟨_, rfl, o, a7.dx, _, rfl, hT7.o, nn (by decide +kernel) a7 _, _, rfl, o, c, a7, t1, _, B, 1, rfl, hT7, W, c7, hC, by decide, oneB, fun p8 H8 s8 hp8 => ?_⟩
    have hsl : t1.many < t1.scales.length := by rw [W.sl]; omega
    have den : 0 < t1.D * gi t1.scales t1.many * 1 := Int.mul_pos (Int.mul_pos W.d0 (W.sb _ (gi_mem hsl)).1) (by decide)
    refine ⟨p8, _, 0, _, rfl, rfl, .inl (.inl hp8), rfl, _, _, rfl, rfl, _, rfl, ite2 (fun hg => ?_) (fun hg => ?_)⟩
    · have neg := (lowI_neg den).mp (of_decide_eq_true hg)
      refine ⟨_, rfl, o, a7.dx, _, rfl, (hT7.same s8).o, nn (by decide +kernel) a7 _, _, rfl, o, c, a7, t1, _, B, 1, rfl, hT7.same s8, W, s8 _ _ c7, hC, by decide, oneB, fun p9 xs9 H9 s9 hp9 => ?_⟩
      intro x dx hx hdx _
      refine ⟨x, dx, p9, xs9, rfl, upd_same, .inl (.inl ((made_up hx hdx) _ _ hp9)), fun H10 k10 h10 => ⟨rfl, ?_⟩⟩
      exact k .nothing (.ref x) H10 (hneg neg) (s27.trans (s8.trans (s9.trans (made_same hx hdx k10)))) ⟨x, dx, _, rfl, h10⟩
    · have nneg : ¬ totF t1 (costs1 ws.length mat.length) < 0 := fun z => hg (decide_eq_true ((lowI_neg den).mpr z))
      obtain ⟨hb, hs5, hmn, N2, hE2⟩ := hpos nneg
      have hT8 := hT7.same s8
      have s28 := s27.trans s8
      refine ⟨_, rfl, o, a7.dx, _, rfl, hT8.o, nn (by decide +kernel) a7 _, o, a7, t1, B, rfl, hT8, W, hb, ?_⟩
      refine ⟨_, rfl, o, a7.dx, _, rfl, hT8.o, nn (by decide +kernel) a7 _, _, rfl, o, wl, a7, t1, B, ps, ws, rfl, hT8, W, hs5, s28 _ _ hwl, hp2.same s28, hmn.symm, hws, fun p9 c2 H9 s9 hp9 hc9 nc9 => ?_⟩
      refine ⟨p9, _, rfl, .inl (.inl hp9), rfl, _, _, rfl, _, _, rfl, rfl, ?_⟩
      have hT9 := hT8.same s9
      have s29 := s28.trans s9
      have ncb2 : c2 ≠ a7.b := fun e => by
        have := hT8.b
        rw [← e, nc9] at this
        cases this
      have nco2 : c2 ≠ o := ne_of hc9 hT9.o (fun z => nomatch z)
      refine ⟨_, rfl, o, a7.dx, _, rfl, hT9.o, nn (by decide +kernel) a7 _, _, rfl, o, c2, a7, t1, _, N2, _, rfl, hT9, hc9, ncb2, hE2, fun rr H10 a10 t2 kp10 eb10 hT10 hP2 => ?_⟩
      have c10 := kp10.cons nco2 ncb2 hc9
      have s210 : Same H' H10 := fun b ob e => kp10.cons (ne_of_none e ho) (fun z => by
        have q := s29 _ _ e
        exact ne_of_none e hab' (z.trans eb7)) (s29 _ _ e)
      obtain ⟨⟨B2, W2, hC2, hSB⟩, hres⟩ := hP2
      have S0 : 0 < shF (scaledF t1.many t1.scales ws) := (shF_facts (scaledF t1.many t1.scales ws) 1 (by decide) fun x hx => by
        obtain ⟨j, hj, rfl⟩ := scaled_mem hx
        exact (hws _ (gp_mem (show j < ws.length by omega))).p).1
      refine ⟨_, rfl, o, a10.dx, _, rfl, hT10.o, nn (by decide +kernel) a10 _, o, a10, t2, B2, rfl, hT10, W2, fun p11 xs11 H11 s11 hp11 => ?_⟩
      have hT11 := hT10.same s11
      cases rr with
      | some cc =>
        obtain ⟨hcc, hend⟩ := hres
        refine ⟨_, rfl, rfl, _, rfl, iteT ?_⟩
        refine ⟨_, rfl, _, rfl, o, a10.dx, _, rfl, hT11.o, nn (by decide +kernel) a10 _, _, rfl, o, a10, t2, B2, cc, rfl, hT11, W2, hcc, fun p12 xs12 H12 s12 hp12 => ?_⟩
        intro x dx hx hdx _
        have up := made_up (o := .ins CE dx []) hx hdx
        refine ⟨x, dx, p11, p12, xs11, xs12, rfl, upd_same, .inl (.inl (up _ _ (s12 _ _ hp11))), .inl (.inl (up _ _ hp12)), fun H13 k13 h13 => ⟨rfl, ?_⟩⟩
        exact k .endless (.ref x) H13 hend (s210.trans (s11.trans (s12.trans (made_same hx hdx k13)))) ⟨x, dx, _, rfl, h13⟩
      | none =>
        refine ⟨_, rfl, rfl, _, rfl, iteF ?_⟩
        refine ⟨_, rfl, o, a10.dx, _, rfl, hT11.o, nn (by decide +kernel) a10 _, _, rfl, _, rfl, o, c2, a10, t2, _, B2, _, rfl, hT11, W2, s11 _ _ c10, hC2, S0, hSB, fun p12 H12 s12 hp12 => ?_⟩
        have hT12 := hT11.same s12
        refine ⟨_, rfl, _, rfl, o, a10.dx, _, rfl, hT12.o, nn (by decide +kernel) a10 _, _, rfl, _, rfl, o, c2, a10, t2, _, B2, _, rfl, hT12, W2, s12 _ _ (s11 _ _ c10), hC2, S0, hSB, fun p13 xs13 H13 s13 hp13 => ?_⟩
        intro x dx hx hdx _
        have up := made_up (o := .ins CR dx []) hx hdx
        refine ⟨x, dx, p11, p13, .ref p12, xs11, xs13, rfl, upd_same, .inl (.inl (up _ _ (s13 _ _ (s12 _ _ hp11)))), .inl (.inl (up _ _ hp13)), fun H14 k14 h14 => ⟨rfl, ?_⟩⟩
        have sx := made_same hx hdx k14
        exact k (.reached _) (.ref x) H14 hres (s210.trans (s11.trans (s12.trans (s13.trans sx)))) ⟨x, dx, p11, p13, p12, rfl, h14, sx _ _ (s13 _ _ hp12)⟩
end
end Fk

set_option Elab.async false
set_option maxRecDepth 100000
set_option maxHeartbeats 4000000
set_option exponentiation.threshold 20000
namespace Fk
open PySem L2
/-! ### mathematics of tableaus of one row and of two -/
theorem Wf.mono {B B' : Nat} {t : Tb} (W : Wf B t) (h : B ≤ B') (h2 : B' ≤ 3000) : Wf B' t :=
  ⟨h2, W.n1, W.m1, W.bl, W.sl, W.gl, W.ll, W.bb, fun r hr x hx => (W.lb r hr x hx).mono h, fun x hx => ⟨(W.sb x hx).1, (W.sb x hx).2.mono h⟩, fun x hx => (W.gb x hx).mono h, W.d0, W.db.mono h⟩
theorem gi_app1 {xs ys : List Int} {i : Nat} (h : i < xs.length) : gi (xs ++ ys) i = gi xs i := by
  unfold gi
  rw [List.getD_eq_getElem?_getD, List.getD_eq_getElem?_getD, List.getElem?_append_left h]
theorem gi_app2 {xs ys : List Int} {i : Nat} (h : xs.length ≤ i) : gi (xs ++ ys) i = gi ys (i - xs.length) := by
  unfold gi
  rw [List.getD_eq_getElem?_getD, List.getD_eq_getElem?_getD, List.getElem?_append_right h]
theorem gi_take {xs : List Int} {i n : Nat} (h : i < n) : gi (xs.take n) i = gi xs i := by
  unfold gi
  rw [List.getD_eq_getElem?_getD, List.getD_eq_getElem?_getD, List.getElem?_take, if_pos h]
theorem gi_drop {xs : List Int} {i n : Nat} : gi (xs.drop n) i = gi xs (n + i) := by
  unfold gi
  rw [List.getD_eq_getElem?_getD, List.getD_eq_getElem?_getD, List.getElem?_drop]
theorem gi_rep {x : Int} {i n : Nat} (h : i < n) : gi (List.replicate n x) i = x := by
  unfold gi
  rw [List.getD_eq_getElem?_getD, List.getElem?_replicate, if_pos h]
  rfl
theorem gi_map {f : Nat → Int} {i n : Nat} (h : i < n) : gi ((List.range n).map f) i = f i := by
  unfold gi
  rw [List.getD_eq_getElem?_getD, List.getElem?_map, List.getElem?_range h]
  rfl
theorem costs1_a {n m j : Nat} (h : j < n) : gi (costs1 n m) j = 0 := by
  unfold costs1
  rw [gi_app1 (by rw [List.length_replicate]; exact h), gi_rep h]
theorem costs1_b {n m j : Nat} (h : j < m) : gi (costs1 n m) (n + j) = -1 := by
  unfold costs1
  rw [gi_app2 (by rw [List.length_replicate]; omega), List.length_replicate, show n + j - n = j by omega, gi_rep h]
theorem costs1_len (n m : Nat) : (costs1 n m).length = n + m := by
  unfold costs1
  rw [List.length_append, List.length_replicate, List.length_replicate]
theorem costs1_ok {B : Nat} {t : Tb} {n m : Nat} (h1 : t.many = n) (h2 : t.lines.length = m) (hB : 1 ≤ B) : CostOk B t (costs1 n m) := by
  refine ⟨by rw [costs1_len, h1, h2], fun x hx => ?_⟩
  refine Bd.mono (A := 1) ?_ hB
  unfold costs1 at hx
  rcases List.mem_append.mp hx with z | z
  · rw [(List.mem_replicate.mp z).2]
    unfold Bd
    decide
  · rw [(List.mem_replicate.mp z).2]
    unfold Bd
    decide
/-! lines as they are made -/
section
variable {E : List (List (Int × Int))} {scs sgs : List Int} {n m k : Nat}
theorem wholeL_len : (wholeL E scs sgs n k).length = n + 1 := by
  unfold wholeL
  rw [List.length_map, List.length_range]
theorem wholeL_at {j : Nat} (h : j < n + 1) : gi (wholeL E scs sgs n k) j = whAt (prAt E scs sgs k j) := gi_map h
theorem lineF_len : (lineF E scs sgs n m k).length = n + m + 1 := by
  unfold lineF
  rw [List.length_append, List.length_append, List.length_take, List.length_drop, List.length_set, List.length_replicate, wholeL_len]
  omega
theorem lineF_a {j : Nat} (h : j < n) : gi (lineF E scs sgs n m k) j = whAt (prAt E scs sgs k j) := by
  unfold lineF
  rw [gi_app1 (by rw [List.length_append, List.length_take, wholeL_len]; omega), gi_app1 (by rw [List.length_take, wholeL_len]; omega), gi_take h, wholeL_at (by omega)]
theorem lineF_r : gi (lineF E scs sgs n m k) (n + m) = whAt (prAt E scs sgs k n) := by
  unfold lineF
  rw [gi_app2 (by rw [List.length_append, List.length_take, List.length_set, List.length_replicate, wholeL_len]; omega), gi_drop, wholeL_at (by rw [List.length_append, List.length_take, List.length_set, List.length_replicate, wholeL_len]; omega)]
  congr 2
  rw [List.length_append, List.length_take, List.length_set, List.length_replicate, wholeL_len]
  omega
theorem lineF_h {j : Nat} (h : j < m) : gi (lineF E scs sgs n m k) (n + j) = if j = k then 1 else 0 := by
  unfold lineF
  rw [gi_app1 (by rw [List.length_append, List.length_take, List.length_set, List.length_replicate, wholeL_len]; omega), gi_app2 (by rw [List.length_take, wholeL_len]; omega)]
  have e : n + j - (List.take n (wholeL E scs sgs n k)).length = j := by
    rw [List.length_take, wholeL_len]
    omega
  rw [e]
  unfold gi
  rw [List.getD_eq_getElem?_getD, List.getElem?_set]
  by_cases hk : k = j
  · rw [if_pos hk, if_pos hk.symm, if_pos (by rw [List.length_replicate, hk]; exact h)]
    rfl
  · rw [if_neg hk, if_neg (fun z => hk z.symm), List.getElem?_replicate, if_pos h]
    rfl
theorem lineF_mem {B : Nat} (hB : 1 ≤ B) (h : ∀ j, j < n + 1 → Bd B (whAt (prAt E scs sgs k j))) : ∀ x ∈ lineF E scs sgs n m k, Bd B x := fun x hx => by
  have w1 : ∀ y ∈ wholeL E scs sgs n k, Bd B y := fun y hy => by
    obtain ⟨j, hj, e⟩ := List.mem_map.mp hy
    rw [← e]
    exact h j (List.mem_range.mp hj)
  unfold lineF at hx
  rcases List.mem_append.mp hx with z | z
  · rcases List.mem_append.mp z with z | z
    · exact w1 x (List.mem_of_mem_take z)
    · rcases List.mem_or_eq_of_mem_set z with z | z
      · rw [(List.mem_replicate.mp z).2]
        refine Bd.mono (A := 1) ?_ hB
        unfold Bd
        decide
      · rw [z]
        exact one_bd.mono hB
  · exact w1 x (List.mem_of_mem_drop z)
end
theorem entF_mem {mat : List (List (Int × Int))} {rgt : List (Int × Int)} {n : Nat} (lr : rgt.length = mat.length) (hmat : ∀ r ∈ mat, r.length = n ∧ ∀ x ∈ r, Lw x) (hrgt : ∀ x ∈ rgt, Lw x) : ∀ r ∈ entF mat rgt, r.length = n + 1 ∧ ∀ x ∈ r, Lw x := fun r hr => by
  obtain ⟨j, hj, e⟩ := List.mem_map.mp hr
  have hj' := List.mem_range.mp hj
  obtain ⟨l1, l2⟩ := hmat _ (gm_mem hj')
  rw [← e]
  unfold entAt
  refine ⟨by rw [List.length_append, l1]; rfl, fun x hx => ?_⟩
  rcases List.mem_append.mp hx with z | z
  · exact l2 x z
  · rw [List.mem_singleton.mp z]
    exact hrgt _ (gp_mem (by omega))
theorem scF_ok {E : List (List (Int × Int))} {n : Nat} (m4 : E.length ≤ 4) (rE : ∀ r ∈ E, r.length = n + 1 ∧ ∀ x ∈ r, Lw x) : ∀ x ∈ scF E n, 0 < x ∧ Bd 401 x := fun x hx => by
  obtain ⟨j, hj, e⟩ := List.mem_map.mp hx
  have hj' := List.mem_range.mp hj
  have colA : ∀ x ∈ colF E j, 0 < x.2 ∧ Bd 100 x.2 := fun x hx => by
    obtain ⟨r, hr, e⟩ := List.mem_map.mp hx
    rw [← e]
    have lw := (rE r hr).2 _ (gp_mem (show j < r.length by rw [(rE r hr).1]; exact hj'))
    exact ⟨lw.p, lw.b2⟩
  rw [← e]
  refine ⟨(shF_facts (colF E j) 1 (by decide) fun x hx => (colA x hx).1).1, (shF_bd (b := 100) (colF E j) 1 1 (by decide) one_bd colA).mono ?_⟩
  unfold colF
  rw [List.length_map]
  omega
theorem wf_init {mat : List (List (Int × Int))} {rgt : List (Int × Int)} {n : Nat} (lr : rgt.length = mat.length) (m4 : mat.length ≤ 4) (n8 : n ≤ 8) (hmat : ∀ r ∈ mat, r.length = n ∧ ∀ x ∈ r, Lw x) (hrgt : ∀ x ∈ rgt, Lw x) : Wf 600 (initF mat rgt n) := by
  have rE := entF_mem lr hmat hrgt
  have lE : (entF mat rgt).length = mat.length := by
    unfold entF
    rw [List.length_map, List.length_range]
  have lsc : (scF (entF mat rgt) n).length = n + 1 := by
    unfold scF
    rw [List.length_map, List.length_range]
  have lsg : (sgF (entF mat rgt) n).length = mat.length := by
    unfold sgF
    rw [List.length_map, lE]
  have sB := scF_ok (by omega) rE
  have gB : ∀ x ∈ sgF (entF mat rgt) n, Bd 1 x := fun x hx => by
    obtain ⟨r, _, e⟩ := List.mem_map.mp hx
    rw [← e]
    exact sg_bd n r
  have ll : (initF mat rgt n).lines.length = mat.length := by
    show ((List.range mat.length).map _).length = _
    rw [List.length_map, List.length_range]
  refine ⟨by decide, n8, by rw [ll]; exact m4, ?_, lsc, by rw [ll]; exact lsg, fun r hr => ?_, fun b hb => ?_, fun r hr x hx => ?_, fun x hx => ⟨(sB x hx).1, (sB x hx).2.mono (by decide)⟩, fun x hx => (gB x hx).mono (by decide), (by decide : (0 : Int) < 1), one_bd.mono (by decide)⟩
  · rw [ll]
    show ((List.range mat.length).map _).length = _
    rw [List.length_map, List.length_range]
  · rw [ll]
    obtain ⟨k, hk, e⟩ := List.mem_map.mp hr
    rw [← e, lineF_len]
    rfl
  · rw [ll]
    obtain ⟨k, hk, e⟩ := List.mem_map.mp hb
    have := List.mem_range.mp hk
    rw [← e]
    show n + k < n + mat.length
    omega
  · obtain ⟨k, hk, e⟩ := List.mem_map.mp hr
    have hk' := List.mem_range.mp hk
    rw [← e] at hx
    refine lineF_mem (by decide) (fun j hj => ?_) x hx
    obtain ⟨l1, l2⟩ := rE _ (gm_mem (show k < (entF mat rgt).length by omega))
    have lw := l2 _ (gp_mem (show j < _ by rw [l1]; exact hj))
    exact (lw.b1.mulB (ediv_bd (((sB _ (gi_mem (show j < _ by rw [lsc]; exact hj))).2.mulB (gB _ (gi_mem (show k < _ by rw [lsg]; exact hk'))))))).mono (by decide)
end Fk

set_option Elab.async false
set_option maxRecDepth 100000
set_option maxHeartbeats 4000000
set_option exponentiation.threshold 20000
namespace Fk
open PySem L2
/-! ### one row -/
theorem sh1 (x : Int × Int) : shF [x] = x.2 := by
  show shStep 1 x = x.2
  unfold shStep
  have e : Nat.gcd (1 : Int).natAbs x.2.natAbs = 1 := Nat.gcd_one_left _
  rw [e]
  show (1 : Int) / 1 * x.2 = x.2
  rw [Int.ediv_one, Int.one_mul]
theorem gp_app1 {xs ys : List (Int × Int)} {i : Nat} (h : i < xs.length) : gp (xs ++ ys) i = gp xs i := by
  unfold gp
  rw [List.getD_eq_getElem?_getD, List.getD_eq_getElem?_getD, List.getElem?_append_left h]
theorem gp_last {xs : List (Int × Int)} {y : Int × Int} : gp (xs ++ [y]) xs.length = y := by
  unfold gp
  rw [List.getD_eq_getElem?_getD, List.getElem?_append_right (Nat.le_refl _), Nat.sub_self]
  rfl
/-- the table of one row, solved for b -/
def T1 (n : Nat) (scs sgs line : List Int) (b : Nat) (D : Int) : Tb := { many := n, D := D, base := [b], scales := scs, signs := sgs, lines := [line] }
theorem T1_piv (n : Nat) (scs sgs line : List Int) (b c : Nat) (D : Int) : pivotF (T1 n scs sgs line b D) 0 c = T1 n scs sgs line c (gi line c) := rfl
theorem T1_gain (n : Nat) (scs sgs line cs : List Int) (b col : Nat) (D : Int) : gainF (T1 n scs sgs line b D) cs col = gi cs col * D - gi cs b * gi line col := rfl
theorem T1_tot (n : Nat) (scs sgs line cs : List Int) (b : Nat) (D : Int) : totF (T1 n scs sgs line b D) cs = gi cs b * gi line (n + 1) := Int.zero_add _
theorem T1_wf {B n : Nat} {scs sgs line : List Int} {b c : Nat} {D D' : Int} (W : Wf B (T1 n scs sgs line b D)) (hc : c < n + 1) (d0 : 0 < D') (db : Bd B D') : Wf B (T1 n scs sgs line c D') :=
  ⟨W.bB, W.n1, W.m1, rfl, W.sl, W.gl, W.ll, fun x hx => by rw [List.mem_singleton.mp hx]; exact hc, W.lb, W.sb, W.gb, d0, db⟩
theorem T1_enters {n : Nat} {scs sgs line cs : List Int} {b c : Nat} {D : Int} (h : Enters (T1 n scs sgs line b D) cs (some c)) : c < n ∧ 0 < gi cs c * D - gi cs b * gi line c := ⟨h.1, h.2.1⟩
theorem T1_leaves {n : Nat} {scs sgs line : List Int} {b c x : Nat} {D : Int} (h : Leaves (T1 n scs sgs line b D) c (some x)) : x = 0 ∧ 0 < gi line c := by
  have h1 : x < 1 := h.1
  have e : x = 0 := by omega
  subst e
  exact ⟨rfl, h.2⟩
theorem T1_stays {n : Nat} {scs sgs line : List Int} {b c : Nat} {D : Int} (h : Leaves (T1 n scs sgs line b D) c none) : gi line c ≤ 0 := h 0 (Nat.zero_lt_one)
/-! how many would still gain -/
def gainers (cs line : List Int) (n b : Nat) : Nat := ((List.range n).filter fun j => decide (0 < gi line j) && decide (gi cs b * gi line j < gi cs j * gi line b)).length
theorem filter_lt {α : Type} {p q : α → Bool} : ∀ (l : List α), (∀ x ∈ l, p x = true → q x = true) → (∃ x ∈ l, q x = true ∧ p x = false) → (l.filter p).length < (l.filter q).length
  | [], _, ⟨_, h, _⟩ => nomatch h
  | a :: l, h, hx => by
    have le : ∀ l' : List α, (∀ x ∈ l', p x = true → q x = true) → (l'.filter p).length ≤ (l'.filter q).length := fun l' h' => by
      induction l' with
      | nil => exact Nat.le_refl _
      | cons b l' ih =>
        have z := ih fun x hx => h' x (List.mem_cons_of_mem _ hx)
        cases hp : p b with
        | true =>
          rw [List.filter_cons_of_pos hp, List.filter_cons_of_pos (h' b List.mem_cons_self hp)]
          exact Nat.succ_le_succ z
        | false =>
          rw [List.filter_cons_of_neg (by rw [hp]; exact fun z => nomatch z)]
          cases hq : q b with
          | true =>
            rw [List.filter_cons_of_pos hq]
            exact Nat.le_succ_of_le z
          | false =>
            rw [List.filter_cons_of_neg (by rw [hq]; exact fun z => nomatch z)]
            exact z
    have hl := fun x hx => h x (List.mem_cons_of_mem a hx)
    obtain ⟨x, hm, hq, hp⟩ := hx
    rcases List.mem_cons.mp hm with e | hm
    · subst e
      rw [List.filter_cons_of_pos hq, List.filter_cons_of_neg (by rw [hp]; exact fun z => nomatch z)]
      exact Nat.lt_succ_of_le (le l hl)
    · have z := filter_lt l hl ⟨x, hm, hq, hp⟩
      cases hpa : p a with
      | true =>
        rw [List.filter_cons_of_pos hpa, List.filter_cons_of_pos (h a List.mem_cons_self hpa)]
        exact Nat.succ_lt_succ z
      | false =>
        rw [List.filter_cons_of_neg (by rw [hpa]; exact fun z => nomatch z)]
        cases hqa : q a with
        | true =>
          rw [List.filter_cons_of_pos hqa]
          exact Nat.lt_succ_of_lt z
        | false =>
          rw [List.filter_cons_of_neg (by rw [hqa]; exact fun z => nomatch z)]
          exact z
theorem cross_trans {cj ac cc aj ab cb : Int} (a0 : 0 < aj) (c0 : 0 < ac) (b0 : 0 < ab) (h1 : cc * aj < cj * ac) (h2 : cb * ac < cc * ab) : cb * aj < cj * ab := by
  -- times ac
  have e1 : (cc * ab) * aj < (cj * ab) * ac := by
    have z := Int.mul_lt_mul_of_pos_right h1 b0
    have x1 : cc * aj * ab = cc * ab * aj := by rw [Int.mul_assoc, Int.mul_comm aj ab, ← Int.mul_assoc]
    have x2 : cj * ac * ab = cj * ab * ac := by rw [Int.mul_assoc, Int.mul_comm ac ab, ← Int.mul_assoc]
    rw [x1, x2] at z
    exact z
  have e2 : (cb * aj) * ac < (cc * ab) * aj := by
    have z := Int.mul_lt_mul_of_pos_right h2 a0
    have x1 : cb * ac * aj = cb * aj * ac := by rw [Int.mul_assoc, Int.mul_comm ac aj, ← Int.mul_assoc]
    rw [x1] at z
    exact z
  exact Int.lt_of_mul_lt_mul_right (Int.lt_trans e2 e1) (Int.le_of_lt c0)
theorem gainers_lt {cs line : List Int} {n b c : Nat} (hc : c < n) (c0 : 0 < gi line c) (b0 : 0 < gi line b) (h : gi cs b * gi line c < gi cs c * gi line b) : gainers cs line n c < gainers cs line n b := by
  unfold gainers
  refine filter_lt _ (fun j _ hj => ?_) ⟨c, List.mem_range.mpr hc, ?_, ?_⟩
  · rw [Bool.and_eq_true, decide_eq_true_eq, decide_eq_true_eq] at hj ⊢
    exact ⟨hj.1, cross_trans hj.1 c0 b0 hj.2 h⟩
  · rw [Bool.and_eq_true, decide_eq_true_eq, decide_eq_true_eq]
    exact ⟨c0, h⟩
  · rw [decide_eq_false (Int.lt_irrefl _), Bool.and_false]
/-- the second time -/
theorem ends_two {n B : Nat} {scs sgs line cs : List Int} {post : Option Nat → Tb → Prop} (W : ∀ b, b < n → 0 < gi line b → Wf B (T1 n scs sgs line b (gi line b)) ∧ CostOk B (T1 n scs sgs line b (gi line b)) cs)
    (hR : ∀ b, b < n → 0 < gi line b → (∀ j, j < n → gi cs j * gi line b ≤ gi cs b * gi line j) → post none (T1 n scs sgs line b (gi line b)))
    (hE : ∀ b c, b < n → c < n → 0 < gi line b → gi line c ≤ 0 → gi cs b * gi line c < gi cs c * gi line b → post (some c) (T1 n scs sgs line b (gi line b))) :
    ∀ (N b : Nat), b < n → 0 < gi line b → gainers cs line n b < N → Ends cs post N (T1 n scs sgs line b (gi line b))
  | 0, _, _, _, h => nomatch h
  | N + 1, b, hb, b0, h => by
    refine ⟨⟨B, W b hb b0⟩, fun r hr => ?_⟩
    cases r with
    | none =>
      refine hR b hb b0 fun j hj => ?_
      have z : gi cs j * gi line b - gi cs b * gi line j ≤ 0 := hr j hj
      omega
    | some c =>
      obtain ⟨hc, hg⟩ := T1_enters hr
      have hg' : gi cs b * gi line c < gi cs c * gi line b := by omega
      intro r2 hr2
      cases r2 with
      | none => exact hE b c hb hc b0 (T1_stays hr2) hg'
      | some x =>
        obtain ⟨rfl, c0⟩ := T1_leaves hr2
        show Ends cs post N (pivotF (T1 n scs sgs line b (gi line b)) 0 c)
        rw [T1_piv]
        exact ends_two W hR hE N c hc c0 (by have := gainers_lt hc c0 b0 hg'; omega)
/-- the first time -/
theorem ends_one {n B p : Nat} {scs sgs line : List Int} {post : Option Nat → Tb → Prop} (b1 : 1 ≤ B) (W0 : Wf B (T1 n scs sgs line n 1)) (hp : p < n) (p0 : 0 < gi line p) (W : ∀ b, b < n → 0 < gi line b → Wf B (T1 n scs sgs line b (gi line b)))
    (hR : ∀ b, b < n → 0 < gi line b → post none (T1 n scs sgs line b (gi line b))) : Ends (costs1 n 1) post 2 (T1 n scs sgs line n 1) := by
  have g0 : ∀ j, j < n → gainF (T1 n scs sgs line n 1) (costs1 n 1) j = gi line j := fun j hj => by
    have e1 : gi (costs1 n 1) n = -1 := costs1_b (n := n) (m := 1) (j := 0) (by decide)
    rw [T1_gain, costs1_a hj, e1]
    omega
  refine ⟨⟨B, W0, costs1_ok rfl rfl b1⟩, fun r hr => ?_⟩
  cases r with
  | none =>
    have z := hr p hp
    rw [g0 p hp] at z
    omega
  | some c =>
    have hc : c < n := hr.1
    intro r2 hr2
    cases r2 with
    | none =>
      have z := hr.2.1
      rw [g0 c hc] at z
      have := T1_stays hr2
      omega
    | some x =>
      obtain ⟨rfl, c0⟩ := T1_leaves hr2
      show Ends (costs1 n 1) post 1 (pivotF (T1 n scs sgs line n 1) 0 c)
      rw [T1_piv]
      refine ⟨⟨B, W c hc c0, costs1_ok rfl rfl b1⟩, fun r hr => ?_⟩
      cases r with
      | none => exact hR c hc c0
      | some j =>
        obtain ⟨hj, hg⟩ := T1_enters hr
        rw [costs1_a hj, costs1_a hc, Int.zero_mul, Int.zero_mul] at hg
        exact absurd hg (by decide)
end Fk

set_option Elab.async false
set_option maxRecDepth 100000
set_option maxHeartbeats 4000000
set_option exponentiation.threshold 20000
namespace Fk
open PySem L2
/-! ### lowest terms -/
theorem low_parts {a b : Int} (b0 : 0 < b) : ∃ g a' b' : Int, 0 < g ∧ a = g * a' ∧ b = g * b' ∧ 0 < b' ∧ Nat.gcd a'.natAbs b'.natAbs = 1 ∧ lowI a b = (a', b') := by
  have g0 := gcd_pos_int (a := a) b0
  obtain ⟨a', ha⟩ := gcd_dvd_int a b
  obtain ⟨b', hb⟩ := gcd_dvd_int' a b
  refine ⟨(Nat.gcd a.natAbs b.natAbs : Nat), a', b', g0, ha, hb, ?_, ?_, ?_⟩
  · rw [hb] at b0
    exact Int.lt_of_mul_lt_mul_left (by rw [Int.mul_zero]; exact b0) (Int.le_of_lt g0)
  · have e1 : a.natAbs = Nat.gcd a.natAbs b.natAbs * a'.natAbs := by
      have z := congrArg Int.natAbs ha
      rw [Int.natAbs_mul, Int.natAbs_natCast] at z
      exact z
    have e2 : b.natAbs = Nat.gcd a.natAbs b.natAbs * b'.natAbs := by
      have z := congrArg Int.natAbs hb
      rw [Int.natAbs_mul, Int.natAbs_natCast] at z
      exact z
    have gp : 0 < Nat.gcd a.natAbs b.natAbs := by omega
    have e3 : Nat.gcd a.natAbs b.natAbs = Nat.gcd a.natAbs b.natAbs * Nat.gcd a'.natAbs b'.natAbs := by
      rw [← Nat.gcd_mul_left, ← e1, ← e2]
    have : Nat.gcd a.natAbs b.natAbs * 1 = Nat.gcd a.natAbs b.natAbs * Nat.gcd a'.natAbs b'.natAbs := by omega
    exact (Nat.eq_of_mul_eq_mul_left gp this).symm
  · unfold lowI
    generalize hg : ((Nat.gcd a.natAbs b.natAbs : Nat) : Int) = g at *
    have n0 : g ≠ 0 := by omega
    rw [ha, hb, Int.mul_ediv_cancel_left _ n0, Int.mul_ediv_cancel_left _ n0]
theorem low_uniq {a b c d : Int} (b0 : 0 < b) (d0 : 0 < d) (h1 : Nat.gcd a.natAbs b.natAbs = 1) (h2 : Nat.gcd c.natAbs d.natAbs = 1) (h : a * d = c * b) : (a, b) = (c, d) := by
  have e1 : b.natAbs ∣ d.natAbs := by
    refine Nat.Coprime.dvd_of_dvd_mul_left (show Nat.Coprime b.natAbs a.natAbs from (Nat.gcd_comm _ _).trans h1) ⟨c.natAbs, ?_⟩
    have z := congrArg Int.natAbs h
    rw [Int.natAbs_mul, Int.natAbs_mul] at z
    rw [z, Nat.mul_comm]
  have e2 : d.natAbs ∣ b.natAbs := by
    refine Nat.Coprime.dvd_of_dvd_mul_left (show Nat.Coprime d.natAbs c.natAbs from (Nat.gcd_comm _ _).trans h2) ⟨a.natAbs, ?_⟩
    have z := congrArg Int.natAbs h
    rw [Int.natAbs_mul, Int.natAbs_mul] at z
    rw [← z, Nat.mul_comm]
  have e3 := Nat.dvd_antisymm e1 e2
  have e4 : b = d := by omega
  subst e4
  have e5 : a = c := Int.eq_of_mul_eq_mul_right (by omega) h
  rw [e5]
theorem low_eq {a b c d : Int} (b0 : 0 < b) (d0 : 0 < d) (h : a * d = c * b) : lowI a b = lowI c d := by
  obtain ⟨g, a', b', g0, ha, hb, b1, c1, e1⟩ := low_parts (a := a) b0
  obtain ⟨k, c', d', k0, hc, hd, d1, c2, e2⟩ := low_parts (a := c) d0
  rw [e1, e2]
  refine low_uniq b1 d1 c1 c2 ?_
  have z : (g * k) * (a' * d') = (g * k) * (c' * b') := by
    have z1 : g * a' * (k * d') = g * k * (a' * d') := by
      rw [Int.mul_assoc, ← Int.mul_assoc a', Int.mul_comm a' k, Int.mul_assoc k, ← Int.mul_assoc]
    have z2 : k * c' * (g * b') = g * k * (c' * b') := by
      rw [Int.mul_assoc, ← Int.mul_assoc c', Int.mul_comm c' g, Int.mul_assoc g, ← Int.mul_assoc, Int.mul_comm k g]
    rw [← z1, ← z2, ← ha, ← hb, ← hc, ← hd]
    exact h
  exact Int.eq_of_mul_eq_mul_left (by have := Int.mul_pos g0 k0; omega) z
theorem cmp_eq {T u a wj wb S : Int} (h : S = wj * u) : (T * u * a) * (wj * wb) = (T * (wb * a)) * S := by
  rw [h]
  ac_rfl
theorem cmp_eq' {T u a wj wb S : Int} (h : S = wb * u) : (T * u * a) * (wj * wb) = (T * (wj * a)) * S := by
  rw [h]
  ac_rfl
theorem cmp_le {Tj Tb uj ub aj ab wj wb S : Int} (hj : S = wj * uj) (hb : S = wb * ub) (S0 : 0 < S) (j0 : 0 < wj) (b0 : 0 < wb) (h : Tj * uj * ab ≤ Tb * ub * aj) : Tj * (wb * ab) ≤ Tb * (wj * aj) := by
  have z := Int.mul_le_mul_of_nonneg_right h (Int.le_of_lt (Int.mul_pos j0 b0))
  rw [cmp_eq hj, cmp_eq' hb] at z
  exact Int.le_of_mul_le_mul_right z S0
theorem cmp_lt {Tj Tb uj ub aj ab wj wb S : Int} (hj : S = wj * uj) (hb : S = wb * ub) (S0 : 0 < S) (j0 : 0 < wj) (b0 : 0 < wb) (h : Tj * uj * ab < Tb * ub * aj) : Tj * (wb * ab) < Tb * (wj * aj) := by
  have z := Int.mul_lt_mul_of_pos_right h (Int.mul_pos j0 b0)
  rw [cmp_eq hj, cmp_eq' hb] at z
  exact Int.lt_of_mul_lt_mul_right z (Int.le_of_lt S0)
/-- the fraction of a worth and an entry -/
def topF (x y : Int × Int) : Int := x.1 * y.2
def botF (x y : Int × Int) : Int := x.2 * y.1
section
variable {row ws : List (Int × Int)} {R : Int × Int}
abbrev E1 (row : List (Int × Int)) (R : Int × Int) : List (List (Int × Int)) := [row ++ [R]]
theorem sc1_at {n j : Nat} (hj : j < n + 1) : gi (scF (E1 row R) n) j = (gp (row ++ [R]) j).2 := by
  unfold scF
  rw [gi_map hj]
  exact sh1 _
theorem line1_at {n j : Nat} (hn : row.length = n) (r0 : 0 ≤ R.1) (hj : j < n + 1) (hl : 0 < (gp (row ++ [R]) j).2) : whAt (prAt (E1 row R) (scF (E1 row R) n) (sgF (E1 row R) n) 0 j) = (gp (row ++ [R]) j).1 := by
  have e2 : gi (sgF (E1 row R) n) 0 = 1 := by
    show sgAt n (row ++ [R]) = 1
    unfold sgAt
    have : gp (row ++ [R]) n = R := by rw [← hn, gp_last]
    rw [this, if_neg (by omega)]
  unfold whAt prAt
  show (gp (row ++ [R]) j).1 * (gi (scF (E1 row R) n) j * gi (sgF (E1 row R) n) 0 / (gp (row ++ [R]) j).2) = _
  rw [sc1_at hj, e2, Int.mul_one, Int.ediv_self (by omega), Int.mul_one]
theorem great_one {post : Res → Prop} (hn : row.length = ws.length) (n8 : ws.length ≤ 8) (hrow : ∀ x ∈ row, Lw x) (hR : Lw R) (r0 : 0 ≤ R.1) (hws : ∀ x ∈ ws, Lw x) {p : Nat} (hp : p < ws.length) (p0 : 0 < (gp row p).1)
    (hb : ∀ b, b < ws.length → 0 < (gp row b).1 → (∀ j, j < ws.length → topF (gp ws j) (gp row j) * botF (gp ws b) (gp row b) ≤ topF (gp ws b) (gp row b) * botF (gp ws j) (gp row j)) → post (.reached (lowI (topF (gp ws b) (gp row b) * R.1) (botF (gp ws b) (gp row b) * R.2))))
    (he : ∀ b c, b < ws.length → c < ws.length → 0 < (gp row b).1 → (gp row c).1 ≤ 0 → topF (gp ws b) (gp row b) * botF (gp ws c) (gp row c) < topF (gp ws c) (gp row c) * botF (gp ws b) (gp row b) → post .endless) : Great [row] [R] ws post := by
  generalize hN : ws.length = n at *
  have W0 : Wf 1500 (initF [row] [R] n) := (wf_init (mat := [row]) (rgt := [R]) (n := n) rfl (by show 1 ≤ 4; decide) n8 (fun r hr => by rw [List.mem_singleton.mp hr]; exact ⟨hn, hrow⟩) (fun x hx => by rw [List.mem_singleton.mp hx]; exact hR)).mono (by decide) (by decide)
  have eT : initF [row] [R] n = T1 n (scF (E1 row R) n) (sgF (E1 row R) n) (lineF (E1 row R) (scF (E1 row R) n) (sgF (E1 row R) n) n 1 0) n 1 := rfl
  have rE : ∀ r ∈ E1 row R, r.length = n + 1 ∧ ∀ x ∈ r, Lw x := entF_mem (mat := [row]) (rgt := [R]) rfl (fun r hr => by rw [List.mem_singleton.mp hr]; exact ⟨hn, hrow⟩) (fun x hx => by rw [List.mem_singleton.mp hx]; exact hR)
  have lwE : ∀ {j : Nat}, j < n + 1 → Lw (gp (row ++ [R]) j) := fun {j} hj => (rE _ (List.mem_singleton.mpr rfl)).2 _ (gp_mem (by rw [(rE _ (List.mem_singleton.mpr rfl)).1]; exact hj))
  have la : ∀ j, j < n → gi (lineF (E1 row R) (scF (E1 row R) n) (sgF (E1 row R) n) n 1 0) j = (gp row j).1 := fun j hj => by
    rw [lineF_a hj, line1_at hn r0 (by omega) (lwE (by omega)).p, gp_app1 (by omega)]
  have lr : gi (lineF (E1 row R) (scF (E1 row R) n) (sgF (E1 row R) n) n 1 0) (n + 1) = R.1 := by
    rw [lineF_r, line1_at hn r0 (by omega) (lwE (by omega)).p]
    rw [show gp (row ++ [R]) n = R by rw [← hn, gp_last]]
  have scB := scF_ok (E := E1 row R) (n := n) (by show 1 ≤ 4; decide) rE
  have sc_at : ∀ j, j < n → gi (scF (E1 row R) n) j = (gp row j).2 := fun j hj => by
    rw [sc1_at (by omega), gp_app1 (by omega)]
  have sc_n : gi (scF (E1 row R) n) n = R.2 := by
    rw [sc1_at (by omega), show gp (row ++ [R]) n = R by rw [← hn, gp_last]]
  have lsc : (scF (E1 row R) n).length = n + 1 := by
    unfold scF
    rw [List.length_map, List.length_range]
  rw [eT] at W0
  unfold Great
  rw [hN]
  show ∃ N, Ends (costs1 n 1) (first n 1 ws post) N (initF [row] [R] n)
  rw [eT]
  generalize lineF (E1 row R) (scF (E1 row R) n) (sgF (E1 row R) n) n 1 0 = line at W0 la lr ⊢
  generalize scF (E1 row R) n = scs at W0 scB sc_at sc_n lsc ⊢
  generalize sgF (E1 row R) n = sgs at W0 ⊢
  have lwr : ∀ {j : Nat}, j < n → Lw (gp row j) := fun {j} hj => hrow _ (gp_mem (by omega))
  have lww : ∀ {j : Nat}, j < n → Lw (gp ws j) := fun {j} hj => hws _ (gp_mem (by omega))
  have wfb : ∀ b, b < n → 0 < gi line b → Wf 1500 (T1 n scs sgs line b (gi line b)) := fun b hbn b0 => T1_wf W0 (by omega) b0 (by rw [la b hbn]; exact (lwr hbn).b1.mono (by decide))
  -- the costs
  have lfs : (scaledF n scs ws).length = n := by
    unfold scaledF
    rw [List.length_map, List.length_range]
  have fsm : ∀ x ∈ scaledF n scs ws, 0 < x.2 ∧ Bd 100 x.2 ∧ Bd 501 x.1 := fun x hx => by
    obtain ⟨j, hj, rfl⟩ := scaled_mem hx
    exact ⟨(lww hj).p, (lww hj).b2, (lww hj).b1.mulB (scB _ (gi_mem (by omega))).2⟩
  have Sf := shF_facts (scaledF n scs ws) 1 (by decide) fun x hx => (fsm x hx).1
  have S0 : 0 < shF (scaledF n scs ws) := Sf.1
  have Sd : ∀ x ∈ scaledF n scs ws, x.2 ∣ shF (scaledF n scs ws) := Sf.2.2
  have SB : Bd 801 (shF (scaledF n scs ws)) := (shF_bd (b := 100) (scaledF n scs ws) 1 1 (by decide) one_bd fun x hx => ⟨(fsm x hx).1, (fsm x hx).2.1⟩).mono (by rw [lfs]; omega)
  have cL : ∀ b D, (costsF (T1 n scs sgs line b D) ws).length = n + 1 := fun b D => by
    unfold costsF wholeF
    rw [List.length_append, List.length_map, List.length_replicate]
    show (scaledF n scs ws).length + 1 = n + 1
    rw [lfs]
  have cB : ∀ b D, ∀ x ∈ costsF (T1 n scs sgs line b D) ws, Bd 1500 x := fun b D x hx => by
    unfold costsF wholeF at hx
    rcases List.mem_append.mp hx with z | z
    · obtain ⟨y, hy, rfl⟩ := List.mem_map.mp z
      exact ((fsm y hy).2.2.mulB (ediv_bd (b := y.2) SB)).mono (by decide)
    · rw [(List.mem_replicate.mp z).2]
      refine Bd.mono (A := 1) ?_ (by decide)
      unfold Bd
      decide
  have cA : ∀ b D j, j < n → gi (costsF (T1 n scs sgs line b D) ws) j = topF (gp ws j) (gp row j) * (shF (scaledF n scs ws) / (gp ws j).2) := fun b D j hj => by
    unfold costsF
    rw [gi_app1 (by unfold wholeF; rw [List.length_map]; show j < (scaledF n scs ws).length; omega)]
    show gi (wholeF (shF (scaledF n scs ws)) (scaledF n scs ws)) j = _
    have e : wholeF (shF (scaledF n scs ws)) (scaledF n scs ws) = (List.range n).map fun j => (scaledAt scs ws j).1 * (shF (scaledF n scs ws) / (scaledAt scs ws j).2) := by
      show (scaledF n scs ws).map _ = _
      conv => lhs; rw [show scaledF n scs ws = (List.range n).map (scaledAt scs ws) from rfl]
      rw [List.map_map]
      rfl
    rw [e, gi_map hj]
    unfold scaledAt topF
    dsimp only
    rw [sc_at j hj]
  have cok : ∀ b b' D D', Wf 1500 (T1 n scs sgs line b D) → CostOk 1500 (T1 n scs sgs line b D) (costsF (T1 n scs sgs line b' D') ws) := fun b b' D D' _ => ⟨cL b' D', cB b' D'⟩
  have ud : ∀ j, j < n → shF (scaledF n scs ws) = (gp ws j).2 * (shF (scaledF n scs ws) / (gp ws j).2) := fun j hj => by
    refine (Int.mul_ediv_cancel' (Sd (scaledAt scs ws j) (List.mem_map.mpr ⟨j, List.mem_range.mpr hj, rfl⟩))).symm
  obtain ⟨S, hS⟩ : ∃ S, S = shF (scaledF n scs ws) := ⟨_, rfl⟩
  rw [← hS] at S0 SB
  have cA' : ∀ b D j, j < n → gi (costsF (T1 n scs sgs line b D) ws) j = topF (gp ws j) (gp row j) * (S / (gp ws j).2) := fun b D j hj => by
    rw [hS]
    exact cA b D j hj
  have ud' : ∀ j, j < n → S = (gp ws j).2 * (S / (gp ws j).2) := fun j hj => by
    conv => lhs; rw [hS, ud j hj, ← hS]
  refine ⟨2, ends_one (B := 1500) (p := p) (by decide) W0 hp (by rw [la p hp]; exact p0) wfb fun b hbn b0 => ?_⟩
  refine ⟨1500, by decide, wfb b hbn b0, costs1_ok rfl rfl (by decide), fun neg => ?_, fun _ => ⟨fun x hx => ?_, fun x hx => (scB x hx).2.mono (by decide), rfl, gainers (costsF (T1 n scs sgs line b (gi line b)) ws) line n b + 1, ?_⟩⟩
  · rw [T1_tot, costs1_a hbn, Int.zero_mul] at neg
    exact absurd neg (by decide)
  · rw [List.mem_singleton.mp hx]
    exact hbn
  refine ends_two (B := 1500) (fun b' hb' b0' => ⟨wfb b' hb' b0', cok _ _ _ _ (wfb b' hb' b0')⟩) (fun b' hb' b0' hmax => ?_) (fun b' c hb' hc b0' c0 hlt => ?_) _ b hbn b0 (Nat.lt_succ_self _)
  · refine ⟨⟨1500, wfb b' hb' b0', cok _ _ _ _ (wfb b' hb' b0'), ?_⟩, ?_⟩
    · show Bd 1500 (shF (scaledF n scs ws))
      rw [← hS]
      exact SB.mono (by decide)
    · show post (.reached (lowI (totF (T1 n scs sgs line b' (gi line b')) (costsF (T1 n scs sgs line b (gi line b)) ws)) (gi line b' * gi scs n * shF (scaledF n scs ws))))
      rw [← hS, T1_tot, cA' _ _ _ hb', lr, la b' hb', sc_n]
      have R0 := hR.p
      have a0 : 0 < (gp row b').1 := by rw [← la b' hb']; exact b0'
      have w0 := (lww hb').p
      have eqn : lowI (topF (gp ws b') (gp row b') * (S / (gp ws b').2) * R.1) ((gp row b').1 * R.2 * S) = lowI (topF (gp ws b') (gp row b') * R.1) (botF (gp ws b') (gp row b') * R.2) := by
        refine low_eq (Int.mul_pos (Int.mul_pos a0 R0) S0) (Int.mul_pos (Int.mul_pos w0 a0) R0) ?_
        have e := ud' b' hb'
        unfold botF
        generalize hu : S / (gp ws b').2 = u at e ⊢
        rw [e]
        ac_rfl
      rw [eqn]
      refine hb b' hb' a0 fun j hj => ?_
      have z := hmax j hj
      rw [cA' _ _ _ hj, cA' _ _ _ hb', la j hj, la b' hb'] at z
      exact cmp_le (ud' j hj) (ud' b' hb') S0 (lww hj).p w0 z
  · refine ⟨⟨1500, wfb b' hb' b0', cok _ _ _ _ (wfb b' hb' b0'), ?_⟩, hc, ?_⟩
    · show Bd 1500 (shF (scaledF n scs ws))
      rw [← hS]
      exact SB.mono (by decide)
    · have a0 : 0 < (gp row b').1 := by rw [← la b' hb']; exact b0'
      rw [la c hc] at c0
      rw [cA' _ _ _ hc, cA' _ _ _ hb', la c hc, la b' hb'] at hlt
      exact he b' c hb' hc a0 c0 (cmp_lt (ud' b' hb') (ud' c hc) S0 (lww hb').p (lww hc).p hlt)
end
end Fk

set_option Elab.async false
set_option maxRecDepth 100000
set_option maxHeartbeats 4000000
set_option exponentiation.threshold 20000
namespace Fk
open PySem L2
/-! ### two rows that contradict themselves -/
def T2 (n : Nat) (scs sgs l1 l2 : List Int) (b1 b2 : Nat) (D : Int) : Tb := { many := n, D := D, base := [b1, b2], scales := scs, signs := sgs, lines := [l1, l2] }
theorem T2_gain (n : Nat) (scs sgs l1 l2 cs : List Int) (b1 b2 col : Nat) (D : Int) : gainF (T2 n scs sgs l1 l2 b1 b2 D) cs col = gi cs col * D - gi cs b1 * gi l1 col - gi cs b2 * gi l2 col := rfl
theorem T2_tot (n : Nat) (scs sgs l1 l2 cs : List Int) (b1 b2 : Nat) (D : Int) : totF (T2 n scs sgs l1 l2 b1 b2 D) cs = 0 + gi cs b1 * gi l1 (n + 2) + gi cs b2 * gi l2 (n + 2) := rfl
theorem T2_piv (n : Nat) (scs sgs l1 l2 : List Int) (b1 b2 c : Nat) (D : Int) : pivotF (T2 n scs sgs l1 l2 b1 b2 D) 0 c = T2 n scs sgs l1 (elimF (gi l1 c) (gi l2 c) D l2 l1) c b2 (gi l1 c) := rfl
theorem elim_gi {tp fa D : Int} {l2 l1 : List Int} {j : Nat} (h1 : j < l2.length) (h2 : j < l1.length) : gi (elimF tp fa D l2 l1) j = (tp * gi l2 j - fa * gi l1 j) / D := by
  unfold elimF
  conv => lhs; unfold gi
  rw [List.getD_eq_getElem?_getD, List.getElem?_zipWith, gi_at h1, gi_at h2]
  rfl
theorem elim_len {tp fa D : Int} {l2 l1 : List Int} (h : l2.length = l1.length) : (elimF tp fa D l2 l1).length = l1.length := by
  unfold elimF
  rw [List.length_zipWith, h, Nat.min_self]
section
variable {row oth ws : List (Int × Int)} {R Bl : Int × Int}
abbrev E2 (row oth : List (Int × Int)) (R Bl : Int × Int) : List (List (Int × Int)) := [row ++ [R], oth ++ [Bl]]
theorem neg_ediv_dvd {a b : Int} (h : b ∣ a) : a * -1 / b = -(a / b) := by
  rw [Int.mul_neg, Int.mul_one]
  exact Int.neg_ediv_of_dvd h
theorem great_two {post : Res → Prop} (hn : row.length = ws.length) (ho : oth.length = ws.length) (n8 : ws.length ≤ 8) (n0 : 0 < ws.length) (hrow : ∀ x ∈ row, Lw x ∧ 0 < x.1) (hoth : ∀ x ∈ oth, Lw x) (hR : Lw R) (r0 : 0 ≤ R.1) (hB : Lw Bl) (l0 : Bl.1 < 0)
    (h : oth = row ∨ ∀ x ∈ oth, x.1 = 0) (hp : post .nothing) : Great [row, oth] [R, Bl] ws post := by
  generalize hN : ws.length = n at *
  have hm : ∀ r ∈ [row, oth], r.length = n ∧ ∀ x ∈ r, Lw x := fun r hr => by
    rcases List.mem_cons.mp hr with e | e
    · rw [e]
      exact ⟨hn, fun x hx => (hrow x hx).1⟩
    · rw [List.mem_singleton.mp e]
      exact ⟨ho, hoth⟩
  have hr2 : ∀ x ∈ [R, Bl], Lw x := fun x hx => by
    rcases List.mem_cons.mp hx with e | e
    · rw [e]
      exact hR
    · rw [List.mem_singleton.mp e]
      exact hB
  have W0 : Wf 600 (initF [row, oth] [R, Bl] n) := wf_init rfl (by show 2 ≤ 4; decide) n8 hm hr2
  have rE : ∀ r ∈ E2 row oth R Bl, r.length = n + 1 ∧ ∀ x ∈ r, Lw x := entF_mem (mat := [row, oth]) (rgt := [R, Bl]) rfl hm hr2
  have eT : initF [row, oth] [R, Bl] n = T2 n (scF (E2 row oth R Bl) n) (sgF (E2 row oth R Bl) n) (lineF (E2 row oth R Bl) (scF (E2 row oth R Bl) n) (sgF (E2 row oth R Bl) n) n 2 0) (lineF (E2 row oth R Bl) (scF (E2 row oth R Bl) n) (sgF (E2 row oth R Bl) n) n 2 1) n (n + 1) 1 := rfl
  have g0 : gi (sgF (E2 row oth R Bl) n) 0 = 1 := by
    show sgAt n (row ++ [R]) = 1
    unfold sgAt
    rw [show gp (row ++ [R]) n = R by rw [← hn, gp_last], if_neg (by omega)]
  have g1 : gi (sgF (E2 row oth R Bl) n) 1 = -1 := by
    show sgAt n (oth ++ [Bl]) = -1
    unfold sgAt
    rw [show gp (oth ++ [Bl]) n = Bl by rw [← ho, gp_last], if_pos l0]
  have Sfacts : ∀ j, j < n + 1 → 0 < gi (scF (E2 row oth R Bl) n) j ∧ (gp (row ++ [R]) j).2 ∣ gi (scF (E2 row oth R Bl) n) j ∧ (gp (oth ++ [Bl]) j).2 ∣ gi (scF (E2 row oth R Bl) n) j := fun j hj => by
    have e : gi (scF (E2 row oth R Bl) n) j = shF [gp (row ++ [R]) j, gp (oth ++ [Bl]) j] := by
      unfold scF
      rw [gi_map hj]
      rfl
    have lw1 := (rE _ (List.mem_cons_self ..)).2 _ (gp_mem (xs := row ++ [R]) (i := j) (by rw [(rE _ (List.mem_cons_self ..)).1]; exact hj))
    have lw2 := (rE (oth ++ [Bl]) (List.mem_cons_of_mem _ (List.mem_singleton.mpr rfl))).2 _ (gp_mem (xs := oth ++ [Bl]) (i := j) (by rw [(rE (oth ++ [Bl]) (List.mem_cons_of_mem _ (List.mem_singleton.mpr rfl))).1]; exact hj))
    have f := shF_facts [gp (row ++ [R]) j, gp (oth ++ [Bl]) j] 1 (by decide) fun x hx => by
      rcases List.mem_cons.mp hx with e | e
      · rw [e]
        exact lw1.p
      · rw [List.mem_singleton.mp e]
        exact lw2.p
    rw [e]
    exact ⟨f.1, f.2.2 _ (List.mem_cons_self ..), f.2.2 _ (List.mem_cons_of_mem _ (List.mem_singleton.mpr rfl))⟩
  have w0 : ∀ j, whAt (prAt (E2 row oth R Bl) (scF (E2 row oth R Bl) n) (sgF (E2 row oth R Bl) n) 0 j) = (gp (row ++ [R]) j).1 * (gi (scF (E2 row oth R Bl) n) j / (gp (row ++ [R]) j).2) := fun j => by
    show (gp (row ++ [R]) j).1 * (gi (scF (E2 row oth R Bl) n) j * gi (sgF (E2 row oth R Bl) n) 0 / (gp (row ++ [R]) j).2) = _
    rw [g0, Int.mul_one]
  have w1 : ∀ j, j < n + 1 → whAt (prAt (E2 row oth R Bl) (scF (E2 row oth R Bl) n) (sgF (E2 row oth R Bl) n) 1 j) = (gp (oth ++ [Bl]) j).1 * -(gi (scF (E2 row oth R Bl) n) j / (gp (oth ++ [Bl]) j).2) := fun j hj => by
    show (gp (oth ++ [Bl]) j).1 * (gi (scF (E2 row oth R Bl) n) j * gi (sgF (E2 row oth R Bl) n) 1 / (gp (oth ++ [Bl]) j).2) = _
    rw [g1, neg_ediv_dvd (Sfacts j hj).2.2]
  have qpos : ∀ {a b : Int}, 0 < a → 0 < b → b ∣ a → 0 < a / b := fun ha hb hd => Int.ediv_pos_of_pos_of_dvd ha (Int.le_of_lt hb) hd
  have f1 : ∀ j, j < n → 0 < gi (lineF (E2 row oth R Bl) (scF (E2 row oth R Bl) n) (sgF (E2 row oth R Bl) n) n 2 0) j := fun j hj => by
    obtain ⟨s0, s1, _⟩ := Sfacts j (by omega)
    rw [lineF_a hj, w0]
    rw [gp_app1 (by omega)] at s1 ⊢
    obtain ⟨lw, p0⟩ := hrow _ (gp_mem (show j < row.length by omega))
    exact Int.mul_pos p0 (qpos s0 lw.p s1)
  have f2 : (∀ j, j < n → gi (lineF (E2 row oth R Bl) (scF (E2 row oth R Bl) n) (sgF (E2 row oth R Bl) n) n 2 1) j = -gi (lineF (E2 row oth R Bl) (scF (E2 row oth R Bl) n) (sgF (E2 row oth R Bl) n) n 2 0) j) ∨ ∀ j, j < n → gi (lineF (E2 row oth R Bl) (scF (E2 row oth R Bl) n) (sgF (E2 row oth R Bl) n) n 2 1) j = 0 := by
    rcases h with e | hz
    · refine .inl fun j hj => ?_
      rw [lineF_a hj, lineF_a hj, w0, w1 j (by omega), Int.mul_neg, gp_app1 (by omega), gp_app1 (by omega), e]
    · refine .inr fun j hj => ?_
      rw [lineF_a hj, w1 j (by omega), gp_app1 (by omega), hz _ (gp_mem (show j < oth.length by omega)), Int.zero_mul]
  have f3 : 0 ≤ gi (lineF (E2 row oth R Bl) (scF (E2 row oth R Bl) n) (sgF (E2 row oth R Bl) n) n 2 0) (n + 2) := by
    obtain ⟨s0, s1, _⟩ := Sfacts n (by omega)
    rw [lineF_r, w0]
    rw [show gp (row ++ [R]) n = R by rw [← hn, gp_last]] at s1 ⊢
    exact Int.mul_nonneg r0 (Int.le_of_lt (qpos s0 hR.p s1))
  have f4 : 0 < gi (lineF (E2 row oth R Bl) (scF (E2 row oth R Bl) n) (sgF (E2 row oth R Bl) n) n 2 1) (n + 2) := by
    obtain ⟨s0, _, s1⟩ := Sfacts n (by omega)
    rw [lineF_r, w1 n (by omega)]
    rw [show gp (oth ++ [Bl]) n = Bl by rw [← ho, gp_last]] at s1 ⊢
    exact Int.mul_pos_of_neg_of_neg l0 (by have := qpos s0 hB.p s1; omega)
  have ln1 : (lineF (E2 row oth R Bl) (scF (E2 row oth R Bl) n) (sgF (E2 row oth R Bl) n) n 2 0).length = n + 3 := lineF_len
  have ln2 : (lineF (E2 row oth R Bl) (scF (E2 row oth R Bl) n) (sgF (E2 row oth R Bl) n) n 2 1).length = n + 3 := lineF_len
  unfold Great
  rw [hN]
  show ∃ N, Ends (costs1 n 2) (first n 2 ws post) N (initF [row, oth] [R, Bl] n)
  rw [eT] at W0 ⊢
  generalize lineF (E2 row oth R Bl) (scF (E2 row oth R Bl) n) (sgF (E2 row oth R Bl) n) n 2 0 = l1 at *
  generalize lineF (E2 row oth R Bl) (scF (E2 row oth R Bl) n) (sgF (E2 row oth R Bl) n) n 2 1 = l2 at *
  generalize scF (E2 row oth R Bl) n = scs at *
  generalize sgF (E2 row oth R Bl) n = sgs at *
  have c0 : gi (costs1 n 2) n = -1 := costs1_b (n := n) (m := 2) (j := 0) (by decide)
  have c1 : gi (costs1 n 2) (n + 1) = -1 := costs1_b (n := n) (m := 2) (j := 1) (by decide)
  refine ⟨2, ⟨600, W0, costs1_ok rfl rfl (by decide)⟩, fun r hr => ?_⟩
  have gn0 : ∀ j, j < n → gainF (T2 n scs sgs l1 l2 n (n + 1) 1) (costs1 n 2) j = gi l1 j + gi l2 j := fun j hj => by
    rw [T2_gain, costs1_a hj, c0, c1]
    omega
  cases r with
  | none =>
    refine ⟨600, by decide, W0, costs1_ok rfl rfl (by decide), fun _ => hp, fun nn => ?_⟩
    rw [T2_tot, c0, c1] at nn
    omega
  | some c =>
    have hc : c < n := hr.1
    have hg := hr.2.1
    rw [gn0 c hc] at hg
    rcases f2 with f2 | f2
    · rw [f2 c hc, Int.add_right_neg] at hg
      exact absurd hg (by decide)
    have z2 := f2 c hc
    intro r2 hr2
    cases r2 with
    | none =>
      have z : gi l1 c ≤ 0 := hr2 0 (by show 0 < 2; decide)
      have := f1 c hc
      omega
    | some x =>
      have hx : x < 2 := hr2.1
      have hpos := hr2.2
      have ex : x = 0 := by
        match x, hx with
        | 0, _ => rfl
        | 1, _ =>
          have z : 0 < gi l2 c := hpos
          omega
      subst ex
      show Ends (costs1 n 2) (first n 2 ws post) 1 (pivotF (T2 n scs sgs l1 l2 n (n + 1) 1) 0 c)
      rw [T2_piv]
      have el : (elimF (gi l1 c) (gi l2 c) 1 l2 l1).length = n + 3 := by rw [elim_len (by omega), ln1]
      have eg : ∀ j, j < n + 3 → gi (elimF (gi l1 c) (gi l2 c) 1 l2 l1) j = gi l1 c * gi l2 j := fun j hj => by
        rw [elim_gi (by omega) (by omega), z2, Int.zero_mul, Int.sub_zero, Int.ediv_one]
      have b1 : ∀ j, j < n + 3 → Bd 600 (gi l1 j) := fun j hj => W0.lb l1 (List.mem_cons_self ..) _ (gi_mem (by omega))
      have b2 : ∀ j, j < n + 3 → Bd 600 (gi l2 j) := fun j hj => W0.lb l2 (List.mem_cons_of_mem _ (List.mem_singleton.mpr rfl)) _ (gi_mem (by omega))
      have W1 : Wf 1500 (T2 n scs sgs l1 (elimF (gi l1 c) (gi l2 c) 1 l2 l1) c (n + 1) (gi l1 c)) := by
        refine ⟨by decide, W0.n1, W0.m1, rfl, W0.sl, W0.gl, fun r hr => ?_, fun b hb => ?_, fun r hr x hx => ?_, fun x hx => ⟨(W0.sb x hx).1, (W0.sb x hx).2.mono (by decide)⟩, fun x hx => (W0.gb x hx).mono (by decide), f1 c hc, (b1 c (by omega)).mono (by decide)⟩
        · show r.length = n + 2 + 1
          rcases List.mem_cons.mp hr with e | e
          · rw [e, ln1]
          · rw [List.mem_singleton.mp e, el]
        · show b < n + 2
          rcases List.mem_cons.mp hb with e | e
          · omega
          · rw [List.mem_singleton.mp e]
            omega
        · rcases List.mem_cons.mp hr with e | e
          · rw [e] at hx
            exact (W0.lb l1 (List.mem_cons_self ..) x hx).mono (by decide)
          · rw [List.mem_singleton.mp e] at hx
            obtain ⟨j, hj⟩ := List.mem_iff_getElem?.mp hx
            have hjl := (List.getElem?_eq_some_iff.mp hj).1
            rw [gi_at hjl] at hj
            rw [← Option.some.inj hj, eg j (by omega)]
            exact ((b1 c (by omega)).mulB (b2 j (by omega))).mono (by decide)
      refine ⟨⟨1500, W1, costs1_ok rfl rfl (by decide)⟩, fun r hr => ?_⟩
      have gn1 : ∀ j, j < n → gainF (T2 n scs sgs l1 (elimF (gi l1 c) (gi l2 c) 1 l2 l1) c (n + 1) (gi l1 c)) (costs1 n 2) j = 0 := fun j hj => by
        rw [T2_gain, costs1_a hj, costs1_a hc, c1, eg j (by omega), f2 j hj, Int.mul_zero, Int.zero_mul, Int.zero_mul, Int.mul_zero]
        rfl
      cases r with
      | some j =>
        have hg := hr.2.1
        rw [gn1 j hr.1] at hg
        exact absurd hg (by decide)
      | none =>
        refine ⟨1500, by decide, W1, costs1_ok rfl rfl (by decide), fun _ => hp, fun nn => ?_⟩
        rw [T2_tot, costs1_a hc, c1, eg (n + 2) (by omega), Int.zero_mul] at nn
        have := Int.mul_pos (f1 c hc) f4
        omega
end
end Fk

set_option Elab.async false
set_option maxRecDepth 100000
set_option maxHeartbeats 4000000
set_option exponentiation.threshold 20000
namespace Fk
open PySem L2
/-! ### the promise's own sums -/
abbrev psQ : List Str := ["_law_top", "_law_bottom"]
def spQ : Sp := fun vs H Q _ => ∃ (a b : Int), vs = [.int a, .int b] ∧ 0 < b ∧ a.natAbs < 2 ^ 13400 ∧ b.natAbs < 2 ^ 13400 ∧ ∀ p H', Same H H' → RatAt H' p (lowI a b) → Q (.ref p) H'
theorem low_lw {a b : Int} (b0 : 0 < b) (ha : Bd 100 a) (hb : Bd 100 b) : Lw (lowI a b) := by
  obtain ⟨g, a', b', g0, e1, e2, b1, c, e⟩ := low_parts (a := a) b0
  rw [e]
  have na : a'.natAbs ≤ a.natAbs := by
    rw [e1, Int.natAbs_mul]
    exact Nat.le_mul_of_pos_left _ (by omega)
  have nb : b'.natAbs ≤ b.natAbs := by
    rw [e2, Int.natAbs_mul]
    exact Nat.le_mul_of_pos_left _ (by omega)
  exact ⟨b1, c, Nat.lt_of_le_of_lt na ha, Nat.lt_of_le_of_lt nb hb⟩
theorem low_pos {a b : Int} (b0 : 0 < b) (a0 : 0 < a) : 0 < (lowI a b).1 := by
  obtain ⟨g, a', b', g0, e1, e2, b1, c, e⟩ := low_parts (a := a) b0
  rw [e]
  rw [e1] at a0
  exact Int.lt_of_mul_lt_mul_left (by rw [Int.mul_zero]; exact a0) (Int.le_of_lt g0)
/-- a fraction in lowest terms, told by another -/
theorem low_val {a b : Int} (b0 : 0 < b) : 0 < (lowI a b).2 ∧ (lowI a b).1 * b = a * (lowI a b).2 := by
  obtain ⟨g, a', b', g0, e1, e2, b1, c, e⟩ := low_parts (a := a) b0
  rw [e]
  refine ⟨b1, ?_⟩
  show a' * b = a * b'
  rw [e1, e2]
  ac_rfl
theorem low_bd {A B : Nat} {a b : Int} (b0 : 0 < b) (ha : Bd A a) (hb : Bd B b) : Bd A (lowI a b).1 ∧ Bd B (lowI a b).2 := by
  obtain ⟨g, a', b', g0, e1, e2, b1, c, e⟩ := low_parts (a := a) b0
  rw [e]
  have na : a'.natAbs ≤ a.natAbs := by
    rw [e1, Int.natAbs_mul]
    exact Nat.le_mul_of_pos_left _ (by omega)
  have nb : b'.natAbs ≤ b.natAbs := by
    rw [e2, Int.natAbs_mul]
    exact Nat.le_mul_of_pos_left _ (by omega)
  exact ⟨Nat.lt_of_le_of_lt na ha, Nat.lt_of_le_of_lt nb hb⟩
abbrev sMinus : Stmt := top 27
abbrev sTimes : Stmt := top 28
abbrev sOver : Stmt := top 29
abbrev sLess : Stmt := top 30
/-- what a pair needs to be reckoned with -/
def Fine (B : Nat) (x : Int × Int) : Prop := 0 < x.2 ∧ Bd B x.1 ∧ Bd B x.2
def spTwo (f : Int × Int → Int × Int → Int × Int) (ok : Int × Int → Prop) : Sp := fun vs H Q _ => ∃ (p q : Addr) (x y : Int × Int), vs = [.ref p, .ref q] ∧ RatAt H p x ∧ RatAt H q y ∧ Fine 3000 x ∧ Fine 3000 y ∧ ok y ∧ ∀ r H', Same H H' → RatAt H' r (f x y) → Q (.ref r) H'
def minF (x y : Int × Int) : Int × Int := lowI (x.1 * y.2 - y.1 * x.2) (x.2 * y.2)
def timF (x y : Int × Int) : Int × Int := lowI (x.1 * y.1) (x.2 * y.2)
def ovF (x y : Int × Int) : Int × Int := lowI (x.1 * y.2) (x.2 * y.1)
def spLess : Sp := fun vs H Q _ => ∃ (p q : Addr) (x y : Int × Int), vs = [.ref p, .ref q] ∧ RatAt H p x ∧ RatAt H q y ∧ Fine 3000 x ∧ Fine 3000 y ∧ Q (.bl (decide (x.1 * y.2 < y.1 * x.2))) H
section
variable {P : Program} {w : World} {K : PySem.W.Frag} {mg : Str → Option Value} {base : Heap}
theorem scQ : FnScope ["_law_top", "_law_bottom", "_law_by"] psQ (defScope sQ) := ⟨rfl, rfl, rfl, by decide +kernel, rfl, by decide +kernel, by decide +kernel⟩
theorem ok_q {f fG : Addr} {fd dG : FuncData} (F : Fun K "_law_q" "_law_q" sQ f fd) (G : Cl P w K mg base "_law_gcd" psGcd 1 spGcd fG dG) : FnOk P w K mg base CX0 2 f fd psQ spQ := by
  refine F.ok scQ (fun vs H Q E h => ?_) (fun cdv A outer s H vs Q E hr h => ?_)
  · obtain ⟨a, b, rfl, _⟩ := h
    rfl
  · obtain ⟨a, b, rfl, b0, a1, b1, k⟩ := h
    refine ⟨_, pss_cons (ps_set (i := 2) scQ.nd rfl (Or.inl rfl) (pe_call G.G hr (by rfl) G.g G.kp G.b .nil pass0 (pa_cons (pv 0) (pa_cons (pv 1) pa_nil))))
      (pss_cons (ps_if (pt_cmpR op_lt (pv 1) pe_int (nomark _)) (pss_one (ps_set (i := 2) scQ.nd rfl (Or.inl rfl) (pe_un un_neg (pv 2)))) pss_nil)
      (pss_one (ps_ret (pe_tup (pa_cons (pe_op op_fdivB (pv 0) (pv 2)) (pa_cons (pe_op op_fdivB (pv 1) (pv 2)) pa_nil)))))), ?_⟩
    have g0 : (0 : Int) < (Nat.gcd a.natAbs b.natAbs : Nat) := gcd_pos_int b0
    refine ⟨_, rfl, _, rfl, a, b, rfl, a1, b1, ?_⟩
    refine ⟨_, rfl, _, _, rfl, rfl, _, rfl, ite2 (fun h => absurd (of_decide_eq_true h) (by omega)) (fun _ => ?_)⟩
    exact ⟨_, rfl, _, rfl, _, _, rfl, rfl, ⟨g0, a1⟩, _, rfl, _, rfl, _, _, rfl, rfl, ⟨g0, b1⟩, by show 2 ≤ sizeLine; decide, fun p hp => k p _ (same_new hp) upd_same⟩
abbrev psOT : List Str := ["_law_one", "_law_two"]
theorem scMinus : FnScope psOT psOT (defScope sMinus) := ⟨rfl, rfl, rfl, by decide +kernel, rfl, by decide +kernel, by decide +kernel⟩
theorem scTimes : FnScope psOT psOT (defScope sTimes) := ⟨rfl, rfl, rfl, by decide +kernel, rfl, by decide +kernel, by decide +kernel⟩
theorem scOver : FnScope psOT psOT (defScope sOver) := ⟨rfl, rfl, rfl, by decide +kernel, rfl, by decide +kernel, by decide +kernel⟩
theorem scLess : FnScope psOT psOT (defScope sLess) := ⟨rfl, rfl, rfl, by decide +kernel, rfl, by decide +kernel, by decide +kernel⟩
theorem ok_minus {f fQ : Addr} {fd dQ : FuncData} (F : Fun K "_law_minus" "_law_minus" sMinus f fd) (L : Cl P w K mg base "_law_q" psQ 2 spQ fQ dQ) : FnOk P w K mg base CX0 3 f fd psOT (spTwo minF fun _ => True) := by
  refine F.ok scMinus (fun vs H Q E h => ?_) (fun cdv A outer s H vs Q E hr h => ?_)
  · obtain ⟨p, q, x, y, rfl, _⟩ := h
    rfl
  · obtain ⟨p, q, x, y, rfl, hp, hq, ⟨x0, x1, x2⟩, ⟨y0, y1, y2⟩, _, k⟩ := h
    refine ⟨_, pss_one (ps_ret (pe_call L.G hr (by rfl) L.g L.kp L.b .nil pass0 (pa_cons (pe_op op_sub (pe_op op_mulW (pe_ix ix_tup (pv 0) pe_int (fun _ _ => rfl)) (pe_ix ix_tup (pv 1) pe_int (fun _ _ => rfl))) (pe_op op_mulW (pe_ix ix_tup (pv 1) pe_int (fun _ _ => rfl)) (pe_ix ix_tup (pv 0) pe_int (fun _ _ => rfl))))
      (pa_cons (pe_op op_mulW (pe_ix ix_tup (pv 0) pe_int (fun _ _ => rfl)) (pe_ix ix_tup (pv 1) pe_int (fun _ _ => rfl))) pa_nil)))), ?_⟩
    have a5 : 3000 ≤ 200000 := by decide
    refine ⟨_, rfl, p, _, 0, _, rfl, rfl, .inl (.inl hp), rfl, _, rfl, q, _, 1, _, rfl, rfl, .inl (.inl hq), rfl, _, _, rfl, rfl, Bd.mul x1 y2 a5 a5, _, rfl, q, _, 0, _, rfl, rfl, .inl (.inl hq), rfl, _, rfl, p, _, 1, _, rfl, rfl, .inl (.inl hp), rfl, _, _, rfl, rfl, Bd.mul y1 x2 a5 a5, _, _, rfl, rfl, ?_⟩
    exact ⟨_, rfl, p, _, 1, _, rfl, rfl, .inl (.inl hp), rfl, _, rfl, q, _, 1, _, rfl, rfl, .inl (.inl hq), rfl, _, _, rfl, rfl, Bd.mul x2 y2 a5 a5, _, _, rfl, Int.mul_pos x0 y0, ((x1.mulB y2).subB (y1.mulB x2)).big (by decide), (x2.mulB y2).big (by decide), k⟩
theorem ok_times {f fQ : Addr} {fd dQ : FuncData} (F : Fun K "_law_times" "_law_times" sTimes f fd) (L : Cl P w K mg base "_law_q" psQ 2 spQ fQ dQ) : FnOk P w K mg base CX0 3 f fd psOT (spTwo timF fun _ => True) := by
  refine F.ok scTimes (fun vs H Q E h => ?_) (fun cdv A outer s H vs Q E hr h => ?_)
  · obtain ⟨p, q, x, y, rfl, _⟩ := h
    rfl
  · obtain ⟨p, q, x, y, rfl, hp, hq, ⟨x0, x1, x2⟩, ⟨y0, y1, y2⟩, _, k⟩ := h
    refine ⟨_, pss_one (ps_ret (pe_call L.G hr (by rfl) L.g L.kp L.b .nil pass0 (pa_cons (pe_op op_mulW (pe_ix ix_tup (pv 0) pe_int (fun _ _ => rfl)) (pe_ix ix_tup (pv 1) pe_int (fun _ _ => rfl)))
      (pa_cons (pe_op op_mulW (pe_ix ix_tup (pv 0) pe_int (fun _ _ => rfl)) (pe_ix ix_tup (pv 1) pe_int (fun _ _ => rfl))) pa_nil)))), ?_⟩
    have a5 : 3000 ≤ 200000 := by decide
    exact ⟨_, rfl, p, _, 0, _, rfl, rfl, .inl (.inl hp), rfl, _, rfl, q, _, 0, _, rfl, rfl, .inl (.inl hq), rfl, _, _, rfl, rfl, Bd.mul x1 y1 a5 a5, _, rfl, p, _, 1, _, rfl, rfl, .inl (.inl hp), rfl, _, rfl, q, _, 1, _, rfl, rfl, .inl (.inl hq), rfl, _, _, rfl, rfl, Bd.mul x2 y2 a5 a5, _, _, rfl, Int.mul_pos x0 y0, (x1.mulB y1).big (by decide), (x2.mulB y2).big (by decide), k⟩
theorem ok_over {f fQ : Addr} {fd dQ : FuncData} (F : Fun K "_law_over" "_law_over" sOver f fd) (L : Cl P w K mg base "_law_q" psQ 2 spQ fQ dQ) : FnOk P w K mg base CX0 3 f fd psOT (spTwo ovF fun y => 0 < y.1) := by
  refine F.ok scOver (fun vs H Q E h => ?_) (fun cdv A outer s H vs Q E hr h => ?_)
  · obtain ⟨p, q, x, y, rfl, _⟩ := h
    rfl
  · obtain ⟨p, q, x, y, rfl, hp, hq, ⟨x0, x1, x2⟩, ⟨_, y1, y2⟩, y0, k⟩ := h
    refine ⟨_, pss_one (ps_ret (pe_call L.G hr (by rfl) L.g L.kp L.b .nil pass0 (pa_cons (pe_op op_mulW (pe_ix ix_tup (pv 0) pe_int (fun _ _ => rfl)) (pe_ix ix_tup (pv 1) pe_int (fun _ _ => rfl)))
      (pa_cons (pe_op op_mulW (pe_ix ix_tup (pv 0) pe_int (fun _ _ => rfl)) (pe_ix ix_tup (pv 1) pe_int (fun _ _ => rfl))) pa_nil)))), ?_⟩
    have a5 : 3000 ≤ 200000 := by decide
    exact ⟨_, rfl, p, _, 0, _, rfl, rfl, .inl (.inl hp), rfl, _, rfl, q, _, 1, _, rfl, rfl, .inl (.inl hq), rfl, _, _, rfl, rfl, Bd.mul x1 y2 a5 a5, _, rfl, p, _, 1, _, rfl, rfl, .inl (.inl hp), rfl, _, rfl, q, _, 0, _, rfl, rfl, .inl (.inl hq), rfl, _, _, rfl, rfl, Bd.mul x2 y1 a5 a5, _, _, rfl, Int.mul_pos x0 y0, (x1.mulB y2).big (by decide), (x2.mulB y1).big (by decide), k⟩
theorem ok_less {f : Addr} {fd : FuncData} (F : Fun K "_law_less" "_law_less" sLess f fd) : FnOk P w K mg base CX0 1 f fd psOT spLess := by
  refine F.ok scLess (fun vs H Q E h => ?_) (fun cdv A outer s H vs Q E hr h => ?_)
  · obtain ⟨p, q, x, y, rfl, _⟩ := h
    rfl
  · obtain ⟨p, q, x, y, rfl, hp, hq, ⟨x0, x1, x2⟩, ⟨y0, y1, y2⟩, k⟩ := h
    refine ⟨_, pss_one (ps_ret (pe_cmpR op_lt (pe_op op_mulW (pe_ix ix_tup (pv 0) pe_int (fun _ _ => rfl)) (pe_ix ix_tup (pv 1) pe_int (fun _ _ => rfl))) (pe_op op_mulW (pe_ix ix_tup (pv 1) pe_int (fun _ _ => rfl)) (pe_ix ix_tup (pv 0) pe_int (fun _ _ => rfl))) (nomark _))), ?_⟩
    have a5 : 3000 ≤ 200000 := by decide
    exact ⟨_, rfl, p, _, 0, _, rfl, rfl, .inl (.inl hp), rfl, _, rfl, q, _, 1, _, rfl, rfl, .inl (.inl hq), rfl, _, _, rfl, rfl, Bd.mul x1 y2 a5 a5, _, rfl, q, _, 0, _, rfl, rfl, .inl (.inl hq), rfl, _, rfl, p, _, 1, _, rfl, rfl, .inl (.inl hp), rfl, _, _, rfl, rfl, Bd.mul y1 x2 a5 a5, _, _, rfl, rfl, k⟩
end
/-! ### drawn ratios -/
abbrev sLRatio : Stmt := top 31
abbrev sAbove : Stmt := top 32
def spLRatio : Sp := fun vs H Q _ => ∃ (p l : Addr) (c fg : Int), vs = [.ref p, .int fg] ∧ PenAt H p l c ∧ c < 800000000 ∧ 1 ≤ fg ∧ fg ≤ 25 ∧ ∀ q x c' H', Keep p H H' → PenAt H' p l c' → c ≤ c' → c' ≤ c + 40 → RatAt H' q x → Lw x → Q (.ref q) H'
def spAbove : Sp := fun vs H Q _ => ∃ (p l : Addr) (c : Int), vs = [.ref p] ∧ PenAt H p l c ∧ c < 800000000 ∧ ∀ q x c' H', Keep p H H' → PenAt H' p l c' → c ≤ c' → c' ≤ c + 40 → RatAt H' q x → Lw x → 0 < x.1 → Q (.ref q) H'
theorem fig_bd {r fg : Int} (h0 : 0 ≤ r) (h : r < 10 ^ fg.toNat) (f : fg ≤ 25) : Bd 90 r := by
  have e : ((10 : Int) ^ fg.toNat) = ((10 ^ fg.toNat : Nat) : Int) := by simp
  rw [e] at h
  have z : (10 : Nat) ^ fg.toNat ≤ 10 ^ 25 := Nat.pow_le_pow_right (by decide) (by omega)
  have z2 : (10 : Nat) ^ 25 < 2 ^ 90 := by decide
  unfold Bd
  omega
theorem PenAt.same {H H' : Hp} {p l : Addr} {c : Int} (h : PenAt H p l c) (s : Same H H') : PenAt H' p l c := by
  obtain ⟨⟨a, d, f, ns, h1, h2, h3⟩, lo⟩ := h
  exact ⟨⟨a, d, f, ns, s _ _ h1, s _ _ h2, h3⟩, lo⟩
section
variable {P : Program} {w : World} {K : PySem.W.Frag} {mg : Str → Option Value} {base : Heap}
theorem scLRatio : FnScope ["_law_pen_here", "_law_figures", "_law_top", "_law_bottom"] psBig (defScope sLRatio) := ⟨rfl, rfl, rfl, by decide +kernel, rfl, by decide +kernel, by decide +kernel⟩
theorem scAbove : FnScope ["_law_pen_here"] ["_law_pen_here"] (defScope sAbove) := ⟨rfl, rfl, rfl, by decide +kernel, rfl, by decide +kernel, by decide +kernel⟩
theorem ok_lratio {f fD fP fB fQ : Addr} {fd dD dP dB dQ : FuncData} (F : Fun K "_law_ratio" "_law_ratio" sLRatio f fd) (D : Cl P w K mg base "_law_draw" psDraw 1 spDraw fD dD) (C : Cl P w K mg base "_law_pick" psPick 2 spPick fP dP) (B : Cl P w K mg base "_law_big" psBig 3 spBig fB dB) (L : Cl P w K mg base "_law_q" psQ 2 spQ fQ dQ) :
    FnOk P w K mg base CX0 4 f fd psBig spLRatio := by
  refine F.ok scLRatio (fun vs H Q E h => ?_) (fun cdv A outer s H vs Q E hr h => ?_)
  · obtain ⟨p, l, c, fg, rfl, _⟩ := h
    rfl
  · obtain ⟨p, l, c, fg, rfl, hp, c1, f1, f2, k⟩ := h
    have hr2 := hr.mono (show 2 ≤ 3 by decide)
    have hr1 := hr.mono (show 1 ≤ 3 by decide)
    refine ⟨_, pss_cons (ps_set (i := 2) scLRatio.nd rfl (Or.inl rfl) (pe_call B.G hr (by rfl) B.g B.kp B.b .nil pass0 (pa_cons (pv 0) (pa_cons (pv 1) pa_nil))))
      (pss_cons (ps_set (i := 3) scLRatio.nd rfl (Or.inl rfl) (pe_call C.G hr2 (by rfl) C.g C.kp C.b .nil pass0 (pa_cons (pv 0) (pa_cons (pe_lst (pa_cons pe_int (pa_cons pe_int (pa_cons pe_int (pa_cons pe_int (pa_cons pe_int (pa_cons pe_int (pa_cons pe_int (pa_cons (pe_op op_add pe_int (pe_call D.G hr1 (by rfl) D.g D.kp D.b .nil pass0 (pa_cons (pv 0) (pa_cons pe_int pa_nil)))) pa_nil))))))))) pa_nil))))
      (pss_one (ps_ret (pe_call L.G hr2 (by rfl) L.g L.kp L.b .nil pass0 (pa_cons (pe_op op_mulW (pe_call C.G hr2 (by rfl) C.g C.kp C.b .nil pass0 (pa_cons (pv 0) (pa_cons (pe_lst (pa_cons pe_int (pa_cons pe_int (pa_cons (pe_un un_neg pe_int) pa_nil)))) pa_nil))) (pv 2)) (pa_cons (pv 3) pa_nil)))))), ?_⟩
    refine ⟨_, rfl, _, rfl, p, l, c, fg, rfl, hp, by omega, f1, by omega, fun r c2 H1 r0 r1 l1 l2 P1 k1 => ?_⟩
    have rb := fig_bd r0 r1 f2
    refine ⟨_, rfl, _, rfl, p, l, c2, 97, rfl, P1, by omega, by decide, by decide, fun d H2 d0 d1 P2 k2 => ?_⟩
    refine ⟨_, _, rfl, rfl, by show 8 ≤ sizeLine; decide, fun q hq => ?_⟩
    refine ⟨p, l, q, c2 + 1, _, rfl, P2.upd hq, by omega, upd_same, by show 0 < 8; decide, by show 8 ≤ 1000; decide, fun i x H3 hx P3 k3 => ?_⟩
    obtain ⟨b, rfl, b0, b1⟩ : ∃ b : Int, x = .int b ∧ 0 < b ∧ b ≤ 97 := by
      have hm := List.mem_of_getElem? hx
      simp only [List.mem_cons, List.not_mem_nil, or_false] at hm
      rcases hm with e | e | e | e | e | e | e | e
      · exact ⟨1, e, by decide, by decide⟩
      · exact ⟨1, e, by decide, by decide⟩
      · exact ⟨1, e, by decide, by decide⟩
      · exact ⟨2, e, by decide, by decide⟩
      · exact ⟨3, e, by decide, by decide⟩
      · exact ⟨4, e, by decide, by decide⟩
      · exact ⟨7, e, by decide, by decide⟩
      · exact ⟨1 + d, e, by omega, by omega⟩
    refine ⟨_, rfl, 1, rfl, by show 3 ≤ sizeLine; decide, fun q2 hq2 => ?_⟩
    refine ⟨p, l, q2, c2 + 1 + 1, _, rfl, P3.upd hq2, by omega, upd_same, by show 0 < 3; decide, by show 3 ≤ 1000; decide, fun i2 x2 H4 hx2 P4 k4 => ?_⟩
    obtain ⟨s1, rfl, sb⟩ : ∃ s1 : Int, x2 = .int s1 ∧ Bd 1 s1 := by
      have hm := List.mem_of_getElem? hx2
      simp only [List.mem_cons, List.not_mem_nil, or_false] at hm
      rcases hm with e | e | e
      · exact ⟨1, e, one_bd⟩
      · exact ⟨1, e, one_bd⟩
      · exact ⟨-1, e, by unfold Bd; decide⟩
    have bb : Bd 100 b := by
      unfold Bd
      have : (97 : Nat) < 2 ^ 100 := by decide
      omega
    refine ⟨_, rfl, _, _, rfl, rfl, Bd.mul sb rb (by decide) (by decide), _, rfl, _, b, rfl, b0, ((sb.mulB rb).big (by decide)), (bb.big (by decide)), fun u H5 s5 hu => ?_⟩
    have k04 : Keep p H H4 := k1.trans (k2.trans ((Keep.new hq).trans (k3.trans ((Keep.new hq2).trans k4))))
    exact k u _ (c2 + 1 + 1 + 1) H5 (k04.trans (Same.keep s5)) (P4.same s5) (by omega) (by omega) hu (low_lw b0 ((sb.mulB rb).mono (by decide)) bb)
theorem ok_above {f fD fP fB fQ : Addr} {fd dD dP dB dQ : FuncData} (F : Fun K "_law_above" "_law_above" sAbove f fd) (D : Cl P w K mg base "_law_draw" psDraw 1 spDraw fD dD) (C : Cl P w K mg base "_law_pick" psPick 2 spPick fP dP) (B : Cl P w K mg base "_law_big" psBig 3 spBig fB dB) (L : Cl P w K mg base "_law_q" psQ 2 spQ fQ dQ) :
    FnOk P w K mg base CX0 4 f fd ["_law_pen_here"] spAbove := by
  refine F.ok scAbove (fun vs H Q E h => ?_) (fun cdv A outer s H vs Q E hr h => ?_)
  · obtain ⟨p, l, c, rfl, _⟩ := h
    rfl
  · obtain ⟨p, l, c, rfl, hp, c1, k⟩ := h
    have hr2 := hr.mono (show 2 ≤ 3 by decide)
    have hr1 := hr.mono (show 1 ≤ 3 by decide)
    refine ⟨_, pss_one (ps_ret (pe_call L.G hr2 (by rfl) L.g L.kp L.b .nil pass0 (pa_cons (pe_op op_add pe_int (pe_call B.G hr (by rfl) B.g B.kp B.b .nil pass0 (pa_cons (pv 0) (pa_cons (pe_call C.G hr2 (by rfl) C.g C.kp C.b .nil pass0 (pa_cons (pv 0) (pa_cons (pe_lst (pa_cons pe_int (pa_cons pe_int (pa_cons pe_int pa_nil)))) pa_nil))) pa_nil))))
      (pa_cons (pe_op op_add pe_int (pe_call D.G hr1 (by rfl) D.g D.kp D.b .nil pass0 (pa_cons (pv 0) (pa_cons pe_int pa_nil)))) pa_nil)))), ?_⟩
    refine ⟨_, rfl, _, rfl, by show 3 ≤ sizeLine; decide, fun q hq => ?_⟩
    refine ⟨p, l, q, c, _, rfl, hp.upd hq, by omega, upd_same, by show 0 < 3; decide, by show 3 ≤ 1000; decide, fun i x H1 hx P1 k1 => ?_⟩
    obtain ⟨fg, rfl, f1, f2⟩ : ∃ fg : Int, x = .int fg ∧ 1 ≤ fg ∧ fg ≤ 25 := by
      have hm := List.mem_of_getElem? hx
      simp only [List.mem_cons, List.not_mem_nil, or_false] at hm
      rcases hm with e | e | e
      · exact ⟨1, e, by decide, by decide⟩
      · exact ⟨2, e, by decide, by decide⟩
      · exact ⟨25, e, by decide, by decide⟩
    refine ⟨p, l, c + 1, fg, rfl, P1, by omega, f1, by omega, fun r c2 H2 r0 r1 l1 l2 P2 k2 => ?_⟩
    have rb := fig_bd r0 r1 f2
    refine ⟨_, _, rfl, rfl, _, rfl, p, l, c2, 40, rfl, P2, by omega, by decide, by decide, fun d H3 d0 d1 P3 k3 => ?_⟩
    have ab : Bd 91 (1 + r) := (one_bd.mono (by decide)).addB rb
    have bb : Bd 100 (1 + d) := by
      unfold Bd
      have : (97 : Nat) < 2 ^ 100 := by decide
      omega
    refine ⟨_, _, rfl, rfl, _, _, rfl, by omega, ab.big (by decide), bb.big (by decide), fun u H5 s5 hu => ?_⟩
    have k04 : Keep p H H3 := (Keep.new hq).trans (k1.trans (k2.trans k3))
    exact k u _ (c2 + 1) H5 (k04.trans (Same.keep s5)) (P3.same s5) (by omega) (by omega) hu (low_lw (by omega) (ab.mono (by decide)) bb) (low_pos (by omega) (by omega))
end
end Fk

set_option Elab.async false
set_option maxRecDepth 100000
set_option maxHeartbeats 4000000
set_option exponentiation.threshold 20000
namespace Fk
open PySem L2
/-! ### the best fraction -/
theorem less_iff {a b c d : Int} (b0 : 0 < b) (d0 : 0 < d) : (lowI a b).1 * (lowI c d).2 < (lowI c d).1 * (lowI a b).2 ↔ a * d < c * b := by
  obtain ⟨g, x, y, g0, e1, e2, y0, _, e⟩ := low_parts (a := a) b0
  obtain ⟨k, u, v, k0, e3, e4, v0, _, e'⟩ := low_parts (a := c) d0
  rw [e, e']
  show x * v < u * y ↔ _
  have gk := Int.mul_pos g0 k0
  have z1 : a * d = (g * k) * (x * v) := by rw [e1, e4]; ac_rfl
  have z2 : c * b = (g * k) * (u * y) := by rw [e3, e2]; ac_rfl
  rw [z1, z2]
  exact ⟨fun h => Int.mul_lt_mul_of_pos_left h gk, fun h => Int.lt_of_mul_lt_mul_left h (Int.le_of_lt gk)⟩
theorem cross_le {ti tb tj bi bb bj : Int} (b0 : 0 < bb) (i0 : 0 < bi) (j0 : 0 < bj) (h1 : ti * bb ≤ tb * bi) (h2 : tb * bj < tj * bb) : ti * bj ≤ tj * bi := by
  have e1 := Int.mul_le_mul_of_nonneg_right h1 (Int.le_of_lt j0)
  have e2 := Int.mul_lt_mul_of_pos_right h2 i0
  have x1 : ti * bb * bj = (ti * bj) * bb := by ac_rfl
  have x2 : tb * bi * bj = tb * bj * bi := by ac_rfl
  have x3 : tj * bb * bi = (tj * bi) * bb := by ac_rfl
  rw [x1, x2] at e1
  rw [x3] at e2
  exact Int.le_of_mul_le_mul_right (Int.le_trans e1 (Int.le_of_lt e2)) b0
def Top (ws row : List (Int × Int)) (n b : Nat) : Prop := ∀ j, j < n → topF (gp ws j) (gp row j) * botF (gp ws b) (gp row b) ≤ topF (gp ws b) (gp row b) * botF (gp ws j) (gp row j)
abbrev sBest : Stmt := top 33
abbrev psBest : List Str := ["_law_row", "_law_right", "_law_worth"]
abbrev nsBest : List Str := ["_law_row", "_law_right", "_law_worth", "_law_best_here", "_law_one", "_law_two"]
def spBest : Sp := fun vs H Q _ => ∃ (rl q wl : Addr) (rs ps : List Addr) (row ws : List (Int × Int)) (R : Int × Int), vs = [.ref rl, .ref q, .ref wl] ∧ H rl = some (.lst (rv rs)) ∧ PairsAt H rs row ∧ H wl = some (.lst (rv ps)) ∧ PairsAt H ps ws ∧ RatAt H q R ∧ Lw R ∧ row.length = ws.length ∧ 0 < ws.length ∧ (∀ x ∈ row, Lw x ∧ 0 < x.1) ∧ (∀ x ∈ ws, Lw x) ∧
  ∀ r H' b, b < ws.length → Top ws row ws.length b → Same H H' → RatAt H' r (timF (lowI (topF (gp ws b) (gp row b)) (botF (gp ws b) (gp row b))) R) → Q (.ref r) H'
theorem Lw.fine {x : Int × Int} (h : Lw x) : Fine 3000 x := ⟨h.p, h.b1.mono (by decide), h.b2.mono (by decide)⟩
section
variable {P : Program} {w : World} {K : PySem.W.Frag} {mg : Str → Option Value} {base : Heap}
theorem scBest : FnScope nsBest psBest (defScope sBest) := ⟨rfl, rfl, rfl, by decide +kernel, rfl, by decide +kernel, by decide +kernel⟩
theorem ok_best {f fO fL fT : Addr} {fd dO dL dT : FuncData} (F : Fun K "_law_best" "_law_best" sBest f fd) (mz : mg "zip" = none) (O : Cl P w K mg base "_law_over" psOT 3 (spTwo ovF fun y => 0 < y.1) fO dO) (Le : Cl P w K mg base "_law_less" psOT 1 spLess fL dL) (Ti : Cl P w K mg base "_law_times" psOT 3 (spTwo timF fun _ => True) fT dT) : FnOk P w K mg base CX0 4 f fd psBest spBest := by
  refine F.ok scBest (fun vs H Q E h => ?_) (fun cdv A outer s H vs Q E hr h => ?_)
  · obtain ⟨rl, q, wl, rs, ps, row, ws, R, rfl, _⟩ := h
    rfl
  · obtain ⟨rl, q, wl, rs, ps, row, ws, R, rfl, hrl, hrs, hwl, hps, hq, lwR, hn, n0, hrow, hws, k⟩ := h
    have hr1 := hr.mono (show 1 ≤ 3 by decide)
    refine ⟨_, pss_cons (ps_set (i := 3) scBest.nd rfl (Or.inl rfl) (pe_call O.G hr (by rfl) O.g O.kp O.b .nil pass0 (pa_cons (pe_ix ix_list (pv 2) pe_int (fun _ _ => rfl)) (pa_cons (pe_ix ix_list (pv 0) pe_int (fun _ _ => rfl)) pa_nil))))
      (pss_cons (ps_for PassesOwn.never rfl (RZ.pi_zipA (by rfl) mz (pa_cons (pv 2) (pa_cons (pv 0) pa_nil))) (pg_tup (by rfl) (pgs_cons (pg_name (i := 4) scBest.nd rfl (Or.inl rfl)) (pgs_cons (pg_name (i := 5) scBest.nd rfl (Or.inl rfl)) pgs_nil)))
        (pss_one (ps_if (pt_val (pe_call Le.G hr1 (by rfl) Le.g Le.kp Le.b .nil pass0 (pa_cons (pv 3) (pa_cons (pe_call O.G hr (by rfl) O.g O.kp O.b .nil pass0 (pa_cons (pv 4) (pa_cons (pv 5) pa_nil))) pa_nil))))
          (pss_one (ps_set (i := 3) scBest.nd rfl (Or.inl rfl) (pe_call O.G hr (by rfl) O.g O.kp O.b .nil pass0 (pa_cons (pv 4) (pa_cons (pv 5) pa_nil))))) pss_nil)))
      (pss_one (ps_ret (pe_call Ti.G hr (by rfl) Ti.g Ti.kp Ti.b .nil pass0 (pa_cons (pv 3) (pa_cons (pv 1) pa_nil)))))), ?_⟩
    have lr : ∀ {j : Nat}, j < ws.length → Lw (gp row j) ∧ 0 < (gp row j).1 := fun {j} hj => hrow _ (gp_mem (by omega))
    have lw : ∀ {j : Nat}, j < ws.length → Lw (gp ws j) := fun {j} hj => hws _ (gp_mem hj)
    have bp : ∀ {j : Nat}, j < ws.length → 0 < botF (gp ws j) (gp row j) := fun {j} hj => Int.mul_pos (lw hj).p (lr hj).2
    have fin : ∀ {j : Nat}, j < ws.length → Fine 3000 (lowI (topF (gp ws j) (gp row j)) (botF (gp ws j) (gp row j))) := fun {j} hj => by
      have z := low_bd (A := 3000) (B := 3000) (bp hj) (((lw hj).b1.mulB (lr hj).1.b2).mono (by decide)) (((lw hj).b2.mulB (lr hj).1.b1).mono (by decide))
      exact ⟨(low_val (bp hj)).1, z.1, z.2⟩
    obtain ⟨w0, hw0, rw0⟩ := hps.at_ n0
    obtain ⟨x0, hx0, rx0⟩ := hrs.at_ (show 0 < row.length by omega)
    refine ⟨_, rfl, wl, _, _, _, rfl, rfl, SqL.of hwl, hw0, _, rfl, rl, _, _, _, rfl, rfl, SqL.of hrl, hx0, w0, x0, _, _, rfl, rw0, rx0, (lw n0).fine, (lr n0).1.fine, (lr n0).2, fun r1 H1 s1 h1 => ?_⟩
    refine ⟨_, rfl, _, rfl, wl, rl, rv ps, rv rs, rfl, .inl ⟨SqL.of (s1 _ _ hwl), SqL.of (s1 _ _ hrl), RZ.for_zipL (K := K) (by rw [rv_len, rv_len, hps.1, hrs.1, hn]) (fun i σ H' => Same H H' ∧ ∃ (r : Addr) (b : Nat) (v4 v5 : Option V), RatAt H' r (lowI (topF (gp ws b) (gp row b)) (botF (gp ws b) (gp row b))) ∧ b < ws.length ∧ (∀ j, j < i → topF (gp ws j) (gp row j) * botF (gp ws b) (gp row b) ≤ topF (gp ws b) (gp row b) * botF (gp ws j) (gp row j)) ∧
      σ = [some (.ref rl), some (.ref q), some (.ref wl), some (.ref r), v4, v5]) ⟨s1, r1, 0, none, none, h1, n0, fun j hj => absurd hj (by omega), rfl⟩ (fun i σ H' ⟨z, _⟩ => ⟨SqL.of (z _ _ hwl), SqL.of (z _ _ hrl)⟩) ?_ ?_⟩⟩
    · rintro i x y T σ H' hx hy ⟨s2, r, b, v4, v5, hr', hb, htop, rfl⟩ hT
      obtain ⟨pw, xw, rfl, _, hxw, rxw⟩ := (hps.same s2).get hx
      obtain ⟨pr, xr, rfl, _, hxr, rxr⟩ := (hrs.same s2).get hy
      have hi : i < ws.length := (List.getElem?_eq_some_iff.mp hxw).1
      have exw : xw = gp ws i := by
        have z := gp_at hi
        rw [hxw] at z
        exact Option.some.inj z
      have exr : xr = gp row i := by
        have z := gp_at (show i < row.length by omega)
        rw [hxr] at z
        exact Option.some.inj z
      rw [exw] at rxw
      rw [exr] at rxr
      have s3 := same_new (o := .tup [.ref pw, .ref pr]) hT
      refine ⟨T, _, rfl, .inl (.inl upd_same), rfl, _, _, rfl, _, _, rfl, rfl, ?_⟩
      refine ⟨_, rfl, _, rfl, _, rfl, pw, pr, _, _, rfl, s3 _ _ rxw, s3 _ _ rxr, (lw hi).fine, (lr hi).1.fine, (lr hi).2, fun r2 H3 s4 h2 => ?_⟩
      have s34 := s3.trans s4
      refine ⟨r, r2, _, _, rfl, s34 _ _ hr', h2, fin hb, fin hi, _, rfl, ite2 (fun hg => ?_) (fun hg => ?_)⟩
      · have hlt := (less_iff (bp hb) (bp hi)).mp (of_decide_eq_true hg)
        refine ⟨_, rfl, _, rfl, pw, pr, _, _, rfl, s34 _ _ rxw, s34 _ _ rxr, (lw hi).fine, (lr hi).1.fine, (lr hi).2, fun r3 H4 s5 h3 => ?_⟩
        refine ⟨s2.trans (s34.trans s5), r3, i, some (.ref pw), some (.ref pr), h3, hi, fun j hj => ?_, rfl⟩
        rcases Nat.lt_or_eq_of_le (Nat.le_of_lt_succ hj) with z | rfl
        · exact cross_le (bp hb) (bp (by omega)) (bp hi) (htop j z) hlt
        · exact Int.le_refl _
      · have hge : ¬ topF (gp ws b) (gp row b) * botF (gp ws i) (gp row i) < topF (gp ws i) (gp row i) * botF (gp ws b) (gp row b) := fun z => hg (decide_eq_true ((less_iff (bp hb) (bp hi)).mpr z))
        refine ⟨s2.trans s34, r, b, some (.ref pw), some (.ref pr), s34 _ _ hr', hb, fun j hj => ?_, rfl⟩
        rcases Nat.lt_or_eq_of_le (Nat.le_of_lt_succ hj) with z | rfl
        · exact htop j z
        · exact Int.not_lt.mp hge
    · rintro σ H' ⟨s2, r, b, v4, v5, hr', hb, htop, rfl⟩
      rw [rv_len, hps.1] at htop
      exact ⟨_, rfl, _, rfl, r, q, _, R, rfl, hr', s2 _ _ hq, fin hb, lwR.fine, trivial, fun r5 H5 s5 h5 => k r5 H5 b hb htop (s2.trans s5) h5⟩
end
end Fk

set_option Elab.async false
set_option maxRecDepth 100000
set_option maxHeartbeats 4000000
namespace Fk
open PySem PySem.Spec L2 PyProof.Rows
/-! ### isinstance(e, C), e with fields -/
def rIsED (K : PySem.W.Frag) (cls : Value) (d : Option Addr) (D a : Addr) : List V → Hp → VK → Prop := fun xs H Q => ∃ (c : V) (cv : Value) (b : Bool) (dd : Addr) (fs : List (Str × V)), xs = [.ref a, c] ∧ cls = .ref D ∧ d = some dd ∧ H dd = some (.xd fs) ∧ (∀ u, RelV c u → u = cv) ∧ PySem.W.kitOne K (.ref D) cv = some b ∧ Q (.bl b) H
theorem call_isED {X : Cx} {a D : Addr} {oe : Obj} {cls : Value} {d : Option Addr} {pn : List (Addr × Obj)} (C : ExcC X.K D) (hz : Zc cls d oe) (hf : ∃ vs, oe.data = .fields vs) : CallR (X.suite a ((a, oe) :: pn)) (.builtin "isinstance") (rIsED X.K cls d D a) := by
  intro pins s σ H xs us Q I r h
  obtain ⟨c, cv, b, dd, fs, rfl, ec, ed, ea, hcv, e, q⟩ := h
  subst ec
  subst ed
  cases r with
  | cons rx rr =>
    cases rr with
    | cons rt rr =>
      cases rr
      cases rx
      have ec := hcv _ rt
      subst ec
      obtain ⟨hget, _⟩ := I.pin (a, oe) (List.mem_append.mpr (.inl List.mem_cons_self))
      obtain ⟨vs, hv⟩ := hf
      have hx : ObjOk X.prog X.w H s.heap dd (.xd fs) := I.hok dd _ ea
      obtain ⟨mA, hns, hr⟩ := hx
      obtain ⟨od, ho, hl⟩ := lookIn_ns hns
      have J : PySem.W.InstAt s.heap a oe D (some od) := ⟨hget, hz.1, by unfold PySem.W.notCls; rw [hv] <;> rfl, by rw [hz.2]; exact ho⟩
      have hcl : (PySem.W.clsIn X.K D).isSome = true := by
        have z := C.hd
        unfold PySem.W.hasDictIn at z
        cases q : PySem.W.clsIn X.K D with
        | none =>
          rw [q] at z
          cases z
        | some cd => rfl
      exact PySem.W.kia_one (PySem.W.kitx_exc hcl C.hg C.hk C.hs C.ha C.hn C.ht C.hm) I.kIn J e (fun z => nomatch z) fun tk => ⟨.bl b, H, I.kept (t' := tk) fun _ _ z => z, rfl, q⟩
theorem op_eqDK {X : Cx} {K : PySem.W.Frag} (hK : X.K = K) (hu : X.A.units + 64 < cLine) : OpR X (compareOp .Eq) (rEqD K) := hK ▸ op_eqD hu
theorem op_neDK {X : Cx} {K : PySem.W.Frag} (hK : X.K = K) (hu : X.A.units + 64 < cLine) : OpR X (compareOp .NotEq) (rNeD K) := hK ▸ op_neD hu
def rRepr (K : PySem.W.Frag) : List V → Hp → VK → Prop := fun xs H Q => ∃ (v : V) (d : PyData), xs = [v] ∧ Dp K H v d ∧ d.showable = true ∧ d.hasDict = false ∧ d.depth ≤ 10 ∧ d.shown.length ≤ sizeLine ∧ Q (.str d.shown) H
theorem call_reprVK {X : Cx} {K : PySem.W.Frag} (hK : X.K = K) (hg : X.A.guards = some []) (hu : X.A.units + 64 < cLine) : CallR X (.builtin "repr") (rRepr K) := hK ▸ call_reprV hg hu
/-! ### refused -/
abbrev sRefused : Stmt := top 34
abbrev psRefused : List Str := ["_law_rows", "_law_right", "_law_worth"]
theorem look_nw (v : V) : (numD v).lookup ("what" : Str) = some (V.str "entry") := by
  unfold numD
  rw [List.lookup_cons, show (("what" : Str) == "number") = false by decide +kernel, List.lookup_cons, show (("what" : Str) == "what") = true by decide +kernel]
theorem look_nn (v : V) : (numD v).lookup ("number" : Str) = some v := by
  unfold numD
  rw [List.lookup_cons, show (("number" : Str) == "number") = true by decide +kernel]
structure Kin (K : PySem.W.Frag) (mg : Str → Option Value) (CF CN : Addr) : Prop where
  gF : mg "FoeError" = some (.ref CF)
  gi : mg "isinstance" = none
  gr : mg "repr" = none
  lF : PySem.W.kitOne K (.ref CN) (.ref CF) = some true
  eN : ExcC K CN
  xN : XfC K CN
  nw : PySem.W.findIn K (.ref CN) "what" = some none
  nn : PySem.W.findIn K (.ref CN) "number" = some none
  mNN : PySem.W.exmOne K (.ref CN) (.ref CN) = some true
/-- data that can be shown -/
def Shows (K : PySem.W.Frag) (H : Hp) (v : V) (d : PyData) : Prop := (∀ H', Same H H' → Dp K H' v d) ∧ d.showable = true ∧ d.hasDict = false ∧ d.depth ≤ 10 ∧ d.shown.length ≤ sizeLine
def spRefused (K : PySem.W.Frag) : Sp := fun vs H Q _ => ∃ (rl rt wl : Addr) (rs : List Addr) (ys zs : List V) (v : V) (d : PyData), vs = [.ref rl, .ref rt, .ref wl] ∧ H rl = some (.lst (rv rs)) ∧ H rt = some (.lst ys) ∧ H wl = some (.lst zs) ∧
  (First K H rs (some v) ∨ (First K H rs none ∧ Chk K H ys (some v)) ∨ (First K H rs none ∧ Chk K H ys none ∧ Chk K H zs (some v))) ∧ Shows K H v d ∧ ∀ p H', Same H H' → H' p = some (.tup [.str "entry", .str d.shown]) → Q (.ref p) H'
section
variable {P : Program} {w : World} {K : PySem.W.Frag} {mg : Str → Option Value} {base : Heap}
theorem scRefused : FnScope ["_law_rows", "_law_right", "_law_worth", "e"] psRefused (defScope sRefused) := ⟨rfl, rfl, rfl, by decide +kernel, rfl, by decide +kernel, by decide +kernel⟩
theorem ok_refused {f CF CN CR CE CO gN fT : Addr} {fd dN dT : FuncData} (F : Fun K "_law_refused" "_law_refused" sRefused f fd) (T : Kin K mg CF CN) (EN : Err P w K mg base "BadNumber" numFs CN gN dN)
    (TG : FnOk P w K mg base (L2.CX P w) 5 fT dT ["rows", "right", "worth"] (spGreat K CN CR CE CO)) (Tg : mg "greatest" = some (.ref fT)) (Tk : PySem.W.keepIn K (.ref fT) = true) (Tb : Binds K dT ["rows", "right", "worth"] []) : FnG P w K mg base 6 f fd psRefused (spRefused K) := by
  refine fun_okG F scRefused (fun vs H Q E h => ?_) (fun cdv A outer s H vs Q E hG hr h => ?_)
  · obtain ⟨rl, rt, wl, rs, ys, zs, v, d, rfl, _⟩ := h
    rfl
  · obtain ⟨rl, rt, wl, rs, ys, zs, v, d, rfl, hrl, hrt, hwl, hbad, ⟨s1, s2, s3, s4, s5⟩, k⟩ := h
    refine ⟨_, pss_cons (ps_try_each rfl rfl scRefused.nd takes0
        (fun W pn xe tk _ => pss_one (ps_expr (pe_callS TG hr (by rfl) Tg Tk Tb (passAt tk) (pa_cons (pv 0) (pa_cons (pv 1) (pa_cons (pv 2) pa_nil))))))
        (Clauses.cons (i := 3) ⟨by rfl, by decide +kernel, Or.inl EN.g⟩ rfl rfl (fun a oe cls d pn hz hf =>
            pss_one (ps_ret (pe_ifExp (pt_val (pe_callB (call_isED T.eN hz hf) (by rfl) T.gi (by decide +kernel) (pa_cons (pv 3) (pa_cons (pe_glob (v := .ref CF) (by rfl) T.gF rfl) pa_nil))))
              (pe_tup (pa_cons (pe_xf T.xN T.nw hz hf (pv 3)) (pa_cons (pe_callB (call_reprVK (K := K) rfl hG hr.units) (by rfl) T.gr (by decide +kernel) (pa_cons (pe_xf T.xN T.nn hz hf (pv 3)) pa_nil)) pa_nil))) pe_non))) Clauses.nil))
      (pss_one (ps_ret pe_non)), ?_⟩
    refine ⟨_, rfl, _, rfl, _, rfl, rl, rt, wl, rs, ys, zs, rfl, hrl, hrt, hwl, .inl ⟨v, hbad, fun dd H' hd hs he => ?_⟩⟩
    refine ⟨true, T.mNN, fun _ a ha => ?_, (fun q => nomatch q)⟩
    refine ⟨_, rfl, _, .ref CF, true, dd, _, rfl, rfl, rfl, he, (fun u r => r), T.lF, true, rfl, iteT ?_⟩
    exact ⟨_, rfl, rfl, rfl, dd, _, _, rfl, he, look_nw _, _, rfl, rfl, rfl, dd, _, _, rfl, he, look_nn _, v, d, rfl, s1 _ hs, s2, s3, s4, s5, by show 2 ≤ sizeLine; decide, fun p hp => k p _ (hs.trans (same_new hp)) upd_same⟩
end
end Fk

set_option Elab.async false
set_option maxRecDepth 100000
set_option maxHeartbeats 8000000
namespace Fk
open PySem PySem.Spec L2 PyProof.Rows
/-! ### the law -/
theorem dry {P : Program} {w : World} {K : PySem.W.Frag} {mg : Str → Option Value} {base : Heap} {k : Nat} {f : Addr} {fd : FuncData} {ps : List Str} {sp : Sp} (F : FnOk P w K mg base (L2.CX P w) k f fd ps sp) : FnOk P w K mg base CX0 k f fd ps (fun vs H Q _ => sp vs H Q fun _ _ _ => False) :=
  ⟨fun vs H Q _ h => F.len vs H Q _ h, fun A outer s H args us vs Q E hr he hb hv hs => codeAny_mono (F.run A outer s H args us vs Q _ hr he hb hv hs) fun r s' hh => by
    cases r with
    | error e =>
      obtain ⟨_, _, _, _, _, _, _, _, _, _, _, _, h⟩ := hh
      exact h.elim
    | ok fl => cases fl <;> exact hh⟩
theorem PenAt.dk {H : Hp} {p l : Addr} {c : Int} (P : PenAt H p l c) : ∃ u, H p = some u ∧ (∀ xs, HO.lst xs ≠ u) ∧ (∀ xs, HO.tup xs ≠ u) ∧ ∀ C dx fs, HO.ins C dx fs ≠ u := by
  obtain ⟨⟨a, d, f, ns, h1, _⟩, _⟩ := P
  exact ⟨_, h1, fun _ z => (nomatch z), fun _ z => (nomatch z), fun _ _ _ z => nomatch z⟩
theorem PenAt.there {H : Hp} {p l : Addr} {c : Int} (P : PenAt H p l c) : ∃ u, H l = some u := by
  obtain ⟨⟨a, d, f, ns, _, h2, _⟩, _⟩ := P
  exact ⟨_, h2⟩
theorem PenAt.set {H : Hp} {p l D : Addr} {c : Int} {o : HO} {xs : List V} (P : PenAt H p l c) (hD : H D = some (.lst xs)) (n : D ≠ l) : PenAt (L2.upd H D o) p l c := by
  obtain ⟨⟨a, d, f, ns, h1, h2, h3⟩, lo⟩ := P
  have nD : D ≠ p := fun e => by
    rw [e, h1] at hD
    cases hD
  exact ⟨⟨a, d, f, ns, by rw [upd_ne nD.symm]; exact h1, by rw [upd_ne n.symm]; exact h2, h3⟩, lo⟩
theorem Keep.lst {H H' : Hp} {p l q : Addr} {c : Int} {xs : List V} (k : Keep p H H') (P : PenAt H p l c) (h : H q = some (.lst xs)) : H' q = some (.lst xs) := by
  obtain ⟨u, h1, h2, _, _⟩ := P.dk
  exact k.there h1 h (h2 _)
theorem Keep.rat {H H' : Hp} {p l q : Addr} {c : Int} {x : Int × Int} (k : Keep p H H') (P : PenAt H p l c) (h : RatAt H q x) : RatAt H' q x := by
  obtain ⟨u, h1, _, h2, _⟩ := P.dk
  exact k.there h1 h (h2 _)
theorem Keep.pairs {H H' : Hp} {p l : Addr} {c : Int} {ps : List Addr} {fs : List (Int × Int)} (k : Keep p H H') (P : PenAt H p l c) (h : PairsAt H ps fs) : PairsAt H' ps fs := ⟨h.1, fun i q x a b => k.rat P (h.2 i q x a b)⟩
theorem new_ne {H : Hp} {p l D : Addr} {c : Int} (P : PenAt H p l c) (h : H D = none) : D ≠ l := fun e => by
  obtain ⟨u, hu⟩ := P.there
  rw [e, hu] at h
  cases h
/-- what a turn is drawn for -/
structure Bs (H : Hp) (rl wl : Addr) (rs ps : List Addr) (row ws : List (Int × Int)) (n : Nat) : Prop where
  hrl : H rl = some (.lst (rv rs))
  hrs : PairsAt H rs row
  hwl : H wl = some (.lst (rv ps))
  hps : PairsAt H ps ws
  ln : row.length = n
  lw : ws.length = n
  hrow : ∀ x ∈ row, Lw x ∧ 0 < x.1
  hws : ∀ x ∈ ws, Lw x
theorem Bs.keep {H H' : Hp} {p l rl wl : Addr} {c : Int} {rs ps : List Addr} {row ws : List (Int × Int)} {n : Nat} (b : Bs H rl wl rs ps row ws n) (P : PenAt H p l c) (k : Keep p H H') : Bs H' rl wl rs ps row ws n := ⟨k.lst P b.hrl, k.pairs P b.hrs, k.lst P b.hwl, k.pairs P b.hps, b.ln, b.lw, b.hrow, b.hws⟩
theorem Bs.same {H H' : Hp} {rl wl : Addr} {rs ps : List Addr} {row ws : List (Int × Int)} {n : Nat} (b : Bs H rl wl rs ps row ws n) (s : Same H H') : Bs H' rl wl rs ps row ws n := ⟨s _ _ b.hrl, b.hrs.same s, s _ _ b.hwl, b.hps.same s, b.ln, b.lw, b.hrow, b.hws⟩
/-- greatest of one row, of two -/
theorem spG_one {K : PySem.W.Frag} {CN CR CE CO : Addr} {H : Hp} {Q : VK} {E : XK} {L1 L2 rl q wl : Addr} {rs ps : List Addr} {row ws : List (Int × Int)} {R : Int × Int} {post : Res → Prop} (h1 : H L1 = some (.lst [.ref rl])) (h2 : H L2 = some (.lst [.ref q])) (hrl : H rl = some (.lst (rv rs))) (hrs : PairsAt H rs row) (hwl : H wl = some (.lst (rv ps))) (hps : PairsAt H ps ws) (hq : RatAt H q R)
    (ln : row.length = ws.length) (n8 : ws.length ≤ 8) (hrow : ∀ x ∈ row, Lw x) (hR : Lw R) (hws : ∀ x ∈ ws, Lw x) (G : Great [row] [R] ws post) (k : ∀ res v H', post res → Same H H' → ResAt CR CE CO H' v res → Q v H') : spGreat K CN CR CE CO [.ref L1, .ref L2, .ref wl] H Q E := by
  refine ⟨L1, L2, wl, [rl], [.ref q], rv ps, rfl, h1, h2, hwl, .inr ⟨[q], ps, [row], [R], ws, post, rfl, rfl, ⟨rfl, fun i p fs a b => ?_⟩, ⟨rfl, fun i p x a b => ?_⟩, hps, rfl, by show 1 ≤ 4; decide, n8, fun r hr => ?_, fun x hx => ?_, hws, G, k⟩⟩
  · match i, a, b with
    | 0, a, b =>
      cases a
      cases b
      exact ⟨rs, hrl, hrs⟩
  · match i, a, b with
    | 0, a, b =>
      cases a
      cases b
      exact hq
  · rw [List.mem_singleton.mp hr]
    exact ⟨ln, hrow⟩
  · rw [List.mem_singleton.mp hx]
    exact hR
theorem spG_two {K : PySem.W.Frag} {CN CR CE CO : Addr} {H : Hp} {Q : VK} {E : XK} {L1 L2 rl ol q q2 wl : Addr} {rs os ps : List Addr} {row oth ws : List (Int × Int)} {R R2 : Int × Int} {post : Res → Prop} (h1 : H L1 = some (.lst [.ref rl, .ref ol])) (h2 : H L2 = some (.lst [.ref q, .ref q2])) (hrl : H rl = some (.lst (rv rs))) (hrs : PairsAt H rs row) (hol : H ol = some (.lst (rv os))) (hos : PairsAt H os oth)
    (hwl : H wl = some (.lst (rv ps))) (hps : PairsAt H ps ws) (hq : RatAt H q R) (hq2 : RatAt H q2 R2) (ln : row.length = ws.length) (lo : oth.length = ws.length) (n8 : ws.length ≤ 8) (hrow : ∀ x ∈ row, Lw x) (hoth : ∀ x ∈ oth, Lw x) (hR : Lw R) (hR2 : Lw R2) (hws : ∀ x ∈ ws, Lw x)
    (G : Great [row, oth] [R, R2] ws post) (k : ∀ res v H', post res → Same H H' → ResAt CR CE CO H' v res → Q v H') : spGreat K CN CR CE CO [.ref L1, .ref L2, .ref wl] H Q E := by
  refine ⟨L1, L2, wl, [rl, ol], [.ref q, .ref q2], rv ps, rfl, h1, h2, hwl, .inr ⟨[q, q2], ps, [row, oth], [R, R2], ws, post, rfl, rfl, ⟨rfl, fun i p fs a b => ?_⟩, ⟨rfl, fun i p x a b => ?_⟩, hps, rfl, by show 2 ≤ 4; decide, n8, fun r hr => ?_, fun x hx => ?_, hws, G, k⟩⟩
  · match i, a, b with
    | 0, a, b =>
      cases a
      cases b
      exact ⟨rs, hrl, hrs⟩
    | 1, a, b =>
      cases a
      cases b
      exact ⟨os, hol, hos⟩
  · match i, a, b with
    | 0, a, b =>
      cases a
      cases b
      exact hq
    | 1, a, b =>
      cases a
      cases b
      exact hq2
  · rcases List.mem_cons.mp hr with e | e
    · rw [e]
      exact ⟨ln, hrow⟩
    · rw [List.mem_singleton.mp e]
      exact ⟨lo, hoth⟩
  · rcases List.mem_cons.mp hx with e | e
    · rw [e]
      exact hR
    · rw [List.mem_singleton.mp e]
      exact hR2
def numF (ws row : List (Int × Int)) (R : Int × Int) (b : Nat) : Int × Int := lowI (topF (gp ws b) (gp row b) * R.1) (botF (gp ws b) (gp row b) * R.2)
theorem great_told {row ws : List (Int × Int)} {R : Int × Int} {n : Nat} (n1 : 1 ≤ n) (n5 : n ≤ 5) (ln : row.length = n) (lw : ws.length = n) (hrow : ∀ x ∈ row, Lw x ∧ 0 < x.1) (hws : ∀ x ∈ ws, Lw x) (hR : Lw R) (r0 : 0 ≤ R.1) :
    Great [row] [R] ws (fun res => ∃ b, b < n ∧ Top ws row n b ∧ res = .reached (numF ws row R b)) := by
  have pos : ∀ {j : Nat}, j < n → 0 < (gp row j).1 := fun {j} hj => (hrow _ (gp_mem (by omega))).2
  refine great_one (p := 0) (by omega) (by omega) (fun x hx => (hrow x hx).1) hR r0 hws (by omega) (pos (by omega)) (fun b hb _ ht => ⟨b, by omega, fun j hj => ht j (by omega), rfl⟩) (fun b c _ hc _ c0 _ => ?_)
  have := pos (show c < n by omega)
  omega
theorem num_eq {row ws : List (Int × Int)} {R : Int × Int} {n b b' : Nat} (ln : row.length = n) (lw : ws.length = n) (hrow : ∀ x ∈ row, Lw x ∧ 0 < x.1) (hws : ∀ x ∈ ws, Lw x) (hR : Lw R) (hb : b < n) (hb' : b' < n) (h1 : Top ws row n b) (h2 : Top ws row n b') :
    timF (lowI (topF (gp ws b') (gp row b')) (botF (gp ws b') (gp row b'))) R = numF ws row R b := by
  have bp : ∀ {j : Nat}, j < n → 0 < botF (gp ws j) (gp row j) := fun {j} hj => Int.mul_pos (hws _ (gp_mem (by omega))).p (hrow _ (gp_mem (by omega))).2
  have e := Int.le_antisymm (h1 b' hb') (h2 b hb)
  obtain ⟨d0, ev⟩ := low_val (a := topF (gp ws b') (gp row b')) (bp hb')
  unfold timF numF
  generalize lowI (topF (gp ws b') (gp row b')) (botF (gp ws b') (gp row b')) = m at d0 ev ⊢
  have B0 := bp hb
  have B0' := bp hb'
  generalize topF (gp ws b) (gp row b) = t at *
  generalize botF (gp ws b) (gp row b) = B at *
  generalize topF (gp ws b') (gp row b') = t' at *
  generalize botF (gp ws b') (gp row b') = B' at *
  have key : m.1 * B = t * m.2 := by
    have z : (m.1 * B) * B' = (t * m.2) * B' := by
      have z1 : (m.1 * B) * B' = (m.1 * B') * B := by ac_rfl
      have z2 : (t' * m.2) * B = (t' * B) * m.2 := by ac_rfl
      have z3 : (t * B') * m.2 = (t * m.2) * B' := by ac_rfl
      rw [z1, ev, z2, e, z3]
    exact Int.eq_of_mul_eq_mul_right (by omega) z
  refine low_eq (Int.mul_pos d0 hR.p) (Int.mul_pos B0 hR.p) ?_
  have z4 : m.1 * R.1 * (B * R.2) = (m.1 * B) * (R.1 * R.2) := by ac_rfl
  have z5 : t * R.1 * (m.2 * R.2) = (t * m.2) * (R.1 * R.2) := by ac_rfl
  rw [z4, z5, key]
/-- a Reached with this number -/
def ToldAt (CR : Addr) (H : Hp) (T : Addr) (x : Int × Int) : Prop := ∃ dx s w pn, H T = some (.ins CR dx (reK.zip [.ref pn, .ref s, .ref w])) ∧ RatAt H pn x
theorem ToldAt.same {CR : Addr} {H H' : Hp} {T : Addr} {x : Int × Int} (h : ToldAt CR H T x) (s : Same H H') : ToldAt CR H' T x := by
  obtain ⟨dx, a, w, pn, h1, h2⟩ := h
  exact ⟨dx, a, w, pn, s _ _ h1, s _ _ h2⟩
theorem ToldAt.keep {CR : Addr} {H H' : Hp} {T p l : Addr} {c : Int} {x : Int × Int} (h : ToldAt CR H T x) (P : PenAt H p l c) (k : Keep p H H') : ToldAt CR H' T x := by
  obtain ⟨dx, a, w, pn, h1, h2⟩ := h
  obtain ⟨u, hu, _, _, hi⟩ := P.dk
  exact ⟨dx, a, w, pn, k.there hu h1 (hi _ _ _), k.rat P h2⟩
def datP (x : Int × Int) : PyData := .tuple [.int x.1, .int x.2]
theorem dp_rat {K : PySem.W.Frag} {H : Hp} {p : Addr} {x : Int × Int} (h : RatAt H p x) : Dp K H (.ref p) (datP x) := .tup (.inl (.inl h)) (.cons (.int _) (.cons (.int _) .nil))
theorem dat_refl (x : Int × Int) : PyData.eqv (datP x) (datP x) = true := SeqAt.eqv_refl _ (SeqAt.canLay_of_shaped rfl)
theorem lw01 : Lw (0, 1) := ⟨by decide, by decide, by unfold Bd; decide, by unfold Bd; decide⟩
theorem below_ok {x : Int × Int} (h : Lw x) (p : 0 < x.1) : Lw (minF (0, 1) x) ∧ (minF (0, 1) x).1 < 0 := by
  unfold minF
  have e1 : (0, 1).1 * x.2 - x.1 * (0, 1).2 = -x.1 := by
    show (0 : Int) * x.2 - x.1 * 1 = -x.1
    omega
  have e2 : (0, 1).2 * x.2 = x.2 := by
    show (1 : Int) * x.2 = x.2
    omega
  rw [e1, e2]
  exact ⟨low_lw h.p h.b1.neg h.b2, (lowI_neg h.p).mpr (by omega)⟩
theorem rep_refs (z : Addr) (n : Nat) : (List.replicate n [V.ref z]).flatten = rv (List.replicate n z) := by
  unfold rv
  rw [List.map_replicate]
  induction n with
  | zero => rfl
  | succ n ih =>
    rw [List.replicate_succ, List.flatten_cons, ih, List.replicate_succ]
    rfl
theorem pairs_rep {H : Hp} {z : Addr} {x : Int × Int} (h : RatAt H z x) (n : Nat) : PairsAt H (List.replicate n z) (List.replicate n x) := by
  refine ⟨by rw [List.length_replicate, List.length_replicate], fun i p y a b => ?_⟩
  have e1 := List.eq_of_mem_replicate (List.mem_of_getElem? a)
  have e2 := List.eq_of_mem_replicate (List.mem_of_getElem? b)
  rw [e1, e2]
  exact h
/-- a list with one more item at a place -/
def ins {α : Type} (xs : List α) (k : Nat) (x : α) : List α := xs.take k ++ [x] ++ xs.drop k
section
variable {xs : List (Int × Int)} {k : Nat} {x : Int × Int}
theorem ins_len {α : Type} {xs : List α} {k : Nat} {x : α} (h : k ≤ xs.length) : (ins xs k x).length = xs.length + 1 := by
  unfold ins
  rw [List.length_append, List.length_append, List.length_take, List.length_drop]
  show min k xs.length + 1 + (xs.length - k) = _
  omega
theorem ins_lt {j : Nat} (hk : k ≤ xs.length) (h : j < k) : gp (ins xs k x) j = gp xs j := by
  unfold gp ins
  rw [List.getD_eq_getElem?_getD, List.getD_eq_getElem?_getD, List.getElem?_append_left (by rw [List.length_append, List.length_take]; show j < min k xs.length + 1; omega), List.getElem?_append_left (by rw [List.length_take]; omega), List.getElem?_take, if_pos h]
theorem ins_eq (hk : k ≤ xs.length) : gp (ins xs k x) k = x := by
  have e : k - (xs.take k).length = 0 := by
    rw [List.length_take]
    omega
  unfold gp ins
  rw [List.getD_eq_getElem?_getD, List.getElem?_append_left (by rw [List.length_append, List.length_take]; show k < min k xs.length + 1; omega), List.getElem?_append_right (by rw [List.length_take]; omega), e]
  rfl
theorem ins_gt {j : Nat} (hk : k ≤ xs.length) (h : k ≤ j) : gp (ins xs k x) (j + 1) = gp xs j := by
  have e : j + 1 - (xs.take k ++ [x]).length = j - k := by
    rw [List.length_append, List.length_take]
    show j + 1 - (min k xs.length + 1) = j - k
    omega
  unfold gp ins
  rw [List.getD_eq_getElem?_getD, List.getD_eq_getElem?_getD, List.getElem?_append_right (by rw [List.length_append, List.length_take]; show min k xs.length + 1 ≤ j + 1; omega), e, List.getElem?_drop, show k + (j - k) = j by omega]
theorem ins_mem {α : Type} {xs : List α} {k : Nat} {x y : α} (h : y ∈ ins xs k x) : y = x ∨ y ∈ xs := by
  unfold ins at h
  rcases List.mem_append.mp h with z | z
  · rcases List.mem_append.mp z with z | z
    · exact .inr (List.mem_of_mem_take z)
    · exact .inl (List.mem_singleton.mp z)
  · exact .inr (List.mem_of_mem_drop z)
end
theorem PairsAt.append {H : Hp} {ps qs : List Addr} {fs gs : List (Int × Int)} (h1 : PairsAt H ps fs) (h2 : PairsAt H qs gs) : PairsAt H (ps ++ qs) (fs ++ gs) := by
  refine ⟨by rw [List.length_append, List.length_append, h1.1, h2.1], fun i p x hp hx => ?_⟩
  by_cases hi : i < ps.length
  · rw [List.getElem?_append_left hi] at hp
    rw [List.getElem?_append_left (by rw [← h1.1]; exact hi)] at hx
    exact h1.2 i p x hp hx
  · rw [List.getElem?_append_right (by omega)] at hp
    rw [List.getElem?_append_right (by rw [← h1.1]; omega), ← h1.1] at hx
    exact h2.2 _ p x hp hx
theorem PairsAt.take {H : Hp} {ps : List Addr} {fs : List (Int × Int)} (h : PairsAt H ps fs) (k : Nat) : PairsAt H (ps.take k) (fs.take k) := by
  refine ⟨by rw [List.length_take, List.length_take, h.1], fun i p x hp hx => ?_⟩
  rw [List.getElem?_take] at hp hx
  split at hp
  · rename_i hi
    rw [if_pos hi] at hx
    exact h.2 i p x hp hx
  · cases hp
theorem PairsAt.drop {H : Hp} {ps : List Addr} {fs : List (Int × Int)} (h : PairsAt H ps fs) (k : Nat) : PairsAt H (ps.drop k) (fs.drop k) := by
  refine ⟨by rw [List.length_drop, List.length_drop, h.1], fun i p x hp hx => ?_⟩
  rw [List.getElem?_drop] at hp hx
  exact h.2 _ p x hp hx
theorem PairsAt.one {H : Hp} {p : Addr} {x : Int × Int} (h : RatAt H p x) : PairsAt H [p] [x] := pairs_rep h 1
theorem PairsAt.ins {H : Hp} {ps : List Addr} {fs : List (Int × Int)} (h : PairsAt H ps fs) {z : Addr} {x : Int × Int} (hz : RatAt H z x) (k : Nat) : PairsAt H (Fk.ins ps k z) (Fk.ins fs k x) := ((h.take k).append (.one hz)).append (h.drop k)
theorem rv_ins (ps : List Addr) (k : Nat) (z : Addr) : (rv ps).take k ++ [V.ref z] ++ (rv ps).drop k = rv (ins ps k z) := by
  unfold rv ins
  rw [List.map_append, List.map_append, List.map_take, List.map_drop]
  rfl
section
variable {row ws : List (Int × Int)} {R x : Int × Int} {n k : Nat}
/-- where an index of the list stands in the longer one -/
def up (k j : Nat) : Nat := if j < k then j else j + 1
theorem ins_up {xs : List (Int × Int)} {y : Int × Int} (hk : k ≤ xs.length) (j : Nat) : gp (ins xs k y) (up k j) = gp xs j := by
  unfold up
  split
  · rename_i h
    exact ins_lt hk h
  · exact ins_gt hk (by omega)
theorem up_lt {j : Nat} (h : j < n) : up k j < n + 1 := by
  unfold up
  split <;> omega
theorem up_of {j : Nat} (h : j < n + 1) (hk : k ≤ n) (ne : j ≠ k) : ∃ i, i < n ∧ up k i = j := by
  by_cases hj : j < k
  · exact ⟨j, by omega, if_pos hj⟩
  · exact ⟨j - 1, by omega, by unfold up; rw [if_neg (by omega)]; omega⟩
theorem great_endless (n1 : 1 ≤ n) (n5 : n ≤ 5) (hk : k ≤ n) (ln : row.length = n) (lw : ws.length = n) (hrow : ∀ x ∈ row, Lw x ∧ 0 < x.1) (hws : ∀ x ∈ ws, Lw x) (hR : Lw R) (r0 : 0 ≤ R.1) (lx : Lw x) (x0 : 0 < x.1) : Great [ins row k (0, 1)] [R] (ins ws k x) (fun res => res = .endless) := by
  have l1 : (ins row k (0, 1)).length = n + 1 := by rw [ins_len (by omega), ln]
  have l2 : (ins ws k x).length = n + 1 := by rw [ins_len (by omega), lw]
  refine great_one (p := up k 0) (by rw [l1, l2]) (by omega) (fun y hy => ?_) hR r0 (fun y hy => ?_) (by rw [l2]; exact up_lt (by omega)) ?_ (fun b hb b0 ht => ?_) (fun _ _ _ _ _ _ _ => rfl)
  · rcases ins_mem hy with e | e
    · rw [e]
      exact lw01
    · exact (hrow y e).1
  · rcases ins_mem hy with e | e
    · rw [e]
      exact lx
    · exact hws y e
  · rw [ins_up (by omega)]
    exact (hrow _ (gp_mem (by omega))).2
  · have z := ht k (by omega)
    rw [ins_eq (by omega), ins_eq (by omega)] at z
    have wb : 0 < (gp (ins ws k x) b).2 := by
      have hm := gp_mem (show b < (ins ws k x).length by omega)
      rcases ins_mem hm with e | e
      · rw [e]
        exact lx.p
      · exact (hws _ e).p
    have t1 : topF x (0, 1) = x.1 := Int.mul_one _
    have t2 : botF x (0, 1) = 0 := Int.mul_zero _
    rw [t1, t2, Int.mul_zero] at z
    have := Int.mul_pos x0 (Int.mul_pos wb b0)
    unfold botF at z
    omega
theorem great_flat (n1 : 1 ≤ n) (n5 : n ≤ 5) (hk : k ≤ n) (ln : row.length = n) (lw : ws.length = n) (hrow : ∀ x ∈ row, Lw x ∧ 0 < x.1) (hws : ∀ x ∈ ws, Lw x) (hR : Lw R) (r0 : 0 ≤ R.1) : Great [ins row k (0, 1)] [R] (ins ws k (0, 1)) (fun res => ∃ b, b < n ∧ Top ws row n b ∧ res = .reached (numF ws row R b)) := by
  have l1 : (ins row k (0, 1)).length = n + 1 := by rw [ins_len (by omega), ln]
  have l2 : (ins ws k (0, 1)).length = n + 1 := by rw [ins_len (by omega), lw]
  have pos : ∀ {j : Nat}, j < n → 0 < (gp row j).1 := fun {j} hj => (hrow _ (gp_mem (by omega))).2
  refine great_one (p := up k 0) (by rw [l1, l2]) (by omega) (fun y hy => ?_) hR r0 (fun y hy => ?_) (by rw [l2]; exact up_lt (by omega)) ?_ (fun b hb b0 ht => ?_) (fun b c hb hc b0 c0 hlt => ?_)
  · rcases ins_mem hy with e | e
    · rw [e]
      exact lw01
    · exact (hrow y e).1
  · rcases ins_mem hy with e | e
    · rw [e]
      exact lw01
    · exact hws y e
  · rw [ins_up (by omega)]
    exact pos (by omega)
  · have ne : b ≠ k := fun e => by
      rw [e, ins_eq (by omega)] at b0
      exact absurd b0 (by decide)
    obtain ⟨i, hi, e⟩ := up_of (show b < n + 1 by omega) hk ne
    rw [← e, ins_up (by omega), ins_up (by omega)]
    refine ⟨i, hi, fun j hj => ?_, rfl⟩
    have z := ht (up k j) (by rw [l2]; exact up_lt hj)
    rw [← e, ins_up (by omega), ins_up (by omega), ins_up (by omega), ins_up (by omega)] at z
    exact z
  · have ec : c = k := by
      by_cases h : c = k
      · exact h
      · obtain ⟨i, hi, e⟩ := up_of (show c < n + 1 by omega) hk h
        rw [← e, ins_up (by omega)] at c0
        have := pos hi
        omega
    rw [ec, ins_eq (by omega), ins_eq (by omega)] at hlt
    have t1 : topF (0, 1) (0, 1) = 0 := by decide
    have t2 : botF (0, 1) (0, 1) = 0 := by decide
    rw [t1, t2, Int.mul_zero, Int.zero_mul] at hlt
    exact absurd hlt (by decide)
end
theorem cutV_m1 (xs : List V) (h : 1 ≤ xs.length) : cutV xs none (some (-1)) = xs.take (xs.length - 1) := by
  unfold cutV
  have e : HT.sIx xs.length xs.length (some (-1)) = xs.length - 1 := by
    show (if (-1 : Int) < 0 then ((-1 : Int) + (xs.length : Int)).toNat else min (-1 : Int).toNat xs.length) = _
    rw [if_pos (by decide)]
    omega
  rw [e, HT.sIx_none, List.drop_zero, Nat.sub_zero]
/-- a value that is no ratio -/
def OddAt (H : Hp) (v : V) : Prop := v = .non ∨ v = .str "1" ∨ (∃ t, v = .ref t ∧ H t = some (.tup [.int 1, .int 0])) ∨ (∃ t, v = .ref t ∧ H t = some (.lst [.int 1, .int 2])) ∨ (∃ t, v = .ref t ∧ H t = some (.tup [.int 2, .int (-1)])) ∨ v = .bl true
theorem OddAt.same {H H' : Hp} {v : V} (h : OddAt H v) (s : Same H H') : OddAt H' v := by
  rcases h with h | h | ⟨t, e, h⟩ | ⟨t, e, h⟩ | ⟨t, e, h⟩ | h
  · exact .inl h
  · exact .inr (.inl h)
  · exact .inr (.inr (.inl ⟨t, e, s _ _ h⟩))
  · exact .inr (.inr (.inr (.inl ⟨t, e, s _ _ h⟩)))
  · exact .inr (.inr (.inr (.inr (.inl ⟨t, e, s _ _ h⟩))))
  · exact .inr (.inr (.inr (.inr (.inr h))))
theorem OddAt.keep {H H' : Hp} {p l : Addr} {c : Int} {v : V} (h : OddAt H v) (P : PenAt H p l c) (k : Keep p H H') : OddAt H' v := by
  obtain ⟨u, hu, hl, ht, _⟩ := P.dk
  rcases h with h | h | ⟨t, e, h⟩ | ⟨t, e, h⟩ | ⟨t, e, h⟩ | h
  · exact .inl h
  · exact .inr (.inl h)
  · exact .inr (.inr (.inl ⟨t, e, k.there hu h (ht _)⟩))
  · exact .inr (.inr (.inr (.inl ⟨t, e, k.there hu h (hl _)⟩)))
  · exact .inr (.inr (.inr (.inr (.inl ⟨t, e, k.there hu h (ht _)⟩))))
  · exact .inr (.inr (.inr (.inr (.inr h))))
theorem odd_val {K : PySem.W.Frag} {H : Hp} {v : V} (h : OddAt H v) : Val K H v false := by
  rcases h with rfl | rfl | ⟨t, rfl, h⟩ | ⟨t, rfl, h⟩ | ⟨t, rfl, h⟩ | rfl
  · exact .other (.non K H) (.base .non) (kit_ty (by decide))
  · exact .other (.str K H _) (.base (.str _)) (kit_ty (by decide))
  · exact (show Val K H (.ref t) (decide ((0 : Int) < 0)) from .rat h)
  · exact .other (.lst h) (.base (.lst h)) (kit_ty (by decide))
  · exact (show Val K H (.ref t) (decide ((0 : Int) < -1)) from .rat h)
  · exact .other (.bl K H _) (.base (.bl _)) (kit_ty (by decide))
theorem odd_shows {K : PySem.W.Frag} {H : Hp} {v : V} (h : OddAt H v) : ∃ d, Shows K H v d ∧ PyData.strOk d.shown = true := by
  rcases h with rfl | rfl | ⟨t, rfl, h⟩ | ⟨t, rfl, h⟩ | ⟨t, rfl, h⟩ | rfl
  · exact ⟨.none, ⟨fun _ _ => .non, by decide +kernel, by decide +kernel, by decide +kernel, by decide +kernel⟩, by decide +kernel⟩
  · exact ⟨.str "1", ⟨fun _ _ => .str _, by decide +kernel, by decide +kernel, by decide +kernel, by decide +kernel⟩, by decide +kernel⟩
  · exact ⟨.tuple [.int 1, .int 0], ⟨fun _ s => .tup (.inl (.inl (s _ _ h))) (.cons (.int _) (.cons (.int _) .nil)), by decide +kernel, by decide +kernel, by decide +kernel, by decide +kernel⟩, by decide +kernel⟩
  · exact ⟨.list [.int 1, .int 2], ⟨fun _ s => .lst (SqL.of (s _ _ h)) (.cons (.int _) (.cons (.int _) .nil)), by decide +kernel, by decide +kernel, by decide +kernel, by decide +kernel⟩, by decide +kernel⟩
  · exact ⟨.tuple [.int 2, .int (-1)], ⟨fun _ s => .tup (.inl (.inl (s _ _ h))) (.cons (.int _) (.cons (.int _) .nil)), by decide +kernel, by decide +kernel, by decide +kernel, by decide +kernel⟩, by decide +kernel⟩
  · exact ⟨.bool true, ⟨fun _ _ => .bl _, by decide +kernel, by decide +kernel, by decide +kernel, by decide +kernel⟩, by decide +kernel⟩
theorem Shows.same {K : PySem.W.Frag} {H H' : Hp} {v : V} {d : PyData} (h : Shows K H v d) (s : Same H H') : Shows K H' v d := ⟨fun H2 s2 => h.1 H2 (s.trans s2), h.2⟩
/-- pairs, and one that is none behind them -/
theorem chk_spoilt {K : PySem.W.Frag} {H : Hp} {ps : List Addr} {fs : List (Int × Int)} {v : V} {m : Nat} (h : PairsAt H ps fs) (l : ∀ x ∈ fs, Lw x) (hm : m ≤ ps.length) (ho : Val K H v false) : Chk K H ((rv ps).take m ++ [v]) (some v) := by
  have e : ((rv ps).take m).length = m := by
    rw [List.length_take, rv_len]
    omega
  refine ⟨m, by rw [List.getElem?_append_right (by omega), e, Nat.sub_self]; rfl, ho, fun j x hj hx => ?_⟩
  rw [List.getElem?_append_left (by omega), List.getElem?_take, if_pos hj] at hx
  exact chk_pairs h l j x hx
theorem chk_two {K : PySem.W.Frag} {H : Hp} {q : Addr} {R : Int × Int} {v : V} (h : RatAt H q R) (l : Lw R) (ho : Val K H v false) : Chk K H [.ref q, v] (some v) := by
  refine ⟨1, rfl, ho, fun j x hj hx => ?_⟩
  have e : j = 0 := by omega
  subst e
  cases hx
  exact val_pair h l
theorem chk_one {K : PySem.W.Frag} {H : Hp} {q : Addr} {R : Int × Int} (h : RatAt H q R) (l : Lw R) : Chk K H [.ref q] none := fun i x hx => by
  match i, hx with
  | 0, hx =>
    cases hx
    exact val_pair h l
theorem first_ok {K : PySem.W.Frag} {H : Hp} {rl : Addr} {xs : List V} (h : H rl = some (.lst xs)) (c : Chk K H xs none) (as : List Addr) (ha : ∀ a ∈ as, a = rl) : First K H as none := fun i p hp => by
  rw [ha p (List.mem_of_getElem? hp)]
  exact ⟨xs, h, c⟩
theorem first_two {K : PySem.W.Frag} {H : Hp} {rl sl : Addr} {xs ys : List V} {v : V} (h : H rl = some (.lst xs)) (c : Chk K H xs none) (h2 : H sl = some (.lst ys)) (c2 : Chk K H ys (some v)) : First K H [rl, sl] (some v) := by
  refine ⟨1, sl, ys, rfl, h2, c2, fun j q hj hq => ?_⟩
  have e : j = 0 := by omega
  subst e
  cases hq
  exact ⟨xs, h, c⟩
def datE (z : Str) : PyData := .tuple [.str "entry", .str z]
theorem dp_entry {K : PySem.W.Frag} {H : Hp} {p : Addr} {z : Str} (h : H p = some (.tup [.str "entry", .str z])) : Dp K H (.ref p) (datE z) := .tup (.inl (.inl h)) (.cons (.str _) (.cons (.str _) .nil))
theorem datE_shaped {z : Str} (h : PyData.strOk z = true) : SeqAt.shaped (datE z) = true := by
  have h1 : PyData.strOk "entry" = true := by decide +kernel
  simp [datE, SeqAt.shaped, PyData.canLay0, PyData.canLayAll0, h1, h, PyData.depth, PyData.depthAll]
theorem datE_refl {z : Str} (h : PyData.strOk z = true) : PyData.eqv (datE z) (datE z) = true := SeqAt.eqv_refl _ (SeqAt.canLay_of_shaped (datE_shaped h))
def dA : PyData := .tuple [.tuple [.int 1, .int 1]]
def dB : PyData := .tuple [.tuple [.int 2, .int 1], .tuple [.int 0, .int 1]]
def dC : PyData := .tuple [.tuple [.int (-3), .int 1]]
def dAll : PyData := .tuple [.tuple [.int 5, .int 1], dA, dC, dB, dA, dC]
/-- the constants at the end -/
structure Cs (H : Hp) (ta tb tc t1 t2 t3 t4 : Addr) : Prop where
  a : H ta = some (.tup [.ref t1])
  b : H tb = some (.tup [.ref t2, .ref t3])
  c : H tc = some (.tup [.ref t4])
  h1 : H t1 = some (.tup [.int 1, .int 1])
  h2 : H t2 = some (.tup [.int 2, .int 1])
  h3 : H t3 = some (.tup [.int 0, .int 1])
  h4 : H t4 = some (.tup [.int (-3), .int 1])
theorem Cs.same {H H' : Hp} {ta tb tc t1 t2 t3 t4 : Addr} (h : Cs H ta tb tc t1 t2 t3 t4) (s : Same H H') : Cs H' ta tb tc t1 t2 t3 t4 := ⟨s _ _ h.a, s _ _ h.b, s _ _ h.c, s _ _ h.h1, s _ _ h.h2, s _ _ h.h3, s _ _ h.h4⟩
theorem dp_two {K : PySem.W.Frag} {H : Hp} {t : Addr} {x y : Int} (h : H t = some (.tup [.int x, .int y])) : Dp K H (.ref t) (.tuple [.int x, .int y]) := .tup (.inl (.inl h)) (.cons (.int _) (.cons (.int _) .nil))
theorem Cs.dA {K : PySem.W.Frag} {H : Hp} {ta tb tc t1 t2 t3 t4 : Addr} (h : Cs H ta tb tc t1 t2 t3 t4) : Dp K H (.ref ta) Fk.dA := .tup (.inl (.inl h.a)) (.cons (dp_two h.h1) .nil)
theorem Cs.dB {K : PySem.W.Frag} {H : Hp} {ta tb tc t1 t2 t3 t4 : Addr} (h : Cs H ta tb tc t1 t2 t3 t4) : Dp K H (.ref tb) Fk.dB := .tup (.inl (.inl h.b)) (.cons (dp_two h.h2) (.cons (dp_two h.h3) .nil))
theorem Cs.dC {K : PySem.W.Frag} {H : Hp} {ta tb tc t1 t2 t3 t4 : Addr} (h : Cs H ta tb tc t1 t2 t3 t4) : Dp K H (.ref tc) Fk.dC := .tup (.inl (.inl h.c)) (.cons (dp_two h.h4) .nil)
theorem dAll_refl : PyData.eqv dAll dAll = true := SeqAt.eqv_refl _ (by decide +kernel)
abbrev sLaw : Stmt := top 35
abbrev nsLaw : List Str := ["_law_script", "_law_pen_here", "_law_turn", "_law_wide", "_law_row", "_law_worth", "_law_right", "_law_told", "_law_below", "_law_other", "_law_place", "_law_longer", "_law_gains", "_law_flat", "_law_odd", "_law_last", "_law_spoilt", "_law_a", "_law_b", "_law_c", "_law_one", "_law_two", "_law_three", "_law_k"]
def spLaw (K : PySem.W.Frag) : Sp := fun vs H Q _ => ∃ (a : Addr) (ns : List Int), vs = [.ref a] ∧ SqL K H a (ns.map V.int) ∧ ns.length ≤ 63 ∧ ∀ H', Q (.bl true) H'
structure LC (P : Program) (w : World) (K : PySem.W.Frag) (mg : Str → Option Value) (base : Heap) (CN CR CE CO fN fD fP fA fR fMi fBe fGt fRf fIR fIE fIN : Addr) (dN dD dP dA dR dMi dBe dGt dRf dIR dIE dIN : FuncData) : Prop where
  N : Cl P w K mg base "_law_pen" ["_law_script"] 1 (spPen K) fN dN
  D : Cl P w K mg base "_law_draw" psDraw 1 spDraw fD dD
  C : Cl P w K mg base "_law_pick" psPick 2 spPick fP dP
  A : Cl P w K mg base "_law_above" ["_law_pen_here"] 4 spAbove fA dA
  R : Cl P w K mg base "_law_ratio" psBig 4 spLRatio fR dR
  M : Cl P w K mg base "_law_minus" psOT 3 (spTwo minF fun _ => True) fMi dMi
  B : Cl P w K mg base "_law_best" psBest 4 spBest fBe dBe
  gG : FnOk P w K mg base (L2.CX P w) 5 fGt dGt ["rows", "right", "worth"] (spGreat K CN CR CE CO)
  gg : mg "greatest" = some (.ref fGt)
  gk : PySem.W.keepIn K (.ref fGt) = true
  gb : Binds K dGt ["rows", "right", "worth"] []
  rG : FnG P w K mg base 6 fRf dRf psRefused (spRefused K)
  rg : mg "_law_refused" = some (.ref fRf)
  rk : PySem.W.keepIn K (.ref fRf) = true
  rb : Binds K dRf psRefused []
  IR : CMk P w K mg base "Reached" CR reK 1 (spIReached K CR) fIR dIR
  IE : CMk P w K mg base "Endless" CE enK 1 (spIEndless K CE) fIE dIE
  IN : CMk P w K mg base "Nothing" CO noK 1 (spINothing K CO) fIN dIN
  vR : VCls K CR reK
  vE : VCls K CE enK
  vO : VCls K CO noK
  tR : ∀ {H : Hp} {a dx : Addr} {fs : List (Str × V)}, H a = some (.ins CR dx fs) → TyX K H (.ref a) (.ref CR)
  tE : ∀ {H : Hp} {a dx : Addr} {fs : List (Str × V)}, H a = some (.ins CE dx fs) → TyX K H (.ref a) (.ref CE)
  tO : ∀ {H : Hp} {a dx : Addr} {fs : List (Str × V)}, H a = some (.ins CO dx fs) → TyX K H (.ref a) (.ref CO)
  kR : PySem.W.kitOne K (.ref CR) (.ref CR) = some true
  kE : PySem.W.kitOne K (.ref CE) (.ref CE) = some true
  kO : PySem.W.kitOne K (.ref CO) (.ref CO) = some true
  mr : mg "range" = none
  mi : mg "isinstance" = none
  mp : mg "repr" = none
section
variable {P : Program} {w : World} {K : PySem.W.Frag} {mg : Str → Option Value} {base : Heap}
theorem scLaw : FnScope nsLaw ["_law_script"] (defScope sLaw) := ⟨rfl, rfl, rfl, by decide +kernel, rfl, by decide +kernel, by decide +kernel⟩
theorem ok_law {f CN CR CE CO fN fD fP fA fR fMi fBe fGt fRf fIR fIE fIN : Addr} {fd dN dD dP dA dR dMi dBe dGt dRf dIR dIE dIN : FuncData} (F : Fun K "law" "law" sLaw f fd) (L : LC P w K mg base CN CR CE CO fN fD fP fA fR fMi fBe fGt fRf fIR fIE fIN dN dD dP dA dR dMi dBe dGt dRf dIR dIE dIN) : FnG P w K mg base 7 f fd ["_law_script"] (spLaw K) := by
  refine fun_okG F scLaw (fun vs H Q E h => ?_) (fun cdv A outer s H vs Q E hG hr h => ?_)
  · obtain ⟨a, ns, rfl, _⟩ := h
    rfl
  obtain ⟨a, ns, rfl, hS, hl, k⟩ := h
  have hr1 := hr.mono (show 1 ≤ 6 by decide)
  have hr2 := hr.mono (show 2 ≤ 6 by decide)
  have hr3 := hr.mono (show 3 ≤ 6 by decide)
  have hr4 := hr.mono (show 4 ≤ 6 by decide)
  have hr5 := hr.mono (show 5 ≤ 6 by decide)
  have dG := dry L.gG
  refine ⟨_, pss_cons (ps_set (i := 1) scLaw.nd rfl (Or.inr rfl) (pe_call L.N.G hr1 (by rfl) L.N.g L.N.kp L.N.b .nil pass0 (pa_cons (pv 0) pa_nil)))
    (pss_cons (ps_for PassesOwn.never rfl (pi_range1 (by rfl) L.mr (pa_cons pe_int pa_nil)) (pg_name (i := 2) scLaw.nd rfl (Or.inl rfl))
      (pss_cons (ps_set (i := 3) scLaw.nd rfl (Or.inl rfl) (pe_op op_add pe_int (pe_call L.D.G hr1 (by rfl) L.D.g L.D.kp L.D.b .nil pass0 (pa_cons (pv 1) (pa_cons pe_int pa_nil)))))
      (C8.pss_cut (ps_setLc (i := 4) (own := [("_law_k", 23)]) (g := gName 23) (tt := tYes) rfl scLaw.nd rfl rfl (sw_true rfl rfl rfl rfl) (pi_range1 (by rfl) L.mr (pa_cons (pv 3) pa_nil)) (blkOk_by (N := nsLaw) (sc := defScope sLaw) (by decide +kernel)) (fun _ _ _ _ _ => pg_name (i := 23) scLaw.nd rfl (Or.inl rfl)) (fun _ _ _ _ _ => pts_nil)
          (fun _ _ _ _ _ => pe_call L.A.G hr4 (by rfl) L.A.g L.A.kp L.A.b .nil pass0 (pa_cons (pv 1) pa_nil)))
      (C8.pss_cut (ps_setLc (i := 5) (own := [("_law_k", 23)]) (g := gName 23) (tt := tYes) rfl scLaw.nd rfl rfl (sw_true rfl rfl rfl rfl) (pi_range1 (by rfl) L.mr (pa_cons (pv 3) pa_nil)) (blkOk_by (N := nsLaw) (sc := defScope sLaw) (by decide +kernel)) (fun _ _ _ _ _ => pg_name (i := 23) scLaw.nd rfl (Or.inl rfl)) (fun _ _ _ _ _ => pts_nil)
          (fun _ _ _ _ _ => pe_call L.R.G hr4 (by rfl) L.R.g L.R.kp L.R.b .nil pass0 (pa_cons (pv 1) (pa_cons (pe_call L.C.G hr2 (by rfl) L.C.g L.C.kp L.C.b .nil pass0 (pa_cons (pv 1) (pa_cons (pe_lst (pa_cons pe_int (pa_cons pe_int (pa_cons pe_int pa_nil)))) pa_nil))) pa_nil))))
      (C8.pss_cut (ps_set (i := 6) scLaw.nd rfl (Or.inl rfl) (pe_call L.C.G hr2 (by rfl) L.C.g L.C.kp L.C.b .nil pass0 (pa_cons (pv 1) (pa_cons (pe_lst (pa_cons (pe_tup (pa_cons pe_int (pa_cons pe_int pa_nil))) (pa_cons (pe_call L.A.G hr4 (by rfl) L.A.g L.A.kp L.A.b .nil pass0 (pa_cons (pv 1) pa_nil)) (pa_cons (pe_call L.A.G hr4 (by rfl) L.A.g L.A.kp L.A.b .nil pass0 (pa_cons (pv 1) pa_nil)) pa_nil)))) pa_nil))))
      (C8.pss_cut (ps_set (i := 7) scLaw.nd rfl (Or.inl rfl) (pe_call dG hr5 (by rfl) L.gg L.gk L.gb .nil pass0 (pa_cons (pe_lst (pa_cons (pv 4) pa_nil)) (pa_cons (pe_lst (pa_cons (pv 6) pa_nil)) (pa_cons (pv 5) pa_nil)))))
      (C8.pss_cut (ps_if (PW.pt (pw_or (pt_not (pt_val (pe_callB call_isi (by rfl) L.mi (by decide +kernel) (pa_cons (pv 7) (pa_cons (pe_glob (v := .ref CR) (by rfl) L.IR.g rfl) pa_nil))))) (pw_or1 (pt_cmpR (op_neDK (K := K) rfl hr.units) (pe_fld (pv 7) rfl) (pe_call L.B.G hr4 (by rfl) L.B.g L.B.kp L.B.b .nil pass0 (pa_cons (pv 4) (pa_cons (pv 6) (pa_cons (pv 5) pa_nil)))) (nomark _))))) (pss_one (ps_ret pe_bl)) pss_nil)
      (C8.pss_cut (ps_set (i := 8) scLaw.nd rfl (Or.inl rfl) (pe_call L.M.G hr3 (by rfl) L.M.g L.M.kp L.M.b .nil pass0 (pa_cons (pe_tup (pa_cons pe_int (pa_cons pe_int pa_nil))) (pa_cons (pe_call L.A.G hr4 (by rfl) L.A.g L.A.kp L.A.b .nil pass0 (pa_cons (pv 1) pa_nil)) pa_nil))))
      (C8.pss_cut (ps_set (i := 9) scLaw.nd rfl (Or.inl rfl) (pe_call L.C.G hr2 (by rfl) L.C.g L.C.kp L.C.b .nil pass0 (pa_cons (pv 1) (pa_cons (pe_lst (pa_cons (pv 4) (pa_cons (pe_op op_rep (pe_lst (pa_cons (pe_tup (pa_cons pe_int (pa_cons pe_int pa_nil))) pa_nil)) (pv 3)) pa_nil))) pa_nil))))
      (C8.pss_cut (ps_if (pt_not (pt_val (pe_callB call_isi (by rfl) L.mi (by decide +kernel) (pa_cons (pe_call dG hr5 (by rfl) L.gg L.gk L.gb .nil pass0 (pa_cons (pe_lst (pa_cons (pv 4) (pa_cons (pv 9) pa_nil))) (pa_cons (pe_lst (pa_cons (pv 6) (pa_cons (pv 8) pa_nil))) (pa_cons (pv 5) pa_nil)))) (pa_cons (pe_glob (v := .ref CO) (by rfl) L.IN.g rfl) pa_nil))))) (pss_one (ps_ret pe_bl)) pss_nil)
      (C8.pss_cut (ps_set (i := 10) scLaw.nd rfl (Or.inl rfl) (pe_call L.D.G hr1 (by rfl) L.D.g L.D.kp L.D.b .nil pass0 (pa_cons (pv 1) (pa_cons (pe_op op_add (pv 3) pe_int) pa_nil))))
      (C8.pss_cut (ps_set (i := 11) scLaw.nd rfl (Or.inl rfl) (pe_op op_cat (pe_op op_cat (pe_slice sl_list (pv 4) po_none (po_some (pv 10))) (pe_lst (pa_cons (pe_tup (pa_cons pe_int (pa_cons pe_int pa_nil))) pa_nil))) (pe_slice sl_list (pv 4) (po_some (pv 10)) po_none)))
      (C8.pss_cut (ps_set (i := 12) scLaw.nd rfl (Or.inl rfl) (pe_op op_cat (pe_op op_cat (pe_slice sl_list (pv 5) po_none (po_some (pv 10))) (pe_lst (pa_cons (pe_call L.A.G hr4 (by rfl) L.A.g L.A.kp L.A.b .nil pass0 (pa_cons (pv 1) pa_nil)) pa_nil))) (pe_slice sl_list (pv 5) (po_some (pv 10)) po_none)))
      (C8.pss_cut (ps_if (pt_not (pt_val (pe_callB call_isi (by rfl) L.mi (by decide +kernel) (pa_cons (pe_call dG hr5 (by rfl) L.gg L.gk L.gb .nil pass0 (pa_cons (pe_lst (pa_cons (pv 11) pa_nil)) (pa_cons (pe_lst (pa_cons (pv 6) pa_nil)) (pa_cons (pv 12) pa_nil)))) (pa_cons (pe_glob (v := .ref CE) (by rfl) L.IE.g rfl) pa_nil))))) (pss_one (ps_ret pe_bl)) pss_nil)
      (C8.pss_cut (ps_set (i := 13) scLaw.nd rfl (Or.inl rfl) (pe_call dG hr5 (by rfl) L.gg L.gk L.gb .nil pass0 (pa_cons (pe_lst (pa_cons (pv 11) pa_nil)) (pa_cons (pe_lst (pa_cons (pv 6) pa_nil)) (pa_cons (pe_op op_cat (pe_op op_cat (pe_slice sl_list (pv 5) po_none (po_some (pv 10))) (pe_lst (pa_cons (pe_tup (pa_cons pe_int (pa_cons pe_int pa_nil))) pa_nil))) (pe_slice sl_list (pv 5) (po_some (pv 10)) po_none)) pa_nil)))))
      (C8.pss_cut (ps_if (PW.pt (pw_or (pt_not (pt_val (pe_callB call_isi (by rfl) L.mi (by decide +kernel) (pa_cons (pv 13) (pa_cons (pe_glob (v := .ref CR) (by rfl) L.IR.g rfl) pa_nil))))) (pw_or1 (pt_cmpR (op_neDK (K := K) rfl hr.units) (pe_fld (pv 13) rfl) (pe_fld (pv 7) rfl) (nomark _))))) (pss_one (ps_ret pe_bl)) pss_nil)
      (C8.pss_cut (ps_set (i := 14) scLaw.nd rfl (Or.inl rfl) (pe_ix ix_list (pe_lst (pa_cons pe_non (pa_cons pe_str (pa_cons (pe_tup (pa_cons pe_int (pa_cons pe_int pa_nil))) (pa_cons (pe_lst (pa_cons pe_int (pa_cons pe_int pa_nil))) (pa_cons (pe_tup (pa_cons pe_int (pa_cons (pe_un un_neg pe_int) pa_nil))) (pa_cons pe_bl pa_nil))))))) (pe_call L.D.G hr1 (by rfl) L.D.g L.D.kp L.D.b .nil pass0 (pa_cons (pv 1) (pa_cons pe_int pa_nil))) (fun _ _ => rfl)))
      (C8.pss_cut (ps_set (i := 15) scLaw.nd rfl (Or.inl rfl) (pe_ix ix_list (pe_lst (pa_cons pe_non (pa_cons pe_str (pa_cons (pe_tup (pa_cons pe_int (pa_cons pe_int pa_nil))) pa_nil)))) (pe_call L.D.G hr1 (by rfl) L.D.g L.D.kp L.D.b .nil pass0 (pa_cons (pv 1) (pa_cons pe_int pa_nil))) (fun _ _ => rfl)))
      (C8.pss_cut (ps_set (i := 16) scLaw.nd rfl (Or.inl rfl) (pe_op op_cat (pe_slice sl_list (pv 4) po_none (po_some (pe_un un_neg pe_int))) (pe_lst (pa_cons (pv 14) pa_nil))))
      (C8.pss_cut (ps_if (pt_cmpR (op_neDK (K := K) rfl hr.units) (pe_callGd L.rG hG hr (by rfl) L.rg L.rk L.rb (pa_cons (pe_lst (pa_cons (pv 4) (pa_cons (pv 16) pa_nil))) (pa_cons (pe_lst (pa_cons (pv 6) (pa_cons (pv 15) pa_nil))) (pa_cons (pv 5) pa_nil)))) (pe_tup (pa_cons pe_str (pa_cons (pe_callB (call_reprVK (K := K) rfl hG hr.units) (by rfl) L.mp (by decide +kernel) (pa_cons (pv 14) pa_nil)) pa_nil))) (nomark _)) (pss_one (ps_ret pe_bl)) pss_nil)
      (C8.pss_cut (ps_if (pt_cmpR (op_neDK (K := K) rfl hr.units) (pe_callGd L.rG hG hr (by rfl) L.rg L.rk L.rb (pa_cons (pe_lst (pa_cons (pv 4) (pa_cons (pv 4) pa_nil))) (pa_cons (pe_lst (pa_cons (pv 6) (pa_cons (pv 14) pa_nil))) (pa_cons (pe_op op_cat (pe_slice sl_list (pv 5) po_none (po_some (pe_un un_neg pe_int))) (pe_lst (pa_cons (pv 15) pa_nil))) pa_nil)))) (pe_tup (pa_cons pe_str (pa_cons (pe_callB (call_reprVK (K := K) rfl hG hr.units) (by rfl) L.mp (by decide +kernel) (pa_cons (pv 14) pa_nil)) pa_nil))) (nomark _)) (pss_one (ps_ret pe_bl)) pss_nil)
      (pss_one (ps_if (pt_cmpR (op_neDK (K := K) rfl hr.units) (pe_callGd L.rG hG hr (by rfl) L.rg L.rk L.rb (pa_cons (pe_lst (pa_cons (pv 4) pa_nil)) (pa_cons (pe_lst (pa_cons (pv 6) pa_nil)) (pa_cons (pe_op op_cat (pe_slice sl_list (pv 5) po_none (po_some (pe_un un_neg pe_int))) (pe_lst (pa_cons (pv 14) pa_nil))) pa_nil)))) (pe_tup (pa_cons pe_str (pa_cons (pe_callB (call_reprVK (K := K) rfl hG hr.units) (by rfl) L.mp (by decide +kernel) (pa_cons (pv 14) pa_nil)) pa_nil))) (nomark _)) (pss_one (ps_ret pe_bl)) pss_nil)))))))))))))))))))))))
    (C8.pss_cut (ps_asg (pe_tup (pa_cons (pe_tup (pa_cons (pe_tup (pa_cons pe_int (pa_cons pe_int pa_nil))) pa_nil)) (pa_cons (pe_tup (pa_cons (pe_tup (pa_cons pe_int (pa_cons pe_int pa_nil))) (pa_cons (pe_tup (pa_cons pe_int (pa_cons pe_int pa_nil))) pa_nil))) (pa_cons (pe_tup (pa_cons (pe_tup (pa_cons (pe_un un_neg pe_int) (pa_cons pe_int pa_nil))) pa_nil)) pa_nil)))) (pg_tup (by rfl) (pgs_cons (pg_name (i := 17) scLaw.nd rfl (Or.inl rfl)) (pgs_cons (pg_name (i := 18) scLaw.nd rfl (Or.inl rfl)) (pgs_cons (pg_name (i := 19) scLaw.nd rfl (Or.inl rfl)) pgs_nil)))))
    (C8.pss_cut (ps_par3 (i := 20) (j := 21) (l := 22) (by rfl) scLaw.nd rfl rfl rfl (by decide) (by decide) (by decide) rfl rfl rfl (pa_cons (pe_make L.IR.M L.IR.G hr2 (by rfl) L.IR.g L.IR.b .nil pass0 (pa_cons (pe_tup (pa_cons pe_int (pa_cons pe_int pa_nil))) (pa_cons (pv 17) (pa_cons (pv 19) pa_nil)))) (pa_cons (pe_make L.IE.M L.IE.G hr2 (by rfl) L.IE.g L.IE.b .nil pass0 (pa_cons (pv 18) (pa_cons (pv 17) pa_nil))) (pa_cons (pe_make L.IN.M L.IN.G hr2 (by rfl) L.IN.g L.IN.b .nil pass0 (pa_cons (pv 19) pa_nil)) pa_nil))) (by rfl))
    (pss_one (ps_ret (pe_cmpR (op_eqDK (K := K) rfl hr.units) (pe_tup (pa_cons (pe_fld (pv 20) rfl) (pa_cons (pe_fld (pv 20) rfl) (pa_cons (pe_fld (pv 20) rfl) (pa_cons (pe_fld (pv 21) rfl) (pa_cons (pe_fld (pv 21) rfl) (pa_cons (pe_fld (pv 22) rfl) pa_nil))))))) (pe_tup (pa_cons (pe_tup (pa_cons pe_int (pa_cons pe_int pa_nil))) (pa_cons (pv 17) (pa_cons (pv 19) (pa_cons (pv 18) (pa_cons (pv 17) (pa_cons (pv 19) pa_nil))))))) (nomark _))))))), ?_⟩
  refine ⟨_, rfl, a, ns, rfl, hS, hl, fun p l H1 s1 hp1 hl1 P1 => ?_⟩
  refine ⟨3, rfl, by decide, by decide, for_range (lo := 0) (n := 3) (fun i σ H2 => ∃ (c : Int) (v2 v3 v4 v5 v6 v7 v8 v9 v10 v11 v12 v13 v14 v15 v16 v17 v18 v19 v20 v21 v22 : Option V), σ = [some (.ref a), some (.ref p), v2, v3, v4, v5, v6, v7, v8, v9, v10, v11, v12, v13, v14, v15, v16, v17, v18, v19, v20, v21, v22, none] ∧ PenAt H2 p l c ∧ c ≤ 100000 * i) ⟨0, none, none, none, none, none, none, none, none, none, none, none, none, none, none, none, none, none, none, none, none, none, rfl, P1, by decide⟩ ?_ ?_⟩
  · rintro i σ H2 hi ⟨c, v2, v3, v4, v5, v6, v7, v8, v9, v10, v11, v12, v13, v14, v15, v16, v17, v18, v19, v20, v21, v22, rfl, P2, hc⟩
    have hi3 : i < 3 := hi
    refine ⟨_, rfl, p, l, c, 5, rfl, P2, by omega, by decide, by decide, fun r H3 r0 r1 P3 k3 => ⟨_, _, rfl, rfl, ?_⟩⟩
    obtain ⟨n, hn⟩ : ∃ n : Nat, 1 + r = (n : Int) := ⟨(1 + r).toNat, by omega⟩
    have n1 : 1 ≤ n := by omega
    have n5 : n ≤ 5 := by omega
    -- the row
    refine ⟨fun σ' H' => ∃ (rl : Addr) (rs : List Addr) (row : List (Int × Int)) (c' : Int), σ' = [some (.ref a), some (.ref p), some (.int (0 + (i : Int))), some (.int (n : Int)), some (.ref rl), v5, v6, v7, v8, v9, v10, v11, v12, v13, v14, v15, v16, v17, v18, v19, v20, v21, v22, none] ∧ PenAt H' p l c' ∧ c ≤ c' ∧ c' ≤ c + 1000 ∧ H' rl = some (.lst (rv rs)) ∧ PairsAt H' rs row ∧ row.length = n ∧ (∀ x ∈ row, Lw x ∧ 0 < x.1), ?_, ?_⟩
    · rw [← hn]
      refine ⟨_, rfl, (1 + r), rfl, by omega, by omega, fun D hD => ?_⟩
      have nDl := new_ne P3 hD
      refine lc_range (lo := 0) (n := (1 + r).toNat) (fun j H' => ∃ (rs : List Addr) (row : List (Int × Int)) (c' : Int), PenAt H' p l c' ∧ c + 1 ≤ c' ∧ c' ≤ c + 1 + 40 * j ∧ H' D = some (.lst (rv rs)) ∧ PairsAt H' rs row ∧ row.length = j ∧ ∀ x ∈ row, Lw x ∧ 0 < x.1) ⟨[], [], c + 1, P3.upd hD, by omega, by omega, upd_same, ⟨rfl, fun i q x h _ => nomatch h⟩, rfl, fun x h => nomatch h⟩ ?_ ?_
      · rintro j H4 hj ⟨rs, row, c', P4, c1, c2, hD4, hrs, hln, hrow⟩
        refine ⟨rfl, yesT ?_⟩
        refine ⟨_, rfl, p, l, c', rfl, P4, by omega, fun q x c3 H5 k5 P5 c4 c5 hq lw x0 => ?_⟩
        have hD5 := k5.lst P4 hD4
        refine ⟨rv rs, hD5, by rw [rv_len, hrs.1, hln]; exact small1000 (by omega), rs ++ [q], row ++ [x], c3, P5.set hD5 nDl, by omega, by omega, ?_, (k5.pairs P4 hrs).add hD5 hq _, by rw [List.length_append, hln]; rfl, fun y hy => ?_⟩
        · rw [upd_same]
          unfold rv
          rw [List.map_append]
          rfl
        · rcases List.mem_append.mp hy with z | z
          · exact hrow y z
          · rw [List.mem_singleton.mp z]
            exact ⟨lw, x0⟩
      · rintro H4 ⟨rs, row, c', P4, c1, c2, hD4, hrs, hln, hrow⟩
        exact ⟨D, rs, row, c', rfl, P4, by omega, by omega, hD4, hrs, by omega, hrow⟩
    rintro σ4 H4 ⟨rl, rs, row, c4, rfl, P4, c4a, c4b, hrl, hrs, hln, hrow⟩
    -- the worth
    refine ⟨fun σ' H' => ∃ (wl : Addr) (ps : List Addr) (ws : List (Int × Int)) (c' : Int), σ' = [some (.ref a), some (.ref p), some (.int (0 + (i : Int))), some (.int (n : Int)), some (.ref rl), some (.ref wl), v6, v7, v8, v9, v10, v11, v12, v13, v14, v15, v16, v17, v18, v19, v20, v21, v22, none] ∧ PenAt H' p l c' ∧ c ≤ c' ∧ c' ≤ c + 2000 ∧ Bs H' rl wl rs ps row ws n, ?_, ?_⟩
    · refine ⟨_, rfl, (n : Int), rfl, by omega, by omega, fun D hD => ?_⟩
      have nDl := new_ne P4 hD
      refine lc_range (lo := 0) (n := n) (fun j H' => Keep p H4 H' ∧ ∃ (ps : List Addr) (ws : List (Int × Int)) (c' : Int), PenAt H' p l c' ∧ c ≤ c' ∧ c' ≤ c4 + 41 * j ∧ H' D = some (.lst (rv ps)) ∧ PairsAt H' ps ws ∧ ws.length = j ∧ ∀ x ∈ ws, Lw x) ⟨Keep.new hD, [], [], c4, P4.upd hD, by omega, by omega, upd_same, ⟨rfl, fun i q x h _ => nomatch h⟩, rfl, fun x h => nomatch h⟩ ?_ ?_
      · rintro j H5 hj ⟨k5, ps, ws, c5, P5, c5a, c5b, hD5, hps, hlw, hws⟩
        refine ⟨rfl, yesT ?_⟩
        refine ⟨_, rfl, _, rfl, by show 3 ≤ sizeLine; decide, fun u hu => ?_⟩
        refine ⟨p, l, u, c5, _, rfl, P5.upd hu, by omega, upd_same, by show 0 < 3; decide, by show 3 ≤ 1000; decide, fun m x H6 hx P6 k6 => ?_⟩
        obtain ⟨fg, rfl, f1, f2⟩ : ∃ fg : Int, x = .int fg ∧ 1 ≤ fg ∧ fg ≤ 25 := by
          have hm := List.mem_of_getElem? hx
          simp only [List.mem_cons, List.not_mem_nil, or_false] at hm
          rcases hm with e | e | e
          · exact ⟨1, e, by decide, by decide⟩
          · exact ⟨2, e, by decide, by decide⟩
          · exact ⟨25, e, by decide, by decide⟩
        have k56 := (Keep.new (p := p) (o := .lst [.int 1, .int 2, .int 25]) hu).trans k6
        refine ⟨p, l, c5 + 1, fg, rfl, P6, by omega, f1, f2, fun q x c7 H7 k7 P7 c7a c7b hq lw => ?_⟩
        have k57 := k56.trans k7
        have hD7 := k57.lst P5 hD5
        refine ⟨rv ps, hD7, by rw [rv_len, hps.1, hlw]; exact small1000 (by omega), fun b ob nb hb => ?_, ps ++ [q], ws ++ [x], c7, P7.set hD7 nDl, by omega, by omega, ?_, (k57.pairs P5 hps).add hD7 hq _, by rw [List.length_append, hlw]; rfl, fun y hy => ?_⟩
        · rw [upd_ne (ne_of_none hb hD)]
          exact (k5.trans k57) _ _ nb hb
        · rw [upd_same]
          unfold rv
          rw [List.map_append]
          rfl
        · rcases List.mem_append.mp hy with z | z
          · exact hws y z
          · rw [List.mem_singleton.mp z]
            exact lw
      · rintro H5 ⟨k5, ps, ws, c5, P5, c5a, c5b, hD5, hps, hlw, hws⟩
        exact ⟨D, ps, ws, c5, rfl, P5, c5a, by omega, k5.lst P4 hrl, k5.pairs P4 hrs, hD5, hps, hln, hlw, hrow, hws⟩
    rintro σ5 H5 ⟨wl, ps, ws, c5, rfl, P5, c5a, c5b, B5⟩
    -- the right side
    refine ⟨fun σ' H' => ∃ (q : Addr) (R : Int × Int) (c' : Int), σ' = [some (.ref a), some (.ref p), some (.int (0 + (i : Int))), some (.int (n : Int)), some (.ref rl), some (.ref wl), some (.ref q), v7, v8, v9, v10, v11, v12, v13, v14, v15, v16, v17, v18, v19, v20, v21, v22, none] ∧ PenAt H' p l c' ∧ c ≤ c' ∧ c' ≤ c + 3000 ∧ Bs H' rl wl rs ps row ws n ∧ RatAt H' q R ∧ Lw R ∧ 0 ≤ R.1, ?_, ?_⟩
    · refine ⟨_, rfl, by show 2 ≤ sizeLine; decide, fun z0 hz0 => ?_⟩
      have B6 := B5.same (same_new (o := .tup [.int 0, .int 1]) hz0)
      have e0 : RatAt (upd H5 z0 (.tup [.int 0, .int 1])) z0 (0, 1) := upd_same
      refine ⟨_, rfl, p, l, c5, rfl, P5.upd hz0, by omega, fun q1 x1 c6 H6 k6 P6 c6a c6b h1 lw1 p1 => ?_⟩
      have B6' := B6.keep (P5.upd hz0) k6
      have e0' := k6.rat (P5.upd hz0) e0
      refine ⟨_, rfl, p, l, c6, rfl, P6, by omega, fun q2 x2 c7 H7 k7 P7 c7a c7b h2 lw2 p2 => ?_⟩
      have B7 := B6'.keep P6 k7
      have e07 := k7.rat P6 e0'
      have h17 := k7.rat P6 h1
      refine ⟨by show 3 ≤ sizeLine; decide, fun u hu => ?_⟩
      refine ⟨p, l, u, c7, _, rfl, P7.upd hu, by omega, upd_same, by show 0 < 3; decide, by show 3 ≤ 1000; decide, fun m x H8 hx P8 k8 => ?_⟩
      have k78 := (Keep.new (p := p) (o := .lst [.ref z0, .ref q1, .ref q2]) hu).trans k8
      have B8 := B7.keep P7 k78
      have hm := List.mem_of_getElem? hx
      simp only [List.mem_cons, List.not_mem_nil, or_false] at hm
      have lw0 : Lw (0, 1) := ⟨by decide, by decide, by unfold Bd; decide, by unfold Bd; decide⟩
      rcases hm with e | e | e
      · exact ⟨z0, (0, 1), c7 + 1, by rw [e]; rfl, P8, by omega, by omega, B8, k78.rat P7 e07, lw0, by decide⟩
      · exact ⟨q1, x1, c7 + 1, by rw [e]; rfl, P8, by omega, by omega, B8, k78.rat P7 h17, lw1, by omega⟩
      · exact ⟨q2, x2, c7 + 1, by rw [e]; rfl, P8, by omega, by omega, B8, k78.rat P7 h2, lw2, by omega⟩
    rintro σ6 H6 ⟨q, R, c6, rfl, P6, c6a, c6b, B6, hq, lwR, R0⟩
    have hrow := B6.hrow
    have hws := B6.hws
    have ln := B6.ln
    have lw := B6.lw
    -- told
    refine ⟨fun σ' H' => ∃ (T : Addr) (b : Nat), σ' = [some (.ref a), some (.ref p), some (.int (0 + (i : Int))), some (.int (n : Int)), some (.ref rl), some (.ref wl), some (.ref q), some (.ref T), v8, v9, v10, v11, v12, v13, v14, v15, v16, v17, v18, v19, v20, v21, v22, none] ∧ Same H6 H' ∧ ToldAt CR H' T (numF ws row R b) ∧ b < n ∧ Top ws row n b, ?_, ?_⟩
    · refine ⟨_, rfl, by show 1 ≤ sizeLine; decide, fun L1 hL1 => ⟨_, rfl, by show 1 ≤ sizeLine; decide, fun L2 hL2 => ⟨_, rfl, ?_⟩⟩⟩
      have s1 := (same_new (o := .lst [.ref rl]) hL1).trans (same_new (o := .lst [.ref q]) hL2)
      have B7 := B6.same s1
      refine spG_one ((same_new hL2) _ _ upd_same) upd_same B7.hrl B7.hrs B7.hwl B7.hps (s1 _ _ hq) (by omega) (by omega) (fun x hx => (hrow x hx).1) lwR hws (great_told n1 n5 ln lw hrow hws lwR R0) fun res v H' hp s2 hr' => ?_
      obtain ⟨b, hb, ht, rfl⟩ := hp
      obtain ⟨T, dx, s, w, pn, rfl, h1, h2⟩ := hr'
      exact ⟨T, b, rfl, s1.trans s2, ⟨dx, s, w, pn, h1, h2⟩, hb, ht⟩
    rintro σ7 H7 ⟨T, b, rfl, s7, hT, hb, htop⟩
    have P7 := P6.same s7
    have B7 := B6.same s7
    have hq7 := hq.same s7
    -- it is the best
    refine ⟨fun σ' H' => σ' = [some (.ref a), some (.ref p), some (.int (0 + (i : Int))), some (.int (n : Int)), some (.ref rl), some (.ref wl), some (.ref q), some (.ref T), v8, v9, v10, v11, v12, v13, v14, v15, v16, v17, v18, v19, v20, v21, v22, none] ∧ Same H7 H', ?_, ?_⟩
    · obtain ⟨dx, s, w, pn, h1, h2⟩ := hT
      refine ⟨_, rfl, .ref T, .ref CR, .ref CR, .ref CR, true, rfl, .own _, L.tR h1, L.kR, true, rfl, iteF ?_⟩
      refine ⟨_, rfl, T, CR, dx, _, .ref pn, rfl, h1, L.vR.cl, L.vR.no _ (by decide +kernel), lookup_zip (i := 0) (by decide +kernel) rfl rfl, _, rfl, _, rfl, _, rfl, rl, q, wl, rs, ps, row, ws, R, rfl, B7.hrl, B7.hrs, B7.hwl, B7.hps, hq7, lwR, by omega, by omega, hrow, hws, fun r8 H8 b8 hb8 ht8 s8 hr8 => ?_⟩
      rw [lw] at hb8 ht8
      rw [num_eq ln lw hrow hws lwR hb hb8 htop ht8] at hr8
      refine ⟨_, _, dp_rat (s8 _ _ h2), dp_rat hr8, rfl, rfl, ?_⟩
      rw [dat_refl]
      exact ⟨_, rfl, iteF ⟨rfl, s8⟩⟩
    rintro σ8 H8 ⟨rfl, s8⟩
    have s78 := s7.trans s8
    have P8 := P6.same s78
    have B8 := B6.same s78
    have hq8 := hq.same s78
    have hT8 := hT.same s8
    -- below
    refine ⟨fun σ' H' => ∃ (q2 : Addr) (R2 : Int × Int) (c' : Int), σ' = [some (.ref a), some (.ref p), some (.int (0 + (i : Int))), some (.int (n : Int)), some (.ref rl), some (.ref wl), some (.ref q), some (.ref T), some (.ref q2), v9, v10, v11, v12, v13, v14, v15, v16, v17, v18, v19, v20, v21, v22, none] ∧ Keep p H8 H' ∧ PenAt H' p l c' ∧ c ≤ c' ∧ c' ≤ c + 4000 ∧ RatAt H' q2 R2 ∧ Lw R2 ∧ R2.1 < 0, ?_, ?_⟩
    · refine ⟨by show 2 ≤ sizeLine; decide, fun z0 hz0 => ?_⟩
      have e0 : RatAt (upd H8 z0 (.tup [.int 0, .int 1])) z0 (0, 1) := upd_same
      refine ⟨_, rfl, p, l, c6, rfl, P8.upd hz0, by omega, fun q1 x1 c9 H9 k9 P9 c9a c9b h1 lw1 p1 => ?_⟩
      have e9 := k9.rat (P8.upd hz0) e0
      refine ⟨z0, q1, (0, 1), x1, rfl, e9, h1, lw01.fine, lw1.fine, trivial, fun r10 H10 s10 h10 => ?_⟩
      obtain ⟨b1, b2⟩ := below_ok lw1 p1
      exact ⟨r10, _, c9, rfl, ((Keep.new hz0).trans k9).trans (Same.keep s10), P9.same s10, by omega, by omega, h10, b1, b2⟩
    rintro σ9 H9 ⟨q2, R2, c9, rfl, k9, P9, c9a, c9b, hq2, lwR2, R2n⟩
    have B9 := B8.keep P8 k9
    have hq9 := k9.rat P8 hq8
    have hT9 := hT8.keep P8 k9
    -- the other row
    refine ⟨fun σ' H' => ∃ (ol : Addr) (os : List Addr) (oth : List (Int × Int)) (c' : Int), σ' = [some (.ref a), some (.ref p), some (.int (0 + (i : Int))), some (.int (n : Int)), some (.ref rl), some (.ref wl), some (.ref q), some (.ref T), some (.ref q2), some (.ref ol), v10, v11, v12, v13, v14, v15, v16, v17, v18, v19, v20, v21, v22, none] ∧ Keep p H9 H' ∧ PenAt H' p l c' ∧ c ≤ c' ∧ c' ≤ c + 5000 ∧ H' ol = some (.lst (rv os)) ∧ PairsAt H' os oth ∧ oth.length = n ∧ (∀ x ∈ oth, Lw x) ∧ (oth = row ∨ ∀ x ∈ oth, x.1 = 0), ?_, ?_⟩
    · refine ⟨_, rfl, _, rfl, by show 2 ≤ sizeLine; decide, fun z0 hz0 => ⟨by show 1 ≤ sizeLine; decide, fun z1 hz1 => ?_⟩⟩
      have k1 : Keep p H9 (upd (upd H9 z0 (.tup [.int 0, .int 1])) z1 (.lst [.ref z0])) := (Keep.new hz0).trans (Keep.new hz1)
      have P1' := (P9.upd hz0 (o := .tup [.int 0, .int 1])).upd hz1 (o := .lst [.ref z0])
      have e0 : RatAt (upd (upd H9 z0 (.tup [.int 0, .int 1])) z1 (.lst [.ref z0])) z0 (0, 1) := (same_new hz1) _ _ upd_same
      have e1 : (upd (upd H9 z0 (.tup [.int 0, .int 1])) z1 (.lst [.ref z0])) z1 = some (.lst [.ref z0]) := upd_same
      generalize upd (upd H9 z0 (.tup [.int 0, .int 1])) z1 (.lst [.ref z0]) = H10 at k1 P1' e0 e1 ⊢
      refine ⟨_, rfl, z1, _, _, rfl, rfl, e1, by omega, by omega, ?_, fun z2 hz2 => ?_⟩
      · rw [List.length_singleton, Int.toNat_natCast, Nat.one_mul]
        exact Nat.le_trans (Nat.le_trans n5 (by decide)) (show 1000 ≤ sizeLine by decide)
      rw [Int.toNat_natCast, rep_refs]
      have P2' := P1'.upd hz2 (o := .lst (rv (List.replicate n z0)))
      have e0' : RatAt (upd H10 z2 (.lst (rv (List.replicate n z0)))) z0 (0, 1) := (same_new hz2) _ _ e0
      have e2 : (upd H10 z2 (.lst (rv (List.replicate n z0)))) z2 = some (.lst (rv (List.replicate n z0))) := upd_same
      have k2 := k1.trans (Keep.new (p := p) (o := .lst (rv (List.replicate n z0))) hz2)
      generalize upd H10 z2 (.lst (rv (List.replicate n z0))) = H11 at P2' e0' e2 k2 ⊢
      refine ⟨by show 2 ≤ sizeLine; decide, fun u hu => ?_⟩
      refine ⟨p, l, u, c9, _, rfl, P2'.upd hu, by omega, upd_same, by show 0 < 2; decide, by show 2 ≤ 1000; decide, fun m x H12 hx P12 k12 => ?_⟩
      have k3 := (Keep.new (p := p) (o := .lst [.ref rl, .ref z2]) hu).trans k12
      have k4 := k2.trans k3
      have hm := List.mem_of_getElem? hx
      simp only [List.mem_cons, List.not_mem_nil, or_false] at hm
      rcases hm with e | e
      · exact ⟨rl, rs, row, c9 + 1, by rw [e]; rfl, k4, P12, by omega, by omega, k4.lst P9 B9.hrl, k4.pairs P9 B9.hrs, ln, (fun x hx => (hrow x hx).1), .inl rfl⟩
      · refine ⟨z2, List.replicate n z0, List.replicate n (0, 1), c9 + 1, by rw [e]; rfl, k4, P12, by omega, by omega, k3.lst P2' e2, pairs_rep (k3.rat P2' e0') n, List.length_replicate, fun x hx => ?_, .inr fun x hx => ?_⟩
        · rw [List.eq_of_mem_replicate hx]
          exact lw01
        · rw [List.eq_of_mem_replicate hx]
    rintro σ10 H10 ⟨ol, os, oth, c10, rfl, k10, P10, c10a, c10b, hol, hos, lo, hoth, hcase⟩
    have B10 := B9.keep P9 k10
    have hq10 := k10.rat P9 hq9
    have hT10 := hT9.keep P9 k10
    have hq210 := k10.rat P9 hq2
    -- it contradicts itself
    refine ⟨fun σ' H' => σ' = [some (.ref a), some (.ref p), some (.int (0 + (i : Int))), some (.int (n : Int)), some (.ref rl), some (.ref wl), some (.ref q), some (.ref T), some (.ref q2), some (.ref ol), v10, v11, v12, v13, v14, v15, v16, v17, v18, v19, v20, v21, v22, none] ∧ Same H10 H', ?_, ?_⟩
    · refine ⟨_, rfl, _, rfl, by show 2 ≤ sizeLine; decide, fun L1 hL1 => ⟨_, rfl, _, rfl, by show 2 ≤ sizeLine; decide, fun L2 hL2 => ⟨_, rfl, ?_⟩⟩⟩
      have s1 := (same_new (o := .lst [.ref rl, .ref ol]) hL1).trans (same_new (o := .lst [.ref q, .ref q2]) hL2)
      have B11 := B10.same s1
      refine spG_two ((same_new hL2) _ _ upd_same) upd_same B11.hrl B11.hrs (s1 _ _ hol) (hos.same s1) B11.hwl B11.hps (s1 _ _ hq10) (s1 _ _ hq210) (by omega) (by omega) (by omega) (fun x hx => (hrow x hx).1) hoth lwR lwR2 hws (great_two (post := fun res => res = .nothing) (by omega) (by omega) (by omega) (by omega) hrow hoth lwR R0 lwR2 R2n hcase rfl) fun res v H' hp s2 hr' => ?_
      cases hp
      obtain ⟨x, dx, fl, rfl, hx⟩ := hr'
      exact ⟨.ref x, .ref CO, .ref CO, .ref CO, true, rfl, .own _, L.tO hx, L.kO, true, rfl, iteF ⟨rfl, s1.trans s2⟩⟩
    rintro σ11 H11 ⟨rfl, s11⟩
    have P11 := P10.same s11
    have B11 := B10.same s11
    have hq11 := hq10.same s11
    have hT11 := hT10.same s11
    -- the place
    refine ⟨fun σ' H' => ∃ (kk : Nat) (c' : Int), σ' = [some (.ref a), some (.ref p), some (.int (0 + (i : Int))), some (.int (n : Int)), some (.ref rl), some (.ref wl), some (.ref q), some (.ref T), some (.ref q2), some (.ref ol), some (.int (kk : Nat)), v11, v12, v13, v14, v15, v16, v17, v18, v19, v20, v21, v22, none] ∧ kk ≤ n ∧ Keep p H11 H' ∧ PenAt H' p l c' ∧ c ≤ c' ∧ c' ≤ c + 6000, ?_, ?_⟩
    · refine ⟨_, rfl, _, rfl, _, _, rfl, rfl, p, l, c10, (n : Int) + 1, rfl, P11, by omega, by omega, by omega, fun r H12 r0 r1 P12 k12 => ?_⟩
      refine ⟨r.toNat, c10 + 1, ?_, by omega, k12, P12, by omega, by omega⟩
      rw [Int.toNat_of_nonneg r0]
      rfl
    rintro σ12 H12 ⟨kk, c12, rfl, hkk, k12, P12, c12a, c12b⟩
    have B12 := B11.keep P11 k12
    have hq12 := k12.rat P11 hq11
    have hT12 := hT11.keep P11 k12
    have lrs : rs.length = n := by rw [B12.hrs.1, ln]
    have lps : ps.length = n := by rw [B12.hps.1, lw]
    have sz : ∀ m : Nat, m ≤ 20 → m ≤ sizeLine := fun m hm => Nat.le_trans (show m ≤ 1000 by omega) (show 1000 ≤ sizeLine by decide)
    -- the longer row
    refine ⟨fun σ' H' => ∃ (gl' z : Addr), σ' = [some (.ref a), some (.ref p), some (.int (0 + (i : Int))), some (.int (n : Int)), some (.ref rl), some (.ref wl), some (.ref q), some (.ref T), some (.ref q2), some (.ref ol), some (.int (kk : Nat)), some (.ref gl'), v12, v13, v14, v15, v16, v17, v18, v19, v20, v21, v22, none] ∧ Same H12 H' ∧ H' gl' = some (.lst (rv (ins rs kk z))) ∧ RatAt H' z (0, 1), ?_, ?_⟩
    · refine ⟨_, rfl, _, rfl, _, rfl, rl, _, rfl, SqL.of B12.hrl, fun p1 hp1 => ?_⟩
      rw [cutV_to _ (by rw [rv_len]; omega)]
      have s1 := same_new (o := .lst ((rv rs).take kk)) hp1
      have e1 : (upd H12 p1 (.lst ((rv rs).take kk))) p1 = some (.lst ((rv rs).take kk)) := upd_same
      generalize upd H12 p1 (.lst ((rv rs).take kk)) = Ha at s1 e1 ⊢
      refine ⟨by show 2 ≤ sizeLine; decide, fun z0 hz0 => ⟨by show 1 ≤ sizeLine; decide, fun z1 hz1 => ?_⟩⟩
      have s2 : Same Ha (upd (upd Ha z0 (.tup [.int 0, .int 1])) z1 (.lst [.ref z0])) := (same_new hz0).trans (same_new hz1)
      have e0 : RatAt (upd (upd Ha z0 (.tup [.int 0, .int 1])) z1 (.lst [.ref z0])) z0 (0, 1) := (same_new hz1) _ _ upd_same
      have e2 : (upd (upd Ha z0 (.tup [.int 0, .int 1])) z1 (.lst [.ref z0])) z1 = some (.lst [.ref z0]) := upd_same
      generalize upd (upd Ha z0 (.tup [.int 0, .int 1])) z1 (.lst [.ref z0]) = Hb at s2 e0 e2 ⊢
      refine ⟨p1, z1, _, _, rfl, rfl, s2 _ _ e1, e2, sz _ (by rw [List.length_take, rv_len, List.length_singleton]; omega), fun p2 hp2 => ?_⟩
      have s3 := same_new (o := .lst ((rv rs).take kk ++ [V.ref z0])) hp2
      have e3 : (upd Hb p2 (.lst ((rv rs).take kk ++ [V.ref z0]))) p2 = some (.lst ((rv rs).take kk ++ [V.ref z0])) := upd_same
      generalize upd Hb p2 (.lst ((rv rs).take kk ++ [V.ref z0])) = Hc at s3 e3 ⊢
      have sc := s1.trans (s2.trans s3)
      refine ⟨_, rfl, _, rfl, _, rfl, rl, _, rfl, SqL.of (sc _ _ B12.hrl), fun p3 hp3 => ?_⟩
      rw [cutV_from _ (by rw [rv_len]; omega)]
      refine ⟨p2, p3, _, _, rfl, rfl, (same_new hp3) _ _ e3, upd_same, sz _ (by rw [List.length_append, List.length_take, List.length_drop, rv_len, List.length_singleton]; omega), fun p4 hp4 => ?_⟩
      rw [rv_ins]
      have sd := (same_new (o := .lst ((rv rs).drop kk)) hp3).trans (same_new (o := .lst (rv (ins rs kk z0))) hp4)
      exact ⟨p4, z0, rfl, sc.trans sd, upd_same, (s3.trans sd) _ _ e0⟩
    rintro σ13 H13 ⟨gl', z, rfl, s13, hgl, hz⟩
    have P13 := P12.same s13
    have B13 := B12.same s13
    -- what gains
    refine ⟨fun σ' H' => ∃ (gg z2 : Addr) (x2 : Int × Int) (c' : Int), σ' = [some (.ref a), some (.ref p), some (.int (0 + (i : Int))), some (.int (n : Int)), some (.ref rl), some (.ref wl), some (.ref q), some (.ref T), some (.ref q2), some (.ref ol), some (.int (kk : Nat)), some (.ref gl'), some (.ref gg), v13, v14, v15, v16, v17, v18, v19, v20, v21, v22, none] ∧ Keep p H13 H' ∧ PenAt H' p l c' ∧ c ≤ c' ∧ c' ≤ c + 7000 ∧ H' gg = some (.lst (rv (ins ps kk z2))) ∧ RatAt H' z2 x2 ∧ Lw x2 ∧ 0 < x2.1, ?_, ?_⟩
    · refine ⟨_, rfl, _, rfl, _, rfl, wl, _, rfl, SqL.of B13.hwl, fun p1 hp1 => ?_⟩
      rw [cutV_to _ (by rw [rv_len]; omega)]
      have k1 := Keep.new (p := p) (o := .lst ((rv ps).take kk)) hp1
      have Pa := P13.upd hp1 (o := .lst ((rv ps).take kk))
      have e1 : (upd H13 p1 (.lst ((rv ps).take kk))) p1 = some (.lst ((rv ps).take kk)) := upd_same
      generalize upd H13 p1 (.lst ((rv ps).take kk)) = Ha at k1 Pa e1 ⊢
      refine ⟨_, rfl, p, l, c12, rfl, Pa, by omega, fun q3 x3 c3 Hb kb Pb cba cbb h3 lw3 p3 => ⟨by show 1 ≤ sizeLine; decide, fun z1 hz1 => ?_⟩⟩
      have kb1 := kb.trans (Keep.new (p := p) (o := .lst [.ref q3]) hz1)
      have Pc := Pb.upd hz1 (o := .lst [.ref q3])
      have e2 : (upd Hb z1 (.lst [.ref q3])) z1 = some (.lst [.ref q3]) := upd_same
      have h3' : RatAt (upd Hb z1 (.lst [.ref q3])) q3 x3 := (same_new hz1) _ _ h3
      generalize upd Hb z1 (.lst [.ref q3]) = Hc at kb1 Pc e2 h3' ⊢
      refine ⟨p1, z1, _, _, rfl, rfl, kb1.lst Pa e1, e2, sz _ (by rw [List.length_take, rv_len, List.length_singleton]; omega), fun p2 hp2 => ?_⟩
      have s3 := same_new (o := .lst ((rv ps).take kk ++ [V.ref q3])) hp2
      have e3 : (upd Hc p2 (.lst ((rv ps).take kk ++ [V.ref q3]))) p2 = some (.lst ((rv ps).take kk ++ [V.ref q3])) := upd_same
      generalize upd Hc p2 (.lst ((rv ps).take kk ++ [V.ref q3])) = Hd at s3 e3 ⊢
      have kd : Keep p H13 Hd := k1.trans (kb1.trans (Same.keep s3))
      refine ⟨_, rfl, _, rfl, _, rfl, wl, _, rfl, SqL.of (kd.lst P13 B13.hwl), fun p4 hp4 => ?_⟩
      rw [cutV_from _ (by rw [rv_len]; omega)]
      refine ⟨p2, p4, _, _, rfl, rfl, (same_new hp4) _ _ e3, upd_same, sz _ (by rw [List.length_append, List.length_take, List.length_drop, rv_len, List.length_singleton]; omega), fun p5 hp5 => ?_⟩
      rw [rv_ins]
      have sd := (same_new (o := .lst ((rv ps).drop kk)) hp4).trans (same_new (o := .lst (rv (ins ps kk q3))) hp5)
      exact ⟨p5, q3, x3, c3, rfl, kd.trans (Same.keep sd), Pc.same (s3.trans sd), by omega, by omega, upd_same, (s3.trans sd) _ _ h3', lw3, p3⟩
    rintro σ14 H14 ⟨gg, z2, x2, c14, rfl, k14, P14, c14a, c14b, hgg, hz2, lwx2, x20⟩
    have B14 := B13.keep P13 k14
    have hq14 := k14.rat P13 (hq12.same s13)
    have hT14 := (hT12.same s13).keep P13 k14
    have hgl14 := k14.lst P13 hgl
    have hz14 := k14.rat P13 hz
    have li1 : (ins row kk (0, 1)).length = n + 1 := by rw [ins_len (by omega), ln]
    have li2 : ∀ y, (ins ws kk y).length = n + 1 := fun y => by rw [ins_len (by omega), lw]
    have lwi1 : ∀ y ∈ ins row kk (0, 1), Lw y := fun y hy => by
      rcases ins_mem hy with e | e
      · rw [e]
        exact lw01
      · exact (hrow y e).1
    have lwi2 : ∀ w0, Lw w0 → ∀ y ∈ ins ws kk w0, Lw y := fun w0 hw0 y hy => by
      rcases ins_mem hy with e | e
      · rw [e]
        exact hw0
      · exact hws y e
    -- it has no end
    refine ⟨fun σ' H' => σ' = [some (.ref a), some (.ref p), some (.int (0 + (i : Int))), some (.int (n : Int)), some (.ref rl), some (.ref wl), some (.ref q), some (.ref T), some (.ref q2), some (.ref ol), some (.int (kk : Nat)), some (.ref gl'), some (.ref gg), v13, v14, v15, v16, v17, v18, v19, v20, v21, v22, none] ∧ Same H14 H', ?_, ?_⟩
    · refine ⟨_, rfl, by show 1 ≤ sizeLine; decide, fun L1 hL1 => ⟨_, rfl, by show 1 ≤ sizeLine; decide, fun L2 hL2 => ⟨_, rfl, ?_⟩⟩⟩
      have s1 := (same_new (o := .lst [.ref gl']) hL1).trans (same_new (o := .lst [.ref q]) hL2)
      have B15 := B14.same s1
      refine spG_one ((same_new hL2) _ _ upd_same) upd_same (s1 _ _ hgl14) (B15.hrs.ins (s1 _ _ hz14) kk) (s1 _ _ hgg) (B15.hps.ins (s1 _ _ hz2) kk) (s1 _ _ hq14) (by rw [li1, li2]) (by rw [li2]; omega) lwi1 lwR (lwi2 _ lwx2) (great_endless n1 n5 hkk ln lw hrow hws lwR R0 lwx2 x20) fun res v H' hp s2 hr' => ?_
      cases hp
      obtain ⟨x, dx, fl, rfl, hx⟩ := hr'
      exact ⟨.ref x, .ref CE, .ref CE, .ref CE, true, rfl, .own _, L.tE hx, L.kE, true, rfl, iteF ⟨rfl, s1.trans s2⟩⟩
    rintro σ15 H15 ⟨rfl, s15⟩
    have B15 := B14.same s15
    have P15 := P14.same s15
    have hq15 := hq14.same s15
    have hT15 := hT14.same s15
    have hgl15 := s15 _ _ hgl14
    have hz15 := hz14.same s15
    -- flat
    refine ⟨fun σ' H' => ∃ (T2 : Addr) (b2 : Nat), σ' = [some (.ref a), some (.ref p), some (.int (0 + (i : Int))), some (.int (n : Int)), some (.ref rl), some (.ref wl), some (.ref q), some (.ref T), some (.ref q2), some (.ref ol), some (.int (kk : Nat)), some (.ref gl'), some (.ref gg), some (.ref T2), v14, v15, v16, v17, v18, v19, v20, v21, v22, none] ∧ Same H15 H' ∧ ToldAt CR H' T2 (numF ws row R b2) ∧ b2 < n ∧ Top ws row n b2, ?_, ?_⟩
    · refine ⟨_, rfl, by show 1 ≤ sizeLine; decide, fun L1 hL1 => ⟨_, rfl, by show 1 ≤ sizeLine; decide, fun L2 hL2 => ?_⟩⟩
      have s1 := (same_new (o := .lst [.ref gl']) hL1).trans (same_new (o := .lst [.ref q]) hL2)
      have eL1 : (upd (upd H15 L1 (.lst [.ref gl'])) L2 (.lst [.ref q])) L1 = some (.lst [.ref gl']) := (same_new hL2) _ _ upd_same
      have eL2 : (upd (upd H15 L1 (.lst [.ref gl'])) L2 (.lst [.ref q])) L2 = some (.lst [.ref q]) := upd_same
      generalize upd (upd H15 L1 (.lst [.ref gl'])) L2 (.lst [.ref q]) = Hz at s1 eL1 eL2 ⊢
      refine ⟨_, rfl, _, rfl, _, rfl, wl, _, rfl, SqL.of (s1 _ _ B15.hwl), fun p1 hp1 => ?_⟩
      rw [cutV_to _ (by rw [rv_len]; omega)]
      have sa := same_new (o := .lst ((rv ps).take kk)) hp1
      have e1 : (upd Hz p1 (.lst ((rv ps).take kk))) p1 = some (.lst ((rv ps).take kk)) := upd_same
      generalize upd Hz p1 (.lst ((rv ps).take kk)) = Ha at sa e1 ⊢
      refine ⟨by show 2 ≤ sizeLine; decide, fun z0 hz0 => ⟨by show 1 ≤ sizeLine; decide, fun z1 hz1 => ?_⟩⟩
      have s2 : Same Ha (upd (upd Ha z0 (.tup [.int 0, .int 1])) z1 (.lst [.ref z0])) := (same_new hz0).trans (same_new hz1)
      have e0 : RatAt (upd (upd Ha z0 (.tup [.int 0, .int 1])) z1 (.lst [.ref z0])) z0 (0, 1) := (same_new hz1) _ _ upd_same
      have e2 : (upd (upd Ha z0 (.tup [.int 0, .int 1])) z1 (.lst [.ref z0])) z1 = some (.lst [.ref z0]) := upd_same
      generalize upd (upd Ha z0 (.tup [.int 0, .int 1])) z1 (.lst [.ref z0]) = Hb at s2 e0 e2 ⊢
      refine ⟨p1, z1, _, _, rfl, rfl, s2 _ _ e1, e2, sz _ (by rw [List.length_take, rv_len, List.length_singleton]; omega), fun p2 hp2 => ?_⟩
      have s3 := same_new (o := .lst ((rv ps).take kk ++ [V.ref z0])) hp2
      have e3 : (upd Hb p2 (.lst ((rv ps).take kk ++ [V.ref z0]))) p2 = some (.lst ((rv ps).take kk ++ [V.ref z0])) := upd_same
      generalize upd Hb p2 (.lst ((rv ps).take kk ++ [V.ref z0])) = Hc at s3 e3 ⊢
      have sc := s1.trans (sa.trans (s2.trans s3))
      refine ⟨_, rfl, _, rfl, _, rfl, wl, _, rfl, SqL.of (sc _ _ B15.hwl), fun p3 hp3 => ?_⟩
      rw [cutV_from _ (by rw [rv_len]; omega)]
      refine ⟨p2, p3, _, _, rfl, rfl, (same_new hp3) _ _ e3, upd_same, sz _ (by rw [List.length_append, List.length_take, List.length_drop, rv_len, List.length_singleton]; omega), fun p4 hp4 => ?_⟩
      rw [rv_ins]
      have sd := (same_new (o := .lst ((rv ps).drop kk)) hp3).trans (same_new (o := .lst (rv (ins ps kk z0))) hp4)
      have se := sc.trans sd
      have szb : Same Hz _ := sa.trans (s2.trans (s3.trans sd))
      have B16 := B15.same se
      refine spG_one (szb _ _ eL1) (szb _ _ eL2) (se _ _ hgl15) (B16.hrs.ins (hz15.same se) kk) upd_same (B16.hps.ins (e0.same (s3.trans sd)) kk) (hq15.same se) (by rw [li1, li2]) (by rw [li2]; omega) lwi1 lwR (lwi2 _ lw01) (great_flat n1 n5 hkk ln lw hrow hws lwR R0) fun res v H' hp s5 hr' => ?_
      obtain ⟨b2, hb2, ht2, rfl⟩ := hp
      obtain ⟨T2, dx, s, w, pn, rfl, h1, h2⟩ := hr'
      exact ⟨T2, b2, rfl, se.trans s5, ⟨dx, s, w, pn, h1, h2⟩, hb2, ht2⟩
    rintro σ16 H16 ⟨T2, b2, rfl, s16, hT2, hb2, htop2⟩
    have B16 := B15.same s16
    have P16 := P15.same s16
    have hq16 := hq15.same s16
    -- it is the same
    refine ⟨fun σ' H' => σ' = [some (.ref a), some (.ref p), some (.int (0 + (i : Int))), some (.int (n : Int)), some (.ref rl), some (.ref wl), some (.ref q), some (.ref T), some (.ref q2), some (.ref ol), some (.int (kk : Nat)), some (.ref gl'), some (.ref gg), some (.ref T2), v14, v15, v16, v17, v18, v19, v20, v21, v22, none] ∧ Same H16 H', ?_, ?_⟩
    · obtain ⟨dx, s, w, pn, h1, h2⟩ := hT2
      obtain ⟨dx', s', w', pn', h1', h2'⟩ := hT15.same s16
      refine ⟨_, rfl, .ref T2, .ref CR, .ref CR, .ref CR, true, rfl, .own _, L.tR h1, L.kR, true, rfl, iteF ?_⟩
      have en : numF ws row R b2 = numF ws row R b := by
        rw [← num_eq ln lw hrow hws lwR hb2 hb htop2 htop, num_eq ln lw hrow hws lwR hb hb htop htop]
      rw [en] at h2
      refine ⟨_, rfl, T2, CR, dx, _, .ref pn, rfl, h1, L.vR.cl, L.vR.no _ (by decide +kernel), lookup_zip (i := 0) (by decide +kernel) rfl rfl, _, rfl, T, CR, dx', _, .ref pn', rfl, h1', L.vR.cl, L.vR.no _ (by decide +kernel), lookup_zip (i := 0) (by decide +kernel) rfl rfl, ?_⟩
      refine ⟨_, _, dp_rat h2, dp_rat h2', rfl, rfl, ?_⟩
      rw [dat_refl]
      exact ⟨_, rfl, iteF ⟨rfl, fun _ _ e => e⟩⟩
    rintro σ17 H17 ⟨rfl, s17⟩
    have B17 := B16.same s17
    have P17 := P16.same s17
    have hq17 := hq16.same s17
    -- what is no ratio
    refine ⟨fun σ' H' => ∃ (v : V) (c' : Int), σ' = [some (.ref a), some (.ref p), some (.int (0 + (i : Int))), some (.int (n : Int)), some (.ref rl), some (.ref wl), some (.ref q), some (.ref T), some (.ref q2), some (.ref ol), some (.int (kk : Nat)), some (.ref gl'), some (.ref gg), some (.ref T2), some v, v15, v16, v17, v18, v19, v20, v21, v22, none] ∧ Keep p H17 H' ∧ PenAt H' p l c' ∧ c ≤ c' ∧ c' ≤ c + 8000 ∧ OddAt H' v, ?_, ?_⟩
    · refine ⟨by show 2 ≤ sizeLine; decide, fun t1 ht1 => ⟨by show 2 ≤ sizeLine; decide, fun t2 ht2 => ⟨1, rfl, by show 2 ≤ sizeLine; decide, fun t3 ht3 => ⟨by show 6 ≤ sizeLine; decide, fun u hu => ?_⟩⟩⟩⟩
      have s1 := same_new (o := .tup [.int 1, .int 0]) ht1
      have s2 := same_new (o := .lst [.int 1, .int 2]) ht2
      have s3 := same_new (o := .tup [.int 2, .int (-1)]) ht3
      have s4 := same_new (o := .lst [.non, .str "1", .ref t1, .ref t2, .ref t3, .bl true]) hu
      have sA := s1.trans (s2.trans (s3.trans s4))
      have PA := P17.same sA
      have g1 := (s2.trans (s3.trans s4)) t1 _ upd_same
      have g2 := (s3.trans s4) t2 _ upd_same
      have g3 := s4 t3 _ upd_same
      have g4 : (upd (upd (upd (upd H17 t1 (.tup [.int 1, .int 0])) t2 (.lst [.int 1, .int 2])) t3 (.tup [.int 2, .int (-1)])) u (.lst [.non, .str "1", .ref t1, .ref t2, .ref t3, .bl true])) u = some (.lst [.non, .str "1", .ref t1, .ref t2, .ref t3, .bl true]) := upd_same
      generalize upd (upd (upd (upd H17 t1 (.tup [.int 1, .int 0])) t2 (.lst [.int 1, .int 2])) t3 (.tup [.int 2, .int (-1)])) u (.lst [.non, .str "1", .ref t1, .ref t2, .ref t3, .bl true]) = Hz at sA PA g1 g2 g3 g4 ⊢
      refine ⟨_, rfl, p, l, c14, 6, rfl, PA, by omega, by decide, by decide, fun r Hy r0 r1 Py ky => ?_⟩
      have gu := ky.lst PA g4
      have k17 : Keep p H17 Hy := (Same.keep sA).trans ky
      have hr6 : r = 0 ∨ r = 1 ∨ r = 2 ∨ r = 3 ∨ r = 4 ∨ r = 5 := by omega
      rcases hr6 with rfl | rfl | rfl | rfl | rfl | rfl
      · exact ⟨u, _, 0, .non, rfl, rfl, SqL.of gu, rfl, .non, c14 + 1, rfl, k17, Py, by omega, by omega, .inl rfl⟩
      · exact ⟨u, _, 1, .str "1", rfl, rfl, SqL.of gu, rfl, .str "1", c14 + 1, rfl, k17, Py, by omega, by omega, .inr (.inl rfl)⟩
      · exact ⟨u, _, 2, .ref t1, rfl, rfl, SqL.of gu, rfl, .ref t1, c14 + 1, rfl, k17, Py, by omega, by omega, (OddAt.keep (.inr (.inr (.inl ⟨t1, rfl, g1⟩))) PA ky)⟩
      · exact ⟨u, _, 3, .ref t2, rfl, rfl, SqL.of gu, rfl, .ref t2, c14 + 1, rfl, k17, Py, by omega, by omega, (OddAt.keep (.inr (.inr (.inr (.inl ⟨t2, rfl, g2⟩)))) PA ky)⟩
      · exact ⟨u, _, 4, .ref t3, rfl, rfl, SqL.of gu, rfl, .ref t3, c14 + 1, rfl, k17, Py, by omega, by omega, (OddAt.keep (.inr (.inr (.inr (.inr (.inl ⟨t3, rfl, g3⟩))))) PA ky)⟩
      · exact ⟨u, _, 5, .bl true, rfl, rfl, SqL.of gu, rfl, .bl true, c14 + 1, rfl, k17, Py, by omega, by omega, .inr (.inr (.inr (.inr (.inr rfl))))⟩
    rintro σ18 H18 ⟨v, c18, rfl, k18, P18, c18a, c18b, hodd⟩
    have B18 := B17.keep P17 k18
    have hq18 := k18.rat P17 hq17
    -- the last one
    refine ⟨fun σ' H' => ∃ (vl : V) (c' : Int), σ' = [some (.ref a), some (.ref p), some (.int (0 + (i : Int))), some (.int (n : Int)), some (.ref rl), some (.ref wl), some (.ref q), some (.ref T), some (.ref q2), some (.ref ol), some (.int (kk : Nat)), some (.ref gl'), some (.ref gg), some (.ref T2), some v, some vl, v16, v17, v18, v19, v20, v21, v22, none] ∧ Keep p H18 H' ∧ PenAt H' p l c' ∧ c ≤ c' ∧ c' ≤ c + 9000, ?_, ?_⟩
    · refine ⟨by show 2 ≤ sizeLine; decide, fun t1 ht1 => ⟨by show 3 ≤ sizeLine; decide, fun u hu => ?_⟩⟩
      have sA := (same_new (o := .tup [.int 3, .int 0]) ht1).trans (same_new (o := .lst [.non, .str "x", .ref t1]) hu)
      have PA := P18.same sA
      have g4 : (upd (upd H18 t1 (.tup [.int 3, .int 0])) u (.lst [.non, .str "x", .ref t1])) u = some (.lst [.non, .str "x", .ref t1]) := upd_same
      generalize upd (upd H18 t1 (.tup [.int 3, .int 0])) u (.lst [.non, .str "x", .ref t1]) = Hz at sA PA g4 ⊢
      refine ⟨_, rfl, p, l, c18, 3, rfl, PA, by omega, by decide, by decide, fun r Hy r0 r1 Py ky => ?_⟩
      have gu := ky.lst PA g4
      have k17 : Keep p H18 Hy := (Same.keep sA).trans ky
      have hr3' : r = 0 ∨ r = 1 ∨ r = 2 := by omega
      rcases hr3' with rfl | rfl | rfl
      · exact ⟨u, _, 0, .non, rfl, rfl, SqL.of gu, rfl, .non, c18 + 1, rfl, k17, Py, by omega, by omega⟩
      · exact ⟨u, _, 1, .str "x", rfl, rfl, SqL.of gu, rfl, .str "x", c18 + 1, rfl, k17, Py, by omega, by omega⟩
      · exact ⟨u, _, 2, .ref t1, rfl, rfl, SqL.of gu, rfl, .ref t1, c18 + 1, rfl, k17, Py, by omega, by omega⟩
    rintro σ19 H19 ⟨vl, c19, rfl, k19, P19, c19a, c19b⟩
    have B19 := B18.keep P18 k19
    have hq19 := k19.rat P18 hq18
    have hodd19 := hodd.keep P18 k19
    -- the spoilt row
    refine ⟨fun σ' H' => ∃ (sl : Addr), σ' = [some (.ref a), some (.ref p), some (.int (0 + (i : Int))), some (.int (n : Int)), some (.ref rl), some (.ref wl), some (.ref q), some (.ref T), some (.ref q2), some (.ref ol), some (.int (kk : Nat)), some (.ref gl'), some (.ref gg), some (.ref T2), some v, some vl, some (.ref sl), v17, v18, v19, v20, v21, v22, none] ∧ Same H19 H' ∧ H' sl = some (.lst ((rv rs).take (n - 1) ++ [v])), ?_, ?_⟩
    · refine ⟨_, rfl, 1, rfl, _, rfl, rl, _, rfl, SqL.of B19.hrl, fun p1 hp1 => ?_⟩
      rw [show (-(1 : Int)) = -1 from rfl, cutV_m1 _ (by rw [rv_len]; omega), rv_len, lrs]
      have s1 := same_new (o := .lst ((rv rs).take (n - 1))) hp1
      have e1 : (upd H19 p1 (.lst ((rv rs).take (n - 1)))) p1 = some (.lst ((rv rs).take (n - 1))) := upd_same
      generalize upd H19 p1 (.lst ((rv rs).take (n - 1))) = Ha at s1 e1 ⊢
      refine ⟨_, rfl, by show 1 ≤ sizeLine; decide, fun z1 hz1 => ?_⟩
      refine ⟨p1, z1, _, _, rfl, rfl, (same_new hz1) _ _ e1, upd_same, sz _ (by rw [List.length_take, rv_len, List.length_singleton]; omega), fun p2 hp2 => ?_⟩
      exact ⟨p2, rfl, s1.trans ((same_new hz1).trans (same_new hp2)), upd_same⟩
    rintro σ20 H20 ⟨sl, rfl, s20, hsl⟩
    have B20 := B19.same s20
    have hq20 := hq19.same s20
    have hodd20 := hodd19.same s20
    have lwrow : ∀ x ∈ row, Lw x := fun x hx => (hrow x hx).1
    -- refused: the row
    refine ⟨fun σ' H' => σ' = [some (.ref a), some (.ref p), some (.int (0 + (i : Int))), some (.int (n : Int)), some (.ref rl), some (.ref wl), some (.ref q), some (.ref T), some (.ref q2), some (.ref ol), some (.int (kk : Nat)), some (.ref gl'), some (.ref gg), some (.ref T2), some v, some vl, some (.ref sl), v17, v18, v19, v20, v21, v22, none] ∧ Same H20 H', ?_, ?_⟩
    · refine ⟨_, rfl, _, rfl, by show 2 ≤ sizeLine; decide, fun L1 hL1 => ⟨_, rfl, _, rfl, by show 2 ≤ sizeLine; decide, fun L2 hL2 => ⟨_, rfl, ?_⟩⟩⟩
      have s1 := (same_new (o := .lst [.ref rl, .ref sl]) hL1).trans (same_new (o := .lst [.ref q, vl]) hL2)
      have eL1 : (upd (upd H20 L1 (.lst [.ref rl, .ref sl])) L2 (.lst [.ref q, vl])) L1 = some (.lst (rv [rl, sl])) := (same_new hL2) _ _ upd_same
      have eL2 : (upd (upd H20 L1 (.lst [.ref rl, .ref sl])) L2 (.lst [.ref q, vl])) L2 = some (.lst [.ref q, vl]) := upd_same
      generalize upd (upd H20 L1 (.lst [.ref rl, .ref sl])) L2 (.lst [.ref q, vl]) = Hz at s1 eL1 eL2 ⊢
      have Bz := B20.same s1
      have ho := hodd20.same s1
      obtain ⟨d, hd, hdo⟩ := odd_shows (K := K) ho
      refine ⟨L1, L2, wl, [rl, sl], [.ref q, vl], rv ps, v, d, rfl, eL1, eL2, Bz.hwl, .inl (first_two Bz.hrl (chk_pairs Bz.hrs lwrow) (s1 _ _ hsl) (chk_spoilt Bz.hrs lwrow (by omega) (odd_val ho))), hd, fun p5 H5' s5 h5 => ?_⟩
      have hd5 := hd.same s5
      refine ⟨_, rfl, v, d, rfl, hd5.1 _ (fun _ _ e => e), hd5.2.1, hd5.2.2.1, hd5.2.2.2.1, hd5.2.2.2.2, by show 2 ≤ sizeLine; decide, fun p6 hp6 => ?_⟩
      refine ⟨_, _, dp_entry ((same_new hp6) _ _ h5), dp_entry upd_same, datE_shaped hdo, datE_shaped hdo, ?_⟩
      rw [datE_refl hdo]
      exact ⟨_, rfl, iteF ⟨rfl, s1.trans (s5.trans (same_new hp6))⟩⟩
    rintro σ21 H21 ⟨rfl, s21⟩
    have B21 := B20.same s21
    have hq21 := hq20.same s21
    have hodd21 := hodd20.same s21
    -- refused: the right side
    refine ⟨fun σ' H' => σ' = [some (.ref a), some (.ref p), some (.int (0 + (i : Int))), some (.int (n : Int)), some (.ref rl), some (.ref wl), some (.ref q), some (.ref T), some (.ref q2), some (.ref ol), some (.int (kk : Nat)), some (.ref gl'), some (.ref gg), some (.ref T2), some v, some vl, some (.ref sl), v17, v18, v19, v20, v21, v22, none] ∧ Same H21 H', ?_, ?_⟩
    · refine ⟨_, rfl, _, rfl, by show 2 ≤ sizeLine; decide, fun L1 hL1 => ⟨_, rfl, _, rfl, by show 2 ≤ sizeLine; decide, fun L2 hL2 => ?_⟩⟩
      have s1 := (same_new (o := .lst [.ref rl, .ref rl]) hL1).trans (same_new (o := .lst [.ref q, v]) hL2)
      have eL1 : (upd (upd H21 L1 (.lst [.ref rl, .ref rl])) L2 (.lst [.ref q, v])) L1 = some (.lst (rv [rl, rl])) := (same_new hL2) _ _ upd_same
      have eL2 : (upd (upd H21 L1 (.lst [.ref rl, .ref rl])) L2 (.lst [.ref q, v])) L2 = some (.lst [.ref q, v]) := upd_same
      generalize upd (upd H21 L1 (.lst [.ref rl, .ref rl])) L2 (.lst [.ref q, v]) = Hz at s1 eL1 eL2 ⊢
      refine ⟨_, rfl, 1, rfl, _, rfl, wl, _, rfl, SqL.of (s1 _ _ B21.hwl), fun p1 hp1 => ?_⟩
      have sa := same_new (o := .lst (cutV (rv ps) none (some (-1)))) hp1
      have ep1 : (upd Hz p1 (.lst (cutV (rv ps) none (some (-1))))) p1 = some (.lst (cutV (rv ps) none (some (-1)))) := upd_same
      generalize upd Hz p1 (.lst (cutV (rv ps) none (some (-1)))) = Ha at sa ep1 ⊢
      refine ⟨_, rfl, by show 1 ≤ sizeLine; decide, fun z1 hz1 => ?_⟩
      refine ⟨p1, z1, _, _, rfl, rfl, (same_new hz1) _ _ ep1, upd_same, sz _ (by have := cutV_length (rv ps) none (some (-1)); rw [rv_len] at this; rw [List.length_singleton]; omega), fun p2 hp2 => ?_⟩
      have sb := sa.trans ((same_new (o := .lst [vl]) hz1).trans (same_new (o := .lst (cutV (rv ps) none (some (-1)) ++ [vl])) hp2))
      have ep2 : (upd (upd Ha z1 (.lst [vl])) p2 (.lst (cutV (rv ps) none (some (-1)) ++ [vl]))) p2 = some (.lst (cutV (rv ps) none (some (-1)) ++ [vl])) := upd_same
      generalize upd (upd Ha z1 (.lst [vl])) p2 (.lst (cutV (rv ps) none (some (-1)) ++ [vl])) = Hb at sb ep2 ⊢
      have sc := s1.trans sb
      have Bz := B21.same sc
      have ho := hodd21.same sc
      obtain ⟨d, hd, hdo⟩ := odd_shows (K := K) ho
      refine ⟨L1, L2, p2, [rl, rl], [.ref q, v], _, v, d, rfl, sb _ _ eL1, sb _ _ eL2, ep2, .inr (.inl ⟨first_ok Bz.hrl (chk_pairs Bz.hrs lwrow) [rl, rl] (fun a ha => by
        rcases List.mem_cons.mp ha with e | e
        · exact e
        · exact List.mem_singleton.mp e), chk_two (hq21.same sc) lwR (odd_val ho)⟩), hd, fun p5 H5' s5 h5 => ?_⟩
      have hd5 := hd.same s5
      refine ⟨_, rfl, v, d, rfl, hd5.1 _ (fun _ _ e => e), hd5.2.1, hd5.2.2.1, hd5.2.2.2.1, hd5.2.2.2.2, by show 2 ≤ sizeLine; decide, fun p6 hp6 => ?_⟩
      refine ⟨_, _, dp_entry ((same_new hp6) _ _ h5), dp_entry upd_same, datE_shaped hdo, datE_shaped hdo, ?_⟩
      rw [datE_refl hdo]
      exact ⟨_, rfl, iteF ⟨rfl, sc.trans (s5.trans (same_new hp6))⟩⟩
    rintro σ22 H22 ⟨rfl, s22⟩
    have B22 := B21.same s22
    have hq22 := hq21.same s22
    have hodd22 := hodd21.same s22
    have P22 := ((P19.same s20).same s21).same s22
    -- refused: the worth
    refine ⟨_, rfl, by show 1 ≤ sizeLine; decide, fun L1 hL1 => ⟨_, rfl, by show 1 ≤ sizeLine; decide, fun L2 hL2 => ?_⟩⟩
    have s1 := (same_new (o := .lst [.ref rl]) hL1).trans (same_new (o := .lst [.ref q]) hL2)
    have eL1 : (upd (upd H22 L1 (.lst [.ref rl])) L2 (.lst [.ref q])) L1 = some (.lst (rv [rl])) := (same_new hL2) _ _ upd_same
    have eL2 : (upd (upd H22 L1 (.lst [.ref rl])) L2 (.lst [.ref q])) L2 = some (.lst [.ref q]) := upd_same
    generalize upd (upd H22 L1 (.lst [.ref rl])) L2 (.lst [.ref q]) = Hz at s1 eL1 eL2 ⊢
    refine ⟨_, rfl, 1, rfl, _, rfl, wl, _, rfl, SqL.of (s1 _ _ B22.hwl), fun p1 hp1 => ?_⟩
    rw [show (-(1 : Int)) = -1 from rfl, cutV_m1 _ (by rw [rv_len]; omega), rv_len, lps]
    have sa := same_new (o := .lst ((rv ps).take (n - 1))) hp1
    have ep1 : (upd Hz p1 (.lst ((rv ps).take (n - 1)))) p1 = some (.lst ((rv ps).take (n - 1))) := upd_same
    generalize upd Hz p1 (.lst ((rv ps).take (n - 1))) = Ha at sa ep1 ⊢
    refine ⟨_, rfl, by show 1 ≤ sizeLine; decide, fun z1 hz1 => ?_⟩
    refine ⟨p1, z1, _, _, rfl, rfl, (same_new hz1) _ _ ep1, upd_same, sz _ (by rw [List.length_take, rv_len, List.length_singleton]; omega), fun p2 hp2 => ?_⟩
    have sb := sa.trans ((same_new (o := .lst [v]) hz1).trans (same_new (o := .lst ((rv ps).take (n - 1) ++ [v])) hp2))
    have ep2 : (upd (upd Ha z1 (.lst [v])) p2 (.lst ((rv ps).take (n - 1) ++ [v]))) p2 = some (.lst ((rv ps).take (n - 1) ++ [v])) := upd_same
    generalize upd (upd Ha z1 (.lst [v])) p2 (.lst ((rv ps).take (n - 1) ++ [v])) = Hb at sb ep2 ⊢
    have sc := s1.trans sb
    have Bz := B22.same sc
    have ho := hodd22.same sc
    obtain ⟨d, hd, hdo⟩ := odd_shows (K := K) ho
    refine ⟨L1, L2, p2, [rl], [.ref q], _, v, d, rfl, sb _ _ eL1, sb _ _ eL2, ep2, .inr (.inr ⟨first_ok Bz.hrl (chk_pairs Bz.hrs lwrow) [rl] (fun a ha => List.mem_singleton.mp ha), chk_one (hq22.same sc) lwR, chk_spoilt Bz.hps hws (by omega) (odd_val ho)⟩), hd, fun p5 H5' s5 h5 => ?_⟩
    have hd5 := hd.same s5
    refine ⟨_, rfl, v, d, rfl, hd5.1 _ (fun _ _ e => e), hd5.2.1, hd5.2.2.1, hd5.2.2.2.1, hd5.2.2.2.2, by show 2 ≤ sizeLine; decide, fun p6 hp6 => ?_⟩
    refine ⟨_, _, dp_entry ((same_new hp6) _ _ h5), dp_entry upd_same, datE_shaped hdo, datE_shaped hdo, ?_⟩
    rw [datE_refl hdo]
    refine ⟨_, rfl, iteF ⟨c19, some (.int (0 + (i : Int))), some (.int (n : Int)), some (.ref rl), some (.ref wl), some (.ref q), some (.ref T), some (.ref q2), some (.ref ol), some (.int (kk : Nat)), some (.ref gl'), some (.ref gg), some (.ref T2), some v, some vl, some (.ref sl), v17, v18, v19, v20, v21, v22, rfl, P22.same (sc.trans (s5.trans (same_new hp6))), by omega⟩⟩
  · rintro σ H2 ⟨c, v2, v3, v4, v5, v6, v7, v8, v9, v10, v11, v12, v13, v14, v15, v16, v17, v18, v19, v20, v21, v22, rfl, P2, hc⟩
    -- the constants
    refine ⟨fun σ' H' => ∃ (ta tb tc t1 t2 t3 t4 : Addr), σ' = [some (.ref a), some (.ref p), v2, v3, v4, v5, v6, v7, v8, v9, v10, v11, v12, v13, v14, v15, v16, some (.ref ta), some (.ref tb), some (.ref tc), v20, v21, v22, none] ∧ Cs H' ta tb tc t1 t2 t3 t4, ?_, ?_⟩
    · refine ⟨by show 2 ≤ sizeLine; decide, fun t1 h1 => ⟨by show 1 ≤ sizeLine; decide, fun ta ha => ⟨by show 2 ≤ sizeLine; decide, fun t2 h2 => ⟨by show 2 ≤ sizeLine; decide, fun t3 h3 => ⟨by show 2 ≤ sizeLine; decide, fun tb hb => ⟨3, rfl, by show 2 ≤ sizeLine; decide, fun t4 h4 => ⟨by show 1 ≤ sizeLine; decide, fun tc hc' => ⟨by show 3 ≤ sizeLine; decide, fun tt ht => ?_⟩⟩⟩⟩⟩⟩⟩⟩
      have s8 := same_new (o := .tup [.ref ta, .ref tb, .ref tc]) ht
      have s7 := (same_new (o := .tup [.ref t4]) hc').trans s8
      have s6 := (same_new (o := .tup [.int (-3), .int 1]) h4).trans s7
      have s5 := (same_new (o := .tup [.ref t2, .ref t3]) hb).trans s6
      have s4 := (same_new (o := .tup [.int 0, .int 1]) h3).trans s5
      have s3 := (same_new (o := .tup [.int 2, .int 1]) h2).trans s4
      have s2 := (same_new (o := .tup [.ref t1]) ha).trans s3
      exact ⟨tt, _, rfl, .inl (.inl upd_same), rfl, _, _, rfl, _, _, rfl, _, _, rfl, rfl, ta, tb, tc, t1, t2, t3, t4, rfl, s3 _ _ upd_same, s6 _ _ upd_same, s8 _ _ upd_same, s2 _ _ upd_same, s4 _ _ upd_same, s5 _ _ upd_same, s7 _ _ upd_same⟩
    rintro σ3 H3 ⟨ta, tb, tc, t1, t2, t3, t4, rfl, C3⟩
    -- the three answers by hand
    refine ⟨fun σ' H' => ∃ (x1 x2 x3 d1 d2 d3 t5 : Addr), σ' = [some (.ref a), some (.ref p), v2, v3, v4, v5, v6, v7, v8, v9, v10, v11, v12, v13, v14, v15, v16, some (.ref ta), some (.ref tb), some (.ref tc), some (.ref x1), some (.ref x2), some (.ref x3), none] ∧ Cs H' ta tb tc t1 t2 t3 t4 ∧ H' t5 = some (.tup [.int 5, .int 1]) ∧ H' x1 = some (.ins CR d1 (reK.zip [.ref t5, .ref ta, .ref tc])) ∧ H' x2 = some (.ins CE d2 (enK.zip [.ref tb, .ref ta])) ∧ H' x3 = some (.ins CO d3 (noK.zip [.ref tc])), ?_, ?_⟩
    · refine ⟨by show 2 ≤ sizeLine; decide, fun t5 h5 => ⟨_, rfl, _, rfl, ?_⟩⟩
      have C4 := C3.same (same_new (o := .tup [.int 5, .int 1]) h5)
      have e5 : (upd H3 t5 (.tup [.int 5, .int 1])) t5 = some (.tup [.int 5, .int 1]) := upd_same
      generalize upd H3 t5 (.tup [.int 5, .int 1]) = H4 at C4 e5 ⊢
      intro x1 d1 hx1 hd1 _
      have u1 := made_up (o := .ins CR d1 []) hx1 hd1
      refine ⟨x1, d1, ta, tc, .ref t5, _, _, rfl, upd_same, .inl (.inl (u1 _ _ C4.a)), .inl (.inl (u1 _ _ C4.c)), fun H5 k5 g1 => ⟨rfl, ?_⟩⟩
      have m1 := made_same hx1 hd1 k5
      have C5 := C4.same m1
      refine ⟨_, rfl, _, rfl, ?_⟩
      intro x2 d2 hx2 hd2 _
      have u2 := made_up (o := .ins CE d2 []) hx2 hd2
      refine ⟨x2, d2, tb, ta, _, _, rfl, upd_same, .inl (.inl (u2 _ _ C5.b)), .inl (.inl (u2 _ _ C5.a)), fun H6 k6 g2 => ⟨rfl, ?_⟩⟩
      have m2 := made_same hx2 hd2 k6
      have C6 := C5.same m2
      refine ⟨_, rfl, ?_⟩
      intro x3 d3 hx3 hd3 _
      have u3 := made_up (o := .ins CO d3 []) hx3 hd3
      refine ⟨x3, d3, tc, _, rfl, upd_same, .inl (.inl (u3 _ _ C6.c)), fun H7 k7 g3 => ⟨rfl, ?_⟩⟩
      have m3 := made_same hx3 hd3 k7
      exact ⟨_, _, _, rfl, x1, x2, x3, d1, d2, d3, t5, rfl, C6.same m3, m3 _ _ (m2 _ _ (m1 _ _ e5)), m3 _ _ (m2 _ _ g1), m3 _ _ g2, g3⟩
    rintro σ4 H4 ⟨x1, x2, x3, d1, d2, d3, t5, rfl, C4, e5, g1, g2, g3⟩
    have nR : reK.Nodup := by decide +kernel
    have nE : enK.Nodup := by decide +kernel
    have nO : noK.Nodup := by decide +kernel
    refine ⟨_, rfl, x1, CR, d1, _, _, rfl, g1, L.vR.cl, L.vR.no _ (by decide +kernel), lookup_zip (i := 0) nR rfl rfl, _, rfl, x1, CR, d1, _, _, rfl, g1, L.vR.cl, L.vR.no _ (by decide +kernel), lookup_zip (i := 1) nR rfl rfl, _, rfl, x1, CR, d1, _, _, rfl, g1, L.vR.cl, L.vR.no _ (by decide +kernel), lookup_zip (i := 2) nR rfl rfl, ?_⟩
    refine ⟨_, rfl, x2, CE, d2, _, _, rfl, g2, L.vE.cl, L.vE.no _ (by decide +kernel), lookup_zip (i := 0) nE rfl rfl, _, rfl, x2, CE, d2, _, _, rfl, g2, L.vE.cl, L.vE.no _ (by decide +kernel), lookup_zip (i := 1) nE rfl rfl, _, rfl, x3, CO, d3, _, _, rfl, g3, L.vO.cl, L.vO.no _ (by decide +kernel), lookup_zip (i := 0) nO rfl rfl, by show 6 ≤ sizeLine; decide, fun u hu => ?_⟩
    refine ⟨by show 2 ≤ sizeLine; decide, fun t6 h6 => ⟨_, rfl, _, rfl, _, rfl, _, rfl, _, rfl, by show 6 ≤ sizeLine; decide, fun w2 hw2 => ?_⟩⟩
    have su := same_new (o := .tup [.ref t5, .ref ta, .ref tc, .ref tb, .ref ta, .ref tc]) hu
    have s6 := same_new (o := .tup [.int 5, .int 1]) h6
    have sw := same_new (o := .tup [.ref t6, .ref ta, .ref tc, .ref tb, .ref ta, .ref tc]) hw2
    have Cz := C4.same (su.trans (s6.trans sw))
    refine ⟨dAll, dAll, .tup (.inl (.inl ((s6.trans sw) _ _ upd_same))) (.cons (dp_two ((su.trans (s6.trans sw)) _ _ e5)) (.cons Cz.dA (.cons Cz.dC (.cons Cz.dB (.cons Cz.dA (.cons Cz.dC .nil)))))), .tup (.inl (.inl upd_same)) (.cons (dp_two (sw _ _ upd_same)) (.cons Cz.dA (.cons Cz.dC (.cons Cz.dB (.cons Cz.dA (.cons Cz.dC .nil)))))), by decide +kernel, by decide +kernel, ?_⟩
    rw [dAll_refl]
    exact k _
end
end Fk

set_option Elab.async false
set_option maxRecDepth 100000
namespace Fk
open PySem L2
def oexB (K : PySem.W.Frag) (C : Addr) : Bool := match K.lookup C with
  | some ⟨.type "type", _, .cls cd, sl⟩ => (match cd.mro, sl.toList with
    | .ref C' :: bm, [_, _, _, _, some (.builtin n), _] => C' == C && (n == "ValueError.__new__" && (!cd.hasDel && (cd.hasDict && PySem.HandSPX.refsVE bm)))
    | _, _ => false)
  | _ => false
def oexB2 (K : PySem.W.Frag) (C : Addr) : Bool := oexB K C && (decide (PySem.W.findIn K (.ref C) "__setattr__" = some (some (.builtin "object.__setattr__"))) && (decide (PySem.W.subIn K (.ref C) (.type "BaseException") = some true) && (decide (PySem.W.typeIn K (.ref C) = some (.type "type")) && PySem.W.keepIn K (.ref C))))
theorem oexB_ok {K : PySem.W.Frag} {C : Addr} (q : oexB K C = true) : ∃ nm q N bs bm sn sub ab col dd k0 k1 k2 k3 k5, K.lookup C = some (excClassObj nm q C N bs bm true sn sub ab col dd k0 k1 k2 k3 k5 "ValueError.__new__") ∧ PySem.HandSPX.refsVE bm = true := by
  unfold oexB at q
  split at q
  · rename_i dd cd sl ho
    split at q
    · rename_i D bm s0 s1 s2 s3 n s5 hm hs
      simp only [Bool.and_eq_true, beq_iff_eq, Bool.not_eq_true'] at q
      obtain ⟨rfl, rfl, g1, g2, g3⟩ := q
      obtain ⟨w1, w2, w3, w4, w5, w6, w7, w8, w9, w10, w11⟩ := cd
      dsimp only at hm g1 g2
      subst hm g1 g2
      obtain ⟨ls⟩ := sl
      dsimp only at hs
      subst hs
      exact ⟨_, _, _, _, _, _, _, _, _, _, _, _, _, _, _, ho, g3⟩
    · cases q
  · cases q
theorem oexB2_ok {K : PySem.W.Frag} {C : Addr} (h : oexB2 K C = true) : OexC K C := by
  unfold oexB2 at h
  simp only [Bool.and_eq_true, decide_eq_true_eq] at h
  obtain ⟨h1, h2, h3, h4, h5⟩ := h
  exact ⟨oexB_ok h1, h2, h3, h4, h5⟩
def excBl (K : PySem.W.Frag) (C : Addr) : Bool :=
  decide (PySem.W.findIn K (.ref C) "__getattribute__" = some (some (.builtin "BaseException.__getattribute__"))) && (decide (PySem.W.findIn K (.ref C) "__getattr__" = some none) && (decide (PySem.W.subIn K (.ref C) (.type "BaseException") = some true) &&
  (PySem.W.hasDictIn K C && (decide (PySem.W.findIn K (.ref C) "__class__" = some (some (.builtin "object.__class__"))) && decide (PySem.W.mroIn K C (.type "object") = some true)))))
def looks5 (K : PySem.W.Frag) (CF CN CT CR CE CO f_tinit f_costs f_pivot f_gain f_enter f_leave f_before f_raise f_drop f_total f_reached f_growth f_prices f_rinit f_einit f_ninit : Addr) : Bool :=
  oexB2 K CN && (excBl K CN && (xfB K CN && (decide (PySem.W.kitOne K (.ref CN) (.ref CF) = some true) && (decide (PySem.W.exmOne K (.ref CN) (.ref CN) = some true) && (decide (PySem.W.plainGet K CT Str.empty = true) && (decide (PySem.W.hasDictIn K CT = true) && (decide (PySem.W.plainOver K CT = true) && (decide (PySem.W.findIn K (.ref CT) "__setattr__" = some (some (.builtin "object.__setattr__"))) && (decide (PySem.W.findIn K (.ref CT) "many" = some none) && (decide (PySem.W.findIn K (.ref CT) "divisor" = some none) && (decide (PySem.W.findIn K (.ref CT) "base" = some none) && (decide (PySem.W.findIn K (.ref CT) "scales" = some none) && (decide (PySem.W.findIn K (.ref CT) "signs" = some none) && (decide (PySem.W.findIn K (.ref CT) "lines" = some none) && (decide (PySem.W.makesIn K CT = true) && (decide (PySem.W.findIn K (.ref CT) "__init__" = some (some (.ref f_tinit))) && (decide (PySem.W.isFn K (.ref f_tinit) = true) && (decide (PySem.W.keepIn K (.ref CT) = true) && (decide (PySem.W.plainGet K CR Str.empty = true) && (decide (PySem.W.hasDictIn K CR = true) && (decide (PySem.W.plainOver K CR = true) && (decide (PySem.W.findIn K (.ref CR) "__setattr__" = some (some (.builtin "object.__setattr__"))) && (decide (PySem.W.findIn K (.ref CR) "number" = some none) && (decide (PySem.W.findIn K (.ref CR) "spots" = some none) && (decide (PySem.W.findIn K (.ref CR) "weights" = some none) && (decide (PySem.W.makesIn K CR = true) && (decide (PySem.W.findIn K (.ref CR) "__init__" = some (some (.ref f_rinit))) && (decide (PySem.W.isFn K (.ref f_rinit) = true) && (decide (PySem.W.keepIn K (.ref CR) = true) && (decide (PySem.W.findIn K (.ref CR) "__class__" = some (some (.builtin "object.__class__"))) && (decide (PySem.W.mroIn K CR (.type "object") = some true) && (decide (PySem.W.kitOne K (.ref CR) (.ref CR) = some true) && (decide (PySem.W.plainGet K CE Str.empty = true) && (decide (PySem.W.hasDictIn K CE = true) && (decide (PySem.W.plainOver K CE = true) && (decide (PySem.W.findIn K (.ref CE) "__setattr__" = some (some (.builtin "object.__setattr__"))) && (decide (PySem.W.findIn K (.ref CE) "spots" = some none) && (decide (PySem.W.findIn K (.ref CE) "run" = some none) && (decide (PySem.W.makesIn K CE = true) && (decide (PySem.W.findIn K (.ref CE) "__init__" = some (some (.ref f_einit))) && (decide (PySem.W.isFn K (.ref f_einit) = true) && (decide (PySem.W.keepIn K (.ref CE) = true) && (decide (PySem.W.findIn K (.ref CE) "__class__" = some (some (.builtin "object.__class__"))) && (decide (PySem.W.mroIn K CE (.type "object") = some true) && (decide (PySem.W.kitOne K (.ref CE) (.ref CE) = some true) && (decide (PySem.W.plainGet K CO Str.empty = true) && (decide (PySem.W.hasDictIn K CO = true) && (decide (PySem.W.plainOver K CO = true) && (decide (PySem.W.findIn K (.ref CO) "__setattr__" = some (some (.builtin "object.__setattr__"))) && (decide (PySem.W.findIn K (.ref CO) "weights" = some none) && (decide (PySem.W.makesIn K CO = true) && (decide (PySem.W.findIn K (.ref CO) "__init__" = some (some (.ref f_ninit))) && (decide (PySem.W.isFn K (.ref f_ninit) = true) && (decide (PySem.W.keepIn K (.ref CO) = true) && (decide (PySem.W.findIn K (.ref CO) "__class__" = some (some (.builtin "object.__class__"))) && (decide (PySem.W.mroIn K CO (.type "object") = some true) && (decide (PySem.W.kitOne K (.ref CO) (.ref CO) = some true) && (decide (PySem.W.isFn K (.ref f_costs) = true) && (decide (PySem.W.isFn K (.ref f_pivot) = true) && (decide (PySem.W.isFn K (.ref f_gain) = true) && (decide (PySem.W.isFn K (.ref f_enter) = true) && (decide (PySem.W.isFn K (.ref f_leave) = true) && (decide (PySem.W.isFn K (.ref f_before) = true) && (decide (PySem.W.isFn K (.ref f_raise) = true) && (decide (PySem.W.isFn K (.ref f_drop) = true) && (decide (PySem.W.isFn K (.ref f_total) = true) && (decide (PySem.W.isFn K (.ref f_reached) = true) && (decide (PySem.W.isFn K (.ref f_growth) = true) && (decide (PySem.W.isFn K (.ref f_prices) = true))))))))))))))))))))))))))))))))))))))))))))))))))))))))))))))))))))))
set_option maxHeartbeats 0 in
theorem all_mk {l : PySem.W.OpenLaw} {w : World} {K : PySem.W.Frag} {h : Heap} {mg : Str → Option Value} {fa CF CN CT CR CE CO gN f_law f_isint f_israt f_lowest f_asr f_shared f_check f_pivoted f_great f_pen f_draw f_pick f_big f_gcd f_q f_minus f_times f_over f_less f_ratio f_above f_best f_refused f_tinit f_costs f_pivot f_gain f_enter f_leave f_before f_raise f_drop f_total f_reached f_growth f_prices f_rinit f_einit f_ninit : Addr} {eN d_isint d_israt d_lowest d_asr d_shared d_check d_pivoted d_great d_pen d_draw d_pick d_big d_gcd d_q d_minus d_times d_over d_less d_ratio d_above d_best d_refused d_tinit d_costs d_pivot d_gain d_enter d_leave d_before d_raise d_drop d_total d_reached d_growth d_prices d_rinit d_einit d_ninit : FuncData} {od an : Option Addr} {sl : Array (Option Value)} {oc kV dc pm cd ct : Value}
    (X : K.In h) (G : h.Ns mainGlobals mg) (hfa : mg "law" = some (.ref fa))
    (a_isint : PySem.W.nsIn K mainGlobals "is_integer" = some (some (.ref f_isint)))
    (F_isint : Fun K "is_integer" "is_integer" sIsInt f_isint d_isint)
    (a_israt : PySem.W.nsIn K mainGlobals "is_ratio" = some (some (.ref f_israt)))
    (F_israt : Fun K "is_ratio" "is_ratio" sIsRat f_israt d_israt)
    (a_lowest : PySem.W.nsIn K mainGlobals "lowest" = some (some (.ref f_lowest)))
    (F_lowest : Fun K "lowest" "lowest" sLowest f_lowest d_lowest)
    (a_asr : PySem.W.nsIn K mainGlobals "as_ratio" = some (some (.ref f_asr)))
    (F_asr : Fun K "as_ratio" "as_ratio" sAsRat f_asr d_asr)
    (a_shared : PySem.W.nsIn K mainGlobals "shared_bottom" = some (some (.ref f_shared)))
    (F_shared : Fun K "shared_bottom" "shared_bottom" sShared f_shared d_shared)
    (a_check : PySem.W.nsIn K mainGlobals "check_entries" = some (some (.ref f_check)))
    (F_check : Fun K "check_entries" "check_entries" sCheck f_check d_check)
    (a_pivoted : PySem.W.nsIn K mainGlobals "pivoted" = some (some (.ref f_pivoted)))
    (F_pivoted : Fun K "pivoted" "pivoted" sPivoted f_pivoted d_pivoted)
    (a_great : PySem.W.nsIn K mainGlobals "greatest" = some (some (.ref f_great)))
    (F_great : Fun K "greatest" "greatest" sGreat f_great d_great)
    (a_pen : PySem.W.nsIn K mainGlobals "_law_pen" = some (some (.ref f_pen)))
    (F_pen : Fun K "_law_pen" "_law_pen" sPen f_pen d_pen)
    (a_draw : PySem.W.nsIn K mainGlobals "_law_draw" = some (some (.ref f_draw)))
    (F_draw : Fun K "_law_draw" "_law_draw" sDraw f_draw d_draw)
    (a_pick : PySem.W.nsIn K mainGlobals "_law_pick" = some (some (.ref f_pick)))
    (F_pick : Fun K "_law_pick" "_law_pick" sPick f_pick d_pick)
    (a_big : PySem.W.nsIn K mainGlobals "_law_big" = some (some (.ref f_big)))
    (F_big : Fun K "_law_big" "_law_big" sBig f_big d_big)
    (a_gcd : PySem.W.nsIn K mainGlobals "_law_gcd" = some (some (.ref f_gcd)))
    (F_gcd : Fun K "_law_gcd" "_law_gcd" sGcd f_gcd d_gcd)
    (a_q : PySem.W.nsIn K mainGlobals "_law_q" = some (some (.ref f_q)))
    (F_q : Fun K "_law_q" "_law_q" sQ f_q d_q)
    (a_minus : PySem.W.nsIn K mainGlobals "_law_minus" = some (some (.ref f_minus)))
    (F_minus : Fun K "_law_minus" "_law_minus" sMinus f_minus d_minus)
    (a_times : PySem.W.nsIn K mainGlobals "_law_times" = some (some (.ref f_times)))
    (F_times : Fun K "_law_times" "_law_times" sTimes f_times d_times)
    (a_over : PySem.W.nsIn K mainGlobals "_law_over" = some (some (.ref f_over)))
    (F_over : Fun K "_law_over" "_law_over" sOver f_over d_over)
    (a_less : PySem.W.nsIn K mainGlobals "_law_less" = some (some (.ref f_less)))
    (F_less : Fun K "_law_less" "_law_less" sLess f_less d_less)
    (a_ratio : PySem.W.nsIn K mainGlobals "_law_ratio" = some (some (.ref f_ratio)))
    (F_ratio : Fun K "_law_ratio" "_law_ratio" sLRatio f_ratio d_ratio)
    (a_above : PySem.W.nsIn K mainGlobals "_law_above" = some (some (.ref f_above)))
    (F_above : Fun K "_law_above" "_law_above" sAbove f_above d_above)
    (a_best : PySem.W.nsIn K mainGlobals "_law_best" = some (some (.ref f_best)))
    (F_best : Fun K "_law_best" "_law_best" sBest f_best d_best)
    (a_refused : PySem.W.nsIn K mainGlobals "_law_refused" = some (some (.ref f_refused)))
    (F_refused : Fun K "_law_refused" "_law_refused" sRefused f_refused d_refused)
    (a_law : PySem.W.nsIn K mainGlobals "law" = some (some (.ref f_law)))
    (g_gcd : PySem.W.nsIn K mainGlobals "gcd" = some (some (.builtin "math.gcd")))
    (g_F : PySem.W.nsIn K mainGlobals "FoeError" = some (some (.ref CF)))
    (g_N : PySem.W.nsIn K mainGlobals "BadNumber" = some (some (.ref CN)))
    (i_N : PySem.W.findIn K (.ref CN) "__init__" = some (some (.ref gN)))
    (t_N : PySem.W.typeIn K (.ref gN) = some (.type "function"))
    (IN : Fun K "__init__" "BadNumber.__init__" sIBadNumber gN eN)
    (nN_what : PySem.W.findIn K (.ref CN) "what" = some none)
    (nN_number : PySem.W.findIn K (.ref CN) "number" = some none)
    (z_int : PySem.W.nsIn K mainGlobals "int" = some none)
    (z_list : PySem.W.nsIn K mainGlobals "list" = some none)
    (z_len : PySem.W.nsIn K mainGlobals "len" = some none)
    (z_range : PySem.W.nsIn K mainGlobals "range" = some none)
    (z_str : PySem.W.nsIn K mainGlobals "str" = some none)
    (z_isinstance : PySem.W.nsIn K mainGlobals "isinstance" = some none)
    (z_tuple : PySem.W.nsIn K mainGlobals "tuple" = some none)
    (z_bool : PySem.W.nsIn K mainGlobals "bool" = some none)
    (z_abs : PySem.W.nsIn K mainGlobals "abs" = some none)
    (z_repr : PySem.W.nsIn K mainGlobals "repr" = some none)
    (z_zip : PySem.W.nsIn K mainGlobals "zip" = some none)
    (sp : PySem.W.specialIn K (.builtin "object.__class__") "__get__" = some (some (.builtin "getset_descriptor.__get__")))
    (tk : PySem.W.takesIn K (.builtin "object.__class__") = some true)
    (g_T : PySem.W.nsIn K mainGlobals "Tableau" = some (some (.ref CT)))
    (g_R : PySem.W.nsIn K mainGlobals "Reached" = some (some (.ref CR)))
    (g_E : PySem.W.nsIn K mainGlobals "Endless" = some (some (.ref CE)))
    (g_O : PySem.W.nsIn K mainGlobals "Nothing" = some (some (.ref CO)))
    (m_tinit : PySem.W.findIn K (.ref CT) "__init__" = some (some (.ref f_tinit)))
    (F_tinit : Fun K "__init__" "Tableau.__init__" sInit f_tinit d_tinit)
    (m_costs : PySem.W.findIn K (.ref CT) "costs_of" = some (some (.ref f_costs)))
    (F_costs : Fun K "costs_of" "Tableau.costs_of" sCosts f_costs d_costs)
    (m_pivot : PySem.W.findIn K (.ref CT) "pivot" = some (some (.ref f_pivot)))
    (F_pivot : Fun K "pivot" "Tableau.pivot" sPivot f_pivot d_pivot)
    (m_gain : PySem.W.findIn K (.ref CT) "gain" = some (some (.ref f_gain)))
    (F_gain : Fun K "gain" "Tableau.gain" sGain f_gain d_gain)
    (m_enter : PySem.W.findIn K (.ref CT) "entering" = some (some (.ref f_enter)))
    (F_enter : Fun K "entering" "Tableau.entering" sEnter f_enter d_enter)
    (m_leave : PySem.W.findIn K (.ref CT) "leaving" = some (some (.ref f_leave)))
    (F_leave : Fun K "leaving" "Tableau.leaving" sLeave f_leave d_leave)
    (m_before : PySem.W.findIn K (.ref CT) "is_before" = some (some (.ref f_before)))
    (F_before : Fun K "is_before" "Tableau.is_before" sBefore f_before d_before)
    (m_raise : PySem.W.findIn K (.ref CT) "raise_to_top" = some (some (.ref f_raise)))
    (F_raise : Fun K "raise_to_top" "Tableau.raise_to_top" sRaise f_raise d_raise)
    (m_drop : PySem.W.findIn K (.ref CT) "drop_helpers" = some (some (.ref f_drop)))
    (F_drop : Fun K "drop_helpers" "Tableau.drop_helpers" sDrop f_drop d_drop)
    (m_total : PySem.W.findIn K (.ref CT) "total" = some (some (.ref f_total)))
    (F_total : Fun K "total" "Tableau.total" sTotal f_total d_total)
    (m_reached : PySem.W.findIn K (.ref CT) "reached" = some (some (.ref f_reached)))
    (F_reached : Fun K "reached" "Tableau.reached" sReached f_reached d_reached)
    (m_growth : PySem.W.findIn K (.ref CT) "growth" = some (some (.ref f_growth)))
    (F_growth : Fun K "growth" "Tableau.growth" sGrowth f_growth d_growth)
    (m_prices : PySem.W.findIn K (.ref CT) "prices" = some (some (.ref f_prices)))
    (F_prices : Fun K "prices" "Tableau.prices" sPrices f_prices d_prices)
    (m_rinit : PySem.W.findIn K (.ref CR) "__init__" = some (some (.ref f_rinit)))
    (F_rinit : Fun K "__init__" "Reached.__init__" sIReached f_rinit d_rinit)
    (m_einit : PySem.W.findIn K (.ref CE) "__init__" = some (some (.ref f_einit)))
    (F_einit : Fun K "__init__" "Endless.__init__" sIEndless f_einit d_einit)
    (m_ninit : PySem.W.findIn K (.ref CO) "__init__" = some (some (.ref f_ninit)))
    (F_ninit : Fun K "__init__" "Nothing.__init__" sINothing f_ninit d_ninit)
    (kb : looks5 K CF CN CT CR CE CO f_tinit f_costs f_pivot f_gain f_enter f_leave f_before f_raise f_drop f_total f_reached f_growth f_prices f_rinit f_einit f_ninit = true)
    (l_law : K.lookup f_law = some ⟨oc, od, .func (PySem.W.fnOf "law" "law" (defArgs sLaw) (defBody sLaw) (defScope sLaw) .none kV dc pm an cd ct), sl⟩)
    (c_law : PySem.W.codeIn K cd "law" = true)
    (k_law : PySem.W.keepIn K (.ref f_law) = true)
    : ∃ fd : FuncData, (∀ (s : Shared) (u : Value), BindsTo s fd ⟨[u], []⟩ [("_law_script", u)]) ∧ ∀ base : Heap, K.In base → base.Ns mainGlobals mg → FnG l.prog w K mg base 7 fa fd ["_law_script"] (spLaw K) := by
  have e := hfa.symm.trans (PySem.W.mg_of X G a_law)
  cases e
  have F_law := fun_mk (st := sLaw) l_law c_law k_law
  unfold looks5 at kb
  simp only [Bool.and_eq_true, decide_eq_true_eq] at kb
  obtain ⟨k_oxN, k_ebN, k_xfN, k_nF, k_mNN, k_t0, k_t1, k_t2, k_t3, k_t4, k_t5, k_t6, k_t7, k_t8, k_t9, k_t10, k_t11, k_t12, k_t13, k_r0, k_r1, k_r2, k_r3, k_r4, k_r5, k_r6, k_r7, k_r8, k_r9, k_r10, k_r11, k_r12, k_r13, k_e0, k_e1, k_e2, k_e3, k_e4, k_e5, k_e6, k_e7, k_e8, k_e9, k_e10, k_e11, k_e12, k_o0, k_o1, k_o2, k_o3, k_o4, k_o5, k_o6, k_o7, k_o8, k_o9, k_o10, k_o11, k_is_costs, k_is_pivot, k_is_gain, k_is_enter, k_is_leave, k_is_before, k_is_raise, k_is_drop, k_is_total, k_is_reached, k_is_growth, k_is_prices⟩ := kb
  unfold excBl at k_ebN
  simp only [Bool.and_eq_true, decide_eq_true_eq] at k_ebN
  obtain ⟨xN1, xN2, xN3, xN4, xN5, xN6⟩ := k_ebN
  have bd_isint := F_isint.binds (ps := psv) fun _ _ _ _ _ _ us hl => match us, hl with | [_], _ => rfl
  have bd_israt := F_israt.binds (ps := psv) fun _ _ _ _ _ _ us hl => match us, hl with | [_], _ => rfl
  have bd_lowest := F_lowest.binds (ps := ["top", "bottom"]) fun _ _ _ _ _ _ us hl => match us, hl with | [_, _], _ => rfl
  have bd_asr := F_asr.binds (ps := psv) fun _ _ _ _ _ _ us hl => match us, hl with | [_], _ => rfl
  have bd_shared := F_shared.binds (ps := ["ratios"]) fun _ _ _ _ _ _ us hl => match us, hl with | [_], _ => rfl
  have bd_check := F_check.binds (ps := ["entries"]) fun _ _ _ _ _ _ us hl => match us, hl with | [_], _ => rfl
  have bd_pivoted := F_pivoted.binds (ps := psPivoted) fun _ _ _ _ _ _ us hl => match us, hl with | [_, _, _, _], _ => rfl
  have bd_great := F_great.binds (ps := ["rows", "right", "worth"]) fun _ _ _ _ _ _ us hl => match us, hl with | [_, _, _], _ => rfl
  have bd_pen := F_pen.binds (ps := ["_law_script"]) fun _ _ _ _ _ _ us hl => match us, hl with | [_], _ => rfl
  have bd_draw := F_draw.binds (ps := psDraw) fun _ _ _ _ _ _ us hl => match us, hl with | [_, _], _ => rfl
  have bd_pick := F_pick.binds (ps := psPick) fun _ _ _ _ _ _ us hl => match us, hl with | [_, _], _ => rfl
  have bd_big := F_big.binds (ps := psBig) fun _ _ _ _ _ _ us hl => match us, hl with | [_, _], _ => rfl
  have bd_gcd := F_gcd.binds (ps := psGcd) fun _ _ _ _ _ _ us hl => match us, hl with | [_, _], _ => rfl
  have bd_q := F_q.binds (ps := psQ) fun _ _ _ _ _ _ us hl => match us, hl with | [_, _], _ => rfl
  have bd_minus := F_minus.binds (ps := psOT) fun _ _ _ _ _ _ us hl => match us, hl with | [_, _], _ => rfl
  have bd_times := F_times.binds (ps := psOT) fun _ _ _ _ _ _ us hl => match us, hl with | [_, _], _ => rfl
  have bd_over := F_over.binds (ps := psOT) fun _ _ _ _ _ _ us hl => match us, hl with | [_, _], _ => rfl
  have bd_less := F_less.binds (ps := psOT) fun _ _ _ _ _ _ us hl => match us, hl with | [_, _], _ => rfl
  have bd_ratio := F_ratio.binds (ps := psBig) fun _ _ _ _ _ _ us hl => match us, hl with | [_, _], _ => rfl
  have bd_above := F_above.binds (ps := ["_law_pen_here"]) fun _ _ _ _ _ _ us hl => match us, hl with | [_], _ => rfl
  have bd_best := F_best.binds (ps := psBest) fun _ _ _ _ _ _ us hl => match us, hl with | [_, _, _], _ => rfl
  have bd_refused := F_refused.binds (ps := psRefused) fun _ _ _ _ _ _ us hl => match us, hl with | [_, _, _], _ => rfl
  have bd_tinit := F_tinit.binds (ps := ["self", "rows", "right", "many"]) fun _ _ _ _ _ _ us hl => match us, hl with | [_, _, _, _], _ => rfl
  have bd_costs := F_costs.binds (ps := ["self", "worth"]) fun _ _ _ _ _ _ us hl => match us, hl with | [_, _], _ => rfl
  have bd_pivot := F_pivot.binds (ps := ["self", "at", "column"]) fun _ _ _ _ _ _ us hl => match us, hl with | [_, _, _], _ => rfl
  have bd_gain := F_gain.binds (ps := ["self", "costs", "column"]) fun _ _ _ _ _ _ us hl => match us, hl with | [_, _, _], _ => rfl
  have bd_enter := F_enter.binds (ps := ["self", "costs"]) fun _ _ _ _ _ _ us hl => match us, hl with | [_, _], _ => rfl
  have bd_leave := F_leave.binds (ps := ["self", "column"]) fun _ _ _ _ _ _ us hl => match us, hl with | [_, _], _ => rfl
  have bd_before := F_before.binds (ps := ["self", "k", "best", "column"]) fun _ _ _ _ _ _ us hl => match us, hl with | [_, _, _, _], _ => rfl
  have bd_raise := F_raise.binds (ps := ["self", "costs"]) fun _ _ _ _ _ _ us hl => match us, hl with | [_, _], _ => rfl
  have bd_drop := F_drop.binds (ps := ["self"]) fun _ _ _ _ _ _ us hl => match us, hl with | [_], _ => rfl
  have bd_total := F_total.binds (ps := ["self", "costs", "scale"]) fun _ _ _ _ _ _ us hl => match us, hl with | [_, _, _], _ => rfl
  have bd_reached := F_reached.binds (ps := ["self"]) fun _ _ _ _ _ _ us hl => match us, hl with | [_], _ => rfl
  have bd_growth := F_growth.binds (ps := ["self", "column"]) fun _ _ _ _ _ _ us hl => match us, hl with | [_, _], _ => rfl
  have bd_prices := F_prices.binds (ps := ["self", "costs", "scale"]) fun _ _ _ _ _ _ us hl => match us, hl with | [_, _, _], _ => rfl
  have bd_rinit := F_rinit.binds (ps := ["self", "number", "spots", "weights"]) fun _ _ _ _ _ _ us hl => match us, hl with | [_, _, _, _], _ => rfl
  have bd_einit := F_einit.binds (ps := ["self", "spots", "run"]) fun _ _ _ _ _ _ us hl => match us, hl with | [_, _, _], _ => rfl
  have bd_ninit := F_ninit.binds (ps := ["self", "weights"]) fun _ _ _ _ _ _ us hl => match us, hl with | [_, _], _ => rfl
  have beN := IN.binds (ps := ["self", "what", "number"]) fun _ _ _ _ _ _ us hl => match us, hl with | [_, _, _], _ => rfl
  have y_int := PySem.W.mg_none_of X G z_int
  have y_list := PySem.W.mg_none_of X G z_list
  have y_len := PySem.W.mg_none_of X G z_len
  have y_range := PySem.W.mg_none_of X G z_range
  have y_str := PySem.W.mg_none_of X G z_str
  have y_isinstance := PySem.W.mg_none_of X G z_isinstance
  have y_tuple := PySem.W.mg_none_of X G z_tuple
  have y_bool := PySem.W.mg_none_of X G z_bool
  have y_abs := PySem.W.mg_none_of X G z_abs
  have y_repr := PySem.W.mg_none_of X G z_repr
  have y_zip := PySem.W.mg_none_of X G z_zip
  refine ⟨PySem.W.fnOf "law" "law" (defArgs sLaw) (defBody sLaw) (defScope sLaw) .none kV dc pm an cd ct, fun s v => .of_eq rfl, fun base _ _ => ?_⟩
  have nnN : ∀ f ∈ (["what", "number"] : List Str), PySem.W.findIn K (.ref CN) f = some none := fun f hf => by
    simp only [List.mem_cons, List.not_mem_nil, or_false] at hf
    rcases hf with rfl | rfl
    · exact nN_what
    · exact nN_number
  have EN : Err l.prog w K mg base "BadNumber" numFs CN gN eN := ⟨oexB2_ok k_oxN, i_N, t_N, ini_BadNumber IN ⟨oexB2_ok k_oxN, nnN⟩, beN, PySem.W.mg_of X G g_N⟩
  have noT : ∀ f ∈ tbK, NoAttr K CT f := fun f hf => by
    simp only [tbK, List.mem_cons, List.not_mem_nil, or_false] at hf
    rcases hf with rfl | rfl | rfl | rfl | rfl | rfl
    · exact k_t4
    · exact k_t5
    · exact k_t6
    · exact k_t7
    · exact k_t8
    · exact k_t9
  have VT : VCls K CT tbK := ⟨⟨k_t0, k_t1, k_t2, k_t3⟩, noT⟩
  have noR : ∀ f ∈ reK, NoAttr K CR f := fun f hf => by
    simp only [reK, List.mem_cons, List.not_mem_nil, or_false] at hf
    rcases hf with rfl | rfl | rfl
    · exact k_r4
    · exact k_r5
    · exact k_r6
  have VR : VCls K CR reK := ⟨⟨k_r0, k_r1, k_r2, k_r3⟩, noR⟩
  have noE : ∀ f ∈ enK, NoAttr K CE f := fun f hf => by
    simp only [enK, List.mem_cons, List.not_mem_nil, or_false] at hf
    rcases hf with rfl | rfl
    · exact k_e4
    · exact k_e5
  have VE : VCls K CE enK := ⟨⟨k_e0, k_e1, k_e2, k_e3⟩, noE⟩
  have noO : ∀ f ∈ noK, NoAttr K CO f := fun f hf => by
    simp only [noK, List.mem_cons, List.not_mem_nil, or_false] at hf
    rcases hf with rfl
    · exact k_o4
  have VO : VCls K CO noK := ⟨⟨k_o0, k_o1, k_o2, k_o3⟩, noO⟩
  have y_gcd := PySem.W.mg_of X G g_gcd
  have hisint : Cl l.prog w K mg base "is_integer" psv 1 (spIsInt K) f_isint d_isint := ⟨ok_isint F_isint y_isinstance y_int y_bool, PySem.W.mg_of X G a_isint, F_isint.kp, bd_isint⟩
  have hisrat : Cl l.prog w K mg base "is_ratio" psv 2 (spIsRat K) f_israt d_israt := ⟨ok_israt F_israt y_isinstance y_tuple y_len hisint, PySem.W.mg_of X G a_israt, F_israt.kp, bd_israt⟩
  have hlowest : Cl l.prog w K mg base "lowest" ["top", "bottom"] 1 spLowest f_lowest d_lowest := ⟨ok_lowest F_lowest y_gcd, PySem.W.mg_of X G a_lowest, F_lowest.kp, bd_lowest⟩
  have hasr : Cl l.prog w K mg base "as_ratio" psv 2 spAs f_asr d_asr := ⟨ok_as F_asr y_isinstance y_int hlowest, PySem.W.mg_of X G a_asr, F_asr.kp, bd_asr⟩
  have hshared : Cl l.prog w K mg base "shared_bottom" ["ratios"] 1 spShared f_shared d_shared := ⟨ok_shared F_shared y_gcd, PySem.W.mg_of X G a_shared, F_shared.kp, bd_shared⟩
  have hpivoted : Cl l.prog w K mg base "pivoted" psPivoted 1 spPivoted f_pivoted d_pivoted := ⟨ok_pivoted F_pivoted y_len y_range y_zip, PySem.W.mg_of X G a_pivoted, F_pivoted.kp, bd_pivoted⟩
  have CK := ok_check (P := l.prog) (w := w) (base := base) F_check EN hisrat
  have hgain : MCl l.prog w K mg base CT "gain" ["costs", "column"] 1 (spGain CT) f_gain d_gain := ⟨⟨m_gain, k_is_gain, F_gain.kp⟩, ok_gain F_gain VT y_len y_range, bd_gain⟩
  have henter : MCl l.prog w K mg base CT "entering" ["costs"] 2 (spEnter CT) f_enter d_enter := ⟨⟨m_enter, k_is_enter, F_enter.kp⟩, ok_enter F_enter VT y_range hgain, bd_enter⟩
  have hbefore : MCl l.prog w K mg base CT "is_before" ["k", "best", "column"] 1 (spBefore CT) f_before d_before := ⟨⟨m_before, k_is_before, F_before.kp⟩, ok_before F_before VT, bd_before⟩
  have hleave : MCl l.prog w K mg base CT "leaving" ["column"] 2 (spLeave CT) f_leave d_leave := ⟨⟨m_leave, k_is_leave, F_leave.kp⟩, ok_leave F_leave VT y_len y_range hbefore, bd_leave⟩
  have hpivot : MCl l.prog w K mg base CT "pivot" ["at", "column"] 2 (spPivot CT) f_pivot d_pivot := ⟨⟨m_pivot, k_is_pivot, F_pivot.kp⟩, ok_pivot F_pivot VT y_list hpivoted, bd_pivot⟩
  have hraise : MCl l.prog w K mg base CT "raise_to_top" ["costs"] 3 (spRaise CT) f_raise d_raise := ⟨⟨m_raise, k_is_raise, F_raise.kp⟩, ok_raise F_raise VT henter hleave hpivot, bd_raise⟩
  have hdrop : MCl l.prog w K mg base CT "drop_helpers" [] 1 (spDrop CT) f_drop d_drop := ⟨⟨m_drop, k_is_drop, F_drop.kp⟩, ok_drop F_drop VT y_len y_range, bd_drop⟩
  have htotal : MCl l.prog w K mg base CT "total" ["costs", "scale"] 2 (spTotal CT) f_total d_total := ⟨⟨m_total, k_is_total, F_total.kp⟩, ok_total F_total VT y_len y_range hlowest, bd_total⟩
  have hreached : MCl l.prog w K mg base CT "reached" [] 2 (spReached CT) f_reached d_reached := ⟨⟨m_reached, k_is_reached, F_reached.kp⟩, ok_reached F_reached VT y_len y_range y_tuple hlowest, bd_reached⟩
  have hgrowth : MCl l.prog w K mg base CT "growth" ["column"] 2 (spGrowth CT) f_growth d_growth := ⟨⟨m_growth, k_is_growth, F_growth.kp⟩, ok_growth F_growth VT y_len y_range y_tuple hlowest, bd_growth⟩
  have hprices : MCl l.prog w K mg base CT "prices" ["costs", "scale"] 2 (spPrices CT) f_prices d_prices := ⟨⟨m_prices, k_is_prices, F_prices.kp⟩, ok_prices F_prices VT y_len y_range y_tuple hlowest, bd_prices⟩
  have hcosts : MCl l.prog w K mg base CT "costs_of" ["worth"] 3 (spCosts CT) f_costs d_costs := ⟨⟨m_costs, k_is_costs, F_costs.kp⟩, ok_costs F_costs VT y_len y_range hasr hshared, bd_costs⟩
  have htinit : CMk l.prog w K mg base "Tableau" CT ["rows", "right", "many"] 3 (spInit CT) f_tinit d_tinit := ⟨⟨k_t10, k_t11, k_t12, k_t13⟩, ok_init F_tinit VT y_len y_range y_list hasr hshared, PySem.W.mg_of X G g_T, bd_tinit⟩
  have hrinit : CMk l.prog w K mg base "Reached" CR reK 1 (spIReached K CR) f_rinit d_rinit := ⟨⟨k_r7, k_r8, k_r9, k_r10⟩, ok_ireached F_rinit VR y_tuple, PySem.W.mg_of X G g_R, bd_rinit⟩
  have heinit : CMk l.prog w K mg base "Endless" CE enK 1 (spIEndless K CE) f_einit d_einit := ⟨⟨k_e6, k_e7, k_e8, k_e9⟩, ok_iendless F_einit VE y_tuple, PySem.W.mg_of X G g_E, bd_einit⟩
  have hninit : CMk l.prog w K mg base "Nothing" CO noK 1 (spINothing K CO) f_ninit d_ninit := ⟨⟨k_o5, k_o6, k_o7, k_o8⟩, ok_inothing F_ninit VO y_tuple, PySem.W.mg_of X G g_O, bd_ninit⟩
  have GG := ok_great (P := l.prog) (w := w) (base := base) F_great ⟨VT, PySem.W.mg_of X G a_check, F_check.kp, bd_check, CK, htinit, hraise, htotal, hprices, hdrop, hcosts, hreached, hgrowth, hrinit, heinit, hninit⟩ y_len
  have hpen : Cl l.prog w K mg base "_law_pen" ["_law_script"] 1 (spPen K) f_pen d_pen := ⟨ok_pen F_pen y_int y_list, PySem.W.mg_of X G a_pen, F_pen.kp, bd_pen⟩
  have hdraw : Cl l.prog w K mg base "_law_draw" psDraw 1 spDraw f_draw d_draw := ⟨ok_draw F_draw y_int y_len, PySem.W.mg_of X G a_draw, F_draw.kp, bd_draw⟩
  have hpick : Cl l.prog w K mg base "_law_pick" psPick 2 spPick f_pick d_pick := ⟨ok_pick F_pick y_len hdraw, PySem.W.mg_of X G a_pick, F_pick.kp, bd_pick⟩
  have hbig : Cl l.prog w K mg base "_law_big" psBig 3 spBig f_big d_big := ⟨ok_big F_big y_range y_int y_str hdraw hpick, PySem.W.mg_of X G a_big, F_big.kp, bd_big⟩
  have hgcd : Cl l.prog w K mg base "_law_gcd" psGcd 1 spGcd f_gcd d_gcd := ⟨ok_gcd F_gcd y_abs y_range y_int, PySem.W.mg_of X G a_gcd, F_gcd.kp, bd_gcd⟩
  have hq : Cl l.prog w K mg base "_law_q" psQ 2 spQ f_q d_q := ⟨ok_q F_q hgcd, PySem.W.mg_of X G a_q, F_q.kp, bd_q⟩
  have hminus : Cl l.prog w K mg base "_law_minus" psOT 3 (spTwo minF fun _ => True) f_minus d_minus := ⟨ok_minus F_minus hq, PySem.W.mg_of X G a_minus, F_minus.kp, bd_minus⟩
  have htimes : Cl l.prog w K mg base "_law_times" psOT 3 (spTwo timF fun _ => True) f_times d_times := ⟨ok_times F_times hq, PySem.W.mg_of X G a_times, F_times.kp, bd_times⟩
  have hover : Cl l.prog w K mg base "_law_over" psOT 3 (spTwo ovF fun y => 0 < y.1) f_over d_over := ⟨ok_over F_over hq, PySem.W.mg_of X G a_over, F_over.kp, bd_over⟩
  have hless : Cl l.prog w K mg base "_law_less" psOT 1 spLess f_less d_less := ⟨ok_less F_less, PySem.W.mg_of X G a_less, F_less.kp, bd_less⟩
  have hratio : Cl l.prog w K mg base "_law_ratio" psBig 4 spLRatio f_ratio d_ratio := ⟨ok_lratio F_ratio hdraw hpick hbig hq, PySem.W.mg_of X G a_ratio, F_ratio.kp, bd_ratio⟩
  have habove : Cl l.prog w K mg base "_law_above" ["_law_pen_here"] 4 spAbove f_above d_above := ⟨ok_above F_above hdraw hpick hbig hq, PySem.W.mg_of X G a_above, F_above.kp, bd_above⟩
  have hbest : Cl l.prog w K mg base "_law_best" psBest 4 spBest f_best d_best := ⟨ok_best F_best y_zip hover hless htimes, PySem.W.mg_of X G a_best, F_best.kp, bd_best⟩
  have KI : Kin K mg CF CN := ⟨PySem.W.mg_of X G g_F, y_isinstance, y_repr, k_nF, ⟨xN1, xN2, xN3, xN4, xN5, sp, tk, xN6⟩, xfB_ok k_xfN, nN_what, nN_number, k_mNN⟩
  have RF := ok_refused (P := l.prog) (w := w) (base := base) F_refused KI EN GG (PySem.W.mg_of X G a_great) F_great.kp bd_great
  exact ok_law F_law ⟨hpen, hdraw, hpick, habove, hratio, hminus, hbest, GG, PySem.W.mg_of X G a_great, F_great.kp, bd_great, RF, PySem.W.mg_of X G a_refused, F_refused.kp, bd_refused, hrinit, heinit, hninit, VR, VE, VO, fun hx => .base (.ins hx VR.cl k_r11 sp tk k_r12), fun hx => .base (.ins hx VE.cl k_e10 sp tk k_e11), fun hx => .base (.ins hx VO.cl k_o9 sp tk k_o10), k_r13, k_e12, k_o11, y_range, y_isinstance, y_repr⟩
end Fk

set_option Elab.async false
set_option maxRecDepth 100000
open PySem PySem.W PyProof.Rows
set_option maxRecDepth 100000 in
set_option maxHeartbeats 0 in
theorem PySem.Challenge.cw_everyfoe_k05_linear_kinds_holds : PySem.Challenge.rw_everyfoe_k05_linear_kinds.Holds := by
  w_on; o_law; k_head; (case hw => w_witness2)
  k_fill
  refine Fk.walkG (l := PySem.Challenge.rw_everyfoe_k05_linear_kinds) (n := 63) (k := 7) (x := "_law_script") (sp := fun w => Fk.spLaw _) rfl (by decide) rfl ⟨rfl, by decide, by decide⟩ (fun w h Y => PySem.W.kIn_of Y) ?F (fun w H a ns hl hO hS => ⟨a, ns, rfl, hS, hl, fun _ => rfl⟩)
  case F =>
    intro w mg fa h KX G hmg
    refine' Fk.all_mk KX G hmg ?a_isint ?F_isint ?a_israt ?F_israt ?a_lowest ?F_lowest ?a_asr ?F_asr ?a_shared ?F_shared ?a_check ?F_check ?a_pivoted ?F_pivoted ?a_great ?F_great ?a_pen ?F_pen ?a_draw ?F_draw ?a_pick ?F_pick ?a_big ?F_big ?a_gcd ?F_gcd ?a_q ?F_q ?a_minus ?F_minus ?a_times ?F_times ?a_over ?F_over ?a_less ?F_less ?a_ratio ?F_ratio ?a_above ?F_above ?a_best ?F_best ?a_refused ?F_refused ?a_law ?g_gcd ?g_F ?g_N ?i_N ?t_N ?IN ?nN_what ?nN_number ?z_int ?z_list ?z_len ?z_range ?z_str ?z_isinstance ?z_tuple ?z_bool ?z_abs ?z_repr ?z_zip ?sp ?tk ?g_T ?g_R ?g_E ?g_O ?m_tinit ?F_tinit ?m_costs ?F_costs ?m_pivot ?F_pivot ?m_gain ?F_gain ?m_enter ?F_enter ?m_leave ?F_leave ?m_before ?F_before ?m_raise ?F_raise ?m_drop ?F_drop ?m_total ?F_total ?m_reached ?F_reached ?m_growth ?F_growth ?m_prices ?F_prices ?m_rinit ?F_rinit ?m_einit ?F_einit ?m_ninit ?F_ninit ?kb ?l_law ?c_law ?k_law
    (case a_isint => k_is)
    (case F_isint => refine' L2.fun_mk ?l ?c ?k; (case l => k_is); (case c => k_is); (case k => k_is))
    (case a_israt => k_is)
    (case F_israt => refine' L2.fun_mk ?l ?c ?k; (case l => k_is); (case c => k_is); (case k => k_is))
    (case a_lowest => k_is)
    (case F_lowest => refine' L2.fun_mk ?l ?c ?k; (case l => k_is); (case c => k_is); (case k => k_is))
    (case a_asr => k_is)
    (case F_asr => refine' L2.fun_mk ?l ?c ?k; (case l => k_is); (case c => k_is); (case k => k_is))
    (case a_shared => k_is)
    (case F_shared => refine' L2.fun_mk ?l ?c ?k; (case l => k_is); (case c => k_is); (case k => k_is))
    (case a_check => k_is)
    (case F_check => refine' L2.fun_mk ?l ?c ?k; (case l => k_is); (case c => k_is); (case k => k_is))
    (case a_pivoted => k_is)
    (case F_pivoted => refine' L2.fun_mk ?l ?c ?k; (case l => k_is); (case c => k_is); (case k => k_is))
    (case a_great => k_is)
    (case F_great => refine' L2.fun_mk ?l ?c ?k; (case l => k_is); (case c => k_is); (case k => k_is))
    (case a_pen => k_is)
    (case F_pen => refine' L2.fun_mk ?l ?c ?k; (case l => k_is); (case c => k_is); (case k => k_is))
    (case a_draw => k_is)
    (case F_draw => refine' L2.fun_mk ?l ?c ?k; (case l => k_is); (case c => k_is); (case k => k_is))
    (case a_pick => k_is)
    (case F_pick => refine' L2.fun_mk ?l ?c ?k; (case l => k_is); (case c => k_is); (case k => k_is))
    (case a_big => k_is)
    (case F_big => refine' L2.fun_mk ?l ?c ?k; (case l => k_is); (case c => k_is); (case k => k_is))
    (case a_gcd => k_is)
    (case F_gcd => refine' L2.fun_mk ?l ?c ?k; (case l => k_is); (case c => k_is); (case k => k_is))
    (case a_q => k_is)
    (case F_q => refine' L2.fun_mk ?l ?c ?k; (case l => k_is); (case c => k_is); (case k => k_is))
    (case a_minus => k_is)
    (case F_minus => refine' L2.fun_mk ?l ?c ?k; (case l => k_is); (case c => k_is); (case k => k_is))
    (case a_times => k_is)
    (case F_times => refine' L2.fun_mk ?l ?c ?k; (case l => k_is); (case c => k_is); (case k => k_is))
    (case a_over => k_is)
    (case F_over => refine' L2.fun_mk ?l ?c ?k; (case l => k_is); (case c => k_is); (case k => k_is))
    (case a_less => k_is)
    (case F_less => refine' L2.fun_mk ?l ?c ?k; (case l => k_is); (case c => k_is); (case k => k_is))
    (case a_ratio => k_is)
    (case F_ratio => refine' L2.fun_mk ?l ?c ?k; (case l => k_is); (case c => k_is); (case k => k_is))
    (case a_above => k_is)
    (case F_above => refine' L2.fun_mk ?l ?c ?k; (case l => k_is); (case c => k_is); (case k => k_is))
    (case a_best => k_is)
    (case F_best => refine' L2.fun_mk ?l ?c ?k; (case l => k_is); (case c => k_is); (case k => k_is))
    (case a_refused => k_is)
    (case F_refused => refine' L2.fun_mk ?l ?c ?k; (case l => k_is); (case c => k_is); (case k => k_is))
    (case a_law => k_is)
    (case g_gcd => k_is)
    (case g_F => k_is)
    (case g_N => k_is)
    (case i_N => k_is)
    (case t_N => k_is)
    (case IN => refine' L2.fun_mk ?l ?c ?k; (case l => k_is); (case c => k_is); (case k => k_is))
    (case nN_what => k_is)
    (case nN_number => k_is)
    (case z_int => k_is)
    (case z_list => k_is)
    (case z_len => k_is)
    (case z_range => k_is)
    (case z_str => k_is)
    (case z_isinstance => k_is)
    (case z_tuple => k_is)
    (case z_bool => k_is)
    (case z_abs => k_is)
    (case z_repr => k_is)
    (case z_zip => k_is)
    (case sp => k_is)
    (case tk => k_is)
    (case g_T => k_is)
    (case g_R => k_is)
    (case g_E => k_is)
    (case g_O => k_is)
    (case m_tinit => k_is)
    (case F_tinit => refine' L2.fun_mk ?l ?c ?k; (case l => k_is); (case c => k_is); (case k => k_is))
    (case m_costs => k_is)
    (case F_costs => refine' L2.fun_mk ?l ?c ?k; (case l => k_is); (case c => k_is); (case k => k_is))
    (case m_pivot => k_is)
    (case F_pivot => refine' L2.fun_mk ?l ?c ?k; (case l => k_is); (case c => k_is); (case k => k_is))
    (case m_gain => k_is)
    (case F_gain => refine' L2.fun_mk ?l ?c ?k; (case l => k_is); (case c => k_is); (case k => k_is))
    (case m_enter => k_is)
    (case F_enter => refine' L2.fun_mk ?l ?c ?k; (case l => k_is); (case c => k_is); (case k => k_is))
    (case m_leave => k_is)
    (case F_leave => refine' L2.fun_mk ?l ?c ?k; (case l => k_is); (case c => k_is); (case k => k_is))
    (case m_before => k_is)
    (case F_before => refine' L2.fun_mk ?l ?c ?k; (case l => k_is); (case c => k_is); (case k => k_is))
    (case m_raise => k_is)
    (case F_raise => refine' L2.fun_mk ?l ?c ?k; (case l => k_is); (case c => k_is); (case k => k_is))
    (case m_drop => k_is)
    (case F_drop => refine' L2.fun_mk ?l ?c ?k; (case l => k_is); (case c => k_is); (case k => k_is))
    (case m_total => k_is)
    (case F_total => refine' L2.fun_mk ?l ?c ?k; (case l => k_is); (case c => k_is); (case k => k_is))
    (case m_reached => k_is)
    (case F_reached => refine' L2.fun_mk ?l ?c ?k; (case l => k_is); (case c => k_is); (case k => k_is))
    (case m_growth => k_is)
    (case F_growth => refine' L2.fun_mk ?l ?c ?k; (case l => k_is); (case c => k_is); (case k => k_is))
    (case m_prices => k_is)
    (case F_prices => refine' L2.fun_mk ?l ?c ?k; (case l => k_is); (case c => k_is); (case k => k_is))
    (case m_rinit => k_is)
    (case F_rinit => refine' L2.fun_mk ?l ?c ?k; (case l => k_is); (case c => k_is); (case k => k_is))
    (case m_einit => k_is)
    (case F_einit => refine' L2.fun_mk ?l ?c ?k; (case l => k_is); (case c => k_is); (case k => k_is))
    (case m_ninit => k_is)
    (case F_ninit => refine' L2.fun_mk ?l ?c ?k; (case l => k_is); (case c => k_is); (case k => k_is))
    (case kb => kernel_rfl)
    (case l_law => k_is)
    (case c_law => k_is)
    (case k_law => k_is)
